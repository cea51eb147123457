/- What the document's own Good answers of a geometry. -/
import Derived.Test.YtpmhfalhieinjaaGeoGood
namespace Go.Proofs.Ytpmhfalhieinjaa
open Go.RowKit

set_option maxHeartbeats 1000000 in
theorem gref_any (D Z B O A : Int) (w : World) :
    Calls Try.prog 16 #[.agg #[.int .i64 D, .int .i64 Z, .int .i64 B, .int .i64 O, .int .i64 A]] w fun e w' => e = .returned (.bool (goodB D Z B O A)) ∧ Below w.heap.size w w' := by
  by_cases h0 : D < 3
  · have e : goodB D Z B O A = false := decide_eq_false (by unfold GoodP; omega)
    rw [e]; clear e
    go_enter Try.func16, Try.ntmps16
    go_wp2
    go_ret
    exact ⟨rfl, (Below.refl _ _).alloc (Nat.le_refl _) _⟩
  by_cases h1 : 16 < D
  · have e : goodB D Z B O A = false := decide_eq_false (by unfold GoodP; omega)
    rw [e]; clear e
    go_enter Try.func16, Try.ntmps16
    go_wp2
    go_ret
    exact ⟨rfl, (Below.refl _ _).alloc (Nat.le_refl _) _⟩
  by_cases h2 : Z < 5
  · have e : goodB D Z B O A = false := decide_eq_false (by unfold GoodP; omega)
    rw [e]; clear e
    go_enter Try.func16, Try.ntmps16
    go_wp2
    go_ret
    exact ⟨rfl, (Below.refl _ _).alloc (Nat.le_refl _) _⟩
  by_cases h3 : 64 < Z
  · have e : goodB D Z B O A = false := decide_eq_false (by unfold GoodP; omega)
    rw [e]; clear e
    go_enter Try.func16, Try.ntmps16
    go_wp2
    go_ret
    exact ⟨rfl, (Below.refl _ _).alloc (Nat.le_refl _) _⟩
  by_cases h4 : B < 4
  · have e : goodB D Z B O A = false := decide_eq_false (by unfold GoodP; omega)
    rw [e]; clear e
    go_enter Try.func16, Try.ntmps16
    go_wp2
    go_ret
    exact ⟨rfl, (Below.refl _ _).alloc (Nat.le_refl _) _⟩
  by_cases h5 : 256 < B
  · have e : goodB D Z B O A = false := decide_eq_false (by unfold GoodP; omega)
    rw [e]; clear e
    go_enter Try.func16, Try.ntmps16
    go_wp2
    go_ret
    exact ⟨rfl, (Below.refl _ _).alloc (Nat.le_refl _) _⟩
  by_cases h6 : O < 1
  · have e : goodB D Z B O A = false := decide_eq_false (by unfold GoodP; omega)
    rw [e]; clear e
    go_enter Try.func16, Try.ntmps16
    go_wp2
    go_ret
    exact ⟨rfl, (Below.refl _ _).alloc (Nat.le_refl _) _⟩
  by_cases h7 : A < O
  · have e : goodB D Z B O A = false := decide_eq_false (by unfold GoodP; omega)
    rw [e]; clear e
    go_enter Try.func16, Try.ntmps16
    go_wp2
    go_ret
    exact ⟨rfl, (Below.refl _ _).alloc (Nat.le_refl _) _⟩
  by_cases h8 : Z < A
  · have e : goodB D Z B O A = false := decide_eq_false (by unfold GoodP; omega)
    rw [e]; clear e
    have k9 : decide (A ≤ Z) = false := decide_eq_false (by omega)
    go_enter Try.func16, Try.ntmps16
    go_wp2
    go_ret
    exact ⟨rfl, (Below.refl _ _).alloc (Nat.le_refl _) _⟩
  have e : goodB D Z B O A = true := decide_eq_true (by unfold GoodP; omega)
  rw [e]; clear e
  go_enter Try.func16, Try.ntmps16
  go_wp2
  go_ret
  exact ⟨rfl, (Below.refl _ _).alloc (Nat.le_refl _) _⟩
end Go.Proofs.Ytpmhfalhieinjaa
