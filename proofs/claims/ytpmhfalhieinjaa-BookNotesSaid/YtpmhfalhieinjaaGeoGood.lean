/- What geom.Good does (of XGeoWalks, for the rig). -/
import Derived.Test.YtpmhfalhieinjaaBytes
import Derived.Lib.Hide
import Derived.Deep.RegionHeld3
namespace Go.Proofs.Ytpmhfalhieinjaa
open Go.RowKit

/-- The words of the document on a geometry, over plain numbers. -/
def betB (n a b : Int) : Bool := decide (a ≤ n ∧ n ≤ b)
def GoodP (D Z B O A : Int) : Prop := 3 ≤ D ∧ D ≤ 16 ∧ 5 ≤ Z ∧ Z ≤ 64 ∧ 4 ≤ B ∧ B ≤ 256 ∧ 1 ≤ O ∧ O ≤ A ∧ A ≤ Z
instance (D Z B O A : Int) : Decidable (GoodP D Z B O A) := by unfold GoodP; infer_instance
def goodB (D Z B O A : Int) : Bool := decide (GoodP D Z B O A)

theorem ret_int {k : IntKind} {a b : Int} (h : a = b) : Ending.returned (.int k a) = .returned (.int k b) := by rw [h]
theorem betB_iff {n a b : Int} : betB n a b = true ↔ a ≤ n ∧ n ≤ b := decide_eq_true_iff
theorem goodB_iff {D Z B O A : Int} : goodB D Z B O A = true ↔ GoodP D Z B O A := decide_eq_true_iff

theorem between_any (n a b : Int) (w : World) :
    Calls Try.prog 33 #[.int .i64 n, .int .i64 a, .int .i64 b] w fun e w' => e = .returned (.bool (betB n a b)) ∧ w = w' := by
  by_cases h1 : a ≤ n
  · by_cases h2 : n ≤ b
    · have e : betB n a b = true := decide_eq_true ⟨h1, h2⟩
      rw [e]; clear e
      go_enter Try.func33, Try.ntmps33
      go_wp2
      go_ret
      exact ⟨rfl, rfl⟩
    · have e : betB n a b = false := decide_eq_false (fun h => h2 h.2)
      rw [e]; clear e
      go_enter Try.func33, Try.ntmps33
      go_wp2
      go_ret
      exact ⟨rfl, rfl⟩
  · have e : betB n a b = false := decide_eq_false (fun h => h1 h.1)
    rw [e]; clear e
    go_enter Try.func33, Try.ntmps33
    go_wp2
    go_ret
    exact ⟨rfl, rfl⟩

set_option maxHeartbeats 1000000 in
theorem good_any (D Z B O A : Int) (w : World) :
    Calls Try.prog 19 #[.agg #[.int .i64 D, .int .i64 Z, .int .i64 B, .int .i64 O, .int .i64 A]] w fun e w' => e = .returned (.bool (goodB D Z B O A)) ∧ Below w.heap.size w w' := by
  have hx : goodB D Z B O A = (betB D 3 16 && betB Z 5 64 && betB B 4 256 && betB O 1 A && decide (A ≤ Z)) := by
    rw [Bool.eq_iff_iff, goodB_iff]
    simp only [decide_eq_true_eq, Bool.and_eq_true, betB_iff]
    exact ⟨fun ⟨a1, a2, a3, a4, a5, a6, a7, a8, a9⟩ => ⟨⟨⟨⟨⟨a1, a2⟩, ⟨a3, a4⟩⟩, ⟨a5, a6⟩⟩, ⟨a7, a8⟩⟩, a9⟩, fun ⟨⟨⟨⟨⟨a1, a2⟩, ⟨a3, a4⟩⟩, ⟨a5, a6⟩⟩, ⟨a7, a8⟩⟩, a9⟩ => ⟨a1, a2, a3, a4, a5, a6, a7, a8, a9⟩⟩
  rw [hx]
  clear hx
  have c1 := Lib.hid (fun W => between_any D 3 16 W)
  have c2 := Lib.hid (fun W => between_any Z 5 64 W)
  have c3 := Lib.hid (fun W => between_any B 4 256 W)
  have c4 := Lib.hid (fun W => between_any O 1 A W)
  generalize betB D 3 16 = b1 at c1 ⊢
  generalize betB Z 5 64 = b2 at c2 ⊢
  generalize betB B 4 256 = b3 at c3 ⊢
  generalize betB O 1 A = b4 at c4 ⊢
  obtain ⟨b5, h5⟩ : ∃ b, decide (A ≤ Z) = b := ⟨_, rfl⟩
  rw [h5]
  cases b1 with
  | false =>
    clear h5
    go_enter Try.func19, Try.ntmps19
    go_wp2_with (go_at_call 33; refine (c1.out _).mono ?_; rintro e w' ⟨rfl, rfl⟩)
    go_ret
    exact ⟨rfl, (Below.refl _ _).alloc (Nat.le_refl _) _⟩
  | true =>
  cases b2 with
  | false =>
    clear h5
    go_enter Try.func19, Try.ntmps19
    go_wp2_with (first | (go_at_call 33; ((with_reducible refine (c1.out _).mono ?_); rintro e w' ⟨rfl, rfl⟩)) | (go_at_call 33; ((with_reducible refine (c2.out _).mono ?_); rintro e w' ⟨rfl, rfl⟩)))
    go_ret
    exact ⟨rfl, (Below.refl _ _).alloc (Nat.le_refl _) _⟩
  | true =>
  cases b3 with
  | false =>
    clear h5
    go_enter Try.func19, Try.ntmps19
    go_wp2_with (first | (go_at_call 33; ((with_reducible refine (c1.out _).mono ?_); rintro e w' ⟨rfl, rfl⟩)) | (go_at_call 33; ((with_reducible refine (c2.out _).mono ?_); rintro e w' ⟨rfl, rfl⟩)) | (go_at_call 33; ((with_reducible refine (c3.out _).mono ?_); rintro e w' ⟨rfl, rfl⟩)))
    go_ret
    exact ⟨rfl, (Below.refl _ _).alloc (Nat.le_refl _) _⟩
  | true =>
  cases b4 with
  | false =>
    clear h5
    go_enter Try.func19, Try.ntmps19
    go_wp2_with (first | (go_at_call 33; ((with_reducible refine (c1.out _).mono ?_); rintro e w' ⟨rfl, rfl⟩)) | (go_at_call 33; ((with_reducible refine (c2.out _).mono ?_); rintro e w' ⟨rfl, rfl⟩)) | (go_at_call 33; ((with_reducible refine (c3.out _).mono ?_); rintro e w' ⟨rfl, rfl⟩)) | (go_at_call 33; ((with_reducible refine (c4.out _).mono ?_); rintro e w' ⟨rfl, rfl⟩)))
    go_ret
    exact ⟨rfl, (Below.refl _ _).alloc (Nat.le_refl _) _⟩
  | true =>
    go_enter Try.func19, Try.ntmps19
    go_wp2_with (first | (go_at_call 33; ((with_reducible refine (c1.out _).mono ?_); rintro e w' ⟨rfl, rfl⟩)) | (go_at_call 33; ((with_reducible refine (c2.out _).mono ?_); rintro e w' ⟨rfl, rfl⟩)) | (go_at_call 33; ((with_reducible refine (c3.out _).mono ?_); rintro e w' ⟨rfl, rfl⟩)) | (go_at_call 33; ((with_reducible refine (c4.out _).mono ?_); rintro e w' ⟨rfl, rfl⟩)))
    go_ret
    exact ⟨rfl, (Below.refl _ _).alloc (Nat.le_refl _) _⟩

end Go.Proofs.Ytpmhfalhieinjaa
