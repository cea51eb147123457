/- How many zones a geometry has; a boxed geometry. -/
import Derived.Test.YtpmhfalhieinjaaGeoGood
namespace Go.Proofs.Ytpmhfalhieinjaa
open Go.RowKit

def gzV (D Z B O A : Int) : Int := if goodB D Z B O A = true then Z - 3 else 0
theorem gz_any (D Z B O A : Int) (w : World) :
    Calls Try.prog 29 #[.agg #[.int .i64 D, .int .i64 Z, .int .i64 B, .int .i64 O, .int .i64 A]] w fun e w' => e = .returned (.int .i64 (gzV D Z B O A)) ∧ Below w.heap.size w w' := by
  have c1 := fun W => good_any D Z B O A W
  unfold gzV
  by_cases h : goodB D Z B O A = true
  · rw [if_pos h]
    rw [h] at c1
    obtain ⟨g1, g2, g3, g4, _⟩ := goodB_iff.1 h
    have c1H := Lib.hid c1
    clear c1 h
    go_enter Try.func29, Try.ntmps29
    go_wp2_with fail
    refine (c1H.out _).mono ?_
    rintro e w1 ⟨rfl, hb1⟩
    obtain ⟨hc1, hf1⟩ := bcell hb1
    go_wp2
    go_ret
    exact ⟨ret_int (by omega), (((Below.refl _ _).alloc (Nat.le_refl _) _).trans (hb1.mono (by simp)))⟩
  · rw [if_neg h]
    rw [Bool.not_eq_true] at h
    rw [h] at c1
    have c1H := Lib.hid c1
    clear c1 h
    go_enter Try.func29, Try.ntmps29
    go_wp2_with fail
    refine (c1H.out _).mono ?_
    rintro e w1 ⟨rfl, hb1⟩
    obtain ⟨hc1, hf1⟩ := bcell hb1
    go_wp2
    go_ret
    exact ⟨rfl, (((Below.refl _ _).alloc (Nat.le_refl _) _).trans (hb1.mono (by simp)))⟩

/-- A boxed geometry. -/
def GzAt (W : World) (b : Nat) (D Z B O A : Int) : Prop := W.cell? ⟨b, 0, none⟩ = some (.int .i64 D) ∧ W.cell? ⟨b, 1, none⟩ = some (.int .i64 Z) ∧ W.cell? ⟨b, 2, none⟩ = some (.int .i64 B) ∧ W.cell? ⟨b, 3, none⟩ = some (.int .i64 O) ∧ W.cell? ⟨b, 4, none⟩ = some (.int .i64 A) ∧ b < W.heap.size
theorem GzAt.below {W W' : World} {b : Nat} {D Z B O A : Int} (h : GzAt W b D Z B O A) (hb : Below W.heap.size W W') : GzAt W' b D Z B O A := by
  obtain ⟨h0, h1, h2, h3, h4, hlt⟩ := h
  have hc := (bcell hb).1
  exact ⟨(hc _ _ hlt).trans h0, (hc _ _ hlt).trans h1, (hc _ _ hlt).trans h2, (hc _ _ hlt).trans h3, (hc _ _ hlt).trans h4, Nat.lt_of_lt_of_le hlt hb.size⟩
theorem GzAt.new (W : World) (D Z B O A : Int) (t : TypeId) : GzAt (W.alloc (.cells #[.int .i64 D, .int .i64 Z, .int .i64 B, .int .i64 O, .int .i64 A] t)) W.heap.size D Z B O A := by
  refine ⟨?_, ?_, ?_, ?_, ?_, by simp⟩ <;> go_simp

end Go.Proofs.Ytpmhfalhieinjaa
