/- What geom answers. -/
import Derived.Test.YtbgkmppngnedlaaOBase
import Derived.Deep.RegionHeld3
namespace Go.Proofs.Ytbgkmppngnedlaa
open Go.RowKit
/-- The words of the document on a geometry, over plain numbers. -/
def betB (n a b : Int) : Bool := decide (a ≤ n ∧ n ≤ b)
def GoodP (D Z B O A : Int) : Prop := 3 ≤ D ∧ D ≤ 16 ∧ 5 ≤ Z ∧ Z ≤ 64 ∧ 4 ≤ B ∧ B ≤ 256 ∧ 1 ≤ O ∧ O ≤ A ∧ A ≤ Z
instance (D Z B O A : Int) : Decidable (GoodP D Z B O A) := by unfold GoodP; infer_instance
def goodB (D Z B O A : Int) : Bool := decide (GoodP D Z B O A)
theorem ret_int {k : IntKind} {a b : Int} (h : a = b) : Ending.returned (.int k a) = .returned (.int k b) := by rw [h]
theorem betB_iff {n a b : Int} : betB n a b = true ↔ a ≤ n ∧ n ≤ b := decide_eq_true_iff
theorem goodB_iff {D Z B O A : Int} : goodB D Z B O A = true ↔ GoodP D Z B O A := decide_eq_true_iff
theorem between_any (n a b : Int) (w : World) :
    Calls Try.prog 71 #[.int .i64 n, .int .i64 a, .int .i64 b] w fun e w' => e = .returned (.bool (betB n a b)) ∧ w = w' := by
  by_cases h1 : a ≤ n
  · by_cases h2 : n ≤ b
    · have e : betB n a b = true := decide_eq_true ⟨h1, h2⟩
      rw [e]; clear e
      go_enter Try.func71, Try.ntmps71
      go_wp2
      go_ret
      exact ⟨rfl, rfl⟩
    · have e : betB n a b = false := decide_eq_false (fun h => h2 h.2)
      rw [e]; clear e
      go_enter Try.func71, Try.ntmps71
      go_wp2
      go_ret
      exact ⟨rfl, rfl⟩
  · have e : betB n a b = false := decide_eq_false (fun h => h1 h.1)
    rw [e]; clear e
    go_enter Try.func71, Try.ntmps71
    go_wp2
    go_ret
    exact ⟨rfl, rfl⟩
set_option maxHeartbeats 1000000 in
theorem good_any (D Z B O A : Int) (w : World) :
    Calls Try.prog 61 #[.agg #[.int .i64 D, .int .i64 Z, .int .i64 B, .int .i64 O, .int .i64 A]] w fun e w' => e = .returned (.bool (goodB D Z B O A)) ∧ Below w.heap.size w w' := by
  have hx : goodB D Z B O A = (betB D 3 16 && betB Z 5 64 && betB B 4 256 && betB O 1 A && decide (A ≤ Z)) := by
    rw [Bool.eq_iff_iff, goodB_iff]
    simp only [decide_eq_true_eq, Bool.and_eq_true, betB_iff]
    exact ⟨fun ⟨a1, a2, a3, a4, a5, a6, a7, a8, a9⟩ => ⟨⟨⟨⟨⟨a1, a2⟩, ⟨a3, a4⟩⟩, ⟨a5, a6⟩⟩, ⟨a7, a8⟩⟩, a9⟩, fun ⟨⟨⟨⟨⟨a1, a2⟩, ⟨a3, a4⟩⟩, ⟨a5, a6⟩⟩, ⟨a7, a8⟩⟩, a9⟩ => ⟨a1, a2, a3, a4, a5, a6, a7, a8, a9⟩⟩
  rw [hx]
  clear hx
  have c1 := Lib.hid (fun W => between_any D 3 16 W)
  have c2 := Lib.hid (fun W => between_any Z 5 64 W)
  have c3 := Lib.hid (fun W => between_any B 4 256 W)
  have c4 := Lib.hid (fun W => between_any O 1 A W)
  generalize betB D 3 16 = b1 at c1 ⊢
  generalize betB Z 5 64 = b2 at c2 ⊢
  generalize betB B 4 256 = b3 at c3 ⊢
  generalize betB O 1 A = b4 at c4 ⊢
  obtain ⟨b5, h5⟩ : ∃ b, decide (A ≤ Z) = b := ⟨_, rfl⟩
  rw [h5]
  cases b1 with
  | false =>
    clear h5
    go_enter Try.func61, Try.ntmps61
    go_wp2_with (go_at_call 71; refine (c1.out _).mono ?_; rintro e w' ⟨rfl, rfl⟩)
    go_ret
    exact ⟨rfl, (Below.refl _ _).alloc (Nat.le_refl _) _⟩
  | true =>
  cases b2 with
  | false =>
    clear h5
    go_enter Try.func61, Try.ntmps61
    go_wp2_with (first | (go_at_call 71; ((with_reducible refine (c1.out _).mono ?_); rintro e w' ⟨rfl, rfl⟩)) | (go_at_call 71; ((with_reducible refine (c2.out _).mono ?_); rintro e w' ⟨rfl, rfl⟩)))
    go_ret
    exact ⟨rfl, (Below.refl _ _).alloc (Nat.le_refl _) _⟩
  | true =>
  cases b3 with
  | false =>
    clear h5
    go_enter Try.func61, Try.ntmps61
    go_wp2_with (first | (go_at_call 71; ((with_reducible refine (c1.out _).mono ?_); rintro e w' ⟨rfl, rfl⟩)) | (go_at_call 71; ((with_reducible refine (c2.out _).mono ?_); rintro e w' ⟨rfl, rfl⟩)) | (go_at_call 71; ((with_reducible refine (c3.out _).mono ?_); rintro e w' ⟨rfl, rfl⟩)))
    go_ret
    exact ⟨rfl, (Below.refl _ _).alloc (Nat.le_refl _) _⟩
  | true =>
  cases b4 with
  | false =>
    clear h5
    go_enter Try.func61, Try.ntmps61
    go_wp2_with (first | (go_at_call 71; ((with_reducible refine (c1.out _).mono ?_); rintro e w' ⟨rfl, rfl⟩)) | (go_at_call 71; ((with_reducible refine (c2.out _).mono ?_); rintro e w' ⟨rfl, rfl⟩)) | (go_at_call 71; ((with_reducible refine (c3.out _).mono ?_); rintro e w' ⟨rfl, rfl⟩)) | (go_at_call 71; ((with_reducible refine (c4.out _).mono ?_); rintro e w' ⟨rfl, rfl⟩)))
    go_ret
    exact ⟨rfl, (Below.refl _ _).alloc (Nat.le_refl _) _⟩
  | true =>
    go_enter Try.func61, Try.ntmps61
    go_wp2_with (first | (go_at_call 71; ((with_reducible refine (c1.out _).mono ?_); rintro e w' ⟨rfl, rfl⟩)) | (go_at_call 71; ((with_reducible refine (c2.out _).mono ?_); rintro e w' ⟨rfl, rfl⟩)) | (go_at_call 71; ((with_reducible refine (c3.out _).mono ?_); rintro e w' ⟨rfl, rfl⟩)) | (go_at_call 71; ((with_reducible refine (c4.out _).mono ?_); rintro e w' ⟨rfl, rfl⟩)))
    go_ret
    exact ⟨rfl, (Below.refl _ _).alloc (Nat.le_refl _) _⟩
theorem perRow_any (D Z B O A : Int) (w : World) (h : 3 ≤ D ∧ D ≤ 16) :
    Calls Try.prog 72 #[.agg #[.int .i64 D, .int .i64 Z, .int .i64 B, .int .i64 O, .int .i64 A]] w fun e w' => e = .returned (.int .i64 (D - 1)) ∧ Below w.heap.size w w' := by
  obtain ⟨h1, h2⟩ := h
  go_enter Try.func72, Try.ntmps72
  go_wp2
  go_ret
  exact ⟨rfl, (Below.refl _ _).alloc (Nat.le_refl _) _⟩
/-- How many zones, how many blocks of each. -/
def zonesV (D Z B O A : Int) : Int := if goodB D Z B O A = true then Z - 3 else 0
def capV (D Z B O A : Int) : Int := if goodB D Z B O A = true then (D - 1) * B else 0
theorem zonesV_bd (D Z B O A : Int) : 0 ≤ zonesV D Z B O A ∧ zonesV D Z B O A ≤ 61 := by
  unfold zonesV
  split
  · rename_i h; obtain ⟨_, _, _, _, _⟩ := goodB_iff.1 h; omega
  · omega
theorem mul_bd {a b m n : Int} (ha : 0 ≤ a) (hm : a ≤ m) (hb : 0 ≤ b) (hn : b ≤ n) : 0 ≤ a * b ∧ a * b ≤ m * n :=
  ⟨Int.mul_nonneg ha hb, Int.mul_le_mul hm hn hb (by omega)⟩
theorem capV_bd (D Z B O A : Int) : 0 ≤ capV D Z B O A ∧ capV D Z B O A ≤ 3840 := by
  unfold capV
  split
  · rename_i h; obtain ⟨_, _, _, _, _, _, _⟩ := goodB_iff.1 h
    exact mul_bd (m := 15) (n := 256) (by omega) (by omega) (by omega) (by omega)
  · omega
theorem zones_any (D Z B O A : Int) (w : World) :
    Calls Try.prog 37 #[.agg #[.int .i64 D, .int .i64 Z, .int .i64 B, .int .i64 O, .int .i64 A]] w fun e w' => e = .returned (.int .i64 (zonesV D Z B O A)) ∧ Below w.heap.size w w' := by
  have c1 := fun W => good_any D Z B O A W
  unfold zonesV
  by_cases h : goodB D Z B O A = true
  · rw [if_pos h]
    rw [h] at c1
    obtain ⟨g1, g2, g3, g4, _⟩ := goodB_iff.1 h
    have c1H := Lib.hid c1
    clear c1 h
    go_enter Try.func37, Try.ntmps37
    go_wp2_with fail
    refine (c1H.out _).mono ?_
    rintro e w1 ⟨rfl, hb1⟩
    obtain ⟨hc1, hf1⟩ := bcell hb1
    go_wp2
    go_ret
    exact ⟨ret_int (by omega), (((Below.refl _ _).alloc (Nat.le_refl _) _).trans (hb1.mono (by simp)))⟩
  · rw [if_neg h]
    rw [Bool.not_eq_true] at h
    rw [h] at c1
    have c1H := Lib.hid c1
    clear c1 h
    go_enter Try.func37, Try.ntmps37
    go_wp2_with fail
    refine (c1H.out _).mono ?_
    rintro e w1 ⟨rfl, hb1⟩
    obtain ⟨hc1, hf1⟩ := bcell hb1
    go_wp2
    go_ret
    exact ⟨rfl, (((Below.refl _ _).alloc (Nat.le_refl _) _).trans (hb1.mono (by simp)))⟩
/-- A boxed geometry. -/
def GeoAt (W : World) (b : Nat) (D Z B O A : Int) : Prop := W.cell? ⟨b, 0, none⟩ = some (.int .i64 D) ∧ W.cell? ⟨b, 1, none⟩ = some (.int .i64 Z) ∧ W.cell? ⟨b, 2, none⟩ = some (.int .i64 B) ∧ W.cell? ⟨b, 3, none⟩ = some (.int .i64 O) ∧ W.cell? ⟨b, 4, none⟩ = some (.int .i64 A) ∧ b < W.heap.size
theorem GeoAt.below {W W' : World} {b : Nat} {D Z B O A : Int} (h : GeoAt W b D Z B O A) (hb : Below W.heap.size W W') : GeoAt W' b D Z B O A := by
  obtain ⟨h0, h1, h2, h3, h4, hlt⟩ := h
  have hc := (bcell hb).1
  exact ⟨(hc _ _ hlt).trans h0, (hc _ _ hlt).trans h1, (hc _ _ hlt).trans h2, (hc _ _ hlt).trans h3, (hc _ _ hlt).trans h4, Nat.lt_of_lt_of_le hlt hb.size⟩
theorem GeoAt.new (W : World) (D Z B O A : Int) (t : TypeId) : GeoAt (W.alloc (.cells #[.int .i64 D, .int .i64 Z, .int .i64 B, .int .i64 O, .int .i64 A] t)) W.heap.size D Z B O A := by
  refine ⟨?_, ?_, ?_, ?_, ?_, by simp⟩ <;> go_simp
theorem wrap_small {x : Int} (h : -9223372036854775808 ≤ x ∧ x ≤ 9223372036854775807) : IntKind.i64.wrap x = x := by
  rw [IntKind.wrap_i64]; omega
set_option maxHeartbeats 1000000 in
theorem cap_any (D Z B O A : Int) (w : World) :
    Calls Try.prog 56 #[.agg #[.int .i64 D, .int .i64 Z, .int .i64 B, .int .i64 O, .int .i64 A]] w fun e w' => e = .returned (.int .i64 (capV D Z B O A)) ∧ Below w.heap.size w w' := by
  have c1 := fun W => good_any D Z B O A W
  unfold capV
  by_cases h : goodB D Z B O A = true
  · rw [if_pos h]
    rw [h] at c1
    obtain ⟨g1, g2, g3, g4, g5, g6, _⟩ := goodB_iff.1 h
    have hbd := mul_bd (a := D - 1) (b := B) (m := 15) (n := 256) (by omega) (by omega) (by omega) (by omega)
    have hw := wrap_small (x := (D - 1) * B) (by omega)
    have c1H := Lib.hid c1
    have c2H := Lib.hid (fun W => perRow_any D Z B O A W ⟨g1, g2⟩)
    clear c1 h hbd g3 g4 g5 g6
    have hN := GeoAt.new w D Z B O A 48
    have hB0 : Below w.heap.size w (w.alloc (.cells #[.int .i64 D, .int .i64 Z, .int .i64 B, .int .i64 O, .int .i64 A] 48)) := (Below.refl _ _).alloc (Nat.le_refl _) _
    have hNH := Lib.hid hN
    have hBH := Lib.hid hB0
    clear hN hB0
    go_enter Try.func56, Try.ntmps56
    go_wp2_with fail
    refine (c1H.out _).mono ?_
    rintro e w1 ⟨rfl, hb1⟩
    have hG := hNH.out.below hb1
    have hB := bmore hBH.out hb1
    clear hNH hBH hb1
    have hk : ∀ W, Below w1.heap.size w1 W → (W.cell? ⟨w.heap.size, 0, none⟩ = some (.int .i64 D) ∧ W.cell? ⟨w.heap.size, 1, none⟩ = some (.int .i64 Z) ∧ W.cell? ⟨w.heap.size, 2, none⟩ = some (.int .i64 B) ∧ W.cell? ⟨w.heap.size, 3, none⟩ = some (.int .i64 O) ∧ W.cell? ⟨w.heap.size, 4, none⟩ = some (.int .i64 A)) := fun W hb => by
      obtain ⟨h0, h1, h2, h3, h4, _⟩ := hG.below hb
      exact ⟨h0, h1, h2, h3, h4⟩
    have hkH := Lib.hid hk
    have hwH := Lib.hid hw
    have hBH := Lib.hid hB
    clear hk hG hw hB
    go_wp2_with fail
    go_region_held3 (fun W => W.cell? ⟨w.heap.size, 0, none⟩ = some (.int .i64 D) ∧ W.cell? ⟨w.heap.size, 1, none⟩ = some (.int .i64 Z) ∧ W.cell? ⟨w.heap.size, 2, none⟩ = some (.int .i64 B) ∧ W.cell? ⟨w.heap.size, 3, none⟩ = some (.int .i64 O) ∧ W.cell? ⟨w.heap.size, 4, none⟩ = some (.int .i64 A))
      (first | exact hkH.out _ (Below.refl _ _).drew | exact hkH.out _ hb2')
      (first | (go_at_call 72; refine (c2H.out _).mono ?_; rintro e' w2 ⟨rfl, hb2⟩; have hb2' := ((Below.refl w1.heap.size w1).drew).trans (hb2.mono (by simp))))
    have hw := hwH.out
    have hBB := bmore hBH.out hb2'
    go_wp2
    go_ret
    exact ⟨ret_int hw, hBB⟩
  · rw [if_neg h]
    rw [Bool.not_eq_true] at h
    rw [h] at c1
    have c1H := Lib.hid c1
    clear c1 h
    go_enter Try.func56, Try.ntmps56
    go_wp2_with fail
    refine (c1H.out _).mono ?_
    rintro e w1 ⟨rfl, hb1⟩
    go_wp2
    go_ret
    exact ⟨rfl, (((Below.refl _ _).alloc (Nat.le_refl _) _).trans (hb1.mono (by simp)))⟩
end Go.Proofs.Ytbgkmppngnedlaa
namespace Go.Proofs.Ytbgkmppngnedlaa
open Go.RowKit
set_option maxHeartbeats 1000000 in
theorem gref_any (D Z B O A : Int) (w : World) :
    Calls Try.prog 36 #[.agg #[.int .i64 D, .int .i64 Z, .int .i64 B, .int .i64 O, .int .i64 A]] w fun e w' => e = .returned (.bool (goodB D Z B O A)) ∧ Below w.heap.size w w' := by
  by_cases h0 : D < 3
  · have e : goodB D Z B O A = false := decide_eq_false (by unfold GoodP; omega)
    rw [e]; clear e
    go_enter Try.func36, Try.ntmps36
    go_wp2
    go_ret
    exact ⟨rfl, (Below.refl _ _).alloc (Nat.le_refl _) _⟩
  by_cases h1 : 16 < D
  · have e : goodB D Z B O A = false := decide_eq_false (by unfold GoodP; omega)
    rw [e]; clear e
    go_enter Try.func36, Try.ntmps36
    go_wp2
    go_ret
    exact ⟨rfl, (Below.refl _ _).alloc (Nat.le_refl _) _⟩
  by_cases h2 : Z < 5
  · have e : goodB D Z B O A = false := decide_eq_false (by unfold GoodP; omega)
    rw [e]; clear e
    go_enter Try.func36, Try.ntmps36
    go_wp2
    go_ret
    exact ⟨rfl, (Below.refl _ _).alloc (Nat.le_refl _) _⟩
  by_cases h3 : 64 < Z
  · have e : goodB D Z B O A = false := decide_eq_false (by unfold GoodP; omega)
    rw [e]; clear e
    go_enter Try.func36, Try.ntmps36
    go_wp2
    go_ret
    exact ⟨rfl, (Below.refl _ _).alloc (Nat.le_refl _) _⟩
  by_cases h4 : B < 4
  · have e : goodB D Z B O A = false := decide_eq_false (by unfold GoodP; omega)
    rw [e]; clear e
    go_enter Try.func36, Try.ntmps36
    go_wp2
    go_ret
    exact ⟨rfl, (Below.refl _ _).alloc (Nat.le_refl _) _⟩
  by_cases h5 : 256 < B
  · have e : goodB D Z B O A = false := decide_eq_false (by unfold GoodP; omega)
    rw [e]; clear e
    go_enter Try.func36, Try.ntmps36
    go_wp2
    go_ret
    exact ⟨rfl, (Below.refl _ _).alloc (Nat.le_refl _) _⟩
  by_cases h6 : O < 1
  · have e : goodB D Z B O A = false := decide_eq_false (by unfold GoodP; omega)
    rw [e]; clear e
    go_enter Try.func36, Try.ntmps36
    go_wp2
    go_ret
    exact ⟨rfl, (Below.refl _ _).alloc (Nat.le_refl _) _⟩
  by_cases h7 : A < O
  · have e : goodB D Z B O A = false := decide_eq_false (by unfold GoodP; omega)
    rw [e]; clear e
    go_enter Try.func36, Try.ntmps36
    go_wp2
    go_ret
    exact ⟨rfl, (Below.refl _ _).alloc (Nat.le_refl _) _⟩
  by_cases h8 : Z < A
  · have e : goodB D Z B O A = false := decide_eq_false (by unfold GoodP; omega)
    rw [e]; clear e
    have k9 : decide (A ≤ Z) = false := decide_eq_false (by omega)
    go_enter Try.func36, Try.ntmps36
    go_wp2
    go_ret
    exact ⟨rfl, (Below.refl _ _).alloc (Nat.le_refl _) _⟩
  have e : goodB D Z B O A = true := decide_eq_true (by unfold GoodP; omega)
  rw [e]; clear e
  go_enter Try.func36, Try.ntmps36
  go_wp2
  go_ret
  exact ⟨rfl, (Below.refl _ _).alloc (Nat.le_refl _) _⟩
end Go.Proofs.Ytbgkmppngnedlaa
