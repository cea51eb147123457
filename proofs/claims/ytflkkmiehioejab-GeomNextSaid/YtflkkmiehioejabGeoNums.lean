/- What geom.Split, geom.Mul and geom.Add do. -/
import Derived.Test.YtflkkmiehioejabGeoPlace
namespace Go.Proofs.Ytflkkmiehioejab
open Go.RowKit

def splB (D Z B O A n : Int) : Bool := betB n 0 (zonesV D Z B O A * capV D Z B O A - 1)
def splZ (D Z B O A n : Int) : Int := if splB D Z B O A n = true then n / capV D Z B O A else 0
def splN (D Z B O A n : Int) : Int := if splB D Z B O A n = true then n % capV D Z B O A else 0
set_option maxHeartbeats 1000000 in
theorem split_any (D Z B O A n : Int) (w : World) :
    Calls Try.prog 9 #[.agg #[.int .i64 D, .int .i64 Z, .int .i64 B, .int .i64 O, .int .i64 A], .int .i64 n] w fun e w' => e = .returned (.tuple #[.int .i64 (splZ D Z B O A n), .int .i64 (splN D Z B O A n), .bool (splB D Z B O A n)]) ∧ Below w.heap.size w w' := by
  have c1 := fun W => zones_any D Z B O A W
  have c2 := fun W => cap_any D Z B O A W
  have vb := zonesV_bd D Z B O A
  have cb := capV_bd D Z B O A
  unfold splZ splN splB
  generalize zonesV D Z B O A = V at c1 vb ⊢
  generalize capV D Z B O A = C at c2 cb ⊢
  obtain ⟨v1, v2⟩ := vb
  obtain ⟨c3, c4⟩ := cb
  have hm := mul_bd v1 v2 c3 c4
  obtain ⟨m, hm0⟩ : ∃ m, V * C = m := ⟨_, rfl⟩
  rw [hm0] at hm ⊢
  obtain ⟨m1, m2⟩ := hm
  have c5 := fun W => between_any n 0 (m - 1) W
  have e0 : IntKind.i64.wrap (V * C) = m := by rw [hm0]; exact wrap_small (by omega)
  have e1 : IntKind.i64.wrap (m - 1) = m - 1 := wrap_small (by omega)
  have c1H := Lib.hid c1
  have c2H := Lib.hid c2
  have e0H := Lib.hid e0
  have e1H := Lib.hid e1
  have hm0H := Lib.hid hm0
  clear c1 c2 e0 e1 hm0
  by_cases hb : betB n 0 (m - 1) = true
  · rw [if_pos hb, if_pos hb, hb]
    rw [hb] at c5
    obtain ⟨n1, n2⟩ := betB_iff.1 hb
    have c5H := Lib.hid c5
    clear c5 hb
    have hC : 0 < C := by
      rcases (by omega : C = 0 ∨ 0 < C) with h | h
      · subst h; have := hm0H.out; rw [Int.mul_zero] at this; omega
      · exact h
    have q1 := Int.ediv_nonneg n1 (show 0 ≤ C by omega)
    have q2 : n / C ≤ n := Int.ediv_le_self _ n1
    have r1 := Int.emod_nonneg n (show C ≠ 0 by omega)
    have r2 := Int.emod_lt_of_pos n hC
    have f1 : n.tdiv C = n / C := Int.tdiv_eq_ediv_of_nonneg n1
    have f2 : n.tmod C = n % C := Int.tmod_eq_emod_of_nonneg n1
    generalize n / C = q at q1 q2 f1 ⊢
    generalize n % C = r at r1 r2 f2 ⊢
    have f3 : IntKind.i64.wrap q = q := wrap_small (by omega)
    have f4 : IntKind.i64.wrap r = r := wrap_small (by omega)
    have f1H := Lib.hid f1
    have f2H := Lib.hid f2
    have f3H := Lib.hid f3
    have f4H := Lib.hid f4
    clear f1 f2 f3 f4
    have hC0 : ¬ C = 0 := by omega
    have hN := GeoAt.new w D Z B O A 25
    have hB0 : Below w.heap.size w (w.alloc (.cells #[.int .i64 D, .int .i64 Z, .int .i64 B, .int .i64 O, .int .i64 A] 25)) := (Below.refl _ _).alloc (Nat.le_refl _) _
    have hNH := Lib.hid hN
    have hBH := Lib.hid hB0
    clear hN hB0
    go_enter Try.func9, Try.ntmps9
    have hk : ∀ W, Below (w.alloc (.cells #[.int .i64 D, .int .i64 Z, .int .i64 B, .int .i64 O, .int .i64 A] 25)).heap.size (w.alloc (.cells #[.int .i64 D, .int .i64 Z, .int .i64 B, .int .i64 O, .int .i64 A] 25)) W → (W.cell? ⟨w.heap.size, 0, none⟩ = some (.int .i64 D) ∧ W.cell? ⟨w.heap.size, 1, none⟩ = some (.int .i64 Z) ∧ W.cell? ⟨w.heap.size, 2, none⟩ = some (.int .i64 B) ∧ W.cell? ⟨w.heap.size, 3, none⟩ = some (.int .i64 O) ∧ W.cell? ⟨w.heap.size, 4, none⟩ = some (.int .i64 A)) := fun W hb => by
      obtain ⟨h0, h1, h2, h3, h4, _⟩ := hNH.out.below hb
      exact ⟨h0, h1, h2, h3, h4⟩
    have hkH := Lib.hid hk
    clear hk
    have e0 := e0H.out
    have e1 := e1H.out
    go_wp2_with fail
    go_region_held3 (fun W => W.cell? ⟨w.heap.size, 0, none⟩ = some (.int .i64 D) ∧ W.cell? ⟨w.heap.size, 1, none⟩ = some (.int .i64 Z) ∧ W.cell? ⟨w.heap.size, 2, none⟩ = some (.int .i64 B) ∧ W.cell? ⟨w.heap.size, 3, none⟩ = some (.int .i64 O) ∧ W.cell? ⟨w.heap.size, 4, none⟩ = some (.int .i64 A))
      (first | exact hkH.out _ (Below.refl _ _).drew | exact hkH.out _ hq2' | exact hkH.out _ hq1')
      (first | (go_at_call 11; ((with_reducible refine (c1H.out _).mono ?_); rintro e' v1 ⟨rfl, hq1⟩); have hq1' := ((Below.refl (w.alloc (.cells #[.int .i64 D, .int .i64 Z, .int .i64 B, .int .i64 O, .int .i64 A] 25)).heap.size (w.alloc (.cells #[.int .i64 D, .int .i64 Z, .int .i64 B, .int .i64 O, .int .i64 A] 25))).drew).trans (hq1.mono (by simp))) | (go_at_call 12; ((with_reducible refine (c2H.out _).mono ?_); rintro e' v2 ⟨rfl, hq2⟩); have hq2' := bmore hq1' hq2) | (go_at_call 19; ((with_reducible refine (c5H.out _).mono ?_); rintro e' w' ⟨rfl, rfl⟩)))
    simp only [Exit.then]
    refine fresh_K (fun W => GeoAt W w.heap.size D Z B O A ∧ Below w.heap.size w W) ?_ ?_
    · exact ⟨hNH.out.below hq2', bmore hBH.out hq2'⟩
    clear e0 e1 hkH hNH hBH
    rintro w4 ⟨hG, hB⟩
    have hGH := Lib.hid hG
    have hBH := Lib.hid hB
    clear hG hB
    have e1 := f1H.out
    have e2 := f2H.out
    have e3 := f3H.out
    have e4 := f4H.out
    have hk : ∀ W, Below w4.heap.size w4 W → (W.cell? ⟨w.heap.size, 0, none⟩ = some (.int .i64 D) ∧ W.cell? ⟨w.heap.size, 1, none⟩ = some (.int .i64 Z) ∧ W.cell? ⟨w.heap.size, 2, none⟩ = some (.int .i64 B) ∧ W.cell? ⟨w.heap.size, 3, none⟩ = some (.int .i64 O) ∧ W.cell? ⟨w.heap.size, 4, none⟩ = some (.int .i64 A)) := fun W hb => by
      obtain ⟨h0, h1, h2, h3, h4, _⟩ := hGH.out.below hb
      exact ⟨h0, h1, h2, h3, h4⟩
    have hkH := Lib.hid hk
    clear hk
    go_wp2_with fail
    go_region_held3 (fun W => W.cell? ⟨w.heap.size, 0, none⟩ = some (.int .i64 D) ∧ W.cell? ⟨w.heap.size, 1, none⟩ = some (.int .i64 Z) ∧ W.cell? ⟨w.heap.size, 2, none⟩ = some (.int .i64 B) ∧ W.cell? ⟨w.heap.size, 3, none⟩ = some (.int .i64 O) ∧ W.cell? ⟨w.heap.size, 4, none⟩ = some (.int .i64 A))
      (first | exact hkH.out _ (Below.refl _ _).drew | exact hkH.out _ hq2' | exact hkH.out _ hq1')
      (first | (go_at_call 12; ((with_reducible refine (c2H.out _).mono ?_); rintro e' v1 ⟨rfl, hq1⟩); have hq1' := ((Below.refl w4.heap.size w4).drew).trans (hq1.mono (by simp))) | (go_at_call 12; ((with_reducible refine (c2H.out _).mono ?_); rintro e' v2 ⟨rfl, hq2⟩); have hq2' := bmore hq1' hq2))
    have hBB := bmore hBH.out hq2'
    clear e1 e2 e3 e4
    go_wp2
    refine bodyPost_ret (v := .tuple #[.int .i64 q, .int .i64 r, .bool true]) (by simp [results, Try.results9, go_sem]) rfl ⟨rfl, ?_⟩
    exact hBB
  · rw [if_neg hb, if_neg hb]
    rw [Bool.not_eq_true] at hb
    rw [hb] at c5 ⊢
    have c5H := Lib.hid c5
    clear c5 hb
    have hN := GeoAt.new w D Z B O A 25
    have hB0 : Below w.heap.size w (w.alloc (.cells #[.int .i64 D, .int .i64 Z, .int .i64 B, .int .i64 O, .int .i64 A] 25)) := (Below.refl _ _).alloc (Nat.le_refl _) _
    have hNH := Lib.hid hN
    have hBH := Lib.hid hB0
    clear hN hB0
    go_enter Try.func9, Try.ntmps9
    have hk : ∀ W, Below (w.alloc (.cells #[.int .i64 D, .int .i64 Z, .int .i64 B, .int .i64 O, .int .i64 A] 25)).heap.size (w.alloc (.cells #[.int .i64 D, .int .i64 Z, .int .i64 B, .int .i64 O, .int .i64 A] 25)) W → (W.cell? ⟨w.heap.size, 0, none⟩ = some (.int .i64 D) ∧ W.cell? ⟨w.heap.size, 1, none⟩ = some (.int .i64 Z) ∧ W.cell? ⟨w.heap.size, 2, none⟩ = some (.int .i64 B) ∧ W.cell? ⟨w.heap.size, 3, none⟩ = some (.int .i64 O) ∧ W.cell? ⟨w.heap.size, 4, none⟩ = some (.int .i64 A)) := fun W hb => by
      obtain ⟨h0, h1, h2, h3, h4, _⟩ := hNH.out.below hb
      exact ⟨h0, h1, h2, h3, h4⟩
    have hkH := Lib.hid hk
    clear hk
    have e0 := e0H.out
    have e1 := e1H.out
    go_wp2_with fail
    go_region_held3 (fun W => W.cell? ⟨w.heap.size, 0, none⟩ = some (.int .i64 D) ∧ W.cell? ⟨w.heap.size, 1, none⟩ = some (.int .i64 Z) ∧ W.cell? ⟨w.heap.size, 2, none⟩ = some (.int .i64 B) ∧ W.cell? ⟨w.heap.size, 3, none⟩ = some (.int .i64 O) ∧ W.cell? ⟨w.heap.size, 4, none⟩ = some (.int .i64 A))
      (first | exact hkH.out _ (Below.refl _ _).drew | exact hkH.out _ hq2' | exact hkH.out _ hq1')
      (first | (go_at_call 11; ((with_reducible refine (c1H.out _).mono ?_); rintro e' v1 ⟨rfl, hq1⟩); have hq1' := ((Below.refl (w.alloc (.cells #[.int .i64 D, .int .i64 Z, .int .i64 B, .int .i64 O, .int .i64 A] 25)).heap.size (w.alloc (.cells #[.int .i64 D, .int .i64 Z, .int .i64 B, .int .i64 O, .int .i64 A] 25))).drew).trans (hq1.mono (by simp))) | (go_at_call 12; ((with_reducible refine (c2H.out _).mono ?_); rintro e' v2 ⟨rfl, hq2⟩); have hq2' := bmore hq1' hq2) | (go_at_call 19; ((with_reducible refine (c5H.out _).mono ?_); rintro e' w' ⟨rfl, rfl⟩)))
    simp only [Exit.then]
    refine fresh_K (fun W => GeoAt W w.heap.size D Z B O A ∧ Below w.heap.size w W) ?_ ?_
    · exact ⟨hNH.out.below hq2', bmore hBH.out hq2'⟩
    clear e0 e1 hkH hNH hBH
    rintro w4 ⟨hG, hB⟩
    have hGH := Lib.hid hG
    have hBH := Lib.hid hB
    clear hG hB
    go_wp2
    refine bodyPost_ret (v := .tuple #[.int .i64 0, .int .i64 0, .bool false]) (by simp [results, Try.results9, go_sem]) rfl ⟨rfl, ?_⟩
    exact hBH.out

def mulB (a b : Int) : Bool := decide (0 ≤ a ∧ 0 ≤ b ∧ (b = 0 ∨ a ≤ 4611686018427387904 / b))
def mulV (a b : Int) : Int := if mulB a b = true then a * b else 0
theorem mul_le_of {a b : Int} (hb : 0 < b) : a ≤ 4611686018427387904 / b ↔ a * b ≤ 4611686018427387904 := Int.le_ediv_iff_mul_le hb
theorem mul_any (a b : Int) (w : World) :
    Calls Try.prog 17 #[.int .i64 a, .int .i64 b] w fun e w' => e = .returned (.tuple #[.int .i64 (mulV a b), .bool (mulB a b)]) ∧ w = w' := by
  by_cases ha : a < 0
  · have e1 : mulB a b = false := decide_eq_false (by omega)
    have e2 : mulV a b = 0 := by unfold mulV; rw [e1, if_neg (by decide)]
    rw [e1, e2]; clear e1 e2
    go_enter Try.func17, Try.ntmps17
    go_wp2
    go_ret2
    exact ⟨rfl, rfl⟩
  by_cases hb : b < 0
  · have e1 : mulB a b = false := decide_eq_false (by omega)
    have e2 : mulV a b = 0 := by unfold mulV; rw [e1, if_neg (by decide)]
    rw [e1, e2]; clear e1 e2
    go_enter Try.func17, Try.ntmps17
    go_wp2
    go_ret2
    exact ⟨rfl, rfl⟩
  by_cases h0 : b = 0
  · subst h0
    have e1 : mulB a 0 = true := decide_eq_true (by omega)
    have e2 : mulV a 0 = 0 := by unfold mulV; rw [Int.mul_zero]; simp
    rw [e1, e2]; clear e1 e2
    go_enter Try.func17, Try.ntmps17
    go_wp2
    go_ret2
    exact ⟨by simp, rfl⟩
  have hpos : 0 < b := by omega
  have ha0 : 0 ≤ a := by omega
  have hdb : ¬ b = 0 := h0
  have hle := mul_le_of (a := a) (b := b) hpos
  have e4 : (4611686018427387904 : Int).tdiv b = 4611686018427387904 / b := Int.tdiv_eq_ediv_of_nonneg (by omega)
  have hq1 : 0 ≤ 4611686018427387904 / b := Int.ediv_nonneg (by omega) (by omega)
  have hq2 : 4611686018427387904 / b ≤ 4611686018427387904 := Int.ediv_le_self _ (by omega)
  obtain ⟨q, hq⟩ : ∃ q, (4611686018427387904 : Int) / b = q := ⟨_, rfl⟩
  by_cases hc : a ≤ 4611686018427387904 / b
  · have e1 : mulB a b = true := decide_eq_true ⟨ha0, by omega, .inr hc⟩
    have e2 : mulV a b = a * b := by unfold mulV; rw [e1, if_pos rfl]
    rw [e1, e2]; clear e1 e2
    have hm := hle.1 hc
    have hm0 := Int.mul_nonneg ha0 (show 0 ≤ b by omega)
    have e3 : wrap64 (a * b) = a * b := IntWalk.wrap64_in _ ⟨by omega, by omega⟩
    rw [hq] at hc hq1 hq2 e4
    clear hle hm hm0 h0
    go_enter Try.func17, Try.ntmps17
    go_wp2
    go_ret2
    exact ⟨by simp, rfl⟩
  · have e1 : mulB a b = false := decide_eq_false (by rintro ⟨_, _, h | h⟩ <;> omega)
    have e2 : mulV a b = 0 := by unfold mulV; rw [e1, if_neg (by decide)]
    rw [e1, e2]; clear e1 e2
    rw [hq] at hc hq1 hq2 e4
    clear hle h0
    go_enter Try.func17, Try.ntmps17
    go_wp2
    go_ret2
    exact ⟨by simp, rfl⟩

def addB (a b : Int) : Bool := decide (0 ≤ a ∧ 0 ≤ b ∧ a ≤ 4611686018427387904 - b)
def addV (a b : Int) : Int := if addB a b = true then a + b else 0
theorem add_any (a b : Int) (w : World) (h63 : b ≤ 9223372036854775807) :
    Calls Try.prog 18 #[.int .i64 a, .int .i64 b] w fun e w' => e = .returned (.tuple #[.int .i64 (addV a b), .bool (addB a b)]) ∧ w = w' := by
  by_cases ha : a < 0
  · have e1 : addB a b = false := decide_eq_false (by omega)
    have e2 : addV a b = 0 := by unfold addV; rw [e1, if_neg (by decide)]
    rw [e1, e2]; clear e1 e2
    go_enter Try.func18, Try.ntmps18
    go_wp2
    go_ret2
    exact ⟨rfl, rfl⟩
  by_cases hb : b < 0
  · have e1 : addB a b = false := decide_eq_false (by omega)
    have e2 : addV a b = 0 := by unfold addV; rw [e1, if_neg (by decide)]
    rw [e1, e2]; clear e1 e2
    go_enter Try.func18, Try.ntmps18
    go_wp2
    go_ret2
    exact ⟨rfl, rfl⟩
  by_cases hc : a ≤ 4611686018427387904 - b
  · have e1 : addB a b = true := decide_eq_true ⟨by omega, by omega, hc⟩
    have e2 : addV a b = a + b := by unfold addV; rw [e1, if_pos rfl]
    rw [e1, e2]; clear e1 e2
    go_enter Try.func18, Try.ntmps18
    go_wp2
    go_ret2
    exact ⟨by simp, rfl⟩
  · have e1 : addB a b = false := decide_eq_false (by rintro ⟨_, _, h⟩; omega)
    have e2 : addV a b = 0 := by unfold addV; rw [e1, if_neg (by decide)]
    rw [e1, e2]; clear e1 e2
    have e3 : wrap64 (4611686018427387904 - b) = 4611686018427387904 - b := IntWalk.wrap64_in _ ⟨by omega, by omega⟩
    go_enter Try.func18, Try.ntmps18
    go_wp2
    go_ret2
    exact ⟨by simp, rfl⟩
end Go.Proofs.Ytflkkmiehioejab
