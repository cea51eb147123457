/- What every law of the fourth layer asks first: that the package answers at all; and the law on products and sums. -/
import Derived.Test.YtflkkmiehioejabGeoNums
namespace Go.Proofs.Ytflkkmiehioejab
open Go.RowKit

set_option maxHeartbeats 1000000 in
theorem speaks4 (w : World) :
    Calls Try.prog 8 #[] w fun e w' => e = .returned (.bool true) ∧ Below w.heap.size w w' := by
  have c1 := fun W => place_any 3 5 4 1 1 0 2 W
  rw [show plR 3 5 4 1 1 0 2 = 1 by decide +kernel, show plD 3 5 4 1 1 0 2 = 2 by decide +kernel, show plB 3 5 4 1 1 0 2 = true by decide +kernel] at c1
  have c2 := fun W => good_any 3 5 4 1 1 W
  rw [show goodB 3 5 4 1 1 = true by decide +kernel] at c2
  have c3 := fun W => cap_any 3 5 4 1 1 W
  rw [show capV 3 5 4 1 1 = 8 by decide +kernel] at c3
  have c4 := fun W => zones_any 3 5 4 1 1 W
  rw [show zonesV 3 5 4 1 1 = 2 by decide +kernel] at c4
  have c1H := Lib.hid c1
  have c2H := Lib.hid c2
  have c3H := Lib.hid c3
  have c4H := Lib.hid c4
  clear c1 c2 c3 c4
  have hN := GeoAt.new w 3 5 4 1 1 25
  have hB0 : Below w.heap.size w (w.alloc (.cells #[.int .i64 3, .int .i64 5, .int .i64 4, .int .i64 1, .int .i64 1] 25)) := (Below.refl _ _).alloc (Nat.le_refl _) _
  have hNH := Lib.hid hN
  have hBH := Lib.hid hB0
  clear hN hB0
  go_enter Try.func8, Try.ntmps8
  go_wp2_with fail
  refine (c1H.out _).mono ?_
  rintro e w1 ⟨rfl, hb1⟩
  have hG := hNH.out.below hb1
  have hB := bmore hBH.out hb1
  clear hNH hBH hb1

  have hGH := Lib.hid hG
  have hBH := Lib.hid hB
  clear hB
  obtain ⟨h0, h1, h2, h3, h4, _⟩ := hG
  go_wp2_with fail
  refine (c2H.out _).mono ?_
  rintro e w2 ⟨rfl, hb2⟩
  have hG := hGH.out.below hb2
  have hB := bmore hBH.out hb2
  clear hGH hBH hb2
  clear h0 h1 h2 h3 h4
  have hGH := Lib.hid hG
  have hBH := Lib.hid hB
  clear hB
  obtain ⟨h0, h1, h2, h3, h4, _⟩ := hG
  go_wp2_with fail
  refine (c3H.out _).mono ?_
  rintro e w3 ⟨rfl, hb3⟩
  have hG := hGH.out.below hb3
  have hB := bmore hBH.out hb3
  clear hGH hBH hb3
  clear h0 h1 h2 h3 h4
  have hGH := Lib.hid hG
  have hBH := Lib.hid hB
  clear hB
  obtain ⟨h0, h1, h2, h3, h4, _⟩ := hG
  go_wp2_with fail
  refine (c4H.out _).mono ?_
  rintro e w4 ⟨rfl, hb4⟩
  have hG := hGH.out.below hb4
  have hB := bmore hBH.out hb4
  clear hGH hBH hb4
  clear h0 h1 h2 h3 h4
  have hGH := Lib.hid hG
  have hBH := Lib.hid hB
  clear hB
  obtain ⟨h0, h1, h2, h3, h4, _⟩ := hG
  go_wp2
  go_ret
  exact ⟨rfl, hBH.out⟩

set_option maxHeartbeats 2000000 in
theorem numbers_law (a b : Int) (w : World) (h63 : b ≤ 9223372036854775807) (h63a : a ≤ 9223372036854775807) :
    Calls Try.prog 6 #[.int .i64 a, .int .i64 b] w fun e w' => e = .returned (.bool true) ∧ Below w.heap.size w w' := by
  have c1 := fun W => mul_any a b W
  have c2 := fun W => add_any a b W h63
  by_cases ha : a < 0
  · have e1 : mulB a b = false := decide_eq_false (by omega)
    have e2 : mulV a b = 0 := by unfold mulV; rw [e1, if_neg (by decide)]
    have e3 : addB a b = false := decide_eq_false (by omega)
    have e4 : addV a b = 0 := by unfold addV; rw [e3, if_neg (by decide)]
    rw [e1, e2] at c1
    rw [e3, e4] at c2
    have c1H := Lib.hid c1
    have c2H := Lib.hid c2
    clear c1 c2 e1 e2 e3 e4
    go_enter Try.func6, Try.ntmps6
    go_wp2_with fail
    refine (speaks4 _).mono ?_
    rintro e w1 ⟨rfl, hb1⟩
    go_wp2_with (first | (go_at_call 17; refine (c1H.out _).mono ?_; rintro e w' ⟨rfl, rfl⟩) | (go_at_call 18; refine (c2H.out _).mono ?_; rintro e w' ⟨rfl, rfl⟩))
    go_ret
    exact ⟨by first | (simp; done) | (simp; omega), hb1⟩
  by_cases hb : b < 0
  · have e1 : mulB a b = false := decide_eq_false (by omega)
    have e2 : mulV a b = 0 := by unfold mulV; rw [e1, if_neg (by decide)]
    have e3 : addB a b = false := decide_eq_false (by omega)
    have e4 : addV a b = 0 := by unfold addV; rw [e3, if_neg (by decide)]
    rw [e1, e2] at c1
    rw [e3, e4] at c2
    have c1H := Lib.hid c1
    have c2H := Lib.hid c2
    clear c1 c2 e1 e2 e3 e4
    go_enter Try.func6, Try.ntmps6
    go_wp2_with fail
    refine (speaks4 _).mono ?_
    rintro e w1 ⟨rfl, hb1⟩
    go_wp2_with (first | (go_at_call 17; refine (c1H.out _).mono ?_; rintro e w' ⟨rfl, rfl⟩) | (go_at_call 18; refine (c2H.out _).mono ?_; rintro e w' ⟨rfl, rfl⟩))
    go_ret
    exact ⟨by first | (simp; done) | (simp; omega), hb1⟩
  have ha0 : 0 ≤ a := by omega
  have hb0 : 0 ≤ b := by omega
  by_cases hz : a = 0
  · subst hz
    have e1 : mulB 0 b = true := decide_eq_true ⟨by omega, hb0, by
      by_cases h : b = 0
      · exact .inl h
      · exact .inr (Int.ediv_nonneg (by omega) hb0)⟩
    have e2 : mulV 0 b = 0 := by unfold mulV; rw [Int.zero_mul]; simp
    rw [e1, e2] at c1
    have c1H := Lib.hid c1
    clear c1 e1 e2
    by_cases hs : b ≤ 4611686018427387904
    · have e3 : addB 0 b = true := decide_eq_true ⟨by omega, hb0, by omega⟩
      have e4 : addV 0 b = b := by unfold addV; rw [e3, if_pos rfl]; omega
      rw [e3, e4] at c2
      have c2H := Lib.hid c2
      clear c2 e3 e4
      go_enter Try.func6, Try.ntmps6
      go_wp2_with fail
      refine (speaks4 _).mono ?_
      rintro e w1 ⟨rfl, hb1⟩
      go_wp2_with (first | (go_at_call 17; refine (c1H.out _).mono ?_; rintro e w' ⟨rfl, rfl⟩) | (go_at_call 18; refine (c2H.out _).mono ?_; rintro e w' ⟨rfl, rfl⟩))
      go_ret
      exact ⟨by first | (simp; done) | (simp; omega), hb1⟩
    · have e3 : addB 0 b = false := decide_eq_false (by omega)
      have e4 : addV 0 b = 0 := by unfold addV; rw [e3, if_neg (by decide)]
      rw [e3, e4] at c2
      have c2H := Lib.hid c2
      clear c2 e3 e4
      go_enter Try.func6, Try.ntmps6
      go_wp2_with fail
      refine (speaks4 _).mono ?_
      rintro e w1 ⟨rfl, hb1⟩
      go_wp2_with (first | (go_at_call 17; refine (c1H.out _).mono ?_; rintro e w' ⟨rfl, rfl⟩) | (go_at_call 18; refine (c2H.out _).mono ?_; rintro e w' ⟨rfl, rfl⟩))
      go_ret
      exact ⟨by first | (simp; done) | (simp; omega), hb1⟩
  have hap : 0 < a := by omega
  have hdiv : a ≠ 0 := hz
  obtain ⟨q, hq⟩ : ∃ q, (4611686018427387904 : Int) / a = q := ⟨_, rfl⟩
  have hq1 : 0 ≤ q := by rw [← hq]; exact Int.ediv_nonneg (by omega) (by omega)
  have hq2 : q ≤ 4611686018427387904 := by rw [← hq]; exact Int.ediv_le_self _ (by omega)
  have hqt : (4611686018427387904 : Int).tdiv a = q := by rw [Int.tdiv_eq_ediv_of_nonneg (by omega)]; exact hq
  have hle : b ≤ q ↔ b * a ≤ 4611686018427387904 := by rw [← hq]; exact Int.le_ediv_iff_mul_le hap
  by_cases hm : b ≤ q
  · have hp := hle.1 hm
    have e1 : mulB a b = true := decide_eq_true ⟨ha0, hb0, by
      by_cases h : b = 0
      · exact .inl h
      · exact .inr ((mul_le_of (by omega)).2 (by rw [Int.mul_comm]; exact hp))⟩
    have e2 : mulV a b = a * b := by unfold mulV; rw [e1, if_pos rfl]
    rw [e1, e2] at c1
    have hm0 := Int.mul_nonneg ha0 hb0
    have hm1 : a * b ≤ 4611686018427387904 := by rw [Int.mul_comm]; exact hp
    have f1 : a * b / a = b := Int.mul_ediv_cancel_left _ hz
    have f2 : a * b % a = 0 := Int.mul_emod_right _ _
    generalize a * b = p at c1 hm0 hm1 f1 f2
    have f3 : p.tdiv a = b := by rw [Int.tdiv_eq_ediv_of_nonneg hm0]; exact f1
    have f4 : p.tmod a = 0 := by rw [Int.tmod_eq_emod_of_nonneg hm0]; exact f2
    have c1H := Lib.hid c1
    clear c1 e1 e2 hp hle
    have l1 : decide (b ≤ q) = true := decide_eq_true hm
    have l2 : (a == 0) = false := by rw [beq_eq_false_iff_ne]; exact hz
    have l3 : (a != 0) = true := by rw [bne, l2]; rfl
    by_cases hs : a + b ≤ 4611686018427387904
    · have e3 : addB a b = true := decide_eq_true ⟨ha0, hb0, by omega⟩
      have e4 : addV a b = a + b := by unfold addV; rw [e3, if_pos rfl]
      rw [e3, e4] at c2
      have c2H := Lib.hid c2
      have f5 : a + b - a = b := by omega
      have k1 : decide (a ≤ 4611686018427387904) = true := decide_eq_true (by omega)
      have k2 : decide (b ≤ 4611686018427387904 - a) = true := decide_eq_true (by omega)
      have k3 : b ≤ 4611686018427387904 - a := by omega
      clear c2 e3 e4
      go_enter Try.func6, Try.ntmps6
      go_wp2_with fail
      refine (speaks4 _).mono ?_
      rintro e w1 ⟨rfl, hb1⟩
      go_wp2_with (first | (go_at_call 17; refine (c1H.out _).mono ?_; rintro e w' ⟨rfl, rfl⟩) | (go_at_call 18; refine (c2H.out _).mono ?_; rintro e w' ⟨rfl, rfl⟩))
      go_ret
      exact ⟨by first | (simp; done) | (simp; omega), hb1⟩
    · have e3 : addB a b = false := decide_eq_false (by omega)
      have e4 : addV a b = 0 := by unfold addV; rw [e3, if_neg (by decide)]
      rw [e3, e4] at c2
      have c2H := Lib.hid c2
      clear c2 e3 e4
      by_cases ham : a ≤ 4611686018427387904
      · have k1 : decide (a ≤ 4611686018427387904) = true := decide_eq_true ham
        have k2 : decide (b ≤ 4611686018427387904 - a) = false := decide_eq_false (by omega)
        have k3 : ¬ b ≤ 4611686018427387904 - a := by omega
        go_enter Try.func6, Try.ntmps6
        go_wp2_with fail
        refine (speaks4 _).mono ?_
        rintro e w1 ⟨rfl, hb1⟩
        go_wp2_with (first | (go_at_call 17; refine (c1H.out _).mono ?_; rintro e w' ⟨rfl, rfl⟩) | (go_at_call 18; refine (c2H.out _).mono ?_; rintro e w' ⟨rfl, rfl⟩))
        go_ret
        exact ⟨by first | (simp; done) | (simp; omega), hb1⟩
      · have k1 : decide (a ≤ 4611686018427387904) = false := decide_eq_false ham
        go_enter Try.func6, Try.ntmps6
        go_wp2_with fail
        refine (speaks4 _).mono ?_
        rintro e w1 ⟨rfl, hb1⟩
        go_wp2_with (first | (go_at_call 17; refine (c1H.out _).mono ?_; rintro e w' ⟨rfl, rfl⟩) | (go_at_call 18; refine (c2H.out _).mono ?_; rintro e w' ⟨rfl, rfl⟩))
        go_ret
        exact ⟨by first | (simp; done) | (simp; omega), hb1⟩
  · have e1 : mulB a b = false := decide_eq_false (by
      rintro ⟨_, _, h | h⟩
      · omega
      · have h2 : 0 < b := by omega
        have h1 := (mul_le_of h2).1 h
        rw [Int.mul_comm] at h1
        exact hm (hle.2 h1))
    have e2 : mulV a b = 0 := by unfold mulV; rw [e1, if_neg (by decide)]
    rw [e1, e2] at c1
    have c1H := Lib.hid c1
    clear c1 e1 e2 hle
    have l1 : decide (b ≤ q) = false := decide_eq_false hm
    have l2 : (a == 0) = false := by rw [beq_eq_false_iff_ne]; exact hz
    have l3 : (a != 0) = true := by rw [bne, l2]; rfl
    by_cases hs : a + b ≤ 4611686018427387904
    · have e3 : addB a b = true := decide_eq_true ⟨ha0, hb0, by omega⟩
      have e4 : addV a b = a + b := by unfold addV; rw [e3, if_pos rfl]
      rw [e3, e4] at c2
      have c2H := Lib.hid c2
      have f5 : a + b - a = b := by omega
      have k1 : decide (a ≤ 4611686018427387904) = true := decide_eq_true (by omega)
      have k2 : decide (b ≤ 4611686018427387904 - a) = true := decide_eq_true (by omega)
      have k3 : b ≤ 4611686018427387904 - a := by omega
      clear c2 e3 e4
      go_enter Try.func6, Try.ntmps6
      go_wp2_with fail
      refine (speaks4 _).mono ?_
      rintro e w1 ⟨rfl, hb1⟩
      go_wp2_with (first | (go_at_call 17; refine (c1H.out _).mono ?_; rintro e w' ⟨rfl, rfl⟩) | (go_at_call 18; refine (c2H.out _).mono ?_; rintro e w' ⟨rfl, rfl⟩))
      go_ret
      exact ⟨by first | (simp; done) | (simp; omega), hb1⟩
    · have e3 : addB a b = false := decide_eq_false (by omega)
      have e4 : addV a b = 0 := by unfold addV; rw [e3, if_neg (by decide)]
      rw [e3, e4] at c2
      have c2H := Lib.hid c2
      clear c2 e3 e4
      by_cases ham : a ≤ 4611686018427387904
      · have k1 : decide (a ≤ 4611686018427387904) = true := decide_eq_true ham
        have k2 : decide (b ≤ 4611686018427387904 - a) = false := decide_eq_false (by omega)
        have k3 : ¬ b ≤ 4611686018427387904 - a := by omega
        go_enter Try.func6, Try.ntmps6
        go_wp2_with fail
        refine (speaks4 _).mono ?_
        rintro e w1 ⟨rfl, hb1⟩
        go_wp2_with (first | (go_at_call 17; refine (c1H.out _).mono ?_; rintro e w' ⟨rfl, rfl⟩) | (go_at_call 18; refine (c2H.out _).mono ?_; rintro e w' ⟨rfl, rfl⟩))
        go_ret
        exact ⟨by first | (simp; done) | (simp; omega), hb1⟩
      · have k1 : decide (a ≤ 4611686018427387904) = false := decide_eq_false ham
        go_enter Try.func6, Try.ntmps6
        go_wp2_with fail
        refine (speaks4 _).mono ?_
        rintro e w1 ⟨rfl, hb1⟩
        go_wp2_with (first | (go_at_call 17; refine (c1H.out _).mono ?_; rintro e w' ⟨rfl, rfl⟩) | (go_at_call 18; refine (c2H.out _).mono ?_; rintro e w' ⟨rfl, rfl⟩))
        go_ret
        exact ⟨by first | (simp; done) | (simp; omega), hb1⟩
end Go.Proofs.Ytflkkmiehioejab
