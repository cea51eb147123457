/- What the laws of zones ask of a machine and the document's, and first of all. -/
import Derived.Test.YtlignckncgceaaaZonDo
import Derived.Test.YtlignckncgceaaaZonNew
import Derived.Test.YtlignckncgceaaaZonRef
import Derived.Test.YtlignckncgceaaaZonEq
namespace Go.Proofs.Ytlignckncgceaaa
open Go.RowKit Zon

theorem getM_out {m : Mc} {x : Int} (h : hasB m x = false) : getM m x = ⟨0, 0⟩ := by unfold getM; rw [if_neg (by rw [h]; simp)]
theorem getM_in {m : Mc} {i : Nat} (h : i < m.zs.length) : getM m (i : Int) = zAt m.zs i ∧ hasB m (i : Int) = true := by
  have h1 : hasB m (i : Int) = true := Zon.hasB_iff.2 ⟨by omega, by omega⟩
  exact ⟨by unfold getM; rw [if_pos h1]; simp, h1⟩

set_option maxHeartbeats 2000000 in
theorem same_any (g1 z1 g2 z2 : Nat) (m : Mc) (w : World) (h1 : MAt w g1 z1 m) (h2 : MAt w g2 z2 m) (hl : m.zs.length ≤ 64) :
    Calls Try.prog 15 #[.pointer (some ⟨g1, 0, none⟩), .pointer (some ⟨g2, 0, none⟩)] w fun e w' => e = .returned (.bool true) ∧ Below w.heap.size w w' := by
  have hget := Lib.hid (fun x W (hb : Below w.heap.size w W) => get_any g1 z1 m x W (h1.below hb))
  have hcts := Lib.hid (fun W (hb : Below w.heap.size w W) => counts_any g1 z1 m W (h1.below hb) hl)
  have hc1 := Lib.hid (fun W (hb : Below w.heap.size w W) => rcount_open g2 z2 m W (h2.below hb) hl)
  have hc2 := Lib.hid (fun W (hb : Below w.heap.size w W) => rcount_act g2 z2 m W (h2.below hb) hl)
  have hH2 := Lib.hid h2
  obtain ⟨⟨cap, c0⟩, _, _, _, hne, hzl, hza⟩ := h2
  have c0H := Lib.hid c0
  have hg2 := lt_of_cell c0
  have hzH := Lib.hid hza
  clear h1 hza
  go_enter Try.func15, Try.ntmps15
  go_wp2
  clear c0
  go_loopw [5] (fun i wr => ∃ j : Nat, j ≤ m.zs.length + 2 ∧ i = .int .i64 ((j : Int) - 1) ∧ Below w.heap.size w wr) (fun i _ => (m.zs.length + 1 - intOf i).toNat)
  case atStart => exact ⟨0, by omega, rfl, Below.refl _ _⟩
  case round =>
    obtain ⟨j, hj, rfl, hB⟩ := hrel
    have c0 := (hB.cell (p := ⟨g2, 0, none⟩) hg2).trans c0H.out
    have hs := hB.size
    by_cases hend : j = m.zs.length + 2
    · subst hend
      generalize nOpen m.zs = no at hcts hc1
      generalize nAct m.zs = na at hcts hc2
      go_wp2_with (first | (go_at_call 19; refine (hcts.out _ hB).mono ?_; rintro e w1 ⟨rfl, hb1⟩; have hB1 := hB.trans (hb1.mono hs)) | (go_at_call 24; ((with_reducible refine (hc1.out _ hB1).mono ?_); rintro e w2 ⟨rfl, rfl⟩)) | (go_at_call 24; ((with_reducible refine (hc2.out _ hB1).mono ?_); rintro e w2 ⟨rfl, rfl⟩)))
      go_ret
      exact ⟨rfl, hB1⟩
    · by_cases h0 : j = 0
      · subst h0
        have hg := hget.out (-1)
        rw [getM_out (decide_eq_false (by omega)), show hasB m (-1) = false from decide_eq_false (by omega)] at hg
        have hgH := Lib.hid hg
        have hz := fun W => (zone_eql W 0 0 0 0).2
        simp only [beq_self_eq_true, Bool.and_self, Bool.not_true] at hz
        clear hg hend
        go_wp2_with (go_at_call 18; refine (hgH.out _ hB).mono ?_; rintro e w1 ⟨rfl, hb1⟩; have hB1 := hB.trans (hb1.mono hs); have c1 := (hB1.cell (p := ⟨g2, 0, none⟩) hg2).trans c0H.out; have hs1 := hB1.size; have hgl1 : g2 < w1.heap.size := Nat.lt_of_lt_of_le hg2 hs1)
        go_roundw
        case rel => exact ⟨1, by omega, rfl, hB1.alloc hs1 _⟩
        case measure => (simp [intOf]; try omega)
      · obtain ⟨i, rfl⟩ : ∃ i, j = i + 1 := ⟨j - 1, by omega⟩
        have hji : (((i + 1 : Nat) : Int) - 1) = (i : Int) := by omega
        rw [hji]
        by_cases hi : i < m.zs.length
        · have hg := hget.out (i : Int)
          rw [(getM_in hi).1, (getM_in hi).2] at hg
          obtain ⟨k1, k2, _, _⟩ := hzH.out i hi
          rw [← zAt_get hi] at k1 k2
          generalize zAt m.zs i = y at hg k1 k2
          have hgH := Lib.hid hg
          have k1H := Lib.hid k1
          have k2H := Lib.hid k2
          have hil : ((i : Int) == (m.zs.length : Int)) = false := by simp; omega
          clear hg hji k1 k2 hend h0
          go_wp2_with (go_at_call 18; refine (hgH.out _ hB).mono ?_; rintro e w1 ⟨rfl, hb1⟩; have hB1 := hB.trans (hb1.mono hs); have c1 := (hB1.cell (p := ⟨g2, 0, none⟩) hg2).trans c0H.out; have k1 := (hB1.cell (p := ⟨z2, i * 2, none⟩) hzl).trans k1H.out; have k2 := (hB1.cell (p := ⟨z2, i * 2 + 1, none⟩) hzl).trans k2H.out; have hs1 := hB1.size; have hgl1 : g2 < w1.heap.size := Nat.lt_of_lt_of_le hg2 hs1; have hzl1 : z2 < w1.heap.size := Nat.lt_of_lt_of_le hzl hs1)
          go_quiet (fail)
          go_wp2
          go_roundw
          case rel => exact ⟨i + 1 + 1, by omega, by go_num, below_drewN (hB1.alloc hs1 _) _⟩
          case measure => simp [intOf]; omega
        · obtain rfl : i = m.zs.length := by omega
          have hg := hget.out (m.zs.length : Int)
          rw [getM_out (decide_eq_false (by omega)), show hasB m (m.zs.length : Int) = false from decide_eq_false (by omega)] at hg
          have hgH := Lib.hid hg
          have hz := fun W => (zone_eql W 0 0 0 0).2
          simp only [beq_self_eq_true, Bool.and_self, Bool.not_true] at hz
          clear hg hji hend h0
          go_wp2_with (go_at_call 18; refine (hgH.out _ hB).mono ?_; rintro e w1 ⟨rfl, hb1⟩; have hB1 := hB.trans (hb1.mono hs); have c1 := (hB1.cell (p := ⟨g2, 0, none⟩) hg2).trans c0H.out; have hs1 := hB1.size; have hgl1 : g2 < w1.heap.size := Nat.lt_of_lt_of_le hg2 hs1)
          go_roundw
          case rel => exact ⟨m.zs.length + 1 + 1, by omega, by go_num, hB1.alloc hs1 _⟩
          case measure => (simp [intOf]; try omega)

theorem sp_new : newOk 2 4 1 2 = true := by decide
def spM : Mc := newM 2 4 1 2
def spM1 : Mc := spM.with (doM spM 2 0 0 2).2.2
def spM2 : Mc := spM1.with (doM spM1 1 1 0 1).2.2
theorem sp_1 : (doM spM 2 0 0 2).1 = 0 ∧ (doM spM 2 0 0 2).2.1 = 0 := by decide +kernel
theorem sp_2 : (doM spM1 1 1 0 1).1 = 0 ∧ (doM spM1 1 1 0 1).2.1 = 0 := by decide +kernel
theorem sp_3 : (getM spM2 0).s = 3 ∧ (getM spM2 0).l = 2 ∧ hasB spM2 0 = true := by decide +kernel

set_option maxHeartbeats 1000000 in
theorem speaks5 (w : World) :
    Calls Try.prog 9 #[] w fun e w' => e = .returned (.bool true) ∧ Below w.heap.size w w' := by
  have hok0 : spM.Ok := newM_ok sp_new
  have hok1 : spM1.Ok := doM_ok hok0 _ _ _ _
  have hnew := Lib.hid (new_good 2 4 1 2 w sp_new)
  have d1 := Lib.hid (fun g z W (hM : MAt W g z spM) => do_any g z spM 2 0 0 2 W hM hok0 (by omega))
  have d2 := Lib.hid (fun g z W (hM : MAt W g z spM1) => do_any g z spM1 1 1 0 1 W hM hok1 (by omega))
  have g3 := fun g z W (hM : MAt W g z spM2) => get_any g z spM2 0 W hM
  rw [sp_3.1, sp_3.2.1, sp_3.2.2] at g3
  have g3H := Lib.hid g3
  have hz := fun W => (zone_eql W 3 2 3 2).1
  simp only [beq_self_eq_true, Bool.and_self] at hz
  have s1 := Lib.hid sp_1
  have s2 := Lib.hid sp_2
  clear hok0 hok1 g3
  go_enter Try.func9, Try.ntmps9
  go_wp2_with fail
  refine hnew.out.mono ?_
  rintro e w1 ⟨g, y, rfl, hM1, hzy, hgy, hb1⟩
  go_wp2_with fail
  refine (d1.out g y _ hM1).mono ?_
  rintro e w2 ⟨rfl, hM2, ho2⟩
  rw [s1.out.1, s1.out.2]
  go_wp2_with fail
  refine (d2.out g y _ hM2).mono ?_
  rintro e w3 ⟨rfl, hM3, ho3⟩
  rw [s2.out.1, s2.out.2]
  go_wp2_with fail
  refine (g3H.out g y _ hM3).mono ?_
  rintro e w4 ⟨rfl, hb4⟩
  have hs := hb1.size
  have hB := (hb1.trans ((ho2.trans ho3).below hzy hs))
  have hB4 := hB.trans (hb4.mono hB.size)
  clear hM1 hM2 hM3 ho2 ho3 hb4
  go_wp2_with fail
  go_ret
  exact ⟨rfl, hB4.alloc hB4.size _⟩
end Go.Proofs.Ytlignckncgceaaa
