/- The law of a write in two parts. -/
import Derived.Test.YtpgnajcbahklgaaPlPaW
namespace Go.Proofs.Ytpgnajcbahklgaa
open Go.RowKit Pl Tl

/-- Where a write is cut. -/
theorem cut_nums (x : Int) {n : Nat} (hn : 2 ≤ n) (hn2 : n ≤ 3840) : ∃ (t : Int) (c C : Nat), wrap64 ((n : Int) - 1) = (n : Int) - 1 ∧ IntKind.i64.wrap ((n : Int) - 1) = (n : Int) - 1 ∧ x.tmod ((n : Int) - 1) = t ∧ IntKind.i64.wrap t = t ∧ wrap64 (t + (n : Int)) = t + (n : Int) ∧ IntKind.i64.wrap (t + (n : Int)) = t + (n : Int) ∧ wrap64 (t + (n : Int) - 1) = t + (n : Int) - 1 ∧ IntKind.i64.wrap (t + (n : Int) - 1) = t + (n : Int) - 1 ∧
    (t + (n : Int) - 1).tmod ((n : Int) - 1) = (c : Int) ∧ IntKind.i64.wrap (c : Int) = (c : Int) ∧ wrap64 (1 + (c : Int)) = (C : Int) ∧ IntKind.i64.wrap (1 + (c : Int)) = (C : Int) ∧ 1 ≤ C ∧ C < n := by
  have h1 := Int.tmod_lt_of_pos x (show 0 < (n : Int) - 1 by omega)
  have h2 : -((n : Int) - 1) < x.tmod ((n : Int) - 1) := by
    have := Int.lt_tmod_of_pos x (show 0 < (n : Int) - 1 by omega)
    omega
  obtain ⟨t, ht⟩ : ∃ t, x.tmod ((n : Int) - 1) = t := ⟨_, rfl⟩
  rw [ht] at h1 h2
  have h3 : 0 ≤ (t + (n : Int) - 1).tmod ((n : Int) - 1) := by
    rw [Int.tmod_eq_emod_of_nonneg (by omega)]; exact Int.emod_nonneg _ (by omega)
  have h4 := Int.tmod_lt_of_pos (t + (n : Int) - 1) (show 0 < (n : Int) - 1 by omega)
  obtain ⟨c, hc⟩ := Int.eq_ofNat_of_zero_le h3
  refine ⟨t, c, 1 + c, ?_, ?_, ht, ?_, ?_, ?_, ?_, ?_, hc, ?_, ?_, ?_, ?_, ?_⟩
  all_goals rw [hc] at h4
  all_goals clear ht hc h3
  · exact IntWalk.wrap64_in _ (by omega)
  · exact IntWalk.i64_in _ (by omega)
  · exact IntWalk.i64_in _ (by omega)
  · exact IntWalk.wrap64_in _ (by omega)
  · exact IntWalk.i64_in _ (by omega)
  · exact IntWalk.wrap64_in _ (by omega)
  · exact IntWalk.i64_in _ (by omega)
  · exact IntWalk.i64_in _ (by omega)
  · rw [IntWalk.wrap64_in _ (by omega)]; omega
  · rw [IntWalk.i64_in _ (by omega)]; omega
  · omega
  · omega
theorem part_wraps {f n C E : Nat} (hC : C < n) (hE : f + n = E) (h : E ≤ 3840) : wrap64 ((f : Int) + (C : Int)) = ((f + C : Nat) : Int) ∧ IntKind.i64.wrap ((f : Int) + (C : Int)) = ((f + C : Nat) : Int) ∧ wrap64 ((n : Int) - (C : Int)) = ((n - C : Nat) : Int) ∧ IntKind.i64.wrap ((n : Int) - (C : Int)) = ((n - C : Nat) : Int) := by
  refine ⟨?_, ?_, ?_, ?_⟩
  · rw [IntWalk.wrap64_in _ (by omega)]; omega
  · rw [IntWalk.i64_in _ (by omega)]; omega
  · rw [IntWalk.wrap64_in _ (by omega)]; omega
  · rw [IntWalk.i64_in _ (by omega)]; omega
theorem at_nums {m : Nat} (h : 0 < m) (h2 : m ≤ 16000) : wrap64 ((m : Int) - 1) = ((m - 1 : Nat) : Int) ∧ IntKind.i64.wrap ((m : Int) - 1) = ((m - 1 : Nat) : Int) := by
  refine ⟨?_, ?_⟩
  · rw [IntWalk.wrap64_in _ (by omega)]; omega
  · rw [IntWalk.i64_in _ (by omega)]; omega
theorem parts_pure (wd z f : Nat) {n C : Nat} (h1 : 1 ≤ C) (h2 : C < n) (h3 : n ≤ 3840) : ∃ la lb, (steps wd z (f + C) f C).length = la ∧ (steps wd z (f + n) (f + C) (n - C)).length = lb ∧
    nn (steps wd z (f + n) f n) = nn (steps wd z (f + C) f C ++ steps wd z (f + n) (f + C) (n - C)) ∧ 0 < (steps wd z (f + n) f n).length ∧
    (steps wd z (f + n) f n)[(steps wd z (f + n) f n).length - 1]? = (steps wd z (f + n) (f + C) (n - C))[lb - 1]? ∧ 0 < la ∧ (0 < lb ∧ la + lb ≤ 16000) := by
  obtain ⟨m, rfl⟩ : ∃ m, n = C + m := ⟨n - C, by omega⟩
  rw [Nat.add_sub_cancel_left, ← Nat.add_assoc]
  have hA := steps_pos (w := wd) (z := z) (e := f + C) (n := C) (f := f) h1
  have hB := steps_pos (w := wd) (z := z) (e := f + C + m) (n := m) (f := f + C) (by omega)
  have hL := steps_pos (w := wd) (z := z) (e := f + C + m) (n := C + m) (f := f) (by omega)
  have lA := steps_len (w := wd) (z := z) (e := f + C) C f
  have lB := steps_len (w := wd) (z := z) (e := f + C + m) m (f + C)
  obtain ⟨q1, q2, q3⟩ := last_two (w := wd) (z := z) (f := f) (a := C) (n := m) (by omega)
  refine ⟨_, _, rfl, rfl, nn_two wd z f C m, hL, ?_, hA, hB, by omega⟩
  rw [List.getElem?_eq_getElem q1, List.getElem?_eq_getElem q2, q3]
/-- An empty slice of the call's own. -/
theorem empty_row (W : World) {base : Nat} (hb : base ≤ W.heap.size) (t : TypeId) : stE.Row (W.alloc (.cells #[] t)) base t (some ⟨W.heap.size, 0, none⟩) 0 [] :=
  World.ownsRow_lit (base := base) (size := 5) (e := t) W #[] 0 hb (by unfold maxLen; omega) rfl
/-- The cells of two last steps. -/
def EndSt (W : World) (g g' na nb : Nat) (x : St) : Prop := (W.cell? ⟨g, na * 5, none⟩ = some (.int .i64 x.k) ∧ W.cell? ⟨g, na * 5 + 1, none⟩ = some (.int .i64 x.s) ∧ W.cell? ⟨g, na * 5 + 2, none⟩ = some (.int .i64 x.r) ∧ W.cell? ⟨g, na * 5 + 3, none⟩ = some (.int .i64 x.b) ∧ W.cell? ⟨g, na * 5 + 4, none⟩ = some (.int .i64 x.c)) ∧
  (W.cell? ⟨g', nb * 5, none⟩ = some (.int .i64 x.k) ∧ W.cell? ⟨g', nb * 5 + 1, none⟩ = some (.int .i64 x.s) ∧ W.cell? ⟨g', nb * 5 + 2, none⟩ = some (.int .i64 x.r) ∧ W.cell? ⟨g', nb * 5 + 3, none⟩ = some (.int .i64 x.b) ∧ W.cell? ⟨g', nb * 5 + 4, none⟩ = some (.int .i64 x.c))
/-- The boxes of the law: the geometry twice, the numbers. -/
structure PaW (w W : World) (D Z B O A : Int) (g : Nat) : Prop where
  g : GeoAt W g D Z B O A
  bw : Below w.heap.size w W
theorem PaW.below {w W W' : World} {D Z B O A : Int} {g : Nat} (h : PaW w W D Z B O A g) (hb : Below W.heap.size W W') : PaW w W' D Z B O A g := ⟨h.g.below hb, bmore h.bw hb⟩
set_option maxRecDepth 100000 in
set_option maxHeartbeats 4000000 in
theorem parts_law (D Z B O A zone f n x : Int) (w : World) (hf : f ≤ 9223372036854775807) :
    Calls Try.prog 11 #[.agg #[.int .i64 D, .int .i64 Z, .int .i64 B, .int .i64 O, .int .i64 A], .int .i64 zone, .agg #[.int .i64 f, .int .i64 n, .int .i64 x]] w fun e w' => e = .returned (.bool true) ∧ Below w.heap.size w w' := by
  have hsp := Lib.hid (fun W => speaks13 W)
  have hB0 : Below w.heap.size w ((w.alloc (.cells #[.int .i64 D, .int .i64 Z, .int .i64 B, .int .i64 O, .int .i64 A] 67)).alloc (.cells #[.int .i64 f, .int .i64 n, .int .i64 x] 81)) := ((Below.refl _ _).alloc (Nat.le_refl _) _).alloc (by simp) _
  have hs0 : ((w.alloc (.cells #[.int .i64 D, .int .i64 Z, .int .i64 B, .int .i64 O, .int .i64 A] 67)).alloc (.cells #[.int .i64 f, .int .i64 n, .int .i64 x] 81)).heap.size = w.heap.size + 2 := by simp
  have hG0 := (GeoAt.new w D Z B O A 67).below ((Below.refl _ _).alloc (Nat.le_refl _) (.cells #[.int .i64 f, .int .i64 n, .int .i64 x] 81))
  have hP0 : ((w.alloc (.cells #[.int .i64 D, .int .i64 Z, .int .i64 B, .int .i64 O, .int .i64 A] 67)).alloc (.cells #[.int .i64 f, .int .i64 n, .int .i64 x] 81)).cell? ⟨w.heap.size + 1, 0, none⟩ = some (.int .i64 f) ∧ ((w.alloc (.cells #[.int .i64 D, .int .i64 Z, .int .i64 B, .int .i64 O, .int .i64 A] 67)).alloc (.cells #[.int .i64 f, .int .i64 n, .int .i64 x] 81)).cell? ⟨w.heap.size + 1, 1, none⟩ = some (.int .i64 n) ∧ ((w.alloc (.cells #[.int .i64 D, .int .i64 Z, .int .i64 B, .int .i64 O, .int .i64 A] 67)).alloc (.cells #[.int .i64 f, .int .i64 n, .int .i64 x] 81)).cell? ⟨w.heap.size + 1, 2, none⟩ = some (.int .i64 x) := by
    refine ⟨?_, ?_, ?_⟩ <;> go_simp
  go_enter Try.func11, Try.ntmps11
  go_wp2_with fail
  generalize (w.alloc (.cells #[.int .i64 D, .int .i64 Z, .int .i64 B, .int .i64 O, .int .i64 A] 67)).alloc (.cells #[.int .i64 f, .int .i64 n, .int .i64 x] 81) = W0 at hB0 hs0 hG0 hP0 ⊢
  (with_reducible refine (hsp.out _).mono ?_)
  rintro e w1 ⟨rfl, hb1⟩
  have hB1 := bmore hB0 hb1
  have hG1 := hG0.below hb1
  have hP1 : w1.cell? ⟨w.heap.size + 1, 0, none⟩ = some (.int .i64 f) ∧ w1.cell? ⟨w.heap.size + 1, 1, none⟩ = some (.int .i64 n) ∧ w1.cell? ⟨w.heap.size + 1, 2, none⟩ = some (.int .i64 x) := ⟨(hb1.cell (p := ⟨w.heap.size + 1, 0, none⟩) (by show w.heap.size + 1 < _; omega)).trans hP0.1, (hb1.cell (p := ⟨w.heap.size + 1, 1, none⟩) (by show w.heap.size + 1 < _; omega)).trans hP0.2.1, (hb1.cell (p := ⟨w.heap.size + 1, 2, none⟩) (by show w.heap.size + 1 < _; omega)).trans hP0.2.2⟩
  have hB1H := Lib.hid hB1
  have hP1H := Lib.hid hP1
  clear hB0 hs0 hG0 hP0 hb1 hsp hB1 hP1
  obtain ⟨h0, h1, h2, h3, h4, hgl⟩ := hG1
  go_upto_region 4 with fail
  refine fresh_world (fun W => PaW w W D Z B O A w1.heap.size ∧ W.cell? ⟨w.heap.size + 1, 0, none⟩ = some (.int .i64 f) ∧ W.cell? ⟨w.heap.size + 1, 1, none⟩ = some (.int .i64 n) ∧ W.cell? ⟨w.heap.size + 1, 2, none⟩ = some (.int .i64 x)) ?_ ?_
  · have hA := (Below.refl w1.heap.size w1).alloc (Nat.le_refl _) (.cells #[.int .i64 D, .int .i64 Z, .int .i64 B, .int .i64 O, .int .i64 A] 37)
    obtain ⟨q0, q1, q2⟩ := hP1H.out
    exact ⟨⟨GeoAt.new w1 D Z B O A _, bmore hB1H.out hA⟩, (hA.cell (p := ⟨w.heap.size + 1, 0, none⟩) (lt_of_cell q0)).trans q0, (hA.cell (p := ⟨w.heap.size + 1, 1, none⟩) (lt_of_cell q1)).trans q1, (hA.cell (p := ⟨w.heap.size + 1, 2, none⟩) (lt_of_cell q2)).trans q2⟩
  clear hP1H hB1H h0 h1 h2 h3 h4
  generalize w1.heap.size = g
  rintro W2 ⟨hW2, p0, p1, p2⟩
  have hW2H := Lib.hid hW2
  clear hW2
  go_quiet (fail)
  go_upto_region 5 with fail
  refine fresh_world (fun W => PaW w W D Z B O A g) (hW2H.out.below (below_drewN (Below.refl _ _) _)) ?_
  clear hW2H p0 p1 p2
  rintro W3 hW3
  have hW3H := Lib.hid hW3
  obtain ⟨h0, h1, h2, h3, h4, _⟩ := hW3.g
  clear hW3
  cases hok : wrB D Z B O A zone f n with
  | false =>
    obtain ⟨k, hk, hc⟩ := write_no D Z B O A zone f n hf hok
    have hcH := Lib.hid hc
    clear hc hok
    have k0 : ¬ (k = 0) := by omega
    go_wp2_with fail
    (with_reducible refine (hcH.out _).mono ?_)
    rintro e w2 ⟨rfl, hb2⟩
    have hF := Lib.hid (hW3H.out.below hb2).bw
    clear hb2
    go_wp2
    go_ret
    exact ⟨rfl, hF.out⟩
  | true =>
    obtain ⟨wd, z, f', n', hD, rfl, rfl, rfl, hg, hz, hn1, hcap, hw2, hw15, hfn⟩ := wr_yes hok
    have hcH := Lib.hid (fun W => write_good wd z f' n' D Z B O A hD W hg hz hn1 hcap)
    have hcE := Lib.hid (fun (f1 n1 : Nat) (h1 : 1 ≤ n1) (h2 : f1 + n1 ≤ f' + n') W => write_good wd z f1 n1 D Z B O A hD W hg hz h1 (by omega))
    have hn9 : n' ≤ 3840 := by omega
    have hln := steps_len (w := wd) (z := z) (e := f' + n') n' f'
    obtain ⟨L, hL⟩ : ∃ L, steps wd z (f' + n') f' n' = L := ⟨_, rfl⟩
    rw [hL] at hcH hln
    have hLH := Lib.hid hL
    obtain ⟨nl, hnl⟩ : ∃ nl, L.length = nl := ⟨_, rfl⟩
    have hnlH := Lib.hid hnl
    rw [hnl] at hln
    have hfnH := Lib.hid hfn
    clear hok hg hz hcap hD hL hnl hfn
    go_wp2_with fail
    (with_reducible refine (hcH.out _).mono ?_)
    rintro e w2 ⟨A1, cap1, rfl, hR1, hb2⟩
    rw [hnlH.out]
    have hW4 := hW3H.out.below hb2
    have hR1H := Lib.hid hR1
    have hW4H := Lib.hid hW4
    clear hb2 hcH hW3H h0 h1 h2 h3 h4 hR1
    obtain ⟨h0, h1, h2, h3, h4, _⟩ := hW4.g
    clear hW4
    by_cases hn2 : n' < 2
    case pos =>
      have k2 : (n' : Int) < 2 := by omega
      have hF := Lib.hid hW4H.out.bw
      go_wp2
      go_ret
      exact ⟨rfl, hF.out⟩
    case neg =>
      have k2 : ¬ ((n' : Int) < 2) := by omega
      obtain ⟨t, c, C, u1, u2, u3, u4, u5, u6, u7, u8, u9, u10, u11, u12, u13, u14⟩ := cut_nums x (show 2 ≤ n' by omega) hn9
      obtain ⟨v1, v2, v3, v4⟩ := part_wraps u14 rfl hfnH.out
      have m1 : ¬ ((n' : Int) - 1 = 0) := by omega
      have m2 : ¬ ((n' : Int) - 1 = -1) := by omega
      have hwA := Lib.hid (hcE.out f' C u13 (by omega))
      have hwB := Lib.hid (hcE.out (f' + C) (n' - C) (by omega) (by omega))
      have hEe : f' + C + (n' - C) = f' + n' := by omega
      rw [hEe, Int.natCast_add] at hwB
      obtain ⟨la, lb, pp1, pp2, pp3, pp4, pp5, pp6, pp7⟩ := parts_pure wd z f' u13 u14 hn9
      rw [hLH.out] at pp3 pp4 pp5
      rw [hnlH.out] at pp4 pp5
      obtain ⟨LA, hLA⟩ : ∃ LA, steps wd z (f' + C) f' C = LA := ⟨_, rfl⟩
      obtain ⟨LB, hLB⟩ : ∃ LB, steps wd z (f' + n') (f' + C) (n' - C) = LB := ⟨_, rfl⟩
      rw [hLA] at hwA pp1 pp3
      rw [hLB] at hwB pp2 pp3 pp5
      have hlaH := Lib.hid pp1
      have hlbH := Lib.hid pp2
      have hnnH := Lib.hid pp3
      have hlastH := Lib.hid pp5
      have hposH := Lib.hid (And.intro pp4 (And.intro pp6 (And.intro (show nl ≤ 16000 by omega) pp7)))
      clear hLA hLB hcE hEe pp1 pp2 pp3 pp4 pp5 pp6 pp7 hln
      have vH := Lib.hid (And.intro v1 (And.intro v2 (And.intro v3 v4)))
      clear v1 v2 v3 v4
      go_wp2_with fail
      (with_reducible refine (hwA.out _).mono ?_)
      rintro e w5 ⟨A2, cap2, rfl, hR2, hb5⟩
      have hW5 := hW4H.out.below hb5
      have hR1H5 := Lib.hid (hR1H.out.below hb5)
      have hR2H := Lib.hid hR2
      have hW5H := Lib.hid hW5
      rw [hlaH.out]
      clear h0 h1 h2 h3 h4 hb5 hR2 hW4H hR1H hwA
      obtain ⟨h0, h1, h2, h3, h4, _⟩ := hW5.g
      clear hW5 u1 u2 u3 u4 u5 u6 u7 u8 u9 u10 u11 u12 m1 m2
      obtain ⟨v1, v2, v3, v4⟩ := vH.out
      go_wp2_with fail
      (with_reducible refine (hwB.out _).mono ?_)
      rintro e w6 ⟨A3, cap3, rfl, hR3, hb6⟩
      have hW6 := hW5H.out.below hb6
      have hR1H6 := Lib.hid (hR1H5.out.below hb6)
      have hR2H6 := Lib.hid (hR2H.out.below hb6)
      have hR3H := Lib.hid hR3
      have hB6H := Lib.hid hW6.bw
      rw [hlbH.out]
      clear h0 h1 h2 h3 h4 hb6 hR3 hW5H hR2H hR1H5 hwB v1 v2 v3 v4 vH hW6
      obtain ⟨NL, hNL⟩ : ∃ NL, nn L = NL := ⟨_, rfl⟩
      have hnnq := hnnH.out
      rw [hNL] at hnnq
      have hNlen : NL.length ≤ 16000 := by rw [← hNL]; exact Nat.le_trans (nn_len L) (by rw [hnlH.out]; exact hposH.out.2.2.1)
      obtain ⟨kl, hkl⟩ : ∃ kl, NL.length = kl := ⟨_, rfl⟩
      have hw7 := Lib.hid (fun W (h : stE.In W A1 L) => without_any W A1 cap1 L h (by rw [hnlH.out]; exact hposH.out.2.2.1))
      rw [hNL, hnlH.out] at hw7
      have hw8 := Lib.hid (fun W A cap (h : stE.In W A (LA ++ LB)) => without_any W A cap (LA ++ LB) h (by rw [List.length_append, hlaH.out, hlbH.out]; exact hposH.out.2.2.2.2))
      rw [← hnnq] at hw8
      rw [List.length_append, hlaH.out, hlbH.out] at hw8
      have hcon := Lib.hid (fun W base A cap (l : List St) (h : stE.Row W base 76 A cap l) ad c2 (ys : List St) (hY : stE.In W (some ad) ys) hl hl2 hb => Enc.Row.concat (E := stE) (P := Try.prog) Try.underlying68 infoSt (by decide) (by decide) h (ad := ad) (c2 := c2) (ys := ys) hY hl hl2 hb 68)
      have hklH := Lib.hid hkl
      clear hnnq hNL hnnH
      rw [hkl] at hNlen
      clear hkl
      go_wp2_with fail
      (with_reducible refine (hw7.out _ hR1H6.out.in_).mono ?_)
      rintro e w7 ⟨A4, cap4, rfl, hR4, hb7⟩
      rw [hklH.out]
      have hR4H := Lib.hid hR4
      have hR1H7 := Lib.hid (hR1H6.out.below hb7)
      have hR2H7 := hR2H6.out.below hb7
      have hR3H7 := hR3H.out.below hb7
      have hB7 := bmore hB6H.out hb7
      obtain ⟨g2, hg2⟩ : ∃ g2, A2 = some ⟨g2, 0, none⟩ := by
        rcases hR2H7.form with ⟨_, _, h⟩ | ⟨g2, h, _⟩
        · have h1 := hlaH.out; rw [h] at h1; have h2 := hposH.out.2.1; simp at h1; omega
        · exact ⟨g2, h⟩
      obtain ⟨g3, hg3⟩ : ∃ g3, A3 = some ⟨g3, 0, none⟩ := by
        rcases hR3H7.form with ⟨_, _, h⟩ | ⟨g3, h, _⟩
        · have h1 := hlbH.out; rw [h] at h1; have h2 := hposH.out.2.2.2.1; simp at h1; omega
        · exact ⟨g3, h⟩
      subst hg2
      subst hg3
      have hA := (Below.refl w7.heap.size w7).alloc (Nat.le_refl _) (.cells #[] 76)
      have hE0 := empty_row w7 (Nat.le_refl w7.heap.size) 76
      obtain ⟨A5, cap5, W8, hrun8, hR8, hG8, _⟩ := hcon.out _ w7.heap.size _ 0 [] hE0 ⟨g2, 0, none⟩ cap2 LA (hR2H7.below hA).in_ (by simp) (by rw [hlaH.out]; have := hposH.out.2.2.2.2; omega) hA.size
      have hB8 : Below w7.heap.size w7 W8 := hA.trans (hE0.grown hG8 hA.size)
      obtain ⟨A6, cap6, W9, hrun9, hR9, hG9, _⟩ := hcon.out W8 w7.heap.size A5 cap5 LA hR8 ⟨g3, 0, none⟩ cap3 LB (hR3H7.below hB8).in_ (by rw [hlaH.out]; have := hposH.out.2.2.2.2; omega) (by rw [hlbH.out]; have := hposH.out.2.2.2.2; omega) hB8.size
      have hB9 : Below w7.heap.size w7 W9 := hB8.trans (hR8.grown hG9 hB8.size)
      simp only [List.length_nil, Nat.zero_add, List.nil_append, hlaH.out, hlbH.out] at hrun8 hR8 hrun9 hR9
      have hrr := Lib.hid hrun9
      have hrr := Lib.hid hrun8
      have hR9H := Lib.hid hR9
      have hR1H9 := Lib.hid (hR1H7.out.below hB9)
      have hR3H9 := Lib.hid (hR3H7.below hB9)
      have hR4H9 := Lib.hid (hR4H.out.below hB9)
      have hB9H := Lib.hid (bmore hB7 hB9)
      clear hrun8 hrun9 hR8 hR9 hG8 hG9 hE0 hA hB8 hB9 hR2H7 hR3H7 hB7 hb7 hR4 hR4H hR1H7 hR1H6 hR2H6 hR3H hB6H hw7
      go_wp2_with (at_builtin; refine append_run_wp rfl _ _ _ rfl rfl rfl hrr.out ?_; clear hrr)
      (with_reducible refine (hw8.out _ _ _ hR9H.out.in_).mono ?_)
      rintro e w10 ⟨A7, cap7, rfl, hR7, hb10⟩
      rw [hklH.out]
      have hR7H := Lib.hid hR7
      have hR1H10 := Lib.hid (hR1H9.out.below hb10)
      have hR3H10 := Lib.hid (hR3H9.out.below hb10)
      have hR4H10 := Lib.hid (hR4H9.out.below hb10)
      have hB10H := Lib.hid (bmore hB9H.out hb10)
      have heq := Lib.hid (fun W x => (st_eql W x x))
      clear hR7 hb10 hR1H9 hR3H9 hR4H9 hB9H hw8 hcon
      go_wp2_with fail
      go_loopw [19] (fun s wr => ∃ (i : Nat), s = .int .i64 (i : Int) ∧ i ≤ kl ∧ Hid (Below w10.heap.size w10 wr)) (fun s _ => kl - (intOf s).toNat)
      case atStart => exact ⟨0, rfl, Nat.zero_le _, Lib.hid (Below.refl _ _)⟩
      case round =>
        obtain ⟨i, rfl, hi, hbr⟩ := hrel
        by_cases hlt : i < kl
        case pos =>
          have hlt' : i < NL.length := by rw [hklH.out]; exact hlt
          obtain ⟨g4, rfl, hcap, a0, a1, a2, a3, a4⟩ := rst_at (hR4H10.out.below hbr.out) hlt'
          obtain ⟨g7, rfl, hcap', b0, b1, b2, b3, b4⟩ := rst_at (hR7H.out.below hbr.out) hlt'
          rw [hklH.out] at hcap hcap'
          have hTw : TwoSt wr g4 g7 (i * 5) NL[i] := ⟨a0, a1, a2, a3, a4, b0, b1, b2, b3, b4⟩
          obtain ⟨y, hy⟩ : ∃ y, NL[i] = y := ⟨_, rfl⟩
          rw [hy] at hTw
          have iw : IntKind.i64.wrap ((i : Int) + 1) = (i : Int) + 1 := IntWalk.i64_in _ (by omega)
          have heqx : ∀ W, (binOp .neq 76 (.agg #[.int .i64 y.k, .int .i64 y.s, .int .i64 y.r, .int .i64 y.b, .int .i64 y.c]) (.agg #[.int .i64 y.k, .int .i64 y.s, .int .i64 y.r, .int .i64 y.b, .int .i64 y.c])).run Try.prog W = .ok (.bool false) W := fun W => by rw [(heq.out W y).2, eqSt_self]; rfl
          clear a0 a1 a2 a3 a4 b0 b1 b2 b3 b4 hy
          go_upto_region 19 with fail
          have hS0 : TwoSt wr.drew g4 g7 (i * 5) y ∧ Below w10.heap.size w10 wr.drew := ⟨hTw, hbr.out.drew⟩
          refine region_anyC (fun _ => true) (fun W => TwoSt W g4 g7 (i * 5) y ∧ Below w10.heap.size w10 W) (by kernel_rfl) ?_
          refine anyL_take 0 (v := ?_) rfl (by kernel_rfl) (fun _ _ _ h => h) (Or.inl ⟨by rfl, ?_⟩) hS0 ?_
          rotate_left
          focus (intro W hW; go_simp; try with_reducible rfl)
          simp only [Act.put, List.setIfInBounds_toArray, List.set_cons_zero, List.set_cons_succ]
          refine anyL_take 1 (v := ?_) rfl (by kernel_rfl) (fun _ _ _ h => h) (Or.inl ⟨by rfl, ?_⟩) hS0 ?_
          rotate_left
          focus (intro W hW; go_simp; try with_reducible rfl)
          simp only [Act.put, List.setIfInBounds_toArray, List.set_cons_zero, List.set_cons_succ]
          refine anyL_take 2 (v := ?_) rfl (by kernel_rfl) (fun _ _ _ h => h) (Or.inl ⟨by rfl, ?_⟩) hS0 ?_
          rotate_left
          focus (intro W hW; go_simp; try with_reducible rfl)
          simp only [Act.put, List.setIfInBounds_toArray, List.set_cons_zero, List.set_cons_succ]
          refine anyL_take 3 (v := ?_) rfl (by kernel_rfl) (fun _ _ _ h => h) (Or.inl ⟨by rfl, ?_⟩) hS0 ?_
          rotate_left
          focus (intro W hW; obtain ⟨⟨x0, x1, x2, x3, x4, z0, z1, z2, z3, z4⟩, _⟩ := hW; go_simp; try with_reducible rfl)
          simp only [Act.put, List.setIfInBounds_toArray, List.set_cons_zero, List.set_cons_succ]
          refine anyL_take 4 (v := ?_) rfl (by kernel_rfl) (fun _ _ _ h => h) (Or.inl ⟨by rfl, ?_⟩) hS0 ?_
          rotate_left
          focus (intro W hW; go_simp; try with_reducible rfl)
          simp only [Act.put, List.setIfInBounds_toArray, List.set_cons_zero, List.set_cons_succ]
          refine anyL_take 5 (v := ?_) rfl (by kernel_rfl) (fun _ _ _ h => h) (Or.inl ⟨by rfl, ?_⟩) hS0 ?_
          rotate_left
          focus (intro W hW; go_simp; try with_reducible rfl)
          simp only [Act.put, List.setIfInBounds_toArray, List.set_cons_zero, List.set_cons_succ]
          refine anyL_take 6 (v := ?_) rfl (by kernel_rfl) (fun _ _ _ h => h) (Or.inl ⟨by rfl, ?_⟩) hS0 ?_
          rotate_left
          focus (intro W hW; go_simp; try with_reducible rfl)
          simp only [Act.put, List.setIfInBounds_toArray, List.set_cons_zero, List.set_cons_succ]
          refine anyL_take 7 (v := ?_) rfl (by kernel_rfl) (fun _ _ _ h => h) (Or.inl ⟨by rfl, ?_⟩) hS0 ?_
          rotate_left
          focus (intro W hW; obtain ⟨⟨x0, x1, x2, x3, x4, z0, z1, z2, z3, z4⟩, _⟩ := hW; go_simp; try with_reducible rfl)
          simp only [Act.put, List.setIfInBounds_toArray, List.set_cons_zero, List.set_cons_succ]
          refine anyL_take 8 (v := ?_) rfl (by kernel_rfl) (fun _ _ _ h => h) (Or.inl ⟨by rfl, ?_⟩) hS0 ?_
          rotate_left
          focus (intro W hW; have q := heqx W; go_simp; try with_reducible rfl)
          simp only [Act.put, List.setIfInBounds_toArray, List.set_cons_zero, List.set_cons_succ]
          refine anyC_done (by kernel_rfl) ?_ _
          clear hTw
          go_wp2_with fail
          go_roundw
          case rel => exact ⟨i + 1, by go_num, hlt, Lib.hid hbr.out.drew⟩
          case measure => simp [intOf]; omega
        case neg =>
          obtain ⟨p1, p2, p3, p4, p5⟩ := hposH.out
          have e1 : nl - 1 < L.length := by rw [hnlH.out]; omega
          have e3 : lb - 1 < LB.length := by rw [hlbH.out]; omega
          obtain ⟨g1, rfl, hcap1, a0, a1, a2, a3, a4⟩ := rst_at (hR1H10.out.below hbr.out) e1
          obtain ⟨g3', e', hcap3, b0, b1, b2, b3, b4⟩ := rst_at (hR3H10.out.below hbr.out) e3
          injection e' with e'
          injection e' with e'
          subst e'
          have hl := hlastH.out
          rw [List.getElem?_eq_getElem e1, List.getElem?_eq_getElem e3] at hl
          injection hl with hl
          rw [← hl] at b0 b1 b2 b3 b4
          rw [hnlH.out] at hcap1
          rw [hlbH.out] at hcap3
          obtain ⟨y, hy⟩ : ∃ y, L[nl - 1] = y := ⟨_, rfl⟩
          rw [hy] at a0 a1 a2 a3 a4 b0 b1 b2 b3 b4
          have heqx : ∀ W, (binOp .eql 76 (.agg #[.int .i64 y.k, .int .i64 y.s, .int .i64 y.r, .int .i64 y.b, .int .i64 y.c]) (.agg #[.int .i64 y.k, .int .i64 y.s, .int .i64 y.r, .int .i64 y.b, .int .i64 y.c])).run Try.prog W = .ok (.bool true) W := fun W => by rw [(heq.out W y).1, eqSt_self]
          have i1 : nl - 1 < nl := by omega
          have i3 : lb - 1 < lb := by omega
          obtain ⟨n1, n2⟩ := at_nums p1 p3
          obtain ⟨n3, n4⟩ := at_nums p4 (show lb ≤ 16000 by omega)
          obtain ⟨na, hna⟩ : ∃ na, nl - 1 = na := ⟨_, rfl⟩
          obtain ⟨nb, hnb⟩ : ∃ nb, lb - 1 = nb := ⟨_, rfl⟩
          rw [hna] at a0 a1 a2 a3 a4 n1 n2 i1
          rw [hnb] at b0 b1 b2 b3 b4 n3 n4 i3
          have hS1 := Lib.hid (And.intro (show EndSt wr.drew g1 g3 na nb y from ⟨⟨a0, a1, a2, a3, a4⟩, ⟨b0, b1, b2, b3, b4⟩⟩) (bmore hB10H.out hbr.out).drew)
          have l1 : (0 : Int) < (nl : Int) := by clear n1 n2 n3 n4; omega
          have l3 : (0 : Int) < (lb : Int) := by clear n1 n2 n3 n4; omega
          have l1' : 0 < nl := p1
          have l3' : 0 < lb := p4
          have l5 : decide (0 < nl) = true := decide_eq_true l1'
          have l6 : decide (0 < lb) = true := decide_eq_true l3'
          have l7 : decide ((0 : Int) < (nl : Int)) = true := decide_eq_true l1
          have l8 : decide ((0 : Int) < (lb : Int)) = true := decide_eq_true l3
          clear hl hy hna hnb e1 e3 a0 a1 a2 a3 a4 b0 b1 b2 b3 b4 p1 p2 p3 p4 p5
          go_upto_region 21 with fail
          have hS0 : EndSt wr.drew g1 g3 na nb y ∧ Below w.heap.size w wr.drew := ⟨hS1.out.1, hS1.out.2⟩
          refine region_anyC (fun _ => true) (fun W => EndSt W g1 g3 na nb y ∧ Below w.heap.size w W) (by kernel_rfl) ?_
          refine anyL_take 0 (v := ?_) rfl (by kernel_rfl) (fun _ _ _ h => h) (Or.inl ⟨by rfl, ?_⟩) hS0 ?_
          rotate_left
          focus (intro W hW; go_simp; try with_reducible rfl)
          simp only [Act.put, List.setIfInBounds_toArray, List.set_cons_zero, List.set_cons_succ]
          refine anyL_take 1 (v := ?_) rfl (by kernel_rfl) (fun _ _ _ h => h) (Or.inl ⟨by rfl, ?_⟩) hS0 ?_
          rotate_left
          focus (intro W hW; go_simp; try with_reducible rfl)
          simp only [Act.put, List.setIfInBounds_toArray, List.set_cons_zero, List.set_cons_succ]
          refine anyL_take 2 (v := ?_) rfl (by kernel_rfl) (fun _ _ _ h => h) (Or.inl ⟨by rfl, ?_⟩) hS0 ?_
          rotate_left
          focus (intro W hW; go_simp; try with_reducible rfl)
          simp only [Act.put, List.setIfInBounds_toArray, List.set_cons_zero, List.set_cons_succ]
          refine anyL_take 3 (v := ?_) rfl (by kernel_rfl) (fun _ _ _ h => h) (Or.inl ⟨by rfl, ?_⟩) hS0 ?_
          rotate_left
          focus (intro W hW; go_simp; try with_reducible rfl)
          simp only [Act.put, List.setIfInBounds_toArray, List.set_cons_zero, List.set_cons_succ]
          refine anyL_take 4 (v := ?_) rfl (by kernel_rfl) (fun _ _ _ h => h) (Or.inl ⟨by rfl, ?_⟩) hS0 ?_
          rotate_left
          focus (intro W hW; go_simp; try with_reducible rfl)
          simp only [Act.put, List.setIfInBounds_toArray, List.set_cons_zero, List.set_cons_succ]
          refine anyL_take 5 (v := ?_) rfl (by kernel_rfl) (fun _ _ _ h => h) (Or.inl ⟨by rfl, ?_⟩) hS0 ?_
          rotate_left
          focus (intro W hW; go_simp; try with_reducible rfl)
          simp only [Act.put, List.setIfInBounds_toArray, List.set_cons_zero, List.set_cons_succ]
          refine anyL_take 6 (v := ?_) rfl (by kernel_rfl) (fun _ _ _ h => h) (Or.inl ⟨by rfl, ?_⟩) hS0 ?_
          rotate_left
          focus (intro W hW; go_simp; try with_reducible rfl)
          simp only [Act.put, List.setIfInBounds_toArray, List.set_cons_zero, List.set_cons_succ]
          refine anyL_take 7 (v := ?_) rfl (by kernel_rfl) (fun _ _ _ h => h) (Or.inl ⟨by rfl, ?_⟩) hS0 ?_
          rotate_left
          focus (intro W hW; go_simp; try with_reducible rfl)
          simp only [Act.put, List.setIfInBounds_toArray, List.set_cons_zero, List.set_cons_succ]
          refine anyL_take 8 (v := ?_) rfl (by kernel_rfl) (fun _ _ _ h => h) (Or.inl ⟨by rfl, ?_⟩) hS0 ?_
          rotate_left
          focus (intro W hW; go_simp; try with_reducible rfl)
          simp only [Act.put, List.setIfInBounds_toArray, List.set_cons_zero, List.set_cons_succ]
          refine anyL_take 9 (v := ?_) rfl (by kernel_rfl) (fun _ _ _ h => h) (Or.inl ⟨by rfl, ?_⟩) hS0 ?_
          rotate_left
          focus (intro W hW; go_simp; try with_reducible rfl)
          simp only [Act.put, List.setIfInBounds_toArray, List.set_cons_zero, List.set_cons_succ]
          refine anyL_take 10 (v := ?_) rfl (by kernel_rfl) (fun _ _ _ h => h) (Or.inl ⟨by rfl, ?_⟩) hS0 ?_
          rotate_left
          focus (intro W hW; go_simp; try with_reducible rfl)
          simp only [Act.put, List.setIfInBounds_toArray, List.set_cons_zero, List.set_cons_succ]
          refine anyL_take 11 (v := ?_) rfl (by kernel_rfl) (fun _ _ _ h => h) (Or.inl ⟨by rfl, ?_⟩) hS0 ?_
          rotate_left
          focus (intro W hW; go_simp; try with_reducible rfl)
          simp only [Act.put, List.setIfInBounds_toArray, List.set_cons_zero, List.set_cons_succ]
          refine anyL_take 12 (v := ?_) rfl (by kernel_rfl) (fun _ _ _ h => h) (Or.inl ⟨by rfl, ?_⟩) hS0 ?_
          rotate_left
          focus (intro W hW; go_simp; try with_reducible rfl)
          simp only [Act.put, List.setIfInBounds_toArray, List.set_cons_zero, List.set_cons_succ]
          refine anyL_take 13 (v := ?_) rfl (by kernel_rfl) (fun _ _ _ h => h) (Or.inl ⟨by rfl, ?_⟩) hS0 ?_
          rotate_left
          focus (intro W hW; go_simp; try with_reducible rfl)
          simp only [Act.put, List.setIfInBounds_toArray, List.set_cons_zero, List.set_cons_succ]
          refine anyL_take 14 (v := ?_) rfl (by kernel_rfl) (fun _ _ _ h => h) (Or.inl ⟨by rfl, ?_⟩) hS0 ?_
          rotate_left
          focus (intro W hW; obtain ⟨⟨⟨x0, x1, x2, x3, x4⟩, ⟨z0, z1, z2, z3, z4⟩⟩, _⟩ := hW; go_simp; try with_reducible rfl)
          simp only [Act.put, List.setIfInBounds_toArray, List.set_cons_zero, List.set_cons_succ]
          refine anyL_take 15 (v := ?_) rfl (by kernel_rfl) (fun _ _ _ h => h) (Or.inl ⟨by rfl, ?_⟩) hS0 ?_
          rotate_left
          focus (intro W hW; go_simp; try with_reducible rfl)
          simp only [Act.put, List.setIfInBounds_toArray, List.set_cons_zero, List.set_cons_succ]
          refine anyL_take 16 (v := ?_) rfl (by kernel_rfl) (fun _ _ _ h => h) (Or.inl ⟨by rfl, ?_⟩) hS0 ?_
          rotate_left
          focus (intro W hW; go_simp; try with_reducible rfl)
          simp only [Act.put, List.setIfInBounds_toArray, List.set_cons_zero, List.set_cons_succ]
          refine anyL_take 17 (v := ?_) rfl (by kernel_rfl) (fun _ _ _ h => h) (Or.inl ⟨by rfl, ?_⟩) hS0 ?_
          rotate_left
          focus (intro W hW; go_simp; try with_reducible rfl)
          simp only [Act.put, List.setIfInBounds_toArray, List.set_cons_zero, List.set_cons_succ]
          refine anyL_take 18 (v := ?_) rfl (by kernel_rfl) (fun _ _ _ h => h) (Or.inl ⟨by rfl, ?_⟩) hS0 ?_
          rotate_left
          focus (intro W hW; go_simp; try with_reducible rfl)
          simp only [Act.put, List.setIfInBounds_toArray, List.set_cons_zero, List.set_cons_succ]
          refine anyL_take 19 (v := ?_) rfl (by kernel_rfl) (fun _ _ _ h => h) (Or.inl ⟨by rfl, ?_⟩) hS0 ?_
          rotate_left
          focus (intro W hW; go_simp; try with_reducible rfl)
          simp only [Act.put, List.setIfInBounds_toArray, List.set_cons_zero, List.set_cons_succ]
          refine anyL_take 20 (v := ?_) rfl (by kernel_rfl) (fun _ _ _ h => h) (Or.inl ⟨by rfl, ?_⟩) hS0 ?_
          rotate_left
          focus (intro W hW; obtain ⟨⟨⟨x0, x1, x2, x3, x4⟩, ⟨z0, z1, z2, z3, z4⟩⟩, _⟩ := hW; go_simp; try with_reducible rfl)
          simp only [Act.put, List.setIfInBounds_toArray, List.set_cons_zero, List.set_cons_succ]
          refine anyL_take 21 (v := ?_) rfl (by kernel_rfl) (fun _ _ _ h => h) (Or.inl ⟨by rfl, ?_⟩) hS0 ?_
          rotate_left
          focus (intro W hW; have q := heqx W; go_simp; try with_reducible rfl)
          simp only [Act.put, List.setIfInBounds_toArray, List.set_cons_zero, List.set_cons_succ]
          refine anyL_take 22 (v := ?_) rfl (by kernel_rfl) (fun _ _ _ h => h) (Or.inl ⟨by rfl, ?_⟩) hS0 ?_
          rotate_left
          focus (intro W hW; go_simp; try with_reducible rfl)
          simp only [Act.put, List.setIfInBounds_toArray, List.set_cons_zero, List.set_cons_succ]
          refine anyL_one 23 rfl (by kernel_rfl) (fun K hK => ?_)
          go_simp
          refine hK.out _ _ (fun _ => hS0) ?_
          clear hK K
          try simp only [Act.put, List.setIfInBounds_toArray, List.set_cons_zero, List.set_cons_succ]
          refine anyC_done (by kernel_rfl) ?_ _
          go_wp2
          go_ret
          exact ⟨rfl, hS0.2⟩
end Go.Proofs.Ytpgnajcbahklgaa
