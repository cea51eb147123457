/- MendMissing: the walk. -/
import Derived.Test.YtdnedahbghhpgaaMdP0
namespace Go.Proofs.Ytdnedahbghhpgaa
open Go.RowKit Tl Pl Md

set_option maxRecDepth 100000 in
set_option maxHeartbeats 4000000 in
theorem missing_law (w : World) (D Z B O A q0 q1 q2 q3 : Int) (Al : Option Addr) (cl : Nat) (ls : List Int) (hI : IntsIn w Al ls) :
    Calls Try.prog 8 #[.agg #[.int .i64 D, .int .i64 Z, .int .i64 B, .int .i64 O, .int .i64 A], .agg #[.int .i64 q0, .int .i64 q1, .int .i64 q2, .int .i64 q3], .slice Al ls.length cl] w fun e w' => e = .returned (.bool true) ∧ Below w.heap.size w w' := by
  have hN := Lib.hid (MeA.new w D Z B O A q0 q1 q2 q3)
  have hAH := Lib.hid (fun W (hb : Below w.heap.size w W) => hI.below hb)
  clear hI
  go_enter Try.func8, Try.ntmps8
  go_upto_region 1 with fail
  refine fresh_world (fun W => MeA w D Z B O A q0 q1 q2 q3 W) hN.out ?_
  clear hN
  rintro W1 h1
  have h1H := Lib.hid h1
  clear h1
  go_wp2_with fail
  (with_reducible refine (speaks15 _).mono ?_)
  rintro e w1 ⟨rfl, hb1⟩
  have h1 := h1H.out.below hb1
  obtain ⟨g0, g1, g2, g3, g4, _⟩ := h1.g
  have hG7 := GeoAt.new w1 D Z B O A 37
  have hM7 := h1.below ((Below.refl w1.heap.size w1).alloc (Nat.le_refl _) (.cells #[.int .i64 D, .int .i64 Z, .int .i64 B, .int .i64 O, .int .i64 A] 37))
  have hN7 := Lib.hid (⟨hM7, hG7⟩ : MeB w w1.heap.size D Z B O A q0 q1 q2 q3 _)
  clear h1H hb1 h1 hG7 hM7
  go_upto_region 4 with fail
  generalize w1.heap.size = s7 at hN7 ⊢
  refine fresh_world (fun W => MeB w s7 D Z B O A q0 q1 q2 q3 W) hN7.out ?_
  clear hN7 g0 g1 g2 g3 g4
  rintro w4 h4
  have h4H := Lib.hid h4
  obtain ⟨g0, g1, g2, g3, g4, _⟩ := h4.m.g
  have c1 := Lib.hid (fun W => refgood_any D Z B O A W)
  clear h4
  cases hg : goodB D Z B O A with
  | false =>
    rw [hg] at c1
    go_wp2_with fail
    (with_reducible refine (c1.out _).mono ?_)
    rintro e w2 ⟨rfl, hb2⟩
    have hF := Lib.hid (h4H.out.below hb2).m.bw
    clear h4H hb2 g0 g1 g2 g3 g4
    go_wp2_with fail
    go_ret
    exact ⟨rfl, hF.out⟩
  | true =>
    rw [hg] at c1
    have hgp := goodB_iff.1 hg
    obtain ⟨wd, hD⟩ : ∃ wd : Nat, D = (wd : Int) + 1 := ⟨(D - 1).toNat, by have := hgp.1; omega⟩
    have hw2 : 2 ≤ wd := by have := hgp.1; omega
    have hw15 : wd ≤ 15 := by have := hgp.2.1; omega
    have hB4 : 4 ≤ B ∧ B ≤ 256 := ⟨hgp.2.2.2.2.1, hgp.2.2.2.2.2.1⟩
    have hZ5 : 5 ≤ Z ∧ Z ≤ 64 := ⟨hgp.2.2.1, hgp.2.2.2.1⟩
    have hzn := Lib.hid (fun W => zones_any D Z B O A W)
    rw [zonesV_good hgp] at hzn
    obtain ⟨Zn, hZn⟩ : ∃ Zn, Z - 3 = Zn := ⟨_, rfl⟩
    rw [hZn] at hzn
    have hcp := Lib.hid (fun W => cap_any D Z B O A W)
    have hVb := capV_bd D Z B O A
    have hVe := capV_good hgp
    obtain ⟨V, hV⟩ : ∃ V, capV D Z B O A = V := ⟨_, rfl⟩
    rw [hV] at hcp hVb hVe
    obtain ⟨t1, z, x1, x2, x3, x4, x5, x6, x7, x8, x9⟩ := mod_more q0 (m := Zn) (by omega) (by omega)
    obtain ⟨t2, r, y1, y2, y3, y4, y5, y6, y7, y8, y9, y10, y11, y12, y13⟩ := mod_plus q1 (v := V) (by omega) (by omega)
    have hzZ : (z : Int) ≤ Z - 4 := by omega
    have hgpH := Lib.hid hgp
    have hDH := Lib.hid hD
    have hVeH := Lib.hid hVe
    have hVbH := Lib.hid hVb
    have hzZH := Lib.hid hzZ
    have hB4H := Lib.hid hB4
    have hyH := Lib.hid (And.intro y1 (And.intro y2 (And.intro y3 (And.intro y4 (And.intro y5 (And.intro y6 (And.intro y7 (And.intro y8 (And.intro y9 (And.intro y10 (And.intro y11 (And.intro y12 y13))))))))))))
    clear hgp hD hVe hV hVb hzZ hZn hB4 hZ5 y1 y2 y3 y4 y5 y6 y7 y8 y9 y10 y11 y12 y13
    go_wp2_with fail
    (with_reducible refine (c1.out _).mono ?_)
    rintro e w2 ⟨rfl, hb2⟩
    have h2 := h4H.out.below hb2
    clear h4H hb2 g0 g1 g2 g3 g4 c1
    have hS0 : (fun W => MeB w s7 D Z B O A q0 q1 q2 q3 W) w2.drew := h2.below (Below.refl _ _).drew
    have h2H := Lib.hid h2
    clear h2
    go_upto_region 6 with fail
    refine region_anyC (fun _ => true) (fun W => MeB w s7 D Z B O A q0 q1 q2 q3 W) (by kernel_rfl) ?_
    refine anyL_take 0 (v := ?_) rfl (by kernel_rfl) (fun _ _ _ h => h) (Or.inl ⟨by rfl, ?_⟩) hS0 ?_
    rotate_left
    focus (intro W hW; go_simp; try with_reducible rfl)
    simp only [Act.put, List.setIfInBounds_toArray, List.set_cons_zero, List.set_cons_succ]
    refine anyL_take 1 (v := ?_) rfl (by kernel_rfl) (fun _ _ _ h => h) (Or.inl ⟨by rfl, ?_⟩) hS0 ?_
    rotate_left
    focus (intro W hW; obtain ⟨⟨⟨g0, g1, g2, g3, g4, _⟩, a0, a1, a2, a3, _⟩, ⟨k0, k1, k2, k3, k4, _⟩⟩ := hW; go_simp; try with_reducible rfl)
    simp only [Act.put, List.setIfInBounds_toArray, List.set_cons_zero, List.set_cons_succ]
    refine anyL_take 2 (v := ?_) rfl (by kernel_rfl) (fun _ _ _ h => h) (Or.inl ⟨by rfl, ?_⟩) hS0 ?_
    rotate_left
    focus (intro W hW; obtain ⟨⟨⟨g0, g1, g2, g3, g4, _⟩, a0, a1, a2, a3, _⟩, ⟨k0, k1, k2, k3, k4, _⟩⟩ := hW; go_simp; try with_reducible rfl)
    simp only [Act.put, List.setIfInBounds_toArray, List.set_cons_zero, List.set_cons_succ]
    refine anyL_take 5 (v := ?_) rfl (by kernel_rfl) (fun _ _ _ h => h) (Or.inl ⟨by rfl, ?_⟩) hS0 ?_
    rotate_left
    focus (intro W hW; obtain ⟨⟨⟨g0, g1, g2, g3, g4, _⟩, a0, a1, a2, a3, _⟩, ⟨k0, k1, k2, k3, k4, _⟩⟩ := hW; go_simp; try with_reducible rfl)
    simp only [Act.put, List.setIfInBounds_toArray, List.set_cons_zero, List.set_cons_succ]
    refine anyL_take 8 (v := ?_) rfl (by kernel_rfl) (fun _ _ _ h => h) (Or.inl ⟨by rfl, ?_⟩) hS0 ?_
    rotate_left
    focus (intro W hW; obtain ⟨⟨⟨g0, g1, g2, g3, g4, _⟩, a0, a1, a2, a3, _⟩, ⟨k0, k1, k2, k3, k4, _⟩⟩ := hW; go_simp; try with_reducible rfl)
    simp only [Act.put, List.setIfInBounds_toArray, List.set_cons_zero, List.set_cons_succ]
    refine anyL_one 3 rfl (by kernel_rfl) (fun K hK => ?_)
    go_simp
    refine (hzn.out _).mono ?_
    rintro e' wz0 ⟨rfl, hbz0⟩
    have hS1 : (fun W => MeB w s7 D Z B O A q0 q1 q2 q3 W) wz0 := MeB.below hS0 hbz0
    clear hS0 hbz0
    refine hK.out _ _ (fun _ => hS1) ?_
    clear hK K
    try simp only [Act.put, List.setIfInBounds_toArray, List.set_cons_zero, List.set_cons_succ]
    refine anyL_take 4 (v := ?_) rfl (by kernel_rfl) (fun _ _ _ h => h) (Or.inl ⟨by rfl, ?_⟩) hS1 ?_
    rotate_left
    focus (intro W hW; go_simp; try with_reducible rfl)
    simp only [Act.put, List.setIfInBounds_toArray, List.set_cons_zero, List.set_cons_succ]
    refine anyL_one 6 rfl (by kernel_rfl) (fun K hK => ?_)
    go_simp
    refine (hzn.out _).mono ?_
    rintro e' wz1 ⟨rfl, hbz1⟩
    have hS2 : (fun W => MeB w s7 D Z B O A q0 q1 q2 q3 W) wz1 := MeB.below hS1 hbz1
    clear hS1 hbz1
    refine hK.out _ _ (fun _ => hS2) ?_
    clear hK K
    try simp only [Act.put, List.setIfInBounds_toArray, List.set_cons_zero, List.set_cons_succ]
    refine anyL_take 7 (v := ?_) rfl (by kernel_rfl) (fun _ _ _ h => h) (Or.inl ⟨by rfl, ?_⟩) hS2 ?_
    rotate_left
    focus (intro W hW; go_simp; try with_reducible rfl)
    simp only [Act.put, List.setIfInBounds_toArray, List.set_cons_zero, List.set_cons_succ]
    refine anyL_one 9 rfl (by kernel_rfl) (fun K hK => ?_)
    go_simp
    refine (hzn.out _).mono ?_
    rintro e' wz2 ⟨rfl, hbz2⟩
    have hS3 : (fun W => MeB w s7 D Z B O A q0 q1 q2 q3 W) wz2 := MeB.below hS2 hbz2
    clear hS2 hbz2
    refine hK.out _ _ (fun _ => hS3) ?_
    clear hK K
    try simp only [Act.put, List.setIfInBounds_toArray, List.set_cons_zero, List.set_cons_succ]
    refine anyL_take 10 (v := ?_) rfl (by kernel_rfl) (fun _ _ _ h => h) (Or.inl ⟨by rfl, ?_⟩) hS3 ?_
    rotate_left
    focus (intro W hW; go_simp; try with_reducible rfl)
    simp only [Act.put, List.setIfInBounds_toArray, List.set_cons_zero, List.set_cons_succ]
    refine anyL_take 11 (v := ?_) rfl (by kernel_rfl) (fun _ _ _ h => h) (Or.inl ⟨by rfl, ?_⟩) hS3 ?_
    rotate_left
    focus (intro W hW; go_simp; try with_reducible rfl)
    simp only [Act.put, List.setIfInBounds_toArray, List.set_cons_zero, List.set_cons_succ]
    refine anyC_done (by kernel_rfl) ?_ _
    have h6H := Lib.hid hS3
    clear hS3 h2H x1 x2 x4 x5 x6 x7 x8 x9 hzn
    obtain ⟨k0, k1, k2, k3, k4, _⟩ := h6H.out.c
    go_wp2_with fail
    (with_reducible refine (hcp.out _).mono ?_)
    rintro e w7 ⟨rfl, hb7⟩
    have h7 := h6H.out.below hb7
    clear h6H hb7 hcp k0 k1 k2 k3 k4
    obtain ⟨y1, y2, y3, y4, y5, y6, y7, y8, y9, y10, y11, y12, y13⟩ := hyH.out
    have a1 := h7.m.a1
    have h7H := Lib.hid h7
    clear h7
    go_upto_region 9 with fail
    clear y1 y2 y4 y5 y6 y7 y8 y9 y10 y11 y12 y13 hyH a1
    obtain ⟨t3, c, u1, u2, u3, u4, u5, u6, u7, u8, u9⟩ := mod_more q2 (m := D) (by have := hDH.out; omega) (by have := hDH.out; omega)
    have a2 := h7H.out.m.a2
    obtain ⟨g0, g1, g2, g3, g4, _⟩ := h7H.out.m.g
    have h7d := Lib.hid (fun k => h7H.out.below (below_drewN (Below.refl _ w7) k))
    clear h7H
    go_quiet (fail)
    go_upto_region 10 with fail
    refine fresh_world (fun W => MeB w s7 D Z B O A q0 q1 q2 q3 W) (h7d.out _) ?_
    clear h7d u1 u2 u4 u5 u6 u7 u8 u9 a2 g0 g1 g2 g3 g4
    rintro w9 h9
    have h9H := Lib.hid (fun W (hb : Below w9.heap.size w9 W) => h9.below hb)
    have hw9 : Hid (s7 < w9.heap.size) := Lib.hid h9.c.2.2.2.2.2
    obtain ⟨g0, g1, g2, g3, g4, _⟩ := h9.m.g
    clear h9
    go_wp2_with fail
    clear g0 g1 g2 g3 g4
    go_loopw [12, 13] (fun s ii wr => ∃ (i : Nat) (q : List Int) (A' : Option Addr) (cap' : Nat), ii = .int .i64 (i : Int) ∧ s = .slice A' i cap' ∧ i ≤ wd + 1 ∧ Hid (q.length = i) ∧ Hid (∀ x ∈ q, 0 ≤ x ∧ x ≤ B) ∧ Hid (inE.Row wr w9.heap.size 3 A' cap' q) ∧ Hid (Below w9.heap.size w9 wr)) (fun _ ii _ => wd + 1 - (intOf ii).toNat)
    case atStart => exact ⟨0, [], none, 0, rfl, rfl, Nat.zero_le _, Lib.hid rfl, Lib.hid (fun x hx => by cases hx), Lib.hid (Enc.Row.nil _ _ _), Lib.hid (Below.refl _ _)⟩
    case round =>
      obtain ⟨i, q, A', cap', rfl, rfl, hi, hql, hqr, hRr, hBr⟩ := hrel
      obtain ⟨g0, g1, g2, g3, g4, _⟩ := (h9H.out _ hBr.out).m.g
      by_cases hlt : i < wd + 1
      case neg =>
        have hnlt : ¬ (i : Int) < D := by have := hDH.out; omega
        have hie : i = wd + 1 := by omega
        have hDi : (i : Int) = D := by have := hDH.out; omega
        have hiH := Lib.hid hie
        have hm9 := h9H.out _ hBr.out
        have hsz9 := hBr.out.size
        go_upto_region 18 with fail
        refine fresh_world (fun W => MeB w s7 D Z B O A q0 q1 q2 q3 W ∧ inE.Row W w9.heap.size 3 A' cap' q ∧ w9.heap.size ≤ W.heap.size) ⟨hm9, hRr.out, hsz9⟩ ?_
        clear hm9 hsz9 hRr hBr h9H g0 g1 g2 g3 g4 hi hlt hnlt hie
        rintro w18 ⟨h18, r18, z18⟩
        have hb18 := (Below.refl w18.heap.size w18).alloc (Nat.le_refl _) (.cells #[] 3)
        have hemp := empty_int w18 (Nat.le_refl _)
        have hn0 : A' = none → cap' = 0 := fun e => by
          rcases r18.form with ⟨_, h, _⟩ | ⟨g, h, _⟩
          · exact h
          · rw [h] at e; cases e
        have hqlH := hql
        obtain ⟨A2, cap2, W2, hrun, hrow2, hgr2, hor2⟩ := ints_app hemp ((ints_of r18.in_).below hb18) hn0 (by rw [hql.out]; have := hiH.out; omega) (Nat.le_of_lt (by simp))
        rw [hql.out] at hrun
        have hb2 := hb18.trans (hemp.grown hgr2 (Nat.le_of_lt (by simp)))
        obtain ⟨g2, rfl, hg2, _⟩ : ∃ g, A2 = some ⟨g, 0, none⟩ ∧ w18.heap.size ≤ g ∧ True := by
          rcases hrow2.form with ⟨_, _, h⟩ | ⟨g, h, h', _⟩
          · exfalso
            have := hql.out
            rw [h, List.length_nil] at this
            have := hiH.out
            omega
          · exact ⟨g, h, h', trivial⟩
        have hA2 : Hid (∀ g, A' = some ⟨g, 0, none⟩ → g ≠ g2) := Lib.hid (fun g e e' => by
          rcases r18.form with ⟨h, _⟩ | ⟨g', h, _, h', _⟩
          · rw [h] at e; cases e
          · rw [h] at e; injection e with e; injection e with e; omega)
        have hfin := Lib.hid (⟨h18.below hb2, r18.below hb2, hrow2⟩ : (fun W => MeB w s7 D Z B O A q0 q1 q2 q3 W ∧ inE.Row W w9.heap.size 3 A' cap' q ∧ inE.Row W w18.heap.size 3 (some ⟨g2, 0, none⟩) cap2 q) W2)
        have h18s : Hid (s7 < w18.heap.size ∧ w.heap.size + 1 < w18.heap.size) := Lib.hid ⟨h18.c.2.2.2.2.2, lt_of_cell h18.m.a0⟩
        have hg2 := Lib.hid hg2
        have hrunH := Lib.hid hrun
        clear hrun h18 r18 hb18 hemp hn0 hrow2 hgr2 hor2 hb2
        go_upto_region 19 with (at_builtin; refine append_run_wp rfl _ _ _ rfl rfl rfl hrunH.out ?_; clear hrunH)
        refine fresh_world (fun W => MeB w s7 D Z B O A q0 q1 q2 q3 W ∧ inE.Row W w9.heap.size 3 A' cap' q ∧ inE.Row W w18.heap.size 3 (some ⟨g2, 0, none⟩) cap2 q) hfin.out ?_
        clear hfin
        rintro w19 h19
        obtain ⟨t6, k2, j1, j2, j3, j4, j5, j6, j7, j8, j9, j10, j11, j12, j13⟩ := mod_plus q3 (v := B) (by have := hB4H.out; omega) (by have := hB4H.out; omega)
        have hS0 : (fun W => MeB w s7 D Z B O A q0 q1 q2 q3 W) w19.drew := h19.1.below (Below.refl _ _).drew
        have hci : c < i := by omega
        refine region_anyC (fun _ => true) (fun W => MeB w s7 D Z B O A q0 q1 q2 q3 W) (by kernel_rfl) ?_
        refine anyL_take 0 (v := ?_) rfl (by kernel_rfl) (fun _ _ _ h => h) (Or.inl ⟨by rfl, ?_⟩) hS0 ?_
        rotate_left
        focus (intro W hW; go_simp; try with_reducible rfl)
        simp only [Act.put, List.setIfInBounds_toArray, List.set_cons_zero, List.set_cons_succ]
        refine anyL_take 1 (v := ?_) rfl (by kernel_rfl) (fun _ _ _ h => h) (Or.inl ⟨by rfl, ?_⟩) hS0 ?_
        rotate_left
        focus (intro W hW; go_simp; try with_reducible rfl)
        simp only [Act.put, List.setIfInBounds_toArray, List.set_cons_zero, List.set_cons_succ]
        refine anyL_take 2 (v := ?_) rfl (by kernel_rfl) (fun _ _ _ h => h) (Or.inl ⟨by rfl, ?_⟩) hS0 ?_
        rotate_left
        focus (intro W hW; go_simp; try with_reducible rfl)
        simp only [Act.put, List.setIfInBounds_toArray, List.set_cons_zero, List.set_cons_succ]
        refine anyL_take 3 (v := ?_) rfl (by kernel_rfl) (fun _ _ _ h => h) (Or.inl ⟨by rfl, ?_⟩) hS0 ?_
        rotate_left
        focus (intro W hW; obtain ⟨⟨⟨g0, g1, g2', g3, g4, _⟩, a0, a1, a2, a3, _⟩, _⟩ := hW; go_simp; try with_reducible rfl)
        simp only [Act.put, List.setIfInBounds_toArray, List.set_cons_zero, List.set_cons_succ]
        refine anyL_take 4 (v := ?_) rfl (by kernel_rfl) (fun _ _ _ h => h) (Or.inl ⟨by rfl, ?_⟩) hS0 ?_
        rotate_left
        focus (intro W hW; go_simp; try with_reducible rfl)
        simp only [Act.put, List.setIfInBounds_toArray, List.set_cons_zero, List.set_cons_succ]
        refine anyL_take 5 (v := ?_) rfl (by kernel_rfl) (fun _ _ _ h => h) (Or.inl ⟨by rfl, ?_⟩) hS0 ?_
        rotate_left
        focus (intro W hW; obtain ⟨⟨⟨g0, g1, g2', g3, g4, _⟩, a0, a1, a2, a3, _⟩, _⟩ := hW; go_simp; try with_reducible rfl)
        simp only [Act.put, List.setIfInBounds_toArray, List.set_cons_zero, List.set_cons_succ]
        refine anyL_take 6 (v := ?_) rfl (by kernel_rfl) (fun _ _ _ h => h) (Or.inl ⟨by rfl, ?_⟩) hS0 ?_
        rotate_left
        focus (intro W hW; go_simp; try with_reducible rfl)
        simp only [Act.put, List.setIfInBounds_toArray, List.set_cons_zero, List.set_cons_succ]
        refine anyL_take 7 (v := ?_) rfl (by kernel_rfl) (fun _ _ _ h => h) (Or.inl ⟨by rfl, ?_⟩) hS0 ?_
        rotate_left
        focus (intro W hW; go_simp; try with_reducible rfl)
        simp only [Act.put, List.setIfInBounds_toArray, List.set_cons_zero, List.set_cons_succ]
        refine anyL_take 8 (v := ?_) rfl (by kernel_rfl) (fun _ _ _ h => h) (Or.inl ⟨by rfl, ?_⟩) hS0 ?_
        rotate_left
        focus (intro W hW; go_simp; try with_reducible rfl)
        simp only [Act.put, List.setIfInBounds_toArray, List.set_cons_zero, List.set_cons_succ]
        refine anyL_take 9 (v := ?_) rfl (by kernel_rfl) (fun _ _ _ h => h) (Or.inl ⟨by rfl, ?_⟩) hS0 ?_
        rotate_left
        focus (intro W hW; obtain ⟨⟨⟨g0, g1, g2', g3, g4, _⟩, a0, a1, a2, a3, _⟩, _⟩ := hW; go_simp; try with_reducible rfl)
        simp only [Act.put, List.setIfInBounds_toArray, List.set_cons_zero, List.set_cons_succ]
        refine anyL_take 10 (v := ?_) rfl (by kernel_rfl) (fun _ _ _ h => h) (Or.inl ⟨by rfl, ?_⟩) hS0 ?_
        rotate_left
        focus (intro W hW; go_simp; try with_reducible rfl)
        simp only [Act.put, List.setIfInBounds_toArray, List.set_cons_zero, List.set_cons_succ]
        refine anyL_take 11 (v := ?_) rfl (by kernel_rfl) (fun _ _ _ h => h) (Or.inl ⟨by rfl, ?_⟩) hS0 ?_
        rotate_left
        focus (intro W hW; go_simp; try with_reducible rfl)
        simp only [Act.put, List.setIfInBounds_toArray, List.set_cons_zero, List.set_cons_succ]
        refine anyL_take 12 (v := ?_) rfl (by kernel_rfl) (fun _ _ _ h => h) (Or.inl ⟨by rfl, ?_⟩) hS0 ?_
        rotate_left
        focus (intro W hW; go_simp; try with_reducible rfl)
        simp only [Act.put, List.setIfInBounds_toArray, List.set_cons_zero, List.set_cons_succ]
        refine anyL_take 13 (v := ?_) rfl (by kernel_rfl) (fun _ _ _ h => h) (Or.inl ⟨by rfl, ?_⟩) hS0 ?_
        rotate_left
        focus (intro W hW; obtain ⟨⟨⟨g0, g1, g2', g3, g4, _⟩, a0, a1, a2, a3, _⟩, _⟩ := hW; go_simp; try with_reducible rfl)
        simp only [Act.put, List.setIfInBounds_toArray, List.set_cons_zero, List.set_cons_succ]
        refine anyL_take 14 (v := ?_) rfl (by kernel_rfl) (fun _ _ _ h => h) (Or.inl ⟨by rfl, ?_⟩) hS0 ?_
        rotate_left
        focus (intro W hW; go_simp; try with_reducible rfl)
        simp only [Act.put, List.setIfInBounds_toArray, List.set_cons_zero, List.set_cons_succ]
        refine anyL_take 15 (v := ?_) rfl (by kernel_rfl) (fun _ _ _ h => h) (Or.inl ⟨by rfl, ?_⟩) hS0 ?_
        rotate_left
        focus (intro W hW; go_simp; try with_reducible rfl)
        simp only [Act.put, List.setIfInBounds_toArray, List.set_cons_zero, List.set_cons_succ]
        refine anyL_take 16 (v := ?_) rfl (by kernel_rfl) (fun _ _ _ h => h) (Or.inl ⟨by rfl, ?_⟩) hS0 ?_
        rotate_left
        focus (intro W hW; go_simp; try with_reducible rfl)
        simp only [Act.put, List.setIfInBounds_toArray, List.set_cons_zero, List.set_cons_succ]
        have hB2 := h19.2.2
        obtain ⟨_, eg, _, hgl, _, hcell, hfr⟩ := hB2.at_ (i := c) (by rw [hqlH.out]; omega)
        injection eg with eg; injection eg with eg; subst eg
        have e0 := hcell 0 (by decide)
        rw [show c * inE.k + 0 = c by show c * 1 + 0 = c; omega] at e0
        have hfc := hfr c
        have hset := hB2.store (i := c) (by rw [hqlH.out]; omega) (k2 : Int)
        have ee : Enc.storeAt w19 g2 (c * inE.k) (inE.c (k2 : Int)) = w19.setCell ⟨g2, c, none⟩ (.int .i64 (k2 : Int)) := by
          show w19.setCell ⟨g2, c * 1, none⟩ _ = _
          rw [Nat.mul_one]
        rw [ee] at hset
        have hne : ∀ g, A' = some ⟨g, 0, none⟩ → some g2 ≠ some g := fun g e e' => by
          injection e' with e'
          exact hA2.out g e e'.symm
        have hlow : Below w18.heap.size w19 (w19.setCell ⟨g2, c, none⟩ (.int .i64 (k2 : Int))) := (Below.refl _ _).setCell hg2.out _
        have hAr := h19.2.1.far (grownV w19 g2 c (.int .i64 (k2 : Int))) hne
        have hMB := h19.1.low hlow h18s.out.1 h18s.out.2
        clear hB2 hcell hfr ee hne hlow hS0 h19
        refine anyL_one 17 rfl (by kernel_rfl) (fun K hK => ?_)
        go_simp
        have hS1 : (fun W => MeB w s7 D Z B O A q0 q1 q2 q3 W ∧ inE.Row W w9.heap.size 3 A' cap' q ∧ inE.Row W w18.heap.size 3 (some ⟨g2, 0, none⟩) cap2 (q.set c (k2 : Int))) ((w19.setCell ⟨g2, c, none⟩ (.int .i64 (k2 : Int))).drew) := ⟨hMB.below (Below.refl _ _).drew, hAr.below (Below.refl _ _).drew, hset.below (Below.refl _ _).drew⟩
        refine hK.out _ _ (fun _ => hS1.1) ?_
        clear hK K e0 hfc hgl hset hMB hAr
        refine anyC_done (by kernel_rfl) ?_ _
        generalize (w19.setCell ⟨g2, c, none⟩ (.int .i64 (k2 : Int))).drew = w20 at hS1 ⊢
        clear j1 j2 j4 j5 j6 j7 j8 j9 j10 j11 j12 j13
        have hqs : (q.set c (k2 : Int)).length = i := by rw [List.length_set]; exact hqlH.out
        have hqsr : ∀ x ∈ q.set c (k2 : Int), 0 ≤ x ∧ x ≤ B := fun x hx => by
          rcases List.mem_or_eq_of_mem_set hx with h | h
          · exact hqr.out x h
          · rw [h]; exact ⟨by omega, j3⟩
        have hok : ∀ l : List Int, l.length = i → (∀ x ∈ l, 0 ≤ x ∧ x ≤ B) → ∀ m : Int, -1 ≤ m → m < D → okB D B ⟨l, m, []⟩ = true := fun l h1 h2 m h3 h4 => decide_eq_true ⟨by rw [← hDi, h1], h3, h4, h2⟩
        have hrV : (r : Int) ≤ (D - 1) * B := by rw [← hVeH.out]; exact y3
        have hdec := Lib.hid (fun W A2 c2 (l : List Int) (m : Int) (h1 : l.length = i) (h2 : okB D B ⟨l, m, []⟩ = true) (h3 : IntsIn W A2 l) => (by
          have := dec_good wd z r D Z B O A hDH.out A2 c2 l m W hgpH.out hzZH.out hrV h2 h3
          rw [h1] at this
          exact this : Calls Try.prog 24 #[.agg #[.int .i64 D, .int .i64 Z, .int .i64 B, .int .i64 O, .int .i64 A], .int .i64 (z : Int), .int .i64 (r : Int), .slice A2 i c2, .int .i64 m] W (DcPost W (decV (lens wd z r) l m (wd + 1) (r : Int) (((r / wd : Nat) : Int) - 1) (parV D Z B O A (z : Int) (((r / wd : Nat) : Int) - 1))) 0)))
        have hln := Lib.hid (fun W => lengths_good wd z r D Z B O A hDH.out W hgpH.out hzZH.out hrV)
        have hok1 := Lib.hid (hok q hqlH.out hqr.out (c : Int) (by omega) (by omega))
        have hok2 := Lib.hid (hok _ hqs hqsr (c : Int) (by omega) (by omega))
        have hwb : ∀ x ∈ lens wd z r, 0 ≤ x ∧ x ≤ B := fun x hx => by
          obtain ⟨s, hs, rfl⟩ := List.getElem_of_mem hx
          rw [lens_at hs]
          exact ⟨Int.le_trans (Int.natCast_nonneg _) (len_bd wd z r (s : Int)).1, len_rows (by omega) (by rw [hDH.out, show (wd : Int) + 1 - 1 = (wd : Int) by omega] at hrV; exact hrV) (s : Int)⟩
        have hok3 := Lib.hid (hok (lens wd z r) (by rw [lens_len]; exact hiH.out.symm) hwb (-1) (by omega) (by omega))
        have hds := Lib.hid (fun told row par => dec_set (want := lens wd z r) (ls := q) (m := c) (n := wd + 1) (x := (k2 : Int)) (told := told) (row := row) (par := par))
        have hqsH := Lib.hid hqs
        clear hok hrV hwb hqs hqsr hqr
        obtain ⟨hM20, hA20, hB20⟩ := hS1
        have hd1 := Lib.hid (hdec.out w20 A' cap' q (c : Int) hqlH.out hok1.out (ints_of hA20.in_))
        have hMH := Lib.hid hM20
        have hBH := Lib.hid (ints_of hB20.in_)
        obtain ⟨k0, k1, k2', k3, k4, _⟩ := hM20.c
        clear hM20 hA20 hB20 hA2 h18s hg2
        go_wp2_with fail
        (with_reducible refine hd1.out.mono ?_)
        rintro e w21 ⟨rfl, hb21⟩
        have hM := hMH.out.below hb21
        have hBI := hBH.out.below hb21
        clear hd1 hMH hBH hb21 k0 k1 k2' k3 k4
        have hdq := hds.out (r : Int) (((r / wd : Nat) : Int) - 1) (parV D Z B O A (z : Int) (((r / wd : Nat) : Int) - 1))
        obtain ⟨d1, hd1⟩ : ∃ d, decV (lens wd z r) q (c : Int) (wd + 1) (r : Int) (((r / wd : Nat) : Int) - 1) (parV D Z B O A (z : Int) (((r / wd : Nat) : Int) - 1)) = d := ⟨_, rfl⟩
        rw [hd1] at hdq ⊢
        have hdqH := Lib.hid hdq
        clear hd1 hdq hds
        have ha := (Below.refl w21.heap.size w21).alloc (Nat.le_refl _) (.cells #[.int .i64 d1.k, .int .i64 d1.s, .int .i64 d1.r] 70)
        have hfin := Lib.hid (⟨hM.below ha, hBI.below ha, World.alloc_heap_new w21 (.cells #[.int .i64 d1.k, .int .i64 d1.s, .int .i64 d1.r] 70)⟩ : MeB w s7 D Z B O A q0 q1 q2 q3 (w21.alloc (.cells #[.int .i64 d1.k, .int .i64 d1.s, .int .i64 d1.r] 70)) ∧ IntsIn (w21.alloc (.cells #[.int .i64 d1.k, .int .i64 d1.s, .int .i64 d1.r] 70)) (some ⟨g2, 0, none⟩) (q.set c (k2 : Int)) ∧ _)
        clear hM hBI ha
        go_upto_region 21 with fail
        generalize w21.heap.size = s16 at hfin ⊢
        refine fresh_world (fun W => MeB w s7 D Z B O A q0 q1 q2 q3 W ∧ IntsIn W (some ⟨g2, 0, none⟩) (q.set c (k2 : Int)) ∧ W.heap[s16]? = some (.cells #[.int .i64 d1.k, .int .i64 d1.s, .int .i64 d1.r] 70 (0, 0))) hfin.out ?_
        clear hfin
        rintro w22 ⟨hM, hBI, hD1⟩
        have hd2 := Lib.hid (hdec.out w22 (some ⟨g2, 0, none⟩) cap2 _ (c : Int) hqsH.out hok2.out hBI)
        rw [hdqH.out] at hd2
        obtain ⟨k0, k1, k2', k3, k4, _⟩ := hM.c
        have hMH := Lib.hid hM
        have hD1H := Lib.hid (fun W (hb : Below w22.heap.size w22 W) => (hb.block _ (Array.getElem?_eq_some_iff.1 hD1).1).trans hD1)
        clear hM hBI hD1
        go_wp2_with fail
        (with_reducible refine hd2.out.mono ?_)
        rintro e w23 ⟨rfl, hb23⟩
        have hM := hMH.out.below hb23
        have hD1 := hD1H.out _ hb23
        clear hd2 hMH hD1H hb23 k0 k1 k2' k3 k4
        have ha := (Below.refl w23.heap.size w23).alloc (Nat.le_refl _) (.cells #[.int .i64 d1.k, .int .i64 d1.s, .int .i64 d1.r] 70)
        have hfin := Lib.hid (⟨hM.below ha, (ha.block _ (Array.getElem?_eq_some_iff.1 hD1).1).trans hD1, World.alloc_heap_new w23 (.cells #[.int .i64 d1.k, .int .i64 d1.s, .int .i64 d1.r] 70)⟩ : MeB w s7 D Z B O A q0 q1 q2 q3 (w23.alloc (.cells #[.int .i64 d1.k, .int .i64 d1.s, .int .i64 d1.r] 70)) ∧ _ ∧ _)
        clear hM hD1 ha
        go_upto_region 22 with fail
        generalize w23.heap.size = s18 at hfin ⊢
        refine fresh_world (fun W => MeB w s7 D Z B O A q0 q1 q2 q3 W ∧ W.heap[s16]? = some (.cells #[.int .i64 d1.k, .int .i64 d1.s, .int .i64 d1.r] 70 (0, 0)) ∧ W.heap[s18]? = some (.cells #[.int .i64 d1.k, .int .i64 d1.s, .int .i64 d1.r] 70 (0, 0))) hfin.out ?_
        clear hfin
        rintro w24 h24
        have hS : (fun W => MeB w s7 D Z B O A q0 q1 q2 q3 W ∧ W.heap[s16]? = some (.cells #[.int .i64 d1.k, .int .i64 d1.s, .int .i64 d1.r] 70 (0, 0)) ∧ W.heap[s18]? = some (.cells #[.int .i64 d1.k, .int .i64 d1.s, .int .i64 d1.r] 70 (0, 0))) w24.drew := ⟨h24.1.below (Below.refl _ _).drew, h24.2⟩
        clear h24
        refine region_anyC (fun _ => true) (fun W => MeB w s7 D Z B O A q0 q1 q2 q3 W ∧ W.heap[s16]? = some (.cells #[.int .i64 d1.k, .int .i64 d1.s, .int .i64 d1.r] 70 (0, 0)) ∧ W.heap[s18]? = some (.cells #[.int .i64 d1.k, .int .i64 d1.s, .int .i64 d1.r] 70 (0, 0))) (by kernel_rfl) ?_
        generalize w24.drew = wa at hS ⊢
        refine anyL_take 0 (v := ?_) rfl (by kernel_rfl) (fun _ _ _ h => h) (Or.inl ⟨by rfl, ?_⟩) hS ?_
        rotate_left
        focus (intro W hW; obtain ⟨⟨_, ⟨k0, k1, k2', k3, k4, _⟩⟩, _, _⟩ := hW; go_simp; try with_reducible rfl)
        simp only [Act.put, List.setIfInBounds_toArray, List.set_cons_zero, List.set_cons_succ]
        refine anyL_take 1 (v := ?_) rfl (by kernel_rfl) (fun _ _ _ h => h) (Or.inl ⟨by rfl, ?_⟩) hS ?_
        rotate_left
        focus (intro W hW; go_simp; try with_reducible rfl)
        simp only [Act.put, List.setIfInBounds_toArray, List.set_cons_zero, List.set_cons_succ]
        refine anyL_take 2 (v := ?_) rfl (by kernel_rfl) (fun _ _ _ h => h) (Or.inl ⟨by rfl, ?_⟩) hS ?_
        rotate_left
        focus (intro W hW; go_simp; try with_reducible rfl)
        simp only [Act.put, List.setIfInBounds_toArray, List.set_cons_zero, List.set_cons_succ]
        refine anyL_take 3 (v := ?_) rfl (by kernel_rfl) (fun _ _ _ h => h) (Or.inl ⟨by rfl, ?_⟩) hS ?_
        rotate_left
        focus (intro W hW; obtain ⟨⟨_, ⟨k0, k1, k2', k3, k4, _⟩⟩, _, _⟩ := hW; go_simp; try with_reducible rfl)
        simp only [Act.put, List.setIfInBounds_toArray, List.set_cons_zero, List.set_cons_succ]
        refine anyL_take 4 (v := ?_) rfl (by kernel_rfl) (fun _ _ _ h => h) (Or.inl ⟨by rfl, ?_⟩) hS ?_
        rotate_left
        focus (intro W hW; go_simp; try with_reducible rfl)
        simp only [Act.put, List.setIfInBounds_toArray, List.set_cons_zero, List.set_cons_succ]
        refine anyL_take 5 (v := ?_) rfl (by kernel_rfl) (fun _ _ _ h => h) (Or.inl ⟨by rfl, ?_⟩) hS ?_
        rotate_left
        focus (intro W hW; go_simp; try with_reducible rfl)
        simp only [Act.put, List.setIfInBounds_toArray, List.set_cons_zero, List.set_cons_succ]
        refine anyL_two 6 11 rfl rfl (by kernel_rfl) (fun K hK => ?_) (fun K hK => ?_)
        case refine_1 =>
          go_simp
          refine (hln.out _).mono ?_
          rintro e' wax ⟨G, rfl, hrep, _, hb⟩
          have hS' : (fun W => MeB w s7 D Z B O A q0 q1 q2 q3 W ∧ W.heap[s16]? = some (.cells #[.int .i64 d1.k, .int .i64 d1.s, .int .i64 d1.r] 70 (0, 0)) ∧ W.heap[s18]? = some (.cells #[.int .i64 d1.k, .int .i64 d1.s, .int .i64 d1.r] 70 (0, 0))) wax := ⟨hS.1.below hb, (hb.block _ (Array.getElem?_eq_some_iff.1 hS.2.1).1).trans hS.2.1, (hb.block _ (Array.getElem?_eq_some_iff.1 hS.2.2).1).trans hS.2.2⟩
          have hI3 := rep_ints hrep
          clear hrep
          refine hK.out _ _ (fun _ => hS') ?_
          clear hK K hS hb
          have hS := hS'
          clear hS'
          try simp only [Act.put, List.setIfInBounds_toArray, List.set_cons_zero, List.set_cons_succ]
          refine anyL_two 7 11 rfl rfl (by kernel_rfl) (fun K hK => ?_) (fun K hK => ?_)
          case refine_1 =>
            go_simp
            have hd3 := hdec.out wax (some ⟨G, 0, none⟩) (wd + 1) _ (-1) (by rw [lens_len]; exact hiH.out.symm) hok3.out hI3
            rw [dec_self, hiH.out] at hd3
            refine hd3.mono ?_
            clear hd3
            rintro e' waxx ⟨rfl, hb⟩
            have hS' : (fun W => MeB w s7 D Z B O A q0 q1 q2 q3 W ∧ W.heap[s16]? = some (.cells #[.int .i64 d1.k, .int .i64 d1.s, .int .i64 d1.r] 70 (0, 0)) ∧ W.heap[s18]? = some (.cells #[.int .i64 d1.k, .int .i64 d1.s, .int .i64 d1.r] 70 (0, 0))) waxx := ⟨hS.1.below hb, (hb.block _ (Array.getElem?_eq_some_iff.1 hS.2.1).1).trans hS.2.1, (hb.block _ (Array.getElem?_eq_some_iff.1 hS.2.2).1).trans hS.2.2⟩
            refine hK.out _ _ (fun _ => hS') ?_
            clear hK K hS hb hI3
            have hS := hS'
            clear hS'
            refine anyL_take 8 (v := ?_) rfl (by kernel_rfl) (fun _ _ _ h => h) (Or.inl ⟨by rfl, ?_⟩) hS ?_
            rotate_left
            focus (intro W hW; go_simp; try with_reducible rfl)
            simp only [Act.put, List.setIfInBounds_toArray, List.set_cons_zero, List.set_cons_succ]
            refine anyL_take 9 (v := ?_) rfl (by kernel_rfl) (fun _ _ _ h => h) (Or.inl ⟨by rfl, ?_⟩) hS ?_
            rotate_left
            focus (intro W hW; go_simp; try with_reducible rfl)
            simp only [Act.put, List.setIfInBounds_toArray, List.set_cons_zero, List.set_cons_succ]
            refine anyL_take 10 (v := ?_) rfl (by kernel_rfl) (fun _ _ _ h => h) (Or.inl ⟨by rfl, ?_⟩) hS ?_
            rotate_left
            focus (intro W hW; go_simp; try with_reducible rfl)
            simp only [Act.put, List.setIfInBounds_toArray, List.set_cons_zero, List.set_cons_succ]
            refine anyL_one 11 rfl (by kernel_rfl) (fun K hK => ?_)
            go_simp
            have ha := (Below.refl waxx.heap.size waxx).alloc (Nat.le_refl _) (.cells #[.int .i64 0, .int .i64 0, .int .i64 0] 70)
            have hn := World.alloc_heap_new waxx (.cells #[.int .i64 0, .int .i64 0, .int .i64 0] 70)
            have hlt : s16 < waxx.heap.size ∧ s18 < waxx.heap.size ∧ s7 < waxx.heap.size ∧ w.heap.size + 1 < waxx.heap.size := ⟨(Array.getElem?_eq_some_iff.1 hS.2.1).1, (Array.getElem?_eq_some_iff.1 hS.2.2).1, hS.1.c.2.2.2.2.2, lt_of_cell hS.1.m.a0⟩
            have hS' : (fun W => MeB w s7 D Z B O A q0 q1 q2 q3 W ∧ W.heap[s16]? = some (.cells #[.int .i64 d1.k, .int .i64 d1.s, .int .i64 d1.r] 70 (0, 0)) ∧ W.heap[s18]? = some (.cells #[.int .i64 d1.k, .int .i64 d1.s, .int .i64 d1.r] 70 (0, 0))) (waxx.alloc (.cells #[.int .i64 0, .int .i64 0, .int .i64 0] 70)) := ⟨hS.1.below ha, (ha.block _ (Array.getElem?_eq_some_iff.1 hS.2.1).1).trans hS.2.1, (ha.block _ (Array.getElem?_eq_some_iff.1 hS.2.2).1).trans hS.2.2⟩
            generalize waxx.alloc (.cells #[.int .i64 0, .int .i64 0, .int .i64 0] 70) = waxxx at hS' hn ⊢
            generalize waxx.heap.size = s20 at hn hlt ⊢
            refine hK.out _ _ (fun _ => hS') ?_
            clear hK K hS ha
            have hS := hS'
            clear hS'
            try simp only [Act.put, List.setIfInBounds_toArray, List.set_cons_zero, List.set_cons_succ]
            have zf : ∀ j, waxxx.frozen? ⟨s20, j, none⟩ = false := fun j => by simp [World.frozen?, hn]
            have z0 : waxxx.cell? ⟨s20, 0, none⟩ = some (.int .i64 0) := cell_of_row waxxx _ 0 _ _ _ hn
            have z1 : waxxx.cell? ⟨s20, 1, none⟩ = some (.int .i64 0) := cell_of_row waxxx _ 1 _ _ _ hn
            have z2 : waxxx.cell? ⟨s20, 2, none⟩ = some (.int .i64 0) := cell_of_row waxxx _ 2 _ _ _ hn
            have zl := lt_of_cell z0
            have hn2 := heap_setV (heap_setV (heap_setV hn 0 (.int .i64 0)) 1 (.int .i64 0)) 2 (.int .i64 0)
            have hlow := (((Below.refl s20 waxxx).setCell (p := ⟨s20, 0, none⟩) (Nat.le_refl _) (.int .i64 0)).setCell (p := ⟨s20, 1, none⟩) (Nat.le_refl _) (.int .i64 0)).setCell (p := ⟨s20, 2, none⟩) (Nat.le_refl _) (.int .i64 0)
            have hS4 : (fun W => MeB w s7 D Z B O A q0 q1 q2 q3 W ∧ W.heap[s16]? = some (.cells #[.int .i64 d1.k, .int .i64 d1.s, .int .i64 d1.r] 70 (0, 0)) ∧ W.heap[s18]? = some (.cells #[.int .i64 d1.k, .int .i64 d1.s, .int .i64 d1.r] 70 (0, 0))) (((waxxx.setCell ⟨s20, 0, none⟩ (.int .i64 0)).setCell ⟨s20, 1, none⟩ (.int .i64 0)).setCell ⟨s20, 2, none⟩ (.int .i64 0)) := ⟨hS.1.low hlow hlt.2.2.1 hlt.2.2.2, (hlow.block _ hlt.1).trans hS.2.1, (hlow.block _ hlt.2.1).trans hS.2.2⟩
            refine anyL_one 12 rfl (by kernel_rfl) (fun K hK => ?_)
            go_simp
            generalize ((waxxx.setCell ⟨s20, 0, none⟩ (.int .i64 0)).setCell ⟨s20, 1, none⟩ (.int .i64 0)).setCell ⟨s20, 2, none⟩ (.int .i64 0) = w28 at hn2 hS4 ⊢
            refine hK.out _ _ (fun _ => hS4) ?_
            clear hK K hS hlow hn zf z0 z1 z2 zl hlt
            try simp only [Act.put, List.setIfInBounds_toArray, List.set_cons_zero, List.set_cons_succ]
            refine anyL_take 13 (v := ?_) rfl (by kernel_rfl) (fun _ _ _ h => h) (Or.inl ⟨by rfl, ?_⟩) hS4 ?_
            rotate_left
            focus (intro W hW; go_simp; try with_reducible rfl)
            simp only [Act.put, List.setIfInBounds_toArray, List.set_cons_zero, List.set_cons_succ]
            refine anyC_done (by kernel_rfl) ?_ _
            have y0 : w28.cell? ⟨s16, 0, none⟩ = some (.int .i64 d1.k) := cell_of_row w28 _ 0 _ _ _ hS4.2.1
            have y1 : w28.cell? ⟨s16, 1, none⟩ = some (.int .i64 d1.s) := cell_of_row w28 _ 1 _ _ _ hS4.2.1
            have y2 : w28.cell? ⟨s16, 2, none⟩ = some (.int .i64 d1.r) := cell_of_row w28 _ 2 _ _ _ hS4.2.1
            have x0 : w28.cell? ⟨s18, 0, none⟩ = some (.int .i64 d1.k) := cell_of_row w28 _ 0 _ _ _ hS4.2.2
            have x1 : w28.cell? ⟨s18, 1, none⟩ = some (.int .i64 d1.s) := cell_of_row w28 _ 1 _ _ _ hS4.2.2
            have x2 : w28.cell? ⟨s18, 2, none⟩ = some (.int .i64 d1.r) := cell_of_row w28 _ 2 _ _ _ hS4.2.2
            have z0 : w28.cell? ⟨s20, 0, none⟩ = some (.int .i64 0) := cell_of_row w28 _ 0 _ _ _ hn2
            have hF := Lib.hid hS4.1.m.bw
            clear hS4 hn2
            go_wp2_with fail
            go_ret
            exact ⟨rfl, hF.out⟩
          case refine_2 =>
            go_simp
            have ha := (Below.refl wax.heap.size wax).alloc (Nat.le_refl _) (.cells #[.int .i64 0, .int .i64 0, .int .i64 0] 70)
            have hn := World.alloc_heap_new wax (.cells #[.int .i64 0, .int .i64 0, .int .i64 0] 70)
            have hlt : s16 < wax.heap.size ∧ s18 < wax.heap.size ∧ s7 < wax.heap.size ∧ w.heap.size + 1 < wax.heap.size := ⟨(Array.getElem?_eq_some_iff.1 hS.2.1).1, (Array.getElem?_eq_some_iff.1 hS.2.2).1, hS.1.c.2.2.2.2.2, lt_of_cell hS.1.m.a0⟩
            have hS' : (fun W => MeB w s7 D Z B O A q0 q1 q2 q3 W ∧ W.heap[s16]? = some (.cells #[.int .i64 d1.k, .int .i64 d1.s, .int .i64 d1.r] 70 (0, 0)) ∧ W.heap[s18]? = some (.cells #[.int .i64 d1.k, .int .i64 d1.s, .int .i64 d1.r] 70 (0, 0))) (wax.alloc (.cells #[.int .i64 0, .int .i64 0, .int .i64 0] 70)) := ⟨hS.1.below ha, (ha.block _ (Array.getElem?_eq_some_iff.1 hS.2.1).1).trans hS.2.1, (ha.block _ (Array.getElem?_eq_some_iff.1 hS.2.2).1).trans hS.2.2⟩
            have hI3' := hI3.below ha
            generalize wax.alloc (.cells #[.int .i64 0, .int .i64 0, .int .i64 0] 70) = waxx at hS' hn hI3' ⊢
            generalize wax.heap.size = s20 at hn hlt ⊢
            refine hK.out _ _ (fun _ => hS') ?_
            clear hK K hS ha hI3
            have hI3 := hI3'
            clear hI3'
            have hS := hS'
            clear hS'
            try simp only [Act.put, List.setIfInBounds_toArray, List.set_cons_zero, List.set_cons_succ]
            refine anyL_one 7 rfl (by kernel_rfl) (fun K hK => ?_)
            go_simp
            have hd3 := hdec.out waxx (some ⟨G, 0, none⟩) (wd + 1) _ (-1) (by rw [lens_len]; exact hiH.out.symm) hok3.out hI3
            rw [dec_self, hiH.out] at hd3
            refine hd3.mono ?_
            clear hd3
            rintro e' waxxx ⟨rfl, hb⟩
            have hS' : (fun W => MeB w s7 D Z B O A q0 q1 q2 q3 W ∧ W.heap[s16]? = some (.cells #[.int .i64 d1.k, .int .i64 d1.s, .int .i64 d1.r] 70 (0, 0)) ∧ W.heap[s18]? = some (.cells #[.int .i64 d1.k, .int .i64 d1.s, .int .i64 d1.r] 70 (0, 0))) waxxx := ⟨hS.1.below hb, (hb.block _ (Array.getElem?_eq_some_iff.1 hS.2.1).1).trans hS.2.1, (hb.block _ (Array.getElem?_eq_some_iff.1 hS.2.2).1).trans hS.2.2⟩
            have hn' := (hb.block _ (Array.getElem?_eq_some_iff.1 hn).1).trans hn
            clear hn
            have hn := hn'
            clear hn'
            refine hK.out _ _ (fun _ => hS') ?_
            clear hK K hS hb hI3
            have hS := hS'
            clear hS'
            refine anyL_take 8 (v := ?_) rfl (by kernel_rfl) (fun _ _ _ h => h) (Or.inl ⟨by rfl, ?_⟩) hS ?_
            rotate_left
            focus (intro W hW; go_simp; try with_reducible rfl)
            simp only [Act.put, List.setIfInBounds_toArray, List.set_cons_zero, List.set_cons_succ]
            refine anyL_take 9 (v := ?_) rfl (by kernel_rfl) (fun _ _ _ h => h) (Or.inl ⟨by rfl, ?_⟩) hS ?_
            rotate_left
            focus (intro W hW; go_simp; try with_reducible rfl)
            simp only [Act.put, List.setIfInBounds_toArray, List.set_cons_zero, List.set_cons_succ]
            refine anyL_take 10 (v := ?_) rfl (by kernel_rfl) (fun _ _ _ h => h) (Or.inl ⟨by rfl, ?_⟩) hS ?_
            rotate_left
            focus (intro W hW; go_simp; try with_reducible rfl)
            simp only [Act.put, List.setIfInBounds_toArray, List.set_cons_zero, List.set_cons_succ]
            have zf : ∀ j, waxxx.frozen? ⟨s20, j, none⟩ = false := fun j => by simp [World.frozen?, hn]
            have z0 : waxxx.cell? ⟨s20, 0, none⟩ = some (.int .i64 0) := cell_of_row waxxx _ 0 _ _ _ hn
            have z1 : waxxx.cell? ⟨s20, 1, none⟩ = some (.int .i64 0) := cell_of_row waxxx _ 1 _ _ _ hn
            have z2 : waxxx.cell? ⟨s20, 2, none⟩ = some (.int .i64 0) := cell_of_row waxxx _ 2 _ _ _ hn
            have zl := lt_of_cell z0
            have hn2 := heap_setV (heap_setV (heap_setV hn 0 (.int .i64 0)) 1 (.int .i64 0)) 2 (.int .i64 0)
            have hlow := (((Below.refl s20 waxxx).setCell (p := ⟨s20, 0, none⟩) (Nat.le_refl _) (.int .i64 0)).setCell (p := ⟨s20, 1, none⟩) (Nat.le_refl _) (.int .i64 0)).setCell (p := ⟨s20, 2, none⟩) (Nat.le_refl _) (.int .i64 0)
            have hS4 : (fun W => MeB w s7 D Z B O A q0 q1 q2 q3 W ∧ W.heap[s16]? = some (.cells #[.int .i64 d1.k, .int .i64 d1.s, .int .i64 d1.r] 70 (0, 0)) ∧ W.heap[s18]? = some (.cells #[.int .i64 d1.k, .int .i64 d1.s, .int .i64 d1.r] 70 (0, 0))) (((waxxx.setCell ⟨s20, 0, none⟩ (.int .i64 0)).setCell ⟨s20, 1, none⟩ (.int .i64 0)).setCell ⟨s20, 2, none⟩ (.int .i64 0)) := ⟨hS.1.low hlow hlt.2.2.1 hlt.2.2.2, (hlow.block _ hlt.1).trans hS.2.1, (hlow.block _ hlt.2.1).trans hS.2.2⟩
            refine anyL_one 12 rfl (by kernel_rfl) (fun K hK => ?_)
            go_simp
            generalize ((waxxx.setCell ⟨s20, 0, none⟩ (.int .i64 0)).setCell ⟨s20, 1, none⟩ (.int .i64 0)).setCell ⟨s20, 2, none⟩ (.int .i64 0) = w28 at hn2 hS4 ⊢
            refine hK.out _ _ (fun _ => hS4) ?_
            clear hK K hS hlow hn zf z0 z1 z2 zl hlt
            try simp only [Act.put, List.setIfInBounds_toArray, List.set_cons_zero, List.set_cons_succ]
            refine anyL_take 13 (v := ?_) rfl (by kernel_rfl) (fun _ _ _ h => h) (Or.inl ⟨by rfl, ?_⟩) hS4 ?_
            rotate_left
            focus (intro W hW; go_simp; try with_reducible rfl)
            simp only [Act.put, List.setIfInBounds_toArray, List.set_cons_zero, List.set_cons_succ]
            refine anyC_done (by kernel_rfl) ?_ _
            have y0 : w28.cell? ⟨s16, 0, none⟩ = some (.int .i64 d1.k) := cell_of_row w28 _ 0 _ _ _ hS4.2.1
            have y1 : w28.cell? ⟨s16, 1, none⟩ = some (.int .i64 d1.s) := cell_of_row w28 _ 1 _ _ _ hS4.2.1
            have y2 : w28.cell? ⟨s16, 2, none⟩ = some (.int .i64 d1.r) := cell_of_row w28 _ 2 _ _ _ hS4.2.1
            have x0 : w28.cell? ⟨s18, 0, none⟩ = some (.int .i64 d1.k) := cell_of_row w28 _ 0 _ _ _ hS4.2.2
            have x1 : w28.cell? ⟨s18, 1, none⟩ = some (.int .i64 d1.s) := cell_of_row w28 _ 1 _ _ _ hS4.2.2
            have x2 : w28.cell? ⟨s18, 2, none⟩ = some (.int .i64 d1.r) := cell_of_row w28 _ 2 _ _ _ hS4.2.2
            have z0 : w28.cell? ⟨s20, 0, none⟩ = some (.int .i64 0) := cell_of_row w28 _ 0 _ _ _ hn2
            have hF := Lib.hid hS4.1.m.bw
            clear hS4 hn2
            go_wp2_with fail
            go_ret
            exact ⟨rfl, hF.out⟩
        case refine_2 =>
          go_simp
          have ha := (Below.refl wa.heap.size wa).alloc (Nat.le_refl _) (.cells #[.int .i64 0, .int .i64 0, .int .i64 0] 70)
          have hn := World.alloc_heap_new wa (.cells #[.int .i64 0, .int .i64 0, .int .i64 0] 70)
          have hlt : s16 < wa.heap.size ∧ s18 < wa.heap.size ∧ s7 < wa.heap.size ∧ w.heap.size + 1 < wa.heap.size := ⟨(Array.getElem?_eq_some_iff.1 hS.2.1).1, (Array.getElem?_eq_some_iff.1 hS.2.2).1, hS.1.c.2.2.2.2.2, lt_of_cell hS.1.m.a0⟩
          have hS' : (fun W => MeB w s7 D Z B O A q0 q1 q2 q3 W ∧ W.heap[s16]? = some (.cells #[.int .i64 d1.k, .int .i64 d1.s, .int .i64 d1.r] 70 (0, 0)) ∧ W.heap[s18]? = some (.cells #[.int .i64 d1.k, .int .i64 d1.s, .int .i64 d1.r] 70 (0, 0))) (wa.alloc (.cells #[.int .i64 0, .int .i64 0, .int .i64 0] 70)) := ⟨hS.1.below ha, (ha.block _ (Array.getElem?_eq_some_iff.1 hS.2.1).1).trans hS.2.1, (ha.block _ (Array.getElem?_eq_some_iff.1 hS.2.2).1).trans hS.2.2⟩
          generalize wa.alloc (.cells #[.int .i64 0, .int .i64 0, .int .i64 0] 70) = wax at hS' hn ⊢
          generalize wa.heap.size = s20 at hn hlt ⊢
          refine hK.out _ _ (fun _ => hS') ?_
          clear hK K hS ha
          have hS := hS'
          clear hS'
          try simp only [Act.put, List.setIfInBounds_toArray, List.set_cons_zero, List.set_cons_succ]
          refine anyL_one 6 rfl (by kernel_rfl) (fun K hK => ?_)
          go_simp
          refine (hln.out _).mono ?_
          rintro e' waxx ⟨G, rfl, hrep, _, hb⟩
          have hS' : (fun W => MeB w s7 D Z B O A q0 q1 q2 q3 W ∧ W.heap[s16]? = some (.cells #[.int .i64 d1.k, .int .i64 d1.s, .int .i64 d1.r] 70 (0, 0)) ∧ W.heap[s18]? = some (.cells #[.int .i64 d1.k, .int .i64 d1.s, .int .i64 d1.r] 70 (0, 0))) waxx := ⟨hS.1.below hb, (hb.block _ (Array.getElem?_eq_some_iff.1 hS.2.1).1).trans hS.2.1, (hb.block _ (Array.getElem?_eq_some_iff.1 hS.2.2).1).trans hS.2.2⟩
          have hI3 := rep_ints hrep
          clear hrep
          have hn' := (hb.block _ (Array.getElem?_eq_some_iff.1 hn).1).trans hn
          clear hn
          have hn := hn'
          clear hn'
          refine hK.out _ _ (fun _ => hS') ?_
          clear hK K hS hb
          have hS := hS'
          clear hS'
          try simp only [Act.put, List.setIfInBounds_toArray, List.set_cons_zero, List.set_cons_succ]
          refine anyL_one 7 rfl (by kernel_rfl) (fun K hK => ?_)
          go_simp
          have hd3 := hdec.out waxx (some ⟨G, 0, none⟩) (wd + 1) _ (-1) (by rw [lens_len]; exact hiH.out.symm) hok3.out hI3
          rw [dec_self, hiH.out] at hd3
          refine hd3.mono ?_
          clear hd3
          rintro e' waxxx ⟨rfl, hb⟩
          have hS' : (fun W => MeB w s7 D Z B O A q0 q1 q2 q3 W ∧ W.heap[s16]? = some (.cells #[.int .i64 d1.k, .int .i64 d1.s, .int .i64 d1.r] 70 (0, 0)) ∧ W.heap[s18]? = some (.cells #[.int .i64 d1.k, .int .i64 d1.s, .int .i64 d1.r] 70 (0, 0))) waxxx := ⟨hS.1.below hb, (hb.block _ (Array.getElem?_eq_some_iff.1 hS.2.1).1).trans hS.2.1, (hb.block _ (Array.getElem?_eq_some_iff.1 hS.2.2).1).trans hS.2.2⟩
          have hn' := (hb.block _ (Array.getElem?_eq_some_iff.1 hn).1).trans hn
          clear hn
          have hn := hn'
          clear hn'
          refine hK.out _ _ (fun _ => hS') ?_
          clear hK K hS hb hI3
          have hS := hS'
          clear hS'
          refine anyL_take 8 (v := ?_) rfl (by kernel_rfl) (fun _ _ _ h => h) (Or.inl ⟨by rfl, ?_⟩) hS ?_
          rotate_left
          focus (intro W hW; go_simp; try with_reducible rfl)
          simp only [Act.put, List.setIfInBounds_toArray, List.set_cons_zero, List.set_cons_succ]
          refine anyL_take 9 (v := ?_) rfl (by kernel_rfl) (fun _ _ _ h => h) (Or.inl ⟨by rfl, ?_⟩) hS ?_
          rotate_left
          focus (intro W hW; go_simp; try with_reducible rfl)
          simp only [Act.put, List.setIfInBounds_toArray, List.set_cons_zero, List.set_cons_succ]
          refine anyL_take 10 (v := ?_) rfl (by kernel_rfl) (fun _ _ _ h => h) (Or.inl ⟨by rfl, ?_⟩) hS ?_
          rotate_left
          focus (intro W hW; go_simp; try with_reducible rfl)
          simp only [Act.put, List.setIfInBounds_toArray, List.set_cons_zero, List.set_cons_succ]
          have zf : ∀ j, waxxx.frozen? ⟨s20, j, none⟩ = false := fun j => by simp [World.frozen?, hn]
          have z0 : waxxx.cell? ⟨s20, 0, none⟩ = some (.int .i64 0) := cell_of_row waxxx _ 0 _ _ _ hn
          have z1 : waxxx.cell? ⟨s20, 1, none⟩ = some (.int .i64 0) := cell_of_row waxxx _ 1 _ _ _ hn
          have z2 : waxxx.cell? ⟨s20, 2, none⟩ = some (.int .i64 0) := cell_of_row waxxx _ 2 _ _ _ hn
          have zl := lt_of_cell z0
          have hn2 := heap_setV (heap_setV (heap_setV hn 0 (.int .i64 0)) 1 (.int .i64 0)) 2 (.int .i64 0)
          have hlow := (((Below.refl s20 waxxx).setCell (p := ⟨s20, 0, none⟩) (Nat.le_refl _) (.int .i64 0)).setCell (p := ⟨s20, 1, none⟩) (Nat.le_refl _) (.int .i64 0)).setCell (p := ⟨s20, 2, none⟩) (Nat.le_refl _) (.int .i64 0)
          have hS4 : (fun W => MeB w s7 D Z B O A q0 q1 q2 q3 W ∧ W.heap[s16]? = some (.cells #[.int .i64 d1.k, .int .i64 d1.s, .int .i64 d1.r] 70 (0, 0)) ∧ W.heap[s18]? = some (.cells #[.int .i64 d1.k, .int .i64 d1.s, .int .i64 d1.r] 70 (0, 0))) (((waxxx.setCell ⟨s20, 0, none⟩ (.int .i64 0)).setCell ⟨s20, 1, none⟩ (.int .i64 0)).setCell ⟨s20, 2, none⟩ (.int .i64 0)) := ⟨hS.1.low hlow hlt.2.2.1 hlt.2.2.2, (hlow.block _ hlt.1).trans hS.2.1, (hlow.block _ hlt.2.1).trans hS.2.2⟩
          refine anyL_one 12 rfl (by kernel_rfl) (fun K hK => ?_)
          go_simp
          generalize ((waxxx.setCell ⟨s20, 0, none⟩ (.int .i64 0)).setCell ⟨s20, 1, none⟩ (.int .i64 0)).setCell ⟨s20, 2, none⟩ (.int .i64 0) = w28 at hn2 hS4 ⊢
          refine hK.out _ _ (fun _ => hS4) ?_
          clear hK K hS hlow hn zf z0 z1 z2 zl hlt
          try simp only [Act.put, List.setIfInBounds_toArray, List.set_cons_zero, List.set_cons_succ]
          refine anyL_take 13 (v := ?_) rfl (by kernel_rfl) (fun _ _ _ h => h) (Or.inl ⟨by rfl, ?_⟩) hS4 ?_
          rotate_left
          focus (intro W hW; go_simp; try with_reducible rfl)
          simp only [Act.put, List.setIfInBounds_toArray, List.set_cons_zero, List.set_cons_succ]
          refine anyC_done (by kernel_rfl) ?_ _
          have y0 : w28.cell? ⟨s16, 0, none⟩ = some (.int .i64 d1.k) := cell_of_row w28 _ 0 _ _ _ hS4.2.1
          have y1 : w28.cell? ⟨s16, 1, none⟩ = some (.int .i64 d1.s) := cell_of_row w28 _ 1 _ _ _ hS4.2.1
          have y2 : w28.cell? ⟨s16, 2, none⟩ = some (.int .i64 d1.r) := cell_of_row w28 _ 2 _ _ _ hS4.2.1
          have x0 : w28.cell? ⟨s18, 0, none⟩ = some (.int .i64 d1.k) := cell_of_row w28 _ 0 _ _ _ hS4.2.2
          have x1 : w28.cell? ⟨s18, 1, none⟩ = some (.int .i64 d1.s) := cell_of_row w28 _ 1 _ _ _ hS4.2.2
          have x2 : w28.cell? ⟨s18, 2, none⟩ = some (.int .i64 d1.r) := cell_of_row w28 _ 2 _ _ _ hS4.2.2
          have z0 : w28.cell? ⟨s20, 0, none⟩ = some (.int .i64 0) := cell_of_row w28 _ 0 _ _ _ hn2
          have hF := Lib.hid hS4.1.m.bw
          clear hS4 hn2
          go_wp2_with fail
          go_ret
          exact ⟨rfl, hF.out⟩
      case pos =>
        have hlt2 : (i : Int) < D := by have := hDH.out; omega
        have hm : wd + 1 - (i + 1) < wd + 1 - i := by omega
        have iw : IntKind.i64.wrap ((i : Int) + 1) = (i : Int) + 1 := IntWalk.i64_in _ (by omega)
        have hB4 := hB4H.out
        by_cases hil : (i : Int) < (ls.length : Int)
        case pos =>
          obtain ⟨ba, oa, rfl, e0⟩ := ints_at (hAH.out wr (h9H.out _ hBr.out).m.bw) (k := i) (by omega)
          generalize ls.getD i 0 = y at e0
          obtain ⟨t5, k, j1, j2, j3, j4, j5, j6, j7, j8, j9, j10, j11, j12, j13⟩ := mod_plus y (v := B) (by omega) (by omega)
          go_upto_region 16 with fail
          go_quiet (fail)
          go_upto_region 17 with fail
          refine fresh_world (fun W => inE.Row W w9.heap.size 3 A' cap' q ∧ Below w9.heap.size w9 W) ⟨hRr.out.below (below_drewN (Below.refl _ wr) _), below_drewN hBr.out _⟩ ?_
          clear hRr hBr j1 j2 j4 j5 j6 j7 j8 j9 j10 j11 j12 j13 g0 g1 g2 g3 g4 e0
          rintro wq ⟨hR, hB⟩
          have hR4 := hR.alloc (.cells #[.int .i64 (k : Int)] 3)
          have hB4 := hB.alloc hB.size (.cells #[.int .i64 (k : Int)] 3)
          obtain ⟨A3, cap3, W6, hrun6, hR6, hG6, _⟩ := Enc.Row.append (E := inE) (P := Try.prog) Try.underlying24 infoIn (by decide) (by decide) hR4 (m := wq.heap.size) (x := (k : Int)) (fun j hj => by
            match j, hj with
            | 0, _ => exact cell_of_row _ _ 0 _ _ _ (World.alloc_heap_new wq _)) (by have := hql.out; omega) hB4.size 24
          rw [hql.out] at hrun6
          have hrun6H := Lib.hid hrun6
          have hB6H := Lib.hid (hB4.trans (hR4.grown hG6 hB4.size))
          have hR6H := Lib.hid hR6
          have hqr6 : Hid (∀ x ∈ q ++ [(k : Int)], 0 ≤ x ∧ x ≤ B) := Lib.hid (fun x hx => by
            rcases List.mem_append.1 hx with h | h
            · exact hqr.out x h
            · rw [List.mem_singleton.1 h]; omega)
          have hlx : Hid ((q ++ [(k : Int)]).length = i + 1) := Lib.hid (by rw [List.length_append, hql.out]; rfl)
          clear hrun6 hR6 hG6 hR4 hB4 hR hB hqr hql
          go_wp2_with (at_builtin; refine append_run_wp rfl _ _ _ rfl rfl rfl hrun6H.out ?_; clear hrun6H)
          go_roundw
          case rel => exact ⟨i + 1, q ++ [(k : Int)], A3, cap3, by go_num, rfl, hlt, hlx, hqr6, hR6H, hB6H⟩
          case measure => simp only [intOf]; omega
        case neg =>
          go_upto_region 17 with fail
          refine fresh_world (fun W => inE.Row W w9.heap.size 3 A' cap' q ∧ Below w9.heap.size w9 W) ⟨hRr.out, hBr.out⟩ ?_
          clear hRr hBr g0 g1 g2 g3 g4
          rintro wq ⟨hR, hB⟩
          have hR4 := hR.alloc (.cells #[.int .i64 0] 3)
          have hB4 := hB.alloc hB.size (.cells #[.int .i64 0] 3)
          obtain ⟨A3, cap3, W6, hrun6, hR6, hG6, _⟩ := Enc.Row.append (E := inE) (P := Try.prog) Try.underlying24 infoIn (by decide) (by decide) hR4 (m := wq.heap.size) (x := 0) (fun j hj => by
            match j, hj with
            | 0, _ => exact cell_of_row _ _ 0 _ _ _ (World.alloc_heap_new wq _)) (by have := hql.out; omega) hB4.size 24
          rw [hql.out] at hrun6
          have hrun6H := Lib.hid hrun6
          have hB6H := Lib.hid (hB4.trans (hR4.grown hG6 hB4.size))
          have hR6H := Lib.hid hR6
          have hqr6 : Hid (∀ x ∈ q ++ [0], 0 ≤ x ∧ x ≤ B) := Lib.hid (fun x hx => by
            rcases List.mem_append.1 hx with h | h
            · exact hqr.out x h
            · rw [List.mem_singleton.1 h]; omega)
          have hlx : Hid ((q ++ [0]).length = i + 1) := Lib.hid (by rw [List.length_append, hql.out]; rfl)
          clear hrun6 hR6 hG6 hR4 hB4 hR hB hqr hql
          go_wp2_with (at_builtin; refine append_run_wp rfl _ _ _ rfl rfl rfl hrun6H.out ?_; clear hrun6H)
          go_roundw
          case rel => exact ⟨i + 1, q ++ [0], A3, cap3, by go_num, rfl, hlt, hlx, hqr6, hR6H, hB6H⟩
          case measure => simp only [intOf]; omega
end Go.Proofs.Ytdnedahbghhpgaa
