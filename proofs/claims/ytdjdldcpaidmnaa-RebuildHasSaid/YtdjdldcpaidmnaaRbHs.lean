/- RebuildHas: the walk. -/
import Derived.Test.YtdjdldcpaidmnaaRbL
namespace Go.Proofs.Ytdjdldcpaidmnaa
open Go.RowKit Rec Bk Rb

set_option maxRecDepth 100000 in
set_option maxHeartbeats 4000000 in
theorem has_law (w : World) (D Z B O A a a2 : Int) :
    Calls Try.prog 7 #[.agg #[.int .i64 D, .int .i64 Z, .int .i64 B, .int .i64 O, .int .i64 A], .int .i64 a, .int .i64 a2] w fun e w' => e = .returned (.bool true) ∧ Below w.heap.size w w' := by
  have hG := Lib.hid (GeoAt.new w D Z B O A 55)
  have hB := Lib.hid ((Below.refl w.heap.size w).alloc (Nat.le_refl _) (.cells #[.int .i64 D, .int .i64 Z, .int .i64 B, .int .i64 O, .int .i64 A] 55))
  go_enter Try.func7, Try.ntmps7
  go_upto_region 1 with fail
  refine fresh_world (fun W => GeoAt W w.heap.size D Z B O A ∧ Below w.heap.size w W) ⟨hG.out, hB.out⟩ ?_
  clear hG hB
  rintro W1 h1
  have h1H := Lib.hid h1
  clear h1
  go_wp2_with fail
  (with_reducible refine (speaks16 _).mono ?_)
  rintro e w1 ⟨rfl, hb1⟩
  have h1 := h1H.out.1.below hb1
  have h2 := bmore h1H.out.2 hb1
  obtain ⟨g0, g1, g2, g3, g4, _⟩ := h1
  have hG7 := GeoAt.new w1 D Z B O A 30
  have ha := (Below.refl w1.heap.size w1).alloc (Nat.le_refl _) (.cells #[.int .i64 D, .int .i64 Z, .int .i64 B, .int .i64 O, .int .i64 A] 30)
  have hN7 : Hid (RbG w w1.heap.size D Z B O A (w1.alloc (.cells #[.int .i64 D, .int .i64 Z, .int .i64 B, .int .i64 O, .int .i64 A] 30))) := Lib.hid ⟨(h1H.out.1.below hb1).below ha, hG7, bmore h2 ha, (h1H.out.1.below hb1).2.2.2.2.2⟩
  clear h1H hb1 h2 hG7 ha
  go_upto_region 4 with fail
  generalize w1.heap.size = s7 at hN7 ⊢
  refine fresh_world (fun W => RbG w s7 D Z B O A W) hN7.out ?_
  clear hN7 g0 g1 g2 g3 g4
  rintro w4 h4
  have h4H := Lib.hid h4
  obtain ⟨g0, g1, g2, g3, g4, _⟩ := h4.1
  have c1 := Lib.hid (fun W => refgood_any D Z B O A W)
  clear h4
  cases hg : goodB D Z B O A with
  | false =>
    rw [hg] at c1
    go_wp2_with fail
    (with_reducible refine (c1.out _).mono ?_)
    rintro e w2 ⟨rfl, hb2⟩
    have hF := Lib.hid (h4H.out.below hb2).2.2.1
    clear h4H hb2 g0 g1 g2 g3 g4
    go_wp2_with fail
    go_ret
    exact ⟨rfl, hF.out⟩
  | true =>
    rw [hg] at c1
    have hgp := goodB_iff.1 hg
    obtain ⟨m, hD⟩ : ∃ m : Nat, D = (m : Int) := ⟨D.toNat, by have := hgp.1; omega⟩
    obtain ⟨n, hZ⟩ : ∃ n : Nat, Z = (n : Int) + 3 := ⟨(Z - 3).toNat, by have := hgp.2.2.1; omega⟩
    have hm16 : m ≤ 16 := by have := hgp.2.1; omega
    have hm3 : 3 ≤ m := by have := hgp.1; omega
    have hn61 : n ≤ 61 := by have := hgp.2.2.2.1; omega
    have hn2 : 2 ≤ n := by have := hgp.2.2.1; omega
    have hb0 : newOf D Z B O A = newBk n m := by unfold newOf; rw [if_pos hg, show (Z - 3).toNat = n by omega, show D.toNat = m by omega]
    have hnw := Lib.hid (fun W => new_anyB W D Z B O A)
    rw [hb0] at hnw
    obtain ⟨t1, s, x1, x2, x3, x4, x5, x6, x7, x8, x9⟩ := mod_more16 a (m := D) (by omega) (by omega)
    have hsm : s < m := by omega
    obtain ⟨t2, o, y1, y2, y3, y4, y5, y6, y7, y8, y9⟩ := mod_more16 a2 (m := D) (by omega) (by omega)
    have hom : o < m := by omega
    have hZH := Lib.hid hZ
    have hDH := Lib.hid hD
    have hgH := Lib.hid hg
    clear hgp hb0 hD hZ hg
    go_wp2_with fail
    (with_reducible refine (c1.out _).mono ?_)
    rintro e w2 ⟨rfl, hb2⟩
    have h2 := h4H.out.below hb2
    have h2H := Lib.hid h2
    clear h4H hb2 g0 g1 g2 g3 g4 c1 h2
    obtain ⟨g0, g1, g2, g3, g4, _⟩ := h2H.out.1
    go_upto_region 6 with fail
    go_quiet (fail)
    go_upto_region 7 with fail
    refine fresh_world (fun W => RbG w s7 D Z B O A W) (h2H.out.below (below_drewN (Below.refl _ w2) _)) ?_
    clear g0 g1 g2 g3 g4 h2H x1 x2 x3 x4 x5 x6 x7 x8 x9 y1 y2 y3 y4 y5 y6 y7 y8 y9
    rintro w7 h7
    have hbg := Lib.hid (fun W A1 c1 A2 c2 (h : BkIn W A1 c1 A2 c2 (newBk n m)) => beg_ok W D Z B O A A1 c1 A2 c2 (newBk n m) s h (by show (0 : Int) ≤ 0 ∧ (0 : Int) ≤ 4611686018427387904; decide) hgH.out (by rw [hDH.out]; show ((newMs m).length : Int) = _; rw [newMs_len]) (by show s < (newMs m).length; rw [newMs_len]; exact hsm) (fun h => absurd (show (0 : Int) ≤ -1 from h.1) (by decide)) (new_no hDH.out))
    have hne : Hid ((begB (newBk n m) D s).zs ≠ [] ∧ (begB (newBk n m) D s).ms ≠ []) := Lib.hid ⟨fun h => by
      have h1 : (newZ n).length = 0 := by rw [show newZ n = [] from h]; rfl
      rw [newZ_len] at h1; omega, fun h => by
      have h1 : ((newMs m).set s D).length = 0 := by rw [show (newMs m).set s D = [] from h]; rfl
      rw [List.length_set, newMs_len] at h1; omega⟩
    have hnl : Hid ((newBk n m).zs.length = n ∧ (newBk n m).ms.length = m) := Lib.hid ⟨newZ_len n, newMs_len m⟩
    have hk0 : Hid (begB (newBk n m) D s = bkk 2 (newZ n) ((newMs m).set s D) s Z 0) := Lib.hid (begB_kk (newBk n m) D s (by have := hZH.out; omega))
    have hS : (fun W => RbG w s7 D Z B O A W) w7.drew := h7.below (Below.refl _ _).drew
    clear h7
    generalize hbb : begB (newBk n m) D s = bb at hbg hne hk0
    generalize hll : begL (newBk n m) D s = ll at hbg
    generalize newBk n m = b0 at hnw hbg hnl
    clear hbb hll
    go_cut [8, 9, 10] from 44 to 52 (fun v8 v9 v10 wx => ∃ (s9 : Nat) (B1 : Option Addr) (d1 : Nat) (B2 : Option Addr) (d2 : Nat) (Al : Option Addr) (cap : Nat), v8 = .slice Al 2 cap ∧ v9 = .pointer (some ⟨s9, 0, none⟩) ∧ v10 = .int .i64 0 ∧ RbW w wx s7 s9 D Z B O A B1 d1 B2 d2 bb ∧ RecsAt wx Al ll)
    case first =>
      refine region_anyC (fun _ => true) (fun W => RbG w s7 D Z B O A W) (by kernel_rfl) ?_
      generalize w7.drew = wa at hS ⊢
      refine anyL_take 0 (v := ?_) rfl (by kernel_rfl) (fun _ _ _ h => h) (Or.inl ⟨by rfl, ?_⟩) hS ?_
      rotate_left
      focus (intro W hW; obtain ⟨_, ⟨g0, g1, g2, g3, g4, _⟩, _⟩ := hW; go_simp; try with_reducible rfl)
      simp only [Act.put, List.setIfInBounds_toArray, List.set_cons_zero, List.set_cons_succ]
      refine anyL_take 1 (v := ?_) rfl (by kernel_rfl) (fun _ _ _ h => h) (Or.inl ⟨by rfl, ?_⟩) hS ?_
      rotate_left
      focus (intro W hW; obtain ⟨_, ⟨g0, g1, g2, g3, g4, _⟩, _⟩ := hW; go_simp; try with_reducible rfl)
      simp only [Act.put, List.setIfInBounds_toArray, List.set_cons_zero, List.set_cons_succ]
      refine anyL_take 3 (v := ?_) rfl (by kernel_rfl) (fun _ _ _ h => h) (Or.inl ⟨by rfl, ?_⟩) hS ?_
      rotate_left
      focus (intro W hW; go_simp; try with_reducible rfl)
      simp only [Act.put, List.setIfInBounds_toArray, List.set_cons_zero, List.set_cons_succ]
      refine anyL_two 2 9 rfl rfl (by kernel_rfl) (fun K hK => ?_) (fun K hK => ?_)
      case refine_1 =>
        go_simp
        refine (hnw.out wa).mono ?_
        rintro e' wax ⟨A1, c1, A2, c2, rfl, hO, hb⟩
        have hI := hO.in_
        have hS' : (fun W => RbG w s7 D Z B O A W) wax := hS.below hb
        refine hK.out _ _ (fun _ => hS') ?_
        clear hK K hS hb hO
        have hS := hS'
        clear hS'
        try simp only [Act.put, List.setIfInBounds_toArray, List.set_cons_zero, List.set_cons_succ]
        refine anyL_two 4 9 rfl rfl (by kernel_rfl) (fun K hK => ?_) (fun K hK => ?_)
        case refine_1 =>
          go_simp
          refine (hbg.out wax A1 c1 A2 c2 hI).mono ?_
          rintro e' waxx ⟨B1, d1, B2, d2, Al, cap, rfl, hRow, hI2, hN, hb⟩
          have hS' : (fun W => RbG w s7 D Z B O A W) waxx := hS.below hb
          refine hK.out _ _ (fun _ => hS') ?_
          clear hK K hS hb hI hN
          have hS := hS'
          clear hS'
          try simp only [Act.put, List.setIfInBounds_toArray, List.set_cons_zero, List.set_cons_succ]
          refine anyL_take 5 (v := ?_) rfl (by kernel_rfl) (fun _ _ _ h => h) (Or.inl ⟨by rfl, ?_⟩) hS ?_
          rotate_left
          focus (intro W hW; go_simp; try with_reducible rfl)
          simp only [Act.put, List.setIfInBounds_toArray, List.set_cons_zero, List.set_cons_succ]
          refine anyL_take 6 (v := ?_) rfl (by kernel_rfl) (fun _ _ _ h => h) (Or.inl ⟨by rfl, ?_⟩) hS ?_
          rotate_left
          focus (intro W hW; go_simp; try with_reducible rfl)
          simp only [Act.put, List.setIfInBounds_toArray, List.set_cons_zero, List.set_cons_succ]
          refine anyL_take 7 (v := ?_) rfl (by kernel_rfl) (fun _ _ _ h => h) (Or.inl ⟨by rfl, ?_⟩) hS ?_
          rotate_left
          focus (intro W hW; go_simp; try with_reducible rfl)
          simp only [Act.put, List.setIfInBounds_toArray, List.set_cons_zero, List.set_cons_succ]
          refine anyL_take 8 (v := ?_) rfl (by kernel_rfl) (fun _ _ _ h => h) (Or.inl ⟨by rfl, ?_⟩) hS ?_
          rotate_left
          focus (intro W hW; go_simp; try with_reducible rfl)
          simp only [Act.put, List.setIfInBounds_toArray, List.set_cons_zero, List.set_cons_succ]
          refine anyL_one 9 rfl (by kernel_rfl) (fun K hK => ?_)
          go_simp
          have ha := (Below.refl waxx.heap.size waxx).alloc (Nat.le_refl _) (.cells #[.int .i64 0, .slice none 0 0, .slice none 0 0, .int .i64 0, .int .i64 0] 58)
          have hX : BkAt (waxx.alloc (.cells #[.int .i64 0, .slice none 0 0, .slice none 0 0, .int .i64 0, .int .i64 0] 58)) waxx.heap.size none 0 none 0 noB := BkAt.new waxx none 0 none 0 noB 58
          have hz : s7 < waxx.heap.size := hS.lt
          have hS' : (fun W => RbG w s7 D Z B O A W) (waxx.alloc (.cells #[.int .i64 0, .slice none 0 0, .slice none 0 0, .int .i64 0, .int .i64 0] 58)) := hS.below ha
          have hAp := ap_new hI2 hRow (hne.out.1) (hne.out.2)
          have hI2' := hI2.below ha
          have hRow' := hRow.below ha
          clear hI2 hRow
          have hI2 := hI2'
          have hRow := hRow'
          clear hI2' hRow'
          have hzl : waxx.heap.size < (waxx.alloc (.cells #[.int .i64 0, .slice none 0 0, .slice none 0 0, .int .i64 0, .int .i64 0] 58)).heap.size := hX.lt
          generalize waxx.alloc (.cells #[.int .i64 0, .slice none 0 0, .slice none 0 0, .int .i64 0, .int .i64 0] 58) = waxxx at hS' hX hzl hI2 hRow ⊢
          generalize waxx.heap.size = s9 at hX hz hzl hAp ⊢
          refine hK.out _ _ (fun _ => hS') ?_
          clear hK K hS ha
          have hS := hS'
          clear hS'
          try simp only [Act.put, List.setIfInBounds_toArray, List.set_cons_zero, List.set_cons_succ]
          have hfin := Lib.hid (rb_put hS hX hI2 hRow hAp hz)
          obtain ⟨p0, p1, p2, p3, p4, pf⟩ := hX
          have hS2 := Lib.hid hfin.out.1.g
          clear hI2 hRow hAp hz
          refine anyL_one 10 rfl (by kernel_rfl) (fun K hK => ?_)
          go_simp
          refine hK.out _ _ (fun _ => hS) ?_
          clear hK K
          try simp only [Act.put, List.setIfInBounds_toArray, List.set_cons_zero, List.set_cons_succ]
          refine anyL_one 11 rfl (by kernel_rfl) (fun K hK => ?_)
          go_simp
          refine hK.out _ _ (fun _ => hS2.out) ?_
          clear hK K
          try simp only [Act.put, List.setIfInBounds_toArray, List.set_cons_zero, List.set_cons_succ]
          refine anyL_one 12 rfl (by kernel_rfl) (fun K hK => ?_)
          go_simp
          refine hK.out _ _ (fun _ => hS2.out) ?_
          clear hK K
          try simp only [Act.put, List.setIfInBounds_toArray, List.set_cons_zero, List.set_cons_succ]
          refine anyC_done (by kernel_rfl) ?_ _
          clear p0 p1 p2 p3 p4 pf hS hS2
          go_wp2_with fail
          go_meet
          exact ⟨s9, B1, d1, B2, d2, Al, cap, rfl, rfl, rfl, hfin.out⟩
        case refine_2 =>
          go_simp
          have ha := (Below.refl wax.heap.size wax).alloc (Nat.le_refl _) (.cells #[.int .i64 0, .slice none 0 0, .slice none 0 0, .int .i64 0, .int .i64 0] 58)
          have hX : BkAt (wax.alloc (.cells #[.int .i64 0, .slice none 0 0, .slice none 0 0, .int .i64 0, .int .i64 0] 58)) wax.heap.size none 0 none 0 noB := BkAt.new wax none 0 none 0 noB 58
          have hz : s7 < wax.heap.size := hS.lt
          have hS' : (fun W => RbG w s7 D Z B O A W) (wax.alloc (.cells #[.int .i64 0, .slice none 0 0, .slice none 0 0, .int .i64 0, .int .i64 0] 58)) := hS.below ha
          have hI' := hI.below ha
          clear hI
          have hI := hI'
          clear hI'
          have hzl : wax.heap.size < (wax.alloc (.cells #[.int .i64 0, .slice none 0 0, .slice none 0 0, .int .i64 0, .int .i64 0] 58)).heap.size := hX.lt
          generalize wax.alloc (.cells #[.int .i64 0, .slice none 0 0, .slice none 0 0, .int .i64 0, .int .i64 0] 58) = waxx at hS' hX hzl hI ⊢
          generalize wax.heap.size = s9 at hX hz hzl ⊢
          refine hK.out _ _ (fun _ => hS') ?_
          clear hK K hS ha
          have hS := hS'
          clear hS'
          try simp only [Act.put, List.setIfInBounds_toArray, List.set_cons_zero, List.set_cons_succ]
          refine anyL_one 4 rfl (by kernel_rfl) (fun K hK => ?_)
          go_simp
          refine (hbg.out waxx A1 c1 A2 c2 hI).mono ?_
          rintro e' waxxx ⟨B1, d1, B2, d2, Al, cap, rfl, hRow, hI2, hN, hb⟩
          have hS' : (fun W => RbG w s7 D Z B O A W) waxxx := hS.below hb
          have hAp := ap_old hN hRow hzl
          have hX' := hX.below hb
          clear hX hzl
          have hX := hX'
          clear hX'
          refine hK.out _ _ (fun _ => hS') ?_
          clear hK K hS hb hI hN
          have hS := hS'
          clear hS'
          try simp only [Act.put, List.setIfInBounds_toArray, List.set_cons_zero, List.set_cons_succ]
          refine anyL_take 5 (v := ?_) rfl (by kernel_rfl) (fun _ _ _ h => h) (Or.inl ⟨by rfl, ?_⟩) hS ?_
          rotate_left
          focus (intro W hW; go_simp; try with_reducible rfl)
          simp only [Act.put, List.setIfInBounds_toArray, List.set_cons_zero, List.set_cons_succ]
          refine anyL_take 6 (v := ?_) rfl (by kernel_rfl) (fun _ _ _ h => h) (Or.inl ⟨by rfl, ?_⟩) hS ?_
          rotate_left
          focus (intro W hW; go_simp; try with_reducible rfl)
          simp only [Act.put, List.setIfInBounds_toArray, List.set_cons_zero, List.set_cons_succ]
          refine anyL_take 7 (v := ?_) rfl (by kernel_rfl) (fun _ _ _ h => h) (Or.inl ⟨by rfl, ?_⟩) hS ?_
          rotate_left
          focus (intro W hW; go_simp; try with_reducible rfl)
          simp only [Act.put, List.setIfInBounds_toArray, List.set_cons_zero, List.set_cons_succ]
          refine anyL_take 8 (v := ?_) rfl (by kernel_rfl) (fun _ _ _ h => h) (Or.inl ⟨by rfl, ?_⟩) hS ?_
          rotate_left
          focus (intro W hW; go_simp; try with_reducible rfl)
          simp only [Act.put, List.setIfInBounds_toArray, List.set_cons_zero, List.set_cons_succ]
          have hfin := Lib.hid (rb_put hS hX hI2 hRow hAp hz)
          obtain ⟨p0, p1, p2, p3, p4, pf⟩ := hX
          have hS2 := Lib.hid hfin.out.1.g
          clear hI2 hRow hAp hz
          refine anyL_one 10 rfl (by kernel_rfl) (fun K hK => ?_)
          go_simp
          refine hK.out _ _ (fun _ => hS) ?_
          clear hK K
          try simp only [Act.put, List.setIfInBounds_toArray, List.set_cons_zero, List.set_cons_succ]
          refine anyL_one 11 rfl (by kernel_rfl) (fun K hK => ?_)
          go_simp
          refine hK.out _ _ (fun _ => hS2.out) ?_
          clear hK K
          try simp only [Act.put, List.setIfInBounds_toArray, List.set_cons_zero, List.set_cons_succ]
          refine anyL_one 12 rfl (by kernel_rfl) (fun K hK => ?_)
          go_simp
          refine hK.out _ _ (fun _ => hS2.out) ?_
          clear hK K
          try simp only [Act.put, List.setIfInBounds_toArray, List.set_cons_zero, List.set_cons_succ]
          refine anyC_done (by kernel_rfl) ?_ _
          clear p0 p1 p2 p3 p4 pf hS hS2
          go_wp2_with fail
          go_meet
          exact ⟨s9, B1, d1, B2, d2, Al, cap, rfl, rfl, rfl, hfin.out⟩
      case refine_2 =>
        go_simp
        have ha := (Below.refl wa.heap.size wa).alloc (Nat.le_refl _) (.cells #[.int .i64 0, .slice none 0 0, .slice none 0 0, .int .i64 0, .int .i64 0] 58)
        have hX : BkAt (wa.alloc (.cells #[.int .i64 0, .slice none 0 0, .slice none 0 0, .int .i64 0, .int .i64 0] 58)) wa.heap.size none 0 none 0 noB := BkAt.new wa none 0 none 0 noB 58
        have hz : s7 < wa.heap.size := hS.lt
        have hS' : (fun W => RbG w s7 D Z B O A W) (wa.alloc (.cells #[.int .i64 0, .slice none 0 0, .slice none 0 0, .int .i64 0, .int .i64 0] 58)) := hS.below ha
        have hzl : wa.heap.size < (wa.alloc (.cells #[.int .i64 0, .slice none 0 0, .slice none 0 0, .int .i64 0, .int .i64 0] 58)).heap.size := hX.lt
        generalize wa.alloc (.cells #[.int .i64 0, .slice none 0 0, .slice none 0 0, .int .i64 0, .int .i64 0] 58) = wax at hS' hX hzl ⊢
        generalize wa.heap.size = s9 at hX hz hzl ⊢
        refine hK.out _ _ (fun _ => hS') ?_
        clear hK K hS ha
        have hS := hS'
        clear hS'
        try simp only [Act.put, List.setIfInBounds_toArray, List.set_cons_zero, List.set_cons_succ]
        refine anyL_one 2 rfl (by kernel_rfl) (fun K hK => ?_)
        go_simp
        refine (hnw.out wax).mono ?_
        rintro e' waxx ⟨A1, c1, A2, c2, rfl, hO, hb⟩
        have hI := hO.in_
        have hS' : (fun W => RbG w s7 D Z B O A W) waxx := hS.below hb
        have hX' := hX.below hb
        have hzl' : s9 < waxx.heap.size := hX'.lt
        clear hX hzl
        have hX := hX'
        have hzl := hzl'
        clear hX' hzl'
        refine hK.out _ _ (fun _ => hS') ?_
        clear hK K hS hb hO
        have hS := hS'
        clear hS'
        try simp only [Act.put, List.setIfInBounds_toArray, List.set_cons_zero, List.set_cons_succ]
        refine anyL_one 4 rfl (by kernel_rfl) (fun K hK => ?_)
        go_simp
        refine (hbg.out waxx A1 c1 A2 c2 hI).mono ?_
        rintro e' waxxx ⟨B1, d1, B2, d2, Al, cap, rfl, hRow, hI2, hN, hb⟩
        have hS' : (fun W => RbG w s7 D Z B O A W) waxxx := hS.below hb
        have hAp := ap_old hN hRow hzl
        have hX' := hX.below hb
        clear hX hzl
        have hX := hX'
        clear hX'
        refine hK.out _ _ (fun _ => hS') ?_
        clear hK K hS hb hI hN
        have hS := hS'
        clear hS'
        try simp only [Act.put, List.setIfInBounds_toArray, List.set_cons_zero, List.set_cons_succ]
        refine anyL_take 5 (v := ?_) rfl (by kernel_rfl) (fun _ _ _ h => h) (Or.inl ⟨by rfl, ?_⟩) hS ?_
        rotate_left
        focus (intro W hW; go_simp; try with_reducible rfl)
        simp only [Act.put, List.setIfInBounds_toArray, List.set_cons_zero, List.set_cons_succ]
        refine anyL_take 6 (v := ?_) rfl (by kernel_rfl) (fun _ _ _ h => h) (Or.inl ⟨by rfl, ?_⟩) hS ?_
        rotate_left
        focus (intro W hW; go_simp; try with_reducible rfl)
        simp only [Act.put, List.setIfInBounds_toArray, List.set_cons_zero, List.set_cons_succ]
        refine anyL_take 7 (v := ?_) rfl (by kernel_rfl) (fun _ _ _ h => h) (Or.inl ⟨by rfl, ?_⟩) hS ?_
        rotate_left
        focus (intro W hW; go_simp; try with_reducible rfl)
        simp only [Act.put, List.setIfInBounds_toArray, List.set_cons_zero, List.set_cons_succ]
        refine anyL_take 8 (v := ?_) rfl (by kernel_rfl) (fun _ _ _ h => h) (Or.inl ⟨by rfl, ?_⟩) hS ?_
        rotate_left
        focus (intro W hW; go_simp; try with_reducible rfl)
        simp only [Act.put, List.setIfInBounds_toArray, List.set_cons_zero, List.set_cons_succ]
        have hfin := Lib.hid (rb_put hS hX hI2 hRow hAp hz)
        obtain ⟨p0, p1, p2, p3, p4, pf⟩ := hX
        have hS2 := Lib.hid hfin.out.1.g
        clear hI2 hRow hAp hz
        refine anyL_one 10 rfl (by kernel_rfl) (fun K hK => ?_)
        go_simp
        refine hK.out _ _ (fun _ => hS) ?_
        clear hK K
        try simp only [Act.put, List.setIfInBounds_toArray, List.set_cons_zero, List.set_cons_succ]
        refine anyL_one 11 rfl (by kernel_rfl) (fun K hK => ?_)
        go_simp
        refine hK.out _ _ (fun _ => hS2.out) ?_
        clear hK K
        try simp only [Act.put, List.setIfInBounds_toArray, List.set_cons_zero, List.set_cons_succ]
        refine anyL_one 12 rfl (by kernel_rfl) (fun K hK => ?_)
        go_simp
        refine hK.out _ _ (fun _ => hS2.out) ?_
        clear hK K
        try simp only [Act.put, List.setIfInBounds_toArray, List.set_cons_zero, List.set_cons_succ]
        refine anyC_done (by kernel_rfl) ?_ _
        clear p0 p1 p2 p3 p4 pf hS hS2
        go_wp2_with fail
        go_meet
        exact ⟨s9, B1, d1, B2, d2, Al, cap, rfl, rfl, rfl, hfin.out⟩
    case rest =>
      obtain ⟨s9, B1, d1, B2, d2, Al, cap, rfl, rfl, rfl, hW, _⟩ := hcut
      rw [hk0.out] at hW
      have hWH := Lib.hid hW
      have hml : Hid (((newMs m).set s D).length = m) := Lib.hid (by rw [List.length_set, newMs_len])
      clear hW hS hnw hbg hne hk0 hnl
      generalize (newMs m).set s D = ms at hWH hml
      generalize newZ n = zs at hWH
      have hhs := Lib.hid (fun W A1 c1 A2 c2 b x p => has_anyB W A1 c1 A2 c2 b x p)
      have had := Lib.hid (fun W A1 c1 A2 c2 b (h : BkIn W A1 c1 A2 c2 b) (hq : 0 ≤ b.q ∧ b.q ≤ 4611686018427387904) => advance_any W D Z B O A A1 c1 A2 c2 b h hq (by have := hZH.out; omega))
      go_wp2_with fail
      go_loopw [11, 12] (fun h i wr => ∃ (k : Nat) (C1 : Option Addr) (e1 : Nat) (C2 : Option Addr) (e2 : Nat), k ≤ n + 1 ∧ i = .int .i64 (k : Int) ∧ h = .int .i64 ((k - 1 : Nat) : Int) ∧ Hid (RbW w wr s7 s9 D Z B O A C1 e1 C2 e2 (bkk 2 zs ms s Z k))) (fun _ i _ => n + 2 - (intOf i).toNat)
      case atStart => exact ⟨0, B1, d1, B2, d2, by omega, rfl, rfl, hWH⟩
      case round =>
        clear hWH
        obtain ⟨k, C1, e1, C2, e2, hk, rfl, rfl, hW⟩ := hrel
        have hkH := Lib.hid hk
        have hkZ : (k : Int) ≤ Z := by have := hZH.out; omega
        have g1 := hW.out.g.1.2.1
        have hkw : IntKind.i64.wrap ((k : Int) + 1) = (k : Int) + 1 := IntWalk.i64_in _ (by omega)
        have hv1 : Hid (∀ j : Nat, j ≤ n → hasB (bkk 2 zs ms s Z k) (s : Int) ((j + 2 : Nat) : Int) = decide (j < k)) := Lib.hid (fun j hj => by
          by_cases h : 2 + (k : Int) < Z
          · rw [has_on h (by rw [hml.out]; exact hsm)]
            refine Bool.eq_iff_iff.2 ?_
            simp only [decide_eq_true_eq]
            omega
          · rw [has_off h (by rw [hml.out]; exact hsm), decide_eq_true]
            have := hZH.out
            omega)
        have hv2 : Hid (o ≠ s → ∀ j : Nat, hasB (bkk 2 zs ms s Z k) (o : Int) ((j + 2 : Nat) : Int) = true) := Lib.hid (fun h j => has_else h (by rw [hml.out]; exact hom) _)
        have hlast : Hid (if k = n + 1 then (bkk 2 zs ms s Z k).sl = -1 else (0 ≤ (bkk 2 zs ms s Z k).sl ∧ advB (bkk 2 zs ms s Z k) Z = bkk 2 zs ms s Z (k + 1))) := Lib.hid (by
          by_cases h : k = n + 1
          · rw [if_pos h]; exact (bkk_off (by have := hZH.out; omega)).1
          · rw [if_neg h]
            have h2 : 2 + (k : Int) < Z := by have := hZH.out; omega
            exact ⟨by rw [(bkk_on h2).1]; omega, bkk_adv (by omega) h2⟩)
        have hqk : Hid (0 ≤ (bkk 2 zs ms s Z k).q ∧ (bkk 2 zs ms s Z k).q ≤ 4611686018427387904) := Lib.hid (by rw [bkk_q]; omega)
        generalize bkk 2 zs ms s Z k = bk at hW hv1 hv2 hlast hqk
        go_wp2_with fail
        clear g1
        go_loopw [13, 14] (fun nn p wr => ∃ j : Nat, j ≤ n + 1 ∧ p = .int .i64 ((j + 2 : Nat) : Int) ∧ nn = .int .i64 ((min j k : Nat) : Int) ∧ Hid (RbW w wr s7 s9 D Z B O A C1 e1 C2 e2 bk)) (fun _ p _ => n + 3 - (intOf p).toNat)
        case atStart => exact ⟨0, Nat.zero_le _, rfl, by rw [Nat.zero_min]; rfl, hW⟩
        case round =>
          clear hW
          obtain ⟨j, hj, rfl, rfl, hW⟩ := hrel
          have g1 := hW.out.g.1.2.1
          by_cases hlt : j ≤ n
          case pos =>
            have hjZ : ((j + 2 : Nat) : Int) < Z := by have := hZH.out; omega
            have hjw : IntKind.i64.wrap (((j + 2 : Nat) : Int) + 1) = ((j + 2 : Nat) : Int) + 1 := IntWalk.i64_in _ (by omega)
            have hnw2 : IntKind.i64.wrap (((min j k : Nat) : Int) + 1) = ((min j k : Nat) : Int) + 1 := IntWalk.i64_in _ (by omega)
            have hjn : Hid (((j + 2 : Nat) : Int) + 1 = ((j + 1 + 2 : Nat) : Int) ∧ n + 3 - (j + 1 + 2) < n + 3 - (j + 2)) := Lib.hid (by omega)
            have hc1 := Lib.hid (fun W => hhs.out W C1 e1 C2 e2 bk (s : Int) ((j + 2 : Nat) : Int))
            have hc2 := Lib.hid (fun W => hhs.out W C1 e1 C2 e2 bk (o : Int) ((j + 2 : Nat) : Int))
            rw [hv1.out j hlt] at hc1
            have hv2j := Lib.hid (fun h => hv2.out h j)
            generalize hj2 : ((j + 2 : Nat) : Int) = J at hjZ hjw hjn hc1 hc2 hv2j ⊢
            have hj2H := Lib.hid hj2
            obtain ⟨k0, k1, k2, k3, k4, _⟩ := hW.out.k
            clear hj2 hv1 hv2
            by_cases hjk : j < k
            case pos =>
              rw [decide_eq_true hjk] at hc1
              have hmn : Hid (((min j k : Nat) : Int) + 1 = ((min (j + 1) k : Nat) : Int)) := Lib.hid (by omega)
              go_wp2_with fail
              (with_reducible refine (hc1.out _).mono ?_)
              rintro e w3 ⟨rfl, hb3⟩
              have hW3 := Lib.hid (hW.out.below hb3)
              clear hW hb3 k0 k1 k2 k3 k4 hc1 g1
              by_cases hos : o = s
              case pos =>
                have hno : ((o : Int) != (s : Int)) = false := by simp [hos]
                clear hos
                go_wp2_with fail
                go_roundw
                case rel => exact ⟨j + 1, by omega, by rw [← hjn.out.1], by rw [← hmn.out], hW3⟩
                case measure => simp only [intOf]; rw [hjn.out.1]; have := hj2H.out; omega
              case neg =>
                have hno : ((o : Int) != (s : Int)) = true := by simp; omega
                have hv := hv2j.out hos
                rw [hv] at hc2
                obtain ⟨k0, k1, k2, k3, k4, _⟩ := hW3.out.k
                clear hos hv
                go_wp2_with fail
                (with_reducible refine (hc2.out _).mono ?_)
                rintro e w4 ⟨rfl, hb4⟩
                have hW4 := Lib.hid (hW3.out.below hb4)
                clear hW3 hb4 k0 k1 k2 k3 k4 hc2
                go_wp2_with fail
                go_roundw
                case rel => exact ⟨j + 1, by omega, by rw [← hjn.out.1], by rw [← hmn.out], hW4⟩
                case measure => simp only [intOf]; rw [hjn.out.1]; have := hj2H.out; omega
            case neg =>
              rw [decide_eq_false hjk] at hc1
              have hmn : Hid (((min j k : Nat) : Int) = ((min (j + 1) k : Nat) : Int)) := Lib.hid (by omega)
              go_wp2_with fail
              (with_reducible refine (hc1.out _).mono ?_)
              rintro e w3 ⟨rfl, hb3⟩
              have hW3 := Lib.hid (hW.out.below hb3)
              clear hW hb3 k0 k1 k2 k3 k4 hc1 g1
              by_cases hos : o = s
              case pos =>
                have hno : ((o : Int) != (s : Int)) = false := by simp [hos]
                clear hos
                go_wp2_with fail
                go_roundw
                case rel => exact ⟨j + 1, by omega, by rw [← hjn.out.1], by rw [← hmn.out], hW3⟩
                case measure => simp only [intOf]; rw [hjn.out.1]; have := hj2H.out; omega
              case neg =>
                have hno : ((o : Int) != (s : Int)) = true := by simp; omega
                have hv := hv2j.out hos
                rw [hv] at hc2
                obtain ⟨k0, k1, k2, k3, k4, _⟩ := hW3.out.k
                clear hos hv
                go_wp2_with fail
                (with_reducible refine (hc2.out _).mono ?_)
                rintro e w4 ⟨rfl, hb4⟩
                have hW4 := Lib.hid (hW3.out.below hb4)
                clear hW3 hb4 k0 k1 k2 k3 k4 hc2
                go_wp2_with fail
                go_roundw
                case rel => exact ⟨j + 1, by omega, by rw [← hjn.out.1], by rw [← hmn.out], hW4⟩
                case measure => simp only [intOf]; rw [hjn.out.1]; have := hj2H.out; omega
          case neg =>
            have hje : j = n + 1 := by omega
            have hmin : min j k = k := by omega
            have hjZ : ¬ ((j + 2 : Nat) : Int) < Z := by have := hZH.out; omega
            have hnh : ¬ (k : Int) < ((k - 1 : Nat) : Int) := by omega
            rw [hmin]
            have hac := Lib.hid (fun W (hb : RbW w W s7 s9 D Z B O A C1 e1 C2 e2 bk) => had.out W C1 e1 C2 e2 bk hb.i hqk.out)
            obtain ⟨c0, c1, c2, c3, c4, _⟩ := hW.out.g.2.1
            obtain ⟨k0, k1, k2, k3, k4, _⟩ := hW.out.k
            have hacc := Lib.hid (hac.out _ hW.out)
            clear hac hv1 hv2 hmin hje
            generalize ((j + 2 : Nat) : Int) = J at hjZ ⊢
            go_wp2_with fail
            (with_reducible refine hacc.out.mono ?_)
            rintro e w3 ⟨code, x, b', E1, f1, E2, f2, rfl, hR, hI, hN, hb3⟩
            have hW3 := hW.out.below hb3
            have hnn : Hid ((∀ g off, E1 = some ⟨g, off, none⟩ → g ≠ s9) ∧ ∀ g off, E2 = some ⟨g, off, none⟩ → g ≠ s9) := Lib.hid ⟨fun g off e => (by have := hN.1 g off e; have := hW.out.k.lt; omega), fun g off e => (by have := hN.2 g off e; have := hW.out.k.lt; omega)⟩
            clear hacc hb3 hW hN k0 k1 k2 k3 k4 c0 c1 c2 c3 c4 g1
            by_cases hkn : k = n + 1
            case pos =>
              have hl := hlast.out
              rw [if_pos hkn] at hl
              have hcode : code = 3 := by
                rcases hR with ⟨_, h, _⟩ | ⟨h, _⟩
                · exact h
                · omega
              subst hcode
              have hF := Lib.hid (bmore (bmore hW3.g.2.2.1 ((Below.refl w3.heap.size w3).alloc (Nat.le_refl _) (.cells #[.int .i64 x.k, .int .i64 x.s, .int .i64 x.a, .int .i64 x.b, .int .i64 x.c, .int .i64 x.d, .string x.body] 62))) ((Below.refl _ (w3.alloc (.cells #[.int .i64 x.k, .int .i64 x.s, .int .i64 x.a, .int .i64 x.b, .int .i64 x.c, .int .i64 x.d, .string x.body] 62))).alloc (Nat.le_refl _) (.cells #[.int .i64 b'.q, .slice E1 b'.zs.length f1, .slice E2 b'.ms.length f2, .int .i64 b'.sl, .int .i64 b'.cu] 58)))
              have k3 := hW3.k.c3
              rw [hl] at k3
              have g1 := hW3.g.1.2.1
              have hgl := hW3.g.1.2.2.2.2.2
              have hsl := hW3.k.lt
              have hZ2 : (k : Int) = Z - 2 := by have := hZH.out; omega
              have hZw : IntKind.i64.wrap (Z - 2) = (k : Int) := by rw [← hZ2]; exact IntWalk.i64_in _ (by omega)
              clear hR hI hW3 hlast hl hkn hZ2 hnn
              go_wp2_with fail
              go_ret
              exact ⟨rfl, hF.out⟩
            case neg =>
              have hl := hlast.out
              have hkn2 : Hid (k ≤ n) := Lib.hid (by have := hkH.out; omega)
              rw [if_neg hkn] at hl
              obtain ⟨hcode, hbe⟩ : code = 0 ∧ b' = bkk 2 zs ms s Z (k + 1) := by
                rcases hR with ⟨h, _⟩ | ⟨_, h, _, h2⟩
                · exact absurd hl.1 (by omega)
                · exact ⟨h, h2.trans hl.2⟩
              subst hcode
              subst hbe
              generalize hbn : bkk 2 zs ms s Z (k + 1) = bn at hI ⊢
              have hbnH := Lib.hid hbn
              have b1 := (Below.refl w3.heap.size w3).alloc (Nat.le_refl _) (.cells #[.int .i64 x.k, .int .i64 x.s, .int .i64 x.a, .int .i64 x.b, .int .i64 x.c, .int .i64 x.d, .string x.body] 62)
              have hW4 := hW3.below b1
              have hI4 := hI.below b1
              have hsz4 := World.size_alloc w3 (.cells #[.int .i64 x.k, .int .i64 x.s, .int .i64 x.a, .int .i64 x.b, .int .i64 x.c, .int .i64 x.d, .string x.body] 62)
              generalize hw4 : w3.alloc (.cells #[.int .i64 x.k, .int .i64 x.s, .int .i64 x.a, .int .i64 x.b, .int .i64 x.c, .int .i64 x.d, .string x.body] 62) = w4 at hW4 hI4 hsz4
              have hw4H := Lib.hid hw4
              have b2 := (Below.refl w4.heap.size w4).alloc (Nat.le_refl _) (.cells #[.int .i64 bn.q, .slice E1 bn.zs.length f1, .slice E2 bn.ms.length f2, .int .i64 bn.sl, .int .i64 bn.cu] 58)
              have hX5 := BkAt.new w4 E1 f1 E2 f2 bn 58
              have h5 := Lib.hid (⟨hW4.below b2, hI4.below b2, hX5⟩ : RbW w _ s7 s9 D Z B O A C1 e1 C2 e2 bk ∧ BkIn _ E1 f1 E2 f2 bn ∧ BkAt _ w4.heap.size E1 f1 E2 f2 bn)
              rw [← hw4, World.size_alloc] at h5
              clear hR hI hW3 hlast hl hkn hbn b1 hW4 hI4 hsz4 hw4 hw4H b2 hX5
              go_upto_region 28 with fail
              generalize w3.heap.size + 1 = s16 at h5 ⊢
              refine fresh_world (fun W => RbW w W s7 s9 D Z B O A C1 e1 C2 e2 bk ∧ BkIn W E1 f1 E2 f2 bn ∧ BkAt W s16 E1 f1 E2 f2 bn) h5.out ?_
              clear h5
              rintro w5 ⟨h5, hI5, hX5⟩
              have hput := h5.put hI5 hnn.out.1 hnn.out.2
              rw [← hbnH.out] at hput
              have hputH := Lib.hid hput
              rw [hbnH.out] at hputH
              obtain ⟨k0, k1, k2, k3, k4, kf⟩ := h5.k
              obtain ⟨y0, y1, y2, y3, y4, _⟩ := hX5
              have hsl := h5.k.lt
              clear h5 hI5 hput hnn
              go_wp2_with fail
              go_roundw
              case rel => exact ⟨k + 1, E1, f1, E2, f2, by have := hkn2.out; omega, by go_num, by rw [Nat.add_sub_cancel], Lib.hid (by rw [hbnH.out]; exact hputH.out)⟩
              case measure => have := hkn2.out; simp only [intOf]; omega
end Go.Proofs.Ytdjdldcpaidmnaa
