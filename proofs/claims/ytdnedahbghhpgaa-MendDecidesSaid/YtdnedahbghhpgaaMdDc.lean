/- MendDecides: the walk. -/
import Derived.Test.YtdnedahbghhpgaaRvD
import Derived.Test.YtdnedahbghhpgaaMdP0
namespace Go.Proofs.Ytdnedahbghhpgaa
open Go.RowKit Tl Pl Md

/-- The arguments' boxes. -/
structure MeT (w : World) (D Z B O A q0 q1 q2 : Int) (W : World) : Prop where
  g : GeoAt W w.heap.size D Z B O A
  a0 : W.cell? ⟨w.heap.size + 1, 0, none⟩ = some (.int .i64 q0)
  a1 : W.cell? ⟨w.heap.size + 1, 1, none⟩ = some (.int .i64 q1)
  a2 : W.cell? ⟨w.heap.size + 1, 2, none⟩ = some (.int .i64 q2)
  bw : Below w.heap.size w W
theorem MeT.below {w W W' : World} {D Z B O A q0 q1 q2 : Int} (h : MeT w D Z B O A q0 q1 q2 W) (hb : Below W.heap.size W W') : MeT w D Z B O A q0 q1 q2 W' := ⟨h.g.below hb, keepC h.a0 hb, keepC h.a1 hb, keepC h.a2 hb, bmore h.bw hb⟩
theorem MeT.low {w W W' : World} {k : Nat} {D Z B O A q0 q1 q2 : Int} (h : MeT w D Z B O A q0 q1 q2 W) (hb : Below k W W') (hk2 : w.heap.size + 1 < k) : MeT w D Z B O A q0 q1 q2 W' :=
  ⟨h.g.low hb (by omega), (hb.cell (p := ⟨w.heap.size + 1, 0, none⟩) hk2).trans h.a0, (hb.cell (p := ⟨w.heap.size + 1, 1, none⟩) hk2).trans h.a1, (hb.cell (p := ⟨w.heap.size + 1, 2, none⟩) hk2).trans h.a2, h.bw.trans (hb.mono (by omega))⟩
theorem MeT.new (w : World) (D Z B O A q0 q1 q2 : Int) : MeT w D Z B O A q0 q1 q2 ((w.alloc (.cells #[.int .i64 D, .int .i64 Z, .int .i64 B, .int .i64 O, .int .i64 A] 67)).alloc (.cells #[.int .i64 q0, .int .i64 q1, .int .i64 q2] 68)) := by
  have s1 := World.size_alloc w (.cells #[.int .i64 D, .int .i64 Z, .int .i64 B, .int .i64 O, .int .i64 A] 67)
  have g1 := GeoAt.new w D Z B O A 67
  have b1 := (Below.refl w.heap.size w).alloc (Nat.le_refl _) (.cells #[.int .i64 D, .int .i64 Z, .int .i64 B, .int .i64 O, .int .i64 A] 67)
  generalize w.alloc (.cells #[.int .i64 D, .int .i64 Z, .int .i64 B, .int .i64 O, .int .i64 A] 67) = W1 at s1 g1 b1 ⊢
  have hn := World.alloc_heap_new W1 (.cells #[.int .i64 q0, .int .i64 q1, .int .i64 q2] 68)
  have a2 := (Below.refl W1.heap.size W1).alloc (Nat.le_refl _) (.cells #[.int .i64 q0, .int .i64 q1, .int .i64 q2] 68)
  rw [s1] at hn
  exact ⟨g1.below a2, cell_of_row _ _ 0 _ _ _ hn, cell_of_row _ _ 1 _ _ _ hn, cell_of_row _ _ 2 _ _ _ hn, bmore b1 a2⟩
/-- What the program answers is what the document asks. -/
theorem dec_both (D Z B O A zone told m : Int) (ls : List Int) (hl : ls.length ≤ 1000000) : ∃ (d : Dd) (er : Int),
    (∀ W A2 c2, IntsIn W A2 ls → Calls Try.prog 24 #[.agg #[.int .i64 D, .int .i64 Z, .int .i64 B, .int .i64 O, .int .i64 A], .int .i64 zone, .int .i64 told, .slice A2 ls.length c2, .int .i64 m] W (DcPost W d er)) ∧
    (∀ W A2 c2, IntsIn W A2 ls → Calls Try.prog 25 #[.agg #[.int .i64 D, .int .i64 Z, .int .i64 B, .int .i64 O, .int .i64 A], .int .i64 zone, .int .i64 told, .slice A2 ls.length c2, .int .i64 m] W (RdPost W d er)) := by
  by_cases h : lnB D Z B O A zone told = true ∧ okB D B ⟨ls, m, []⟩ = true
  · obtain ⟨wd, z, r, hD, rfl, rfl, hg, hz, hr, hw2, hw15, hr2⟩ := ln_yes h.1
    refine ⟨decV (lens wd z r) ls m (wd + 1) (r : Int) (((r / wd : Nat) : Int) - 1) (parV D Z B O A (z : Int) (((r / wd : Nat) : Int) - 1)), 0, fun W A2 c2 hI => dec_good wd z r D Z B O A hD A2 c2 ls m W hg hz hr h.2 hI, fun W A2 c2 hI => ?_⟩
    rw [← ref_dec (pr := par wd z (r / wd - 1))]
    · exact rdec_good wd z r D Z B O A hD A2 c2 ls m W hg hz hr h.2 hI
    · intro hneg
      unfold parV
      rw [if_neg]
      rw [Bool.and_eq_true, betB_iff]
      intro hh
      omega
    · intro hnn
      have hrB : r / wd ≤ B.toNat := by
        refine Nat.div_le_of_le_mul ?_
        have hB : B = ((B.toNat : Nat) : Int) := by have := hg.2.2.2.2.1; omega
        rw [hD, show (wd : Int) + 1 - 1 = (wd : Int) by omega, hB, ← Int.natCast_mul] at hr
        exact Int.ofNat_le.1 hr
      obtain ⟨f, hf⟩ : ∃ f, r / wd = f + 1 := ⟨r / wd - 1, by omega⟩
      rw [hf] at hrB ⊢
      have h4 := hg.2.2.2.2.1
      rw [parV_good hg (Int.natCast_nonneg z) hz (by omega) (by omega)]
      rw [show ((f + 1 : Nat) : Int) - 1 = (f : Int) by omega, show f + 1 - 1 = f by omega, hD]
      rfl
  · have h2 : lnB D Z B O A zone told = false ∨ okB D B ⟨ls, m, []⟩ = false := by
      cases h3 : lnB D Z B O A zone told with
      | false => exact .inl rfl
      | true =>
        right
        cases h4 : okB D B ⟨ls, m, []⟩ with
        | false => rfl
        | true => exact absurd ⟨h3, h4⟩ h
    exact ⟨⟨0, 0, 0⟩, 1, fun W A2 c2 hI => dec_no D Z B O A zone told A2 c2 ls m W h2 hI hl, fun W A2 c2 hI => rdec_no D Z B O A zone told A2 c2 ls m W h2 hI hl⟩
set_option maxRecDepth 100000 in
set_option maxHeartbeats 4000000 in
theorem decides_law (w : World) (D Z B O A q0 q1 q2 : Int) (Al : Option Addr) (cl : Nat) (ls : List Int) (hI : IntsIn w Al ls) (hA0 : Al = none → cl = 0) :
    Calls Try.prog 6 #[.agg #[.int .i64 D, .int .i64 Z, .int .i64 B, .int .i64 O, .int .i64 A], .agg #[.int .i64 q0, .int .i64 q1, .int .i64 q2], .slice Al ls.length cl] w fun e w' => e = .returned (.bool true) ∧ Below w.heap.size w w' := by
  have hN := Lib.hid (MeT.new w D Z B O A q0 q1 q2)
  have hAH := Lib.hid (fun W (hb : Below w.heap.size w W) => hI.below hb)
  have hA0H := Lib.hid hA0
  clear hI hA0
  go_enter Try.func6, Try.ntmps6
  go_upto_region 1 with fail
  refine fresh_world (fun W => MeT w D Z B O A q0 q1 q2 W) hN.out ?_
  clear hN
  rintro W1 h1
  have h1H := Lib.hid h1
  clear h1
  go_wp2_with fail
  (with_reducible refine (speaks15 _).mono ?_)
  rintro e w1 ⟨rfl, hb1⟩
  have h1 := h1H.out.below hb1
  clear h1H hb1
  by_cases hl : (40 : Int) < (ls.length : Int)
  · have hF := Lib.hid h1.bw
    clear h1
    go_wp2_with fail
    go_ret
    exact ⟨rfl, hF.out⟩
  · have hl2 : ls.length ≤ 40 := by omega
    obtain ⟨d, er, hd1, hd2⟩ := dec_both D Z B O A q0 q1 q2 ls (by omega)
    have hd1 := Lib.hid hd1
    have hd2 := Lib.hid hd2
    have happ := Lib.hid (fun W base g (hr : inE.Row W base 3 (some ⟨g, 0, none⟩) 0 []) (hI : IntsIn W Al ls) (hb : base ≤ W.heap.size) => ints_app hr hI hA0H.out (by omega) hb)
    have h1H := Lib.hid h1
    clear h1
    go_upto_region 5 with fail
    have hS : (fun W => MeT w D Z B O A q0 q1 q2 W) w1.drew := h1H.out.below (Below.refl _ _).drew
    clear h1H
    refine region_anyC (fun _ => true) (fun W => MeT w D Z B O A q0 q1 q2 W) (by kernel_rfl) ?_
    generalize w1.drew = wa at hS ⊢
    have hk0 : w.heap.size + 1 < wa.heap.size := lt_of_cell hS.a0
    obtain ⟨ba, hba⟩ : ∃ ba, ba = wa.heap.size := ⟨_, rfl⟩
    have hbs : ba ≤ wa.heap.size := by omega
    rw [← hba] at hk0
    clear hba
    refine anyL_take 0 (v := ?_) rfl (by kernel_rfl) (fun _ _ _ h => h) (Or.inl ⟨by rfl, ?_⟩) hS ?_
    rotate_left
    focus (intro W hW; obtain ⟨g0, g1, g2, g3, g4, _⟩ := hW.g; go_simp; try with_reducible rfl)
    simp only [Act.put, List.setIfInBounds_toArray, List.set_cons_zero, List.set_cons_succ]
    refine anyL_take 1 (v := ?_) rfl (by kernel_rfl) (fun _ _ _ h => h) (Or.inl ⟨by rfl, ?_⟩) hS ?_
    rotate_left
    focus (intro W hW; go_simp; try with_reducible rfl)
    simp only [Act.put, List.setIfInBounds_toArray, List.set_cons_zero, List.set_cons_succ]
    refine anyL_take 2 (v := ?_) rfl (by kernel_rfl) (fun _ _ _ h => h) (Or.inl ⟨by rfl, ?_⟩) hS ?_
    rotate_left
    focus (intro W hW; have a0 := hW.a0; go_simp; try with_reducible rfl)
    simp only [Act.put, List.setIfInBounds_toArray, List.set_cons_zero, List.set_cons_succ]
    refine anyL_take 3 (v := ?_) rfl (by kernel_rfl) (fun _ _ _ h => h) (Or.inl ⟨by rfl, ?_⟩) hS ?_
    rotate_left
    focus (intro W hW; go_simp; try with_reducible rfl)
    simp only [Act.put, List.setIfInBounds_toArray, List.set_cons_zero, List.set_cons_succ]
    refine anyL_take 4 (v := ?_) rfl (by kernel_rfl) (fun _ _ _ h => h) (Or.inl ⟨by rfl, ?_⟩) hS ?_
    rotate_left
    focus (intro W hW; have a1 := hW.a1; go_simp; try with_reducible rfl)
    simp only [Act.put, List.setIfInBounds_toArray, List.set_cons_zero, List.set_cons_succ]
    refine anyL_take 6 (v := ?_) rfl (by kernel_rfl) (fun _ _ _ h => h) (Or.inl ⟨by rfl, ?_⟩) hS ?_
    rotate_left
    focus (intro W hW; go_simp; try with_reducible rfl)
    simp only [Act.put, List.setIfInBounds_toArray, List.set_cons_zero, List.set_cons_succ]
    refine anyL_take 8 (v := ?_) rfl (by kernel_rfl) (fun _ _ _ h => h) (Or.inl ⟨by rfl, ?_⟩) hS ?_
    rotate_left
    focus (intro W hW; go_simp; try with_reducible rfl)
    simp only [Act.put, List.setIfInBounds_toArray, List.set_cons_zero, List.set_cons_succ]
    refine anyL_take 9 (v := ?_) rfl (by kernel_rfl) (fun _ _ _ h => h) (Or.inl ⟨by rfl, ?_⟩) hS ?_
    rotate_left
    focus (intro W hW; have a2 := hW.a2; go_simp; try with_reducible rfl)
    simp only [Act.put, List.setIfInBounds_toArray, List.set_cons_zero, List.set_cons_succ]
    refine anyL_two 5 14 rfl rfl (by kernel_rfl) (fun K hK => ?_) (fun K hK => ?_)
    case refine_1 =>
      go_simp
      have ha := (Below.refl wa.heap.size wa).alloc (Nat.le_refl _) (.cells #[] 3)
      have hE := empty_int wa hbs
      have hS' : (fun W => MeT w D Z B O A q0 q1 q2 W) (wa.alloc (.cells #[] 3)) := hS.below ha
      have hbs' := Nat.le_trans hbs ha.size
      have hgl : wa.heap.size < (wa.alloc (.cells #[] 3)).heap.size := by simp
      generalize wa.alloc (.cells #[] 3) = wax at hS' hE hbs' hgl ⊢
      generalize wa.heap.size = g at hE hgl ⊢
      refine hK.out _ _ (fun _ => hS') ?_
      clear hK K hS hbs ha
      have hS := hS'
      have hbs := hbs'
      clear hS' hbs'
      try simp only [Act.put, List.setIfInBounds_toArray, List.set_cons_zero, List.set_cons_succ]
      refine anyL_two 7 14 rfl rfl (by kernel_rfl) (fun K hK => ?_) (fun K hK => ?_)
      case refine_1 =>
        obtain ⟨A', cap', waxx, hrun, hrow, hgr, hor⟩ := happ.out wax ba g hE (hAH.out wax hS.bw) hbs
        refine append_run_step rfl (.tmp 24) (.tmp 25) 24 rfl rfl rfl hrun ?_
        have hlow := hE.grown hgr hbs
        have hS' : (fun W => MeT w D Z B O A q0 q1 q2 W) waxx := hS.low hlow hk0
        have hI := ints_of hrow.in_
        have hbs' := Nat.le_trans hbs hlow.size
        refine hK.out _ _ (fun _ => hS') ?_
        clear hK K hS hbs hE hrow hgr hor hlow hrun hgl
        have hS := hS'
        have hbs := hbs'
        clear hS' hbs'
        try simp only [Act.put, List.setIfInBounds_toArray, List.set_cons_zero, List.set_cons_succ]
        refine anyL_two 10 14 rfl rfl (by kernel_rfl) (fun K hK => ?_) (fun K hK => ?_)
        case refine_1 =>
          go_simp
          have hc1 := hd1.out waxx A' cap' hI
          refine hc1.mono ?_
          clear hc1
          rintro e' waxxx ⟨rfl, hb⟩
          have hS' : (fun W => MeT w D Z B O A q0 q1 q2 W) waxxx := hS.below hb
          have hbs' := Nat.le_trans hbs hb.size
          refine hK.out _ _ (fun _ => hS') ?_
          clear hK K hS hb hI hbs
          have hS := hS'
          have hbs := hbs'
          clear hS' hbs'
          try simp only [Act.put, List.setIfInBounds_toArray, List.set_cons_zero, List.set_cons_succ]
          refine anyL_take 11 (v := ?_) rfl (by kernel_rfl) (fun _ _ _ h => h) (Or.inl ⟨by rfl, ?_⟩) hS ?_
          rotate_left
          focus (intro W hW; go_simp; try with_reducible rfl)
          simp only [Act.put, List.setIfInBounds_toArray, List.set_cons_zero, List.set_cons_succ]
          refine anyL_take 12 (v := ?_) rfl (by kernel_rfl) (fun _ _ _ h => h) (Or.inl ⟨by rfl, ?_⟩) hS ?_
          rotate_left
          focus (intro W hW; go_simp; try with_reducible rfl)
          simp only [Act.put, List.setIfInBounds_toArray, List.set_cons_zero, List.set_cons_succ]
          refine anyL_take 13 (v := ?_) rfl (by kernel_rfl) (fun _ _ _ h => h) (Or.inl ⟨by rfl, ?_⟩) hS ?_
          rotate_left
          focus (intro W hW; go_simp; try with_reducible rfl)
          simp only [Act.put, List.setIfInBounds_toArray, List.set_cons_zero, List.set_cons_succ]
          refine anyL_one 14 rfl (by kernel_rfl) (fun K hK => ?_)
          go_simp
          have ha := (Below.refl waxxx.heap.size waxxx).alloc (Nat.le_refl _) (.cells #[.int .i64 0, .int .i64 0, .int .i64 0] 70)
          have hn := World.alloc_heap_new waxxx (.cells #[.int .i64 0, .int .i64 0, .int .i64 0] 70)
          have hlt : w.heap.size + 1 < waxxx.heap.size := lt_of_cell hS.a0
          have hS' : (fun W => MeT w D Z B O A q0 q1 q2 W) (waxxx.alloc (.cells #[.int .i64 0, .int .i64 0, .int .i64 0] 70)) := hS.below ha
          have hbs' := Nat.le_trans hbs ha.size
          generalize waxxx.alloc (.cells #[.int .i64 0, .int .i64 0, .int .i64 0] 70) = waxxxx at hS' hn hbs' ⊢
          generalize waxxx.heap.size = s20 at hn hlt ⊢
          refine hK.out _ _ (fun _ => hS') ?_
          clear hK K hS hbs ha
          have hS := hS'
          have hbs := hbs'
          clear hS' hbs'
          try simp only [Act.put, List.setIfInBounds_toArray, List.set_cons_zero, List.set_cons_succ]
          have zf : ∀ j, waxxxx.frozen? ⟨s20, j, none⟩ = false := fun j => by simp [World.frozen?, hn]
          have z0 : waxxxx.cell? ⟨s20, 0, none⟩ = some (.int .i64 0) := cell_of_row waxxxx _ 0 _ _ _ hn
          have z1 : waxxxx.cell? ⟨s20, 1, none⟩ = some (.int .i64 0) := cell_of_row waxxxx _ 1 _ _ _ hn
          have z2 : waxxxx.cell? ⟨s20, 2, none⟩ = some (.int .i64 0) := cell_of_row waxxxx _ 2 _ _ _ hn
          have zl := lt_of_cell z0
          have hn2 := heap_setV (heap_setV (heap_setV hn 0 (.int .i64 d.k)) 1 (.int .i64 d.s)) 2 (.int .i64 d.r)
          have hlow := (((Below.refl s20 waxxxx).setCell (p := ⟨s20, 0, none⟩) (Nat.le_refl _) (.int .i64 d.k)).setCell (p := ⟨s20, 1, none⟩) (Nat.le_refl _) (.int .i64 d.s)).setCell (p := ⟨s20, 2, none⟩) (Nat.le_refl _) (.int .i64 d.r)
          have hS4 : (fun W => MeT w D Z B O A q0 q1 q2 W) (((waxxxx.setCell ⟨s20, 0, none⟩ (.int .i64 d.k)).setCell ⟨s20, 1, none⟩ (.int .i64 d.s)).setCell ⟨s20, 2, none⟩ (.int .i64 d.r)) := hS.low hlow hlt
          refine anyL_one 15 rfl (by kernel_rfl) (fun K hK => ?_)
          go_simp
          generalize ((waxxxx.setCell ⟨s20, 0, none⟩ (.int .i64 d.k)).setCell ⟨s20, 1, none⟩ (.int .i64 d.s)).setCell ⟨s20, 2, none⟩ (.int .i64 d.r) = w8 at hn2 hS4 ⊢
          refine hK.out _ _ (fun _ => hS4) ?_
          clear hK K hS hlow hn zf z0 z1 z2 zl hlt
          try simp only [Act.put, List.setIfInBounds_toArray, List.set_cons_zero, List.set_cons_succ]
          refine anyL_take 16 (v := ?_) rfl (by kernel_rfl) (fun _ _ _ h => h) (Or.inl ⟨by rfl, ?_⟩) hS4 ?_
          rotate_left
          focus (intro W hW; go_simp; try with_reducible rfl)
          simp only [Act.put, List.setIfInBounds_toArray, List.set_cons_zero, List.set_cons_succ]
          refine anyC_done (by kernel_rfl) ?_ _
          obtain ⟨g0, g1, g2, g3, g4, _⟩ := hS4.g
          have a0 := hS4.a0
          have a1 := hS4.a1
          have a2 := hS4.a2
          have hc := Lib.hid (hd2.out w8 Al cl (hAH.out w8 hS4.bw))
          have hSH := Lib.hid hS4
          have hnH := Lib.hid (fun W (hb : Below w8.heap.size w8 W) => (hb.block _ (Array.getElem?_eq_some_iff.1 hn2).1).trans hn2)
          clear hS4 hn2 hd2
          go_wp2_with fail
          (with_reducible refine hc.out.mono ?_)
          rintro e w9 ⟨rfl, hb9⟩
          have hF := Lib.hid (hSH.out.below hb9).bw
          have hn3 := hnH.out _ hb9
          have y0 : w9.cell? ⟨s20, 0, none⟩ = some (.int .i64 d.k) := cell_of_row w9 _ 0 _ _ _ hn3
          have y1 : w9.cell? ⟨s20, 1, none⟩ = some (.int .i64 d.s) := cell_of_row w9 _ 1 _ _ _ hn3
          have y2 : w9.cell? ⟨s20, 2, none⟩ = some (.int .i64 d.r) := cell_of_row w9 _ 2 _ _ _ hn3
          have yl := lt_of_cell y0
          clear hc hSH hnH hb9 hn3 g0 g1 g2 g3 g4 a0 a1 a2
          go_wp2_with fail
          go_ret
          exact ⟨rfl, hF.out⟩
        case refine_2 =>
          go_simp
          have ha := (Below.refl waxx.heap.size waxx).alloc (Nat.le_refl _) (.cells #[.int .i64 0, .int .i64 0, .int .i64 0] 70)
          have hn := World.alloc_heap_new waxx (.cells #[.int .i64 0, .int .i64 0, .int .i64 0] 70)
          have hlt : w.heap.size + 1 < waxx.heap.size := lt_of_cell hS.a0
          have hS' : (fun W => MeT w D Z B O A q0 q1 q2 W) (waxx.alloc (.cells #[.int .i64 0, .int .i64 0, .int .i64 0] 70)) := hS.below ha
          have hbs' := Nat.le_trans hbs ha.size
          have hI' := hI.below ha
          generalize waxx.alloc (.cells #[.int .i64 0, .int .i64 0, .int .i64 0] 70) = waxxx at hS' hn hbs' hI' ⊢
          generalize waxx.heap.size = s20 at hn hlt ⊢
          refine hK.out _ _ (fun _ => hS') ?_
          clear hK K hS hbs ha hI
          have hI := hI'
          clear hI'
          have hS := hS'
          have hbs := hbs'
          clear hS' hbs'
          try simp only [Act.put, List.setIfInBounds_toArray, List.set_cons_zero, List.set_cons_succ]
          refine anyL_one 10 rfl (by kernel_rfl) (fun K hK => ?_)
          go_simp
          have hc1 := hd1.out waxxx A' cap' hI
          refine hc1.mono ?_
          clear hc1
          rintro e' waxxxx ⟨rfl, hb⟩
          have hS' : (fun W => MeT w D Z B O A q0 q1 q2 W) waxxxx := hS.below hb
          have hbs' := Nat.le_trans hbs hb.size
          have hn' := (hb.block _ (Array.getElem?_eq_some_iff.1 hn).1).trans hn
          clear hn
          have hn := hn'
          clear hn'
          refine hK.out _ _ (fun _ => hS') ?_
          clear hK K hS hb hI hbs
          have hS := hS'
          have hbs := hbs'
          clear hS' hbs'
          try simp only [Act.put, List.setIfInBounds_toArray, List.set_cons_zero, List.set_cons_succ]
          refine anyL_take 11 (v := ?_) rfl (by kernel_rfl) (fun _ _ _ h => h) (Or.inl ⟨by rfl, ?_⟩) hS ?_
          rotate_left
          focus (intro W hW; go_simp; try with_reducible rfl)
          simp only [Act.put, List.setIfInBounds_toArray, List.set_cons_zero, List.set_cons_succ]
          refine anyL_take 12 (v := ?_) rfl (by kernel_rfl) (fun _ _ _ h => h) (Or.inl ⟨by rfl, ?_⟩) hS ?_
          rotate_left
          focus (intro W hW; go_simp; try with_reducible rfl)
          simp only [Act.put, List.setIfInBounds_toArray, List.set_cons_zero, List.set_cons_succ]
          refine anyL_take 13 (v := ?_) rfl (by kernel_rfl) (fun _ _ _ h => h) (Or.inl ⟨by rfl, ?_⟩) hS ?_
          rotate_left
          focus (intro W hW; go_simp; try with_reducible rfl)
          simp only [Act.put, List.setIfInBounds_toArray, List.set_cons_zero, List.set_cons_succ]
          have zf : ∀ j, waxxxx.frozen? ⟨s20, j, none⟩ = false := fun j => by simp [World.frozen?, hn]
          have z0 : waxxxx.cell? ⟨s20, 0, none⟩ = some (.int .i64 0) := cell_of_row waxxxx _ 0 _ _ _ hn
          have z1 : waxxxx.cell? ⟨s20, 1, none⟩ = some (.int .i64 0) := cell_of_row waxxxx _ 1 _ _ _ hn
          have z2 : waxxxx.cell? ⟨s20, 2, none⟩ = some (.int .i64 0) := cell_of_row waxxxx _ 2 _ _ _ hn
          have zl := lt_of_cell z0
          have hn2 := heap_setV (heap_setV (heap_setV hn 0 (.int .i64 d.k)) 1 (.int .i64 d.s)) 2 (.int .i64 d.r)
          have hlow := (((Below.refl s20 waxxxx).setCell (p := ⟨s20, 0, none⟩) (Nat.le_refl _) (.int .i64 d.k)).setCell (p := ⟨s20, 1, none⟩) (Nat.le_refl _) (.int .i64 d.s)).setCell (p := ⟨s20, 2, none⟩) (Nat.le_refl _) (.int .i64 d.r)
          have hS4 : (fun W => MeT w D Z B O A q0 q1 q2 W) (((waxxxx.setCell ⟨s20, 0, none⟩ (.int .i64 d.k)).setCell ⟨s20, 1, none⟩ (.int .i64 d.s)).setCell ⟨s20, 2, none⟩ (.int .i64 d.r)) := hS.low hlow hlt
          refine anyL_one 15 rfl (by kernel_rfl) (fun K hK => ?_)
          go_simp
          generalize ((waxxxx.setCell ⟨s20, 0, none⟩ (.int .i64 d.k)).setCell ⟨s20, 1, none⟩ (.int .i64 d.s)).setCell ⟨s20, 2, none⟩ (.int .i64 d.r) = w8 at hn2 hS4 ⊢
          refine hK.out _ _ (fun _ => hS4) ?_
          clear hK K hS hlow hn zf z0 z1 z2 zl hlt
          try simp only [Act.put, List.setIfInBounds_toArray, List.set_cons_zero, List.set_cons_succ]
          refine anyL_take 16 (v := ?_) rfl (by kernel_rfl) (fun _ _ _ h => h) (Or.inl ⟨by rfl, ?_⟩) hS4 ?_
          rotate_left
          focus (intro W hW; go_simp; try with_reducible rfl)
          simp only [Act.put, List.setIfInBounds_toArray, List.set_cons_zero, List.set_cons_succ]
          refine anyC_done (by kernel_rfl) ?_ _
          obtain ⟨g0, g1, g2, g3, g4, _⟩ := hS4.g
          have a0 := hS4.a0
          have a1 := hS4.a1
          have a2 := hS4.a2
          have hc := Lib.hid (hd2.out w8 Al cl (hAH.out w8 hS4.bw))
          have hSH := Lib.hid hS4
          have hnH := Lib.hid (fun W (hb : Below w8.heap.size w8 W) => (hb.block _ (Array.getElem?_eq_some_iff.1 hn2).1).trans hn2)
          clear hS4 hn2 hd2
          go_wp2_with fail
          (with_reducible refine hc.out.mono ?_)
          rintro e w9 ⟨rfl, hb9⟩
          have hF := Lib.hid (hSH.out.below hb9).bw
          have hn3 := hnH.out _ hb9
          have y0 : w9.cell? ⟨s20, 0, none⟩ = some (.int .i64 d.k) := cell_of_row w9 _ 0 _ _ _ hn3
          have y1 : w9.cell? ⟨s20, 1, none⟩ = some (.int .i64 d.s) := cell_of_row w9 _ 1 _ _ _ hn3
          have y2 : w9.cell? ⟨s20, 2, none⟩ = some (.int .i64 d.r) := cell_of_row w9 _ 2 _ _ _ hn3
          have yl := lt_of_cell y0
          clear hc hSH hnH hb9 hn3 g0 g1 g2 g3 g4 a0 a1 a2
          go_wp2_with fail
          go_ret
          exact ⟨rfl, hF.out⟩
      case refine_2 =>
        go_simp
        have ha := (Below.refl wax.heap.size wax).alloc (Nat.le_refl _) (.cells #[.int .i64 0, .int .i64 0, .int .i64 0] 70)
        have hn := World.alloc_heap_new wax (.cells #[.int .i64 0, .int .i64 0, .int .i64 0] 70)
        have hlt : w.heap.size + 1 < wax.heap.size := lt_of_cell hS.a0
        have hS' : (fun W => MeT w D Z B O A q0 q1 q2 W) (wax.alloc (.cells #[.int .i64 0, .int .i64 0, .int .i64 0] 70)) := hS.below ha
        have hbs' := Nat.le_trans hbs ha.size
        have hE' := hE.below ha
        have hng : g ≠ wax.heap.size := by have := hgl; omega
        generalize wax.alloc (.cells #[.int .i64 0, .int .i64 0, .int .i64 0] 70) = waxx at hS' hn hbs' hE' ⊢
        generalize wax.heap.size = s20 at hn hlt hng ⊢
        refine hK.out _ _ (fun _ => hS') ?_
        clear hK K hS hbs ha hE
        have hE := hE'
        clear hE' hgl
        have hS := hS'
        have hbs := hbs'
        clear hS' hbs'
        try simp only [Act.put, List.setIfInBounds_toArray, List.set_cons_zero, List.set_cons_succ]
        refine anyL_one 7 rfl (by kernel_rfl) (fun K hK => ?_)
        obtain ⟨A', cap', waxxx, hrun, hrow, hgr, hor⟩ := happ.out waxx ba g hE (hAH.out waxx hS.bw) hbs
        refine append_run_step rfl (.tmp 24) (.tmp 25) 24 rfl rfl rfl hrun ?_
        have hlow := hE.grown hgr hbs
        have hS' : (fun W => MeT w D Z B O A q0 q1 q2 W) waxxx := hS.low hlow hk0
        have hI := ints_of hrow.in_
        have hn' := (hgr.block s20 (Array.getElem?_eq_some_iff.1 hn).1 (fun e => hng (Option.some.inj e).symm)).trans hn
        have hbs' := Nat.le_trans hbs hlow.size
        refine hK.out _ _ (fun _ => hS') ?_
        clear hK K hS hbs hE hrow hgr hor hlow hrun hn hng
        have hn := hn'
        clear hn'
        have hS := hS'
        have hbs := hbs'
        clear hS' hbs'
        try simp only [Act.put, List.setIfInBounds_toArray, List.set_cons_zero, List.set_cons_succ]
        refine anyL_one 10 rfl (by kernel_rfl) (fun K hK => ?_)
        go_simp
        have hc1 := hd1.out waxxx A' cap' hI
        refine hc1.mono ?_
        clear hc1
        rintro e' waxxxx ⟨rfl, hb⟩
        have hS' : (fun W => MeT w D Z B O A q0 q1 q2 W) waxxxx := hS.below hb
        have hbs' := Nat.le_trans hbs hb.size
        have hn' := (hb.block _ (Array.getElem?_eq_some_iff.1 hn).1).trans hn
        clear hn
        have hn := hn'
        clear hn'
        refine hK.out _ _ (fun _ => hS') ?_
        clear hK K hS hb hI hbs
        have hS := hS'
        have hbs := hbs'
        clear hS' hbs'
        try simp only [Act.put, List.setIfInBounds_toArray, List.set_cons_zero, List.set_cons_succ]
        refine anyL_take 11 (v := ?_) rfl (by kernel_rfl) (fun _ _ _ h => h) (Or.inl ⟨by rfl, ?_⟩) hS ?_
        rotate_left
        focus (intro W hW; go_simp; try with_reducible rfl)
        simp only [Act.put, List.setIfInBounds_toArray, List.set_cons_zero, List.set_cons_succ]
        refine anyL_take 12 (v := ?_) rfl (by kernel_rfl) (fun _ _ _ h => h) (Or.inl ⟨by rfl, ?_⟩) hS ?_
        rotate_left
        focus (intro W hW; go_simp; try with_reducible rfl)
        simp only [Act.put, List.setIfInBounds_toArray, List.set_cons_zero, List.set_cons_succ]
        refine anyL_take 13 (v := ?_) rfl (by kernel_rfl) (fun _ _ _ h => h) (Or.inl ⟨by rfl, ?_⟩) hS ?_
        rotate_left
        focus (intro W hW; go_simp; try with_reducible rfl)
        simp only [Act.put, List.setIfInBounds_toArray, List.set_cons_zero, List.set_cons_succ]
        have zf : ∀ j, waxxxx.frozen? ⟨s20, j, none⟩ = false := fun j => by simp [World.frozen?, hn]
        have z0 : waxxxx.cell? ⟨s20, 0, none⟩ = some (.int .i64 0) := cell_of_row waxxxx _ 0 _ _ _ hn
        have z1 : waxxxx.cell? ⟨s20, 1, none⟩ = some (.int .i64 0) := cell_of_row waxxxx _ 1 _ _ _ hn
        have z2 : waxxxx.cell? ⟨s20, 2, none⟩ = some (.int .i64 0) := cell_of_row waxxxx _ 2 _ _ _ hn
        have zl := lt_of_cell z0
        have hn2 := heap_setV (heap_setV (heap_setV hn 0 (.int .i64 d.k)) 1 (.int .i64 d.s)) 2 (.int .i64 d.r)
        have hlow := (((Below.refl s20 waxxxx).setCell (p := ⟨s20, 0, none⟩) (Nat.le_refl _) (.int .i64 d.k)).setCell (p := ⟨s20, 1, none⟩) (Nat.le_refl _) (.int .i64 d.s)).setCell (p := ⟨s20, 2, none⟩) (Nat.le_refl _) (.int .i64 d.r)
        have hS4 : (fun W => MeT w D Z B O A q0 q1 q2 W) (((waxxxx.setCell ⟨s20, 0, none⟩ (.int .i64 d.k)).setCell ⟨s20, 1, none⟩ (.int .i64 d.s)).setCell ⟨s20, 2, none⟩ (.int .i64 d.r)) := hS.low hlow hlt
        refine anyL_one 15 rfl (by kernel_rfl) (fun K hK => ?_)
        go_simp
        generalize ((waxxxx.setCell ⟨s20, 0, none⟩ (.int .i64 d.k)).setCell ⟨s20, 1, none⟩ (.int .i64 d.s)).setCell ⟨s20, 2, none⟩ (.int .i64 d.r) = w8 at hn2 hS4 ⊢
        refine hK.out _ _ (fun _ => hS4) ?_
        clear hK K hS hlow hn zf z0 z1 z2 zl hlt
        try simp only [Act.put, List.setIfInBounds_toArray, List.set_cons_zero, List.set_cons_succ]
        refine anyL_take 16 (v := ?_) rfl (by kernel_rfl) (fun _ _ _ h => h) (Or.inl ⟨by rfl, ?_⟩) hS4 ?_
        rotate_left
        focus (intro W hW; go_simp; try with_reducible rfl)
        simp only [Act.put, List.setIfInBounds_toArray, List.set_cons_zero, List.set_cons_succ]
        refine anyC_done (by kernel_rfl) ?_ _
        obtain ⟨g0, g1, g2, g3, g4, _⟩ := hS4.g
        have a0 := hS4.a0
        have a1 := hS4.a1
        have a2 := hS4.a2
        have hc := Lib.hid (hd2.out w8 Al cl (hAH.out w8 hS4.bw))
        have hSH := Lib.hid hS4
        have hnH := Lib.hid (fun W (hb : Below w8.heap.size w8 W) => (hb.block _ (Array.getElem?_eq_some_iff.1 hn2).1).trans hn2)
        clear hS4 hn2 hd2
        go_wp2_with fail
        (with_reducible refine hc.out.mono ?_)
        rintro e w9 ⟨rfl, hb9⟩
        have hF := Lib.hid (hSH.out.below hb9).bw
        have hn3 := hnH.out _ hb9
        have y0 : w9.cell? ⟨s20, 0, none⟩ = some (.int .i64 d.k) := cell_of_row w9 _ 0 _ _ _ hn3
        have y1 : w9.cell? ⟨s20, 1, none⟩ = some (.int .i64 d.s) := cell_of_row w9 _ 1 _ _ _ hn3
        have y2 : w9.cell? ⟨s20, 2, none⟩ = some (.int .i64 d.r) := cell_of_row w9 _ 2 _ _ _ hn3
        have yl := lt_of_cell y0
        clear hc hSH hnH hb9 hn3 g0 g1 g2 g3 g4 a0 a1 a2
        go_wp2_with fail
        go_ret
        exact ⟨rfl, hF.out⟩
    case refine_2 =>
      go_simp
      have ha := (Below.refl wa.heap.size wa).alloc (Nat.le_refl _) (.cells #[.int .i64 0, .int .i64 0, .int .i64 0] 70)
      have hn := World.alloc_heap_new wa (.cells #[.int .i64 0, .int .i64 0, .int .i64 0] 70)
      have hlt : w.heap.size + 1 < wa.heap.size := lt_of_cell hS.a0
      have hS' : (fun W => MeT w D Z B O A q0 q1 q2 W) (wa.alloc (.cells #[.int .i64 0, .int .i64 0, .int .i64 0] 70)) := hS.below ha
      have hbs' := Nat.le_trans hbs ha.size
      generalize wa.alloc (.cells #[.int .i64 0, .int .i64 0, .int .i64 0] 70) = wax at hS' hn hbs' ⊢
      generalize wa.heap.size = s20 at hn hlt ⊢
      refine hK.out _ _ (fun _ => hS') ?_
      clear hK K hS hbs ha
      have hS := hS'
      have hbs := hbs'
      clear hS' hbs'
      try simp only [Act.put, List.setIfInBounds_toArray, List.set_cons_zero, List.set_cons_succ]
      refine anyL_one 5 rfl (by kernel_rfl) (fun K hK => ?_)
      go_simp
      have ha := (Below.refl wax.heap.size wax).alloc (Nat.le_refl _) (.cells #[] 3)
      have hE := empty_int wax hbs
      have hS' : (fun W => MeT w D Z B O A q0 q1 q2 W) (wax.alloc (.cells #[] 3)) := hS.below ha
      have hbs' := Nat.le_trans hbs ha.size
      have hgl : wax.heap.size < (wax.alloc (.cells #[] 3)).heap.size := by simp
      have hn' := (ha.block _ (Array.getElem?_eq_some_iff.1 hn).1).trans hn
      have hng : wax.heap.size ≠ s20 := by have := (Array.getElem?_eq_some_iff.1 hn).1; omega
      generalize wax.alloc (.cells #[] 3) = waxx at hS' hE hbs' hgl hn' ⊢
      generalize wax.heap.size = g at hE hgl hng ⊢
      refine hK.out _ _ (fun _ => hS') ?_
      clear hK K hS hbs ha hn
      have hn := hn'
      clear hn'
      have hS := hS'
      have hbs := hbs'
      clear hS' hbs'
      try simp only [Act.put, List.setIfInBounds_toArray, List.set_cons_zero, List.set_cons_succ]
      refine anyL_one 7 rfl (by kernel_rfl) (fun K hK => ?_)
      obtain ⟨A', cap', waxxx, hrun, hrow, hgr, hor⟩ := happ.out waxx ba g hE (hAH.out waxx hS.bw) hbs
      refine append_run_step rfl (.tmp 24) (.tmp 25) 24 rfl rfl rfl hrun ?_
      have hlow := hE.grown hgr hbs
      have hS' : (fun W => MeT w D Z B O A q0 q1 q2 W) waxxx := hS.low hlow hk0
      have hI := ints_of hrow.in_
      have hn' := (hgr.block s20 (Array.getElem?_eq_some_iff.1 hn).1 (fun e => hng (Option.some.inj e).symm)).trans hn
      have hbs' := Nat.le_trans hbs hlow.size
      refine hK.out _ _ (fun _ => hS') ?_
      clear hK K hS hbs hE hrow hgr hor hlow hrun hn hng
      have hn := hn'
      clear hn'
      have hS := hS'
      have hbs := hbs'
      clear hS' hbs'
      try simp only [Act.put, List.setIfInBounds_toArray, List.set_cons_zero, List.set_cons_succ]
      refine anyL_one 10 rfl (by kernel_rfl) (fun K hK => ?_)
      go_simp
      have hc1 := hd1.out waxxx A' cap' hI
      refine hc1.mono ?_
      clear hc1
      rintro e' waxxxx ⟨rfl, hb⟩
      have hS' : (fun W => MeT w D Z B O A q0 q1 q2 W) waxxxx := hS.below hb
      have hbs' := Nat.le_trans hbs hb.size
      have hn' := (hb.block _ (Array.getElem?_eq_some_iff.1 hn).1).trans hn
      clear hn
      have hn := hn'
      clear hn'
      refine hK.out _ _ (fun _ => hS') ?_
      clear hK K hS hb hI hbs
      have hS := hS'
      have hbs := hbs'
      clear hS' hbs'
      try simp only [Act.put, List.setIfInBounds_toArray, List.set_cons_zero, List.set_cons_succ]
      refine anyL_take 11 (v := ?_) rfl (by kernel_rfl) (fun _ _ _ h => h) (Or.inl ⟨by rfl, ?_⟩) hS ?_
      rotate_left
      focus (intro W hW; go_simp; try with_reducible rfl)
      simp only [Act.put, List.setIfInBounds_toArray, List.set_cons_zero, List.set_cons_succ]
      refine anyL_take 12 (v := ?_) rfl (by kernel_rfl) (fun _ _ _ h => h) (Or.inl ⟨by rfl, ?_⟩) hS ?_
      rotate_left
      focus (intro W hW; go_simp; try with_reducible rfl)
      simp only [Act.put, List.setIfInBounds_toArray, List.set_cons_zero, List.set_cons_succ]
      refine anyL_take 13 (v := ?_) rfl (by kernel_rfl) (fun _ _ _ h => h) (Or.inl ⟨by rfl, ?_⟩) hS ?_
      rotate_left
      focus (intro W hW; go_simp; try with_reducible rfl)
      simp only [Act.put, List.setIfInBounds_toArray, List.set_cons_zero, List.set_cons_succ]
      have zf : ∀ j, waxxxx.frozen? ⟨s20, j, none⟩ = false := fun j => by simp [World.frozen?, hn]
      have z0 : waxxxx.cell? ⟨s20, 0, none⟩ = some (.int .i64 0) := cell_of_row waxxxx _ 0 _ _ _ hn
      have z1 : waxxxx.cell? ⟨s20, 1, none⟩ = some (.int .i64 0) := cell_of_row waxxxx _ 1 _ _ _ hn
      have z2 : waxxxx.cell? ⟨s20, 2, none⟩ = some (.int .i64 0) := cell_of_row waxxxx _ 2 _ _ _ hn
      have zl := lt_of_cell z0
      have hn2 := heap_setV (heap_setV (heap_setV hn 0 (.int .i64 d.k)) 1 (.int .i64 d.s)) 2 (.int .i64 d.r)
      have hlow := (((Below.refl s20 waxxxx).setCell (p := ⟨s20, 0, none⟩) (Nat.le_refl _) (.int .i64 d.k)).setCell (p := ⟨s20, 1, none⟩) (Nat.le_refl _) (.int .i64 d.s)).setCell (p := ⟨s20, 2, none⟩) (Nat.le_refl _) (.int .i64 d.r)
      have hS4 : (fun W => MeT w D Z B O A q0 q1 q2 W) (((waxxxx.setCell ⟨s20, 0, none⟩ (.int .i64 d.k)).setCell ⟨s20, 1, none⟩ (.int .i64 d.s)).setCell ⟨s20, 2, none⟩ (.int .i64 d.r)) := hS.low hlow hlt
      refine anyL_one 15 rfl (by kernel_rfl) (fun K hK => ?_)
      go_simp
      generalize ((waxxxx.setCell ⟨s20, 0, none⟩ (.int .i64 d.k)).setCell ⟨s20, 1, none⟩ (.int .i64 d.s)).setCell ⟨s20, 2, none⟩ (.int .i64 d.r) = w8 at hn2 hS4 ⊢
      refine hK.out _ _ (fun _ => hS4) ?_
      clear hK K hS hlow hn zf z0 z1 z2 zl hlt
      try simp only [Act.put, List.setIfInBounds_toArray, List.set_cons_zero, List.set_cons_succ]
      refine anyL_take 16 (v := ?_) rfl (by kernel_rfl) (fun _ _ _ h => h) (Or.inl ⟨by rfl, ?_⟩) hS4 ?_
      rotate_left
      focus (intro W hW; go_simp; try with_reducible rfl)
      simp only [Act.put, List.setIfInBounds_toArray, List.set_cons_zero, List.set_cons_succ]
      refine anyC_done (by kernel_rfl) ?_ _
      obtain ⟨g0, g1, g2, g3, g4, _⟩ := hS4.g
      have a0 := hS4.a0
      have a1 := hS4.a1
      have a2 := hS4.a2
      have hc := Lib.hid (hd2.out w8 Al cl (hAH.out w8 hS4.bw))
      have hSH := Lib.hid hS4
      have hnH := Lib.hid (fun W (hb : Below w8.heap.size w8 W) => (hb.block _ (Array.getElem?_eq_some_iff.1 hn2).1).trans hn2)
      clear hS4 hn2 hd2
      go_wp2_with fail
      (with_reducible refine hc.out.mono ?_)
      rintro e w9 ⟨rfl, hb9⟩
      have hF := Lib.hid (hSH.out.below hb9).bw
      have hn3 := hnH.out _ hb9
      have y0 : w9.cell? ⟨s20, 0, none⟩ = some (.int .i64 d.k) := cell_of_row w9 _ 0 _ _ _ hn3
      have y1 : w9.cell? ⟨s20, 1, none⟩ = some (.int .i64 d.s) := cell_of_row w9 _ 1 _ _ _ hn3
      have y2 : w9.cell? ⟨s20, 2, none⟩ = some (.int .i64 d.r) := cell_of_row w9 _ 2 _ _ _ hn3
      have yl := lt_of_cell y0
      clear hc hSH hnH hb9 hn3 g0 g1 g2 g3 g4 a0 a1 a2
      go_wp2_with fail
      go_ret
      exact ⟨rfl, hF.out⟩
end Go.Proofs.Ytdnedahbghhpgaa
