/- BookNotes, walked. -/
import Derived.Test.YtpmhfalhieinjaaBkNtsM
import Derived.BigQuiet
namespace Go.Proofs.Ytpmhfalhieinjaa
open Go.RowKit Rec Bk

theorem nts_start (w : World) (D Z B O A s p : Int) : (fun W => GzAt W w.heap.size D Z B O A ∧ W.cell? ⟨w.heap.size + 1, 0, none⟩ = some (.int .i64 s) ∧ W.cell? ⟨w.heap.size + 1, 1, none⟩ = some (.int .i64 p) ∧ Below w.heap.size w W)
    ((w.alloc (.cells #[.int .i64 D, .int .i64 Z, .int .i64 B, .int .i64 O, .int .i64 A] 23)).alloc (.cells #[.int .i64 s, .int .i64 p] 56)) := by
  obtain ⟨h1, hb1⟩ := box_start w D Z B O A 23
  generalize hW1 : w.alloc _ = W1 at h1 hb1 ⊢
  have e1 : W1.heap.size = w.heap.size + 1 := by rw [← hW1, World.size_alloc]
  have hb2 : Below W1.heap.size W1 (W1.alloc (.cells #[.int .i64 s, .int .i64 p] 56)) := (Below.refl _ _).alloc (Nat.le_refl _) _
  rw [← e1]
  exact ⟨h1.below hb2, by simp [World.cell?_alloc_new], by simp [World.cell?_alloc_new], hb1.trans (hb2.mono hb1.size)⟩
theorem one_plist {W : World} {A : Option Addr} {cap : Nat} {xs : List PR} (h : prE.In W A xs) (t : TypeId) : PIn (W.alloc (.cells #[.slice A xs.length cap] t)) (some ⟨W.heap.size, 0, none⟩) [⟨A, cap, xs⟩] := by
  have hb1 : Below W.heap.size W (W.alloc (.cells #[.slice A xs.length cap] t)) := (Below.refl _ _).alloc (Nat.le_refl _) _
  refine .inr ⟨W.heap.size, 0, rfl, by simp, fun i hi => ?_⟩
  have hi1 : i < 1 := hi
  obtain rfl : i = 0 := by omega
  exact ⟨by simp [World.cell?_alloc_new], h.below hb1⟩
theorem giv_one {la : List LRow} {A : Option Addr} {c : Nat} {xs : List PR} (h : la.map LRow.rs = givL [⟨A, c, xs⟩]) : ∃ l0, la = [l0] ∧ l0.rs = giv1 xs := by
  have h1 : la.length = 1 := by
    have := congrArg List.length h
    simpa [givL] using this
  obtain ⟨l0, rfl⟩ := List.length_eq_one_iff.1 h1
  exact ⟨l0, rfl, by simpa [givL] using h⟩
set_option maxRecDepth 100000 in
set_option maxHeartbeats 8000000 in
theorem notes_law (D Z B O A : Int) (A1 : Option Addr) (cap1 : Nat) (xs : List PR) (s p : Int) (w : World) (hI : prE.In w A1 xs) :
    Calls Try.prog 5 #[.agg #[.int .i64 D, .int .i64 Z, .int .i64 B, .int .i64 O, .int .i64 A], .slice A1 xs.length cap1, .agg #[.int .i64 s, .int .i64 p]] w fun e w' => e = .returned (.bool true) ∧ Below w.heap.size w w' := by
  have hst := Lib.hid (nts_start w D Z B O A s p)
  have hIH := Lib.hid (fun W (hb : Below w.heap.size w W) => hI.below hb)
  have hgr := Lib.hid (fun W => gref_any D Z B O A W)
  have hnw := Lib.hid (fun W => new_anyB W D Z B O A)
  clear hI
  go_enter Try.func5, Try.ntmps5
  obtain ⟨ff, hff⟩ : ∃ ff, ff = Try.f5 := ⟨_, rfl⟩
  rw [← hff]
  have hffH := Lib.hid hff
  clear hff
  go_upto_region 1 with fail
  refine fresh_world (fun W => GzAt W w.heap.size D Z B O A ∧ W.cell? ⟨w.heap.size + 1, 0, none⟩ = some (.int .i64 s) ∧ W.cell? ⟨w.heap.size + 1, 1, none⟩ = some (.int .i64 p) ∧ Below w.heap.size w W) hst.out ?_
  clear hst
  rintro W0 ⟨hg, z0, z1, hb⟩
  have hgH := Lib.hid hg
  have hbH := Lib.hid hb
  clear hg hb
  go_quiet (fail)
  go_wp2_with fail
  refine (speaks10 _).mono ?_
  rintro e w1 ⟨rfl, hb1'⟩
  have hb1 := (below_drewN (Below.refl W0.heap.size W0) _).trans hb1'
  have hg1 := hgH.out.below hb1
  have hbw1 := hbH.out.trans (hb1.mono hbH.out.size)
  have hl1 : w.heap.size < w1.heap.size := lt_of_cell hg1.1
  have h2 := Lib.hid (two_boxes w w1 D Z B O A hg1 hbw1 hl1 37)
  obtain ⟨x0, x1, x2, x3, x4⟩ := hg1
  clear hb1 hb1' hgH hbH hbw1 z0 z1
  go_upto_region 5 with fail
  refine fresh_world (fun W' => GzAt W' w.heap.size D Z B O A ∧ GzAt W' w1.heap.size D Z B O A ∧ Below w.heap.size w W' ∧ w.heap.size < w1.heap.size ∧ w1.heap.size < W'.heap.size) h2.out ?_
  clear h2 x0 x1 x2 x3 x4 hl1
  generalize w1.heap.size = G
  rintro W2 ⟨hg, hh, hb2, hG1, hG2⟩
  have hgH := Lib.hid hg
  have hhH := Lib.hid hh
  have hbH := Lib.hid hb2
  obtain ⟨x0, x1, x2, x3, x4⟩ := hh
  clear hg hb2
  have hb0l : (newOf D Z B O A).zs.length ≤ 64 ∧ (newOf D Z B O A).q = 0 := by
    unfold newOf
    split
    · rename_i h
      obtain ⟨q1, q2, q3, q4, _⟩ := goodB_iff.1 h
      exact ⟨by show (newZ _).length ≤ 64; rw [newZ_len]; omega, rfl⟩
    · exact ⟨by show 0 ≤ 64; omega, rfl⟩
  obtain ⟨b0, hb0⟩ : ∃ b0, b0 = newOf D Z B O A := ⟨_, rfl⟩
  rw [← hb0] at hnw hb0l
  have hb0H := Lib.hid hb0
  have hb0q := Lib.hid hb0l.2
  clear hb0 hb0l
  go_wp2_with fail
  refine (hnw.out _).mono ?_
  rintro e w3 ⟨A2, c1, A3, c2, rfl, hO, hb3⟩
  have hG3 : G < w3.heap.size := Nat.lt_of_lt_of_le hG2 hb3.size
  have hN3 := Lib.hid (boxed hO.in_ 33 (R := fun W => GzAt W w.heap.size D Z B O A ∧ GzAt W G D Z B O A ∧ Below w.heap.size w W) ⟨hgH.out.below hb3, hhH.out.below hb3, hbH.out.trans (hb3.mono hbH.out.size)⟩ (fun _ _ h hb => ⟨h.1.below hb, h.2.1.below hb, h.2.2.trans (hb.mono h.2.2.size)⟩))
  clear hgH hhH hbH hb3 hO hG2 x0 x1 x2 x3 x4
  go_upto_region 6 with fail
  refine fresh_world (fun W' => BkAt W' w3.heap.size A2 c1 A3 c2 b0 ∧ BkIn W' A2 c1 A3 c2 b0 ∧ GzAt W' w.heap.size D Z B O A ∧ GzAt W' G D Z B O A ∧ Below w.heap.size w W') hN3.out ?_
  clear hN3
  generalize w3.heap.size = X at hG3 ⊢
  rintro W4 ⟨hB, hI, hg, hh, hb4⟩
  have hNH := Lib.hid (⟨hB, hI, hg, hh, hb4⟩ : BkAt W4 X A2 c1 A3 c2 b0 ∧ BkIn W4 A2 c1 A3 c2 b0 ∧ GzAt W4 w.heap.size D Z B O A ∧ GzAt W4 G D Z B O A ∧ Below w.heap.size w W4)
  obtain ⟨x0, x1, x2, x3, x4⟩ := hh
  clear hB hI hg hb4
  go_wp2_with fail
  refine (hnw.out _).mono ?_
  rintro e w5 ⟨V1, v1, V2, v2, rfl, hO, hb5⟩
  have hX5 : X < w5.heap.size := (hNH.out.1.below hb5).lt
  have hN5 := Lib.hid (boxed hO.in_ 33 (R := fun W => BkAt W X A2 c1 A3 c2 b0 ∧ BkIn W A2 c1 A3 c2 b0 ∧ GzAt W w.heap.size D Z B O A ∧ GzAt W G D Z B O A ∧ Below w.heap.size w W) ⟨hNH.out.1.below hb5, hNH.out.2.1.below hb5, hNH.out.2.2.1.below hb5, hNH.out.2.2.2.1.below hb5, hNH.out.2.2.2.2.trans (hb5.mono hNH.out.2.2.2.2.size)⟩ (fun _ _ h hb => ⟨h.1.below hb, h.2.1.below hb, h.2.2.1.below hb, h.2.2.2.1.below hb, h.2.2.2.2.trans (hb.mono h.2.2.2.2.size)⟩))
  clear hNH hb5 hO x0 x1 x2 x3 x4
  go_upto_region 7 with fail
  refine fresh_world (fun W' => BkAt W' w5.heap.size V1 v1 V2 v2 b0 ∧ BkIn W' V1 v1 V2 v2 b0 ∧ BkAt W' X A2 c1 A3 c2 b0 ∧ BkIn W' A2 c1 A3 c2 b0 ∧ GzAt W' w.heap.size D Z B O A ∧ GzAt W' G D Z B O A ∧ Below w.heap.size w W') hN5.out ?_
  clear hN5
  generalize w5.heap.size = Y at hX5 ⊢
  rintro W6 ⟨hF, hJ, hB, hI, hg, hh, hb6⟩
  have h1l := Lib.hid (one_plist (cap := cap1) (hIH.out _ hb6) 55)
  have hbx := Lib.hid ((Below.refl W6.heap.size W6).alloc (Nat.le_refl _) (.cells #[.slice A1 xs.length cap1] 55))
  have hNH := Lib.hid (⟨hF, hJ, hB, hI, hg, hh, hb6⟩ : BkAt W6 Y V1 v1 V2 v2 b0 ∧ BkIn W6 V1 v1 V2 v2 b0 ∧ BkAt W6 X A2 c1 A3 c2 b0 ∧ BkIn W6 A2 c1 A3 c2 b0 ∧ GzAt W6 w.heap.size D Z B O A ∧ GzAt W6 G D Z B O A ∧ Below w.heap.size w W6)
  clear hF hJ hB hI hg hh hb6
  go_wp2_with fail
  refine (given10 _ _ _ [⟨A1, cap1, xs⟩] h1l.out).mono ?_
  rintro e w7 ⟨Aa, ca, la, Ab, cb, lb, rfl, ha, -, hO⟩
  obtain ⟨l0, rfl, hl0⟩ := giv_one ha
  obtain ⟨ba, oa, eAa, -, ya0, hRl⟩ := hO.outA.at_ (i := 0) (by simp)
  have hfin := hO.fa l0 (List.mem_singleton.2 rfl)
  obtain ⟨Al, cl, rs⟩ := l0
  dsimp only at hl0 hRl
  have hYs : Y < W6.heap.size := hNH.out.1.lt
  have hal : ∀ g off, Al = some ⟨g, off, none⟩ → Y < g := fun g off e => by
    have := (hfin.o g off e).2.2.2
    simp at this
    omega
  have hb7 := hbx.out.trans (hO.bw.mono hbx.out.size)
  have hN := Lib.hid (⟨hNH.out.2.2.2.2.1.below hb7, hNH.out.2.2.2.2.2.1.below hb7, hNH.out.2.2.1.below hb7, hNH.out.2.2.2.1.below hb7, hNH.out.1.below hb7, hRl, hNH.out.2.2.2.2.2.2.trans (hb7.mono hNH.out.2.2.2.2.2.2.size), ⟨hG1, hG3, hX5⟩, hal⟩ : BnW w w7 D Z B O A G X Y A2 c1 A3 c2 b0 V1 v1 V2 v2 b0 Al rs)
  have hrs : rs.length ≤ 100 := by rw [hl0]; exact giv1_len xs
  have hok := Lib.hid (fun x (hx : x ∈ rs) => giv1_ok (x := x) (by rw [← hl0]; exact hx))
  clear ha hO hfin hNH h1l hbx hb7 hRl hal hl0 hYs
  subst eAa
  dsimp only [List.getElem_cons_zero, Nat.add_zero] at ya0
  go_wp2_with fail
  clear ya0
  go_loopw [15, 16] (fun q i wr => ∃ (k : Nat) (A1 : Option Addr) (c1 : Nat) (A2 : Option Addr) (c2 : Nat), k ≤ rs.length ∧ i = .int .i64 (k : Int) ∧ q = .int .i64 (foldN b0 rs k).q ∧ (foldN b0 rs k).zs.length = b0.zs.length ∧ (foldN b0 rs k).ms.length = b0.ms.length ∧ BnW w wr D Z B O A G X Y A1 c1 A2 c2 (foldN b0 rs k) V1 v1 V2 v2 b0 Al rs) (fun _ i _ => rs.length - (intOf i).toNat)
  case atStart => exact ⟨0, A2, c1, A3, c2, Nat.zero_le _, rfl, by rw [foldN_zero, hb0q.out], rfl, rfl, hN.out⟩
  case round =>
    clear hN
    obtain ⟨k, A1, c1, A2, c2, hk, rfl, rfl, hzl, hml, hN⟩ := hrel
    have hNH := Lib.hid hN
    by_cases hlt : k < rs.length
    case pos =>
      have g1 : (k : Int) < (rs.length : Int) := by omega
      have hfs := Lib.hid (foldN_succ b0 rs k hlt)
      have hzlH := Lib.hid hzl
      have hmlH := Lib.hid hml
      clear hzl hml
      generalize foldN b0 rs k = b at hN hNH hfs hzlH hmlH ⊢
      clear hN
      go_upto_region 15 with fail
      go_cut [17, 18] from 62 to 69 (fun s17 s18 wx => ∃ Zc zc Mc mc, s17 = .slice Zc b.zs.length zc ∧ s18 = .slice Mc b.ms.length mc ∧ zoE.In wx Zc b.zs ∧ IntsIn wx Mc b.ms ∧ Below wr.heap.size wr wx)
      case first =>
        as_aux_lemma =>
          refine region_anyC (fun _ => true) (fun W => Below wr.heap.size wr W) (by kernel_rfl) ?_
          have hS0 : Below wr.heap.size wr wr.drew := (Below.refl _ _).drew
          refine anyL_take 1 (v := ?_) rfl (by kernel_rfl) (fun _ _ _ h => h) (Or.inl ⟨by rfl, ?_⟩) hS0 ?_
          rotate_left
          focus (intro W hW; obtain ⟨b0, b1, b2, b3, b4, bf⟩ := (hNH.out.below hW).k; go_simp; try with_reducible rfl)
          simp only [Act.put, List.setIfInBounds_toArray, List.set_cons_zero, List.set_cons_succ]
          refine anyL_take 2 (v := ?_) rfl (by kernel_rfl) (fun _ _ _ h => h) (Or.inl ⟨by rfl, ?_⟩) hS0 ?_
          rotate_left
          focus (intro W hW; obtain ⟨b0, b1, b2, b3, b4, bf⟩ := (hNH.out.below hW).k; go_simp; try with_reducible rfl)
          simp only [Act.put, List.setIfInBounds_toArray, List.set_cons_zero, List.set_cons_succ]
          refine anyL_take 5 (v := ?_) rfl (by kernel_rfl) (fun _ _ _ h => h) (Or.inl ⟨by rfl, ?_⟩) hS0 ?_
          rotate_left
          focus (intro W hW; obtain ⟨b0, b1, b2, b3, b4, bf⟩ := (hNH.out.below hW).k; go_simp; try with_reducible rfl)
          simp only [Act.put, List.setIfInBounds_toArray, List.set_cons_zero, List.set_cons_succ]
          refine anyL_take 6 (v := ?_) rfl (by kernel_rfl) (fun _ _ _ h => h) (Or.inl ⟨by rfl, ?_⟩) hS0 ?_
          rotate_left
          focus (intro W hW; obtain ⟨b0, b1, b2, b3, b4, bf⟩ := (hNH.out.below hW).k; go_simp; try with_reducible rfl)
          simp only [Act.put, List.setIfInBounds_toArray, List.set_cons_zero, List.set_cons_succ]
          refine fresh_anyC (fun W => Below wr.heap.size wr W) hS0 ?_
          clear hS0
          apply nodeZ (fun (g1 g2 : Nat) (Zc : Option Addr) (zc : Nat) (W : World) => Below wr.heap.size wr W ∧ zoE.In W Zc b.zs ∧ NRow W wr.heap.size (some ⟨g2, 0, none⟩) 0 [] ∧ (∀ k off, Zc = some ⟨k, off, none⟩ → g2 ≠ k))
          intro k3
          apply node2 (fun (g1 g2 : Nat) (W : World) => Below wr.heap.size wr W ∧ zoE.Row W wr.heap.size 60 (some ⟨g1, 0, none⟩) 0 [] ∧ NRow W wr.heap.size (some ⟨g2, 0, none⟩) 0 [] ∧ g1 ≠ g2)
          intro k2
          · rintro W hW
            refine anyL_two 0 4 rfl rfl (by kernel_rfl) (fun K hK => ?_) (fun K hK => ?_)
            · have hbA := (Below.refl W.heap.size W).alloc (Nat.le_refl _) (.cells #[] 60)
              have hn := hW.trans (hbA.mono hW.size)
              have hr := new_zrow W wr.heap.size hW.size
              go_simp
              refine hK.out _ _ (fun _ => hn) ?_
              clear hK K
              try simp only [Act.put, List.setIfInBounds_toArray, List.set_cons_zero, List.set_cons_succ]
              refine fresh_anyC (fun V => Below wr.heap.size wr V ∧ zoE.Row V wr.heap.size 60 (some ⟨W.heap.size, 0, none⟩) 0 []) ⟨hn, hr⟩ ?_
              clear hn hr hbA hW
              generalize W.heap.size = g1
              clear W
              rintro W ⟨hW, hr⟩
              refine anyL_two 3 4 rfl rfl (by kernel_rfl) (fun K hK => ?_) (fun K hK => ?_)
              · obtain ⟨Zc, zc, V, hrun, hz, hg, hzk⟩ := zcopy hr (hNH.out.below hW).i.z hNH.out.i.n1 hNH.out.i.zl hW.size
                have hV := hW.grown hg hW.size (fun k e => by injection e with e; have := (zrow_lt hr).1; omega)
                refine append_run_step rfl (.tmp 62) (.tmp 64) 30 rfl rfl rfl hrun ?_
                refine hK.out _ _ (fun _ => hV) ?_
                clear hK K
                try simp only [Act.put, List.setIfInBounds_toArray, List.set_cons_zero, List.set_cons_succ]
                clear hrun hr hW
                refine anyL_one 4 rfl (by kernel_rfl) (fun K hK => ?_)
                have hbA := (Below.refl V.heap.size V).alloc (Nat.le_refl _) (.cells #[] 3)
                have hn := hV.trans (hbA.mono hV.size)
                have hr2 := new_nrow V wr.heap.size hV.size
                have hz2 := hz.below hbA
                go_simp
                refine hK.out _ _ (fun _ => hn) ?_
                clear hK K
                try simp only [Act.put, List.setIfInBounds_toArray, List.set_cons_zero, List.set_cons_succ]
                refine fresh_anyC (fun V' => Below wr.heap.size wr V' ∧ zoE.In V' Zc b.zs ∧ NRow V' wr.heap.size (some ⟨V.heap.size, 0, none⟩) 0 [] ∧ (∀ k off, Zc = some ⟨k, off, none⟩ → V.heap.size ≠ k)) ⟨hn, hz2, hr2, fun k off e => by have h9 := (hzk k off e).2; omega⟩ ?_
                clear hn hz2 hr2 hbA hz hg hV hzk
                generalize V.heap.size = g2
                rintro V' hV'
                exact k3 g1 g2 Zc zc V' hV'
              · have hbA := (Below.refl W.heap.size W).alloc (Nat.le_refl _) (.cells #[] 3)
                have hn := hW.trans (hbA.mono hW.size)
                have hr2 := new_nrow W wr.heap.size hW.size
                go_simp
                refine hK.out _ _ (fun _ => hn) ?_
                clear hK K
                try simp only [Act.put, List.setIfInBounds_toArray, List.set_cons_zero, List.set_cons_succ]
                have hr1 := hr.below hbA
                have hne := Nat.ne_of_lt (zrow_lt hr).2
                refine fresh_anyC (fun V => Below wr.heap.size wr V ∧ zoE.Row V wr.heap.size 60 (some ⟨g1, 0, none⟩) 0 [] ∧ NRow V wr.heap.size (some ⟨W.heap.size, 0, none⟩) 0 [] ∧ g1 ≠ W.heap.size) ⟨hn, hr1, hr2, hne⟩ ?_
                clear hn hr1 hr2 hne hbA hr hW
                generalize W.heap.size = g2
                rintro V hV
                exact k2 g1 g2 V hV
            · have hbA := (Below.refl W.heap.size W).alloc (Nat.le_refl _) (.cells #[] 3)
              have hn := hW.trans (hbA.mono hW.size)
              have hr2 := new_nrow W wr.heap.size hW.size
              go_simp
              refine hK.out _ _ (fun _ => hn) ?_
              clear hK K
              try simp only [Act.put, List.setIfInBounds_toArray, List.set_cons_zero, List.set_cons_succ]
              refine fresh_anyC (fun V => Below wr.heap.size wr V ∧ NRow V wr.heap.size (some ⟨W.heap.size, 0, none⟩) 0 []) ⟨hn, hr2⟩ ?_
              clear hn hr2 hbA hW
              generalize W.heap.size = g2
              clear W
              rintro W ⟨hW, hr2⟩
              refine anyL_one 0 rfl (by kernel_rfl) (fun K hK => ?_)
              have hbA := (Below.refl W.heap.size W).alloc (Nat.le_refl _) (.cells #[] 60)
              have hn := hW.trans (hbA.mono hW.size)
              have hr := new_zrow W wr.heap.size hW.size
              go_simp
              refine hK.out _ _ (fun _ => hn) ?_
              clear hK K
              try simp only [Act.put, List.setIfInBounds_toArray, List.set_cons_zero, List.set_cons_succ]
              have hr3 := hr2.below hbA
              have hne := Nat.ne_of_gt (nrow_lt hr2).2
              refine fresh_anyC (fun V => Below wr.heap.size wr V ∧ zoE.Row V wr.heap.size 60 (some ⟨W.heap.size, 0, none⟩) 0 [] ∧ NRow V wr.heap.size (some ⟨g2, 0, none⟩) 0 [] ∧ W.heap.size ≠ g2) ⟨hn, hr, hr3, hne⟩ ?_
              clear hn hr hr3 hne hbA hr2 hW
              generalize W.heap.size = g1
              rintro V hV
              exact k2 g1 g2 V hV
          · rintro g1 g2 W ⟨hW, hr, hr2, hne⟩
            refine anyL_one 3 rfl (by kernel_rfl) (fun K hK => ?_)
            obtain ⟨Zc, zc, V, hrun, hz, hg, hzk⟩ := zcopy hr (hNH.out.below hW).i.z hNH.out.i.n1 hNH.out.i.zl hW.size
            have hV := hW.grown hg hW.size (fun k e => by injection e with e; have := (zrow_lt hr).1; omega)
            refine append_run_step rfl (.tmp 62) (.tmp 64) 30 rfl rfl rfl hrun ?_
            refine hK.out _ _ (fun _ => hV) ?_
            clear hK K
            try simp only [Act.put, List.setIfInBounds_toArray, List.set_cons_zero, List.set_cons_succ]
            have hr4 : NRow V wr.heap.size (some ⟨g2, 0, none⟩) 0 [] := hr2.far hg (fun g e => by injection e with e; injection e with e; subst e; exact fun e2 => hne (by injection e2))
            have hlt2 := (nrow_lt hr2).2
            exact k3 g1 g2 Zc zc V ⟨hV, hz, hr4, fun k off e => by rcases (hzk k off e).1 with rfl | rfl <;> omega⟩
          · rintro g1 g2 Zc zc W ⟨hW, hz, hr2, hzk⟩
            refine anyL_one 7 rfl (by kernel_rfl) (fun K hK => ?_)
            obtain ⟨Mc, mc, V, hrun, hm, hg⟩ := mcopy hr2 (hNH.out.below hW).i.m hNH.out.i.n2 hNH.out.i.ml hW.size
            have hV := hW.grown hg hW.size (fun k e => by injection e with e; have := (nrow_lt hr2).1; omega)
            have hz2 := zin_kept hg hz (fun k off e e2 => hzk k off e (by injection e2))
            refine append_run_step rfl (.tmp 66) (.tmp 68) 31 rfl rfl rfl hrun ?_
            refine hK.out _ _ (fun _ => hV) ?_
            clear hK K hrun
            try simp only [Act.put, List.setIfInBounds_toArray, List.set_cons_zero, List.set_cons_succ]
            refine anyL_take 8 (v := ?_) rfl (by kernel_rfl) (fun _ _ _ h => h) (Or.inl ⟨by rfl, ?_⟩) hV ?_
            rotate_left
            focus (intro W hW; go_simp; try with_reducible rfl)
            simp only [Act.put, List.setIfInBounds_toArray, List.set_cons_zero, List.set_cons_succ]
            refine anyL_take 9 (v := ?_) rfl (by kernel_rfl) (fun _ _ _ h => h) (Or.inl ⟨by rfl, ?_⟩) hV ?_
            rotate_left
            focus (intro W hW; go_simp; try with_reducible rfl)
            simp only [Act.put, List.setIfInBounds_toArray, List.set_cons_zero, List.set_cons_succ]
            refine anyC_done (by kernel_rfl) ?_ _
            go_wp2_with fail
            go_meet
            case rel => exact ⟨Zc, zc, Mc, mc, rfl, rfl, hz2, hm, hV⟩
      case rest =>
        obtain ⟨Zc, zc, Mc, mc, rfl, rfl, hz, hm, hbC⟩ := hcut
        obtain ⟨wd, rfl⟩ : ∃ wd, wd = wc := ⟨_, rfl⟩
        have hNc := Lib.hid (hNH.out.below hbC)
        have hzH := Lib.hid hz
        have hmH := Lib.hid hm
        obtain ⟨gl, ol, eAl, -, -⟩ := hNc.out.r.at_ hlt
        subst eAl
        have hrx := Lib.hid (fun W (hb : Below wd.heap.size wd W) => (by
          obtain ⟨b', off', e, -, s0, s1, s2, s3, s4, s5, s6⟩ := (hNc.out.below hb).r.at_ hlt
          injection e with e
          injection e with e1 e2
          subst e1
          subst e2
          exact ⟨s0, s1, s2, s3, s4, s5, s6⟩ : W.cell? ⟨gl, ol + k * 7, none⟩ = some (.int .i64 rs[k].k) ∧ W.cell? ⟨gl, ol + k * 7 + 1, none⟩ = some (.int .i64 rs[k].s) ∧ W.cell? ⟨gl, ol + k * 7 + 2, none⟩ = some (.int .i64 rs[k].a) ∧ W.cell? ⟨gl, ol + k * 7 + 3, none⟩ = some (.int .i64 rs[k].b) ∧ W.cell? ⟨gl, ol + k * 7 + 4, none⟩ = some (.int .i64 rs[k].c) ∧ W.cell? ⟨gl, ol + k * 7 + 5, none⟩ = some (.int .i64 rs[k].d) ∧ W.cell? ⟨gl, ol + k * 7 + 6, none⟩ = some (.string rs[k].body)))
        have hnt := Lib.hid (fun W (hb : Below wd.heap.size wd W) => note_any W A1 c1 A2 c2 b rs[k] (hNc.out.below hb).i)
        have hnz := Lib.hid (note_z b rs[k])
        have hnm := Lib.hid (note_m b rs[k])
        have hnc := Lib.hid (note_c b rs[k])
        have hnq := Lib.hid (noteB_q b rs[k])
        have hnzl := Lib.hid ((noteB_zl b rs[k]).trans hzlH.out)
        have hnml := Lib.hid ((noteB_ml b rs[k]).trans hmlH.out)
        clear hz hm hbC hNH
        obtain ⟨x, hx⟩ : ∃ x, x = rs[k] := ⟨_, rfl⟩
        rw [← hx] at hrx hnt hnz hnm hnc hnq hnzl hnml hfs
        have hxH := Lib.hid hx
        clear hx
        generalize noteB b x = b' at hnt hnz hnm hnc hnq hnzl hnml hfs
        go_upto_region 16 with fail
        go_cut [19] from 70 to 75 (fun s19 wx => ∃ (T : Nat) (N1 : Option Addr) (n1 : Nat) (N2 : Option Addr) (n2 : Nat), s19 = .pointer (some ⟨T, 0, none⟩) ∧ BkAt wx T N1 n1 N2 n2 b' ∧ BkO wx wd.heap.size N1 n1 N2 n2 b' ∧ Below wd.heap.size wd wx)
        case first =>
          as_aux_lemma =>
            refine region_anyC (fun _ => true) (fun W => Below wd.heap.size wd W) (by kernel_rfl) ?_
            have hS0 : Below wd.heap.size wd wd.drew := (Below.refl _ _).drew
            refine anyL_take 0 (v := ?_) rfl (by kernel_rfl) (fun _ _ _ h => h) (Or.inl ⟨by rfl, ?_⟩) hS0 ?_
            rotate_left
            focus (intro W hW; obtain ⟨b0, b1, b2, b3, b4, bf⟩ := (hNc.out.below hW).k; go_simp; try with_reducible rfl)
            simp only [Act.put, List.setIfInBounds_toArray, List.set_cons_zero, List.set_cons_succ]
            refine anyL_take 1 (v := ?_) rfl (by kernel_rfl) (fun _ _ _ h => h) (Or.inl ⟨by rfl, ?_⟩) hS0 ?_
            rotate_left
            focus (intro W hW; go_simp; try with_reducible rfl)
            simp only [Act.put, List.setIfInBounds_toArray, List.set_cons_zero, List.set_cons_succ]
            refine anyL_take 2 (v := ?_) rfl (by kernel_rfl) (fun _ _ _ h => h) (Or.inl ⟨by rfl, ?_⟩) hS0 ?_
            rotate_left
            focus (intro W hW; go_simp; try with_reducible rfl)
            simp only [Act.put, List.setIfInBounds_toArray, List.set_cons_zero, List.set_cons_succ]
            refine anyL_take 3 (v := ?_) rfl (by kernel_rfl) (fun _ _ _ h => h) (Or.inl ⟨by rfl, ?_⟩) hS0 ?_
            rotate_left
            focus (intro W hW; go_simp; try with_reducible rfl)
            simp only [Act.put, List.setIfInBounds_toArray, List.set_cons_zero, List.set_cons_succ]
            refine anyL_take 4 (v := ?_) rfl (by kernel_rfl) (fun _ _ _ h => h) (Or.inl ⟨by rfl, ?_⟩) hS0 ?_
            rotate_left
            focus (intro W hW; obtain ⟨s0, s1, s2, s3, s4, s5, s6⟩ := hrx.out W hW; go_simp; try with_reducible rfl)
            simp only [Act.put, List.setIfInBounds_toArray, List.set_cons_zero, List.set_cons_succ]
            refine fresh_anyC (fun W => Below wd.heap.size wd W) hS0 ?_
            clear hS0
            apply nodeT (fun T N1 n1 N2 n2 W => BkAt W T none 0 none 0 noB ∧ BkO W wd.heap.size N1 n1 N2 n2 b' ∧ (N1 ≠ some ⟨T, 0, none⟩ ∧ N2 ≠ some ⟨T, 0, none⟩) ∧ wd.heap.size ≤ T ∧ Below wd.heap.size wd W)
            intro kT
            · rintro W hW
              refine anyL_two 5 6 rfl rfl (by kernel_rfl) (fun K hK => ?_) (fun K hK => ?_)
              · go_simp
                refine (hnt.out W hW).mono ?_
                rintro e' V ⟨N1, n1, N2, n2, rfl, hO, hb⟩
                have hV := hW.trans (hb.mono hW.size)
                refine hK.out _ _ (fun _ => hV) ?_
                clear hK K
                refine anyL_one 6 rfl (by kernel_rfl) (fun K hK => ?_)
                have hbA := (Below.refl V.heap.size V).alloc (Nat.le_refl _) (.cells #[.int .i64 0, .slice none 0 0, .slice none 0 0, .int .i64 0, .int .i64 0] 33)
                have hn := hV.trans (hbA.mono hV.size)
                have hT : BkAt (V.alloc (.cells #[.int .i64 0, .slice none 0 0, .slice none 0 0, .int .i64 0, .int .i64 0] 33)) V.heap.size none 0 none 0 noB := BkAt.new V none 0 none 0 noB 33
                have hO2 := (hO.mono hW.size).below hbA
                have hoff := own_offB hO
                have hge := hV.size
                go_simp
                refine hK.out _ _ (fun _ => hn) ?_
                clear hK K
                try simp only [Act.put, List.setIfInBounds_toArray, List.set_cons_zero, List.set_cons_succ]
                refine fresh_anyC (fun V' => BkAt V' V.heap.size none 0 none 0 noB ∧ BkO V' wd.heap.size N1 n1 N2 n2 b' ∧ (N1 ≠ some ⟨V.heap.size, 0, none⟩ ∧ N2 ≠ some ⟨V.heap.size, 0, none⟩) ∧ wd.heap.size ≤ V.heap.size ∧ Below wd.heap.size wd V') ⟨hT, hO2, hoff, hge, hn⟩ ?_
                clear hT hO2 hoff hge hn hbA hO hb hV
                generalize V.heap.size = T
                rintro V' hV'
                exact kT T N1 n1 N2 n2 V' hV'
              · have hbA := (Below.refl W.heap.size W).alloc (Nat.le_refl _) (.cells #[.int .i64 0, .slice none 0 0, .slice none 0 0, .int .i64 0, .int .i64 0] 33)
                have hn := hW.trans (hbA.mono hW.size)
                have hT : BkAt (W.alloc (.cells #[.int .i64 0, .slice none 0 0, .slice none 0 0, .int .i64 0, .int .i64 0] 33)) W.heap.size none 0 none 0 noB := BkAt.new W none 0 none 0 noB 33
                have hge := hW.size
                go_simp
                refine hK.out _ _ (fun _ => hn) ?_
                clear hK K
                try simp only [Act.put, List.setIfInBounds_toArray, List.set_cons_zero, List.set_cons_succ]
                refine fresh_anyC (fun V' => BkAt V' W.heap.size none 0 none 0 noB ∧ wd.heap.size ≤ W.heap.size ∧ Below wd.heap.size wd V') ⟨hT, hge, hn⟩ ?_
                clear hT hge hn hbA hW
                generalize W.heap.size = T
                clear W
                rintro W ⟨hT, hge, hW⟩
                refine anyL_one 5 rfl (by kernel_rfl) (fun K hK => ?_)
                go_simp
                refine (hnt.out W hW).mono ?_
                rintro e' V ⟨N1, n1, N2, n2, rfl, hO, hb⟩
                have hV := hW.trans (hb.mono hW.size)
                refine hK.out _ _ (fun _ => hV) ?_
                clear hK K
                exact kT T N1 n1 N2 n2 V ⟨hT.below hb, hO.mono hW.size, hO.off hT.lt, hge, hV⟩
            · rintro T N1 n1 N2 n2 W ⟨hT, hO, hoff, hge, hW⟩
              have hgr := grownBy_put W T (.int .i64 b'.q) (.slice N1 b'.zs.length n1) (.slice N2 b'.ms.length n2) (.int .i64 b'.sl) (.int .i64 b'.cu)
              have hP := hT.put b' (A1' := N1) (A2' := N2) (c1' := n1) (c2' := n2)
              have hO5 := hO.far hgr hoff.1 hoff.2
              have hW5 := hW.grown hgr hW.size (fun k e => by injection e with e; omega)
              obtain ⟨t0, t1, t2, t3, t4, tf⟩ := hT
              dsimp only [noB, List.length_nil] at t0 t1 t2 t3 t4
              have tf0 := tf 0
              have tf1 := tf 1
              have tf2 := tf 2
              have tf3 := tf 3
              have tf4 := tf 4
              refine anyL_one 7 rfl (by kernel_rfl) (fun K hK => ?_)
              go_simp
              refine hK.out _ _ (fun _ => hW5) ?_
              clear hK K
              try simp only [Act.put, List.setIfInBounds_toArray, List.set_cons_zero, List.set_cons_succ]
              refine anyC_done (by kernel_rfl) ?_ _
              go_wp2_with fail
              go_meet
              case rel => exact ⟨T, N1, n1, N2, n2, rfl, hP, hO5, hW5⟩
        case rest =>
          obtain ⟨T, N1, n1, N2, n2, rfl, hT, hNO, hbT⟩ := hcut
          have hQ := Lib.hid (⟨hNc.out.below hbT, hzH.out.below hbT, hmH.out.below hbT, hT, hNO, hNc.out.k.lt⟩ : NrW w wc D Z B O A G X Y A1 c1 A2 c2 b V1 v1 V2 v2 b0 (some ⟨gl, ol, none⟩) rs Zc Mc T N1 n1 N2 n2 b' wd.heap.size)
          clear hT hNO hbT hNc hzH hmH hrx hnt
          go_wp2_with fail
          go_loopw [20] (fun i wr => ∃ j : Nat, j ≤ b.zs.length ∧ i = .int .i64 (j : Int) ∧ NrW w wr D Z B O A G X Y A1 c1 A2 c2 b V1 v1 V2 v2 b0 (some ⟨gl, ol, none⟩) rs Zc Mc T N1 n1 N2 n2 b' wd.heap.size) (fun i _ => b.zs.length - (intOf i).toNat)
          case atStart => exact ⟨0, Nat.zero_le _, rfl, hQ.out⟩
          case round =>
            clear hQ
            obtain ⟨j, hj, rfl, hN⟩ := hrel
            have hNH := Lib.hid hN
            obtain ⟨b0', b1, b2, b3, b4, bf⟩ := hN.n.k
            by_cases hlt2 : j < b.zs.length
            case pos =>
              obtain ⟨ga, oa1, ea, -, s0, s1, s2⟩ := zo_at hN.n.i.z hlt2
              obtain ⟨gb, ob1, eb, -, u0, u1, u2⟩ := zo_at hN.z hlt2
              subst ea
              subst eb
              have hj1 : (j : Int) < (b.zs.length : Int) := by omega
              have hkw : IntKind.i64.wrap ((j : Int) + 1) = (j : Int) + 1 := IntWalk.i64_in _ (by have := hN.n.i.zl; omega)
              have hne := fun W => (zo_eql W b.zs[j] b.zs[j]).2
              rw [eqZ_self] at hne
              clear hN
              generalize b.zs[j] = z at s0 s1 s2 u0 u1 u2 hne
              go_wp2_with fail
              go_quiet (fail)
              go_wp2_with fail
              go_roundw
              case rel => exact ⟨j + 1, by omega, by go_num, hNH.out.below (below_drewN (Below.refl _ _) _)⟩
              case measure => simp only [intOf]; omega
            case neg =>
              have hj1 : ¬ (j : Int) < (b.zs.length : Int) := by omega
              clear hN hlt2 hj
              go_wp2_with fail
              clear b0' b1 b2 b3 b4 bf hj1
              go_loopw [21] (fun i wr => ∃ j : Nat, j ≤ b.ms.length ∧ i = .int .i64 (j : Int) ∧ NrW w wr D Z B O A G X Y A1 c1 A2 c2 b V1 v1 V2 v2 b0 (some ⟨gl, ol, none⟩) rs Zc Mc T N1 n1 N2 n2 b' wd.heap.size) (fun i _ => b.ms.length - (intOf i).toNat)
              case atStart => exact ⟨0, Nat.zero_le _, rfl, hNH.out⟩
              case round =>
                clear hNH
                obtain ⟨j, hj, rfl, hN⟩ := hrel
                have hNH := Lib.hid hN
                obtain ⟨b0', b1, b2, b3, b4, bf⟩ := hN.n.k
                by_cases hlt2 : j < b.ms.length
                case pos =>
                  obtain ⟨ga, oa1, ea, -, s0⟩ := hN.n.i.m.at_ hlt2
                  obtain ⟨gb, ob1, eb, -, u0⟩ := hN.m.at_ hlt2
                  subst ea
                  subst eb
                  have hj1 : (j : Int) < (b.ms.length : Int) := by omega
                  have hkw : IntKind.i64.wrap ((j : Int) + 1) = (j : Int) + 1 := IntWalk.i64_in _ (by have := hN.n.i.ml; omega)
                  clear hN
                  generalize b.ms[j] = z at s0 u0
                  go_wp2_with fail
                  go_quiet (fail)
                  go_wp2_with fail
                  go_roundw
                  case rel => exact ⟨j + 1, by omega, by go_num, hNH.out.below (below_drewN (Below.refl _ _) _)⟩
                  case measure => simp only [intOf]; omega
                case neg =>
                  have hj1 : ¬ (j : Int) < (b.ms.length : Int) := by omega
                  obtain ⟨g', o', e, -, s0, s1, s2, s3, s4, s5, s6⟩ := hN.n.r.at_ hlt
                  injection e with e
                  injection e with e1 e2
                  subst e1
                  subst e2
                  rw [← hxH.out] at s0 s1 s2 s3 s4 s5 s6
                  clear hN hlt2 hj
                  have hR := Lib.hid (show (fun W => NrW w W D Z B O A G X Y A1 c1 A2 c2 b V1 v1 V2 v2 b0 (some ⟨gl, ol, none⟩) rs Zc Mc T N1 n1 N2 n2 b' wd.heap.size ∧ RcAt W wr.heap.size x) (wr.alloc (.cells #[.int .i64 x.k, .int .i64 x.s, .int .i64 x.a, .int .i64 x.b, .int .i64 x.c, .int .i64 x.d, .string x.body] 53)) from ⟨hNH.out.below ((Below.refl _ _).alloc (Nat.le_refl _) _), RcAt.new wr x _⟩)
                  go_upto_region 29 with fail
                  refine fresh_world (fun W => NrW w W D Z B O A G X Y A1 c1 A2 c2 b V1 v1 V2 v2 b0 (some ⟨gl, ol, none⟩) rs Zc Mc T N1 n1 N2 n2 b' wd.heap.size ∧ RcAt W wr.heap.size x) hR.out ?_
                  clear hR hNH s0 s1 s2 s3 s4 s5 s6 b0' b1 b2 b3 b4 bf hj1
                  generalize wr.heap.size = R
                  rintro we ⟨hN, hRc⟩
                  have hNH := Lib.hid hN
                  have hRH := Lib.hid hRc
                  obtain ⟨t0, t1, t2, t3, t4, tf⟩ := hN.t
                  obtain ⟨y0, y1, y2, y3, y4, yf⟩ := hN.n.f
                  rw [hnq.out] at t0
                  rw [hnzl.out] at t1
                  rw [hnml.out] at t2
                  clear hN hRc
                  go_wp2_with fail
                  clear t0 t1 t2 t3 t4 tf y0 y1 y2 y3 y4 yf
                  go_loopw [23] (fun i wr => ∃ j : Nat, j ≤ b'.zs.length ∧ i = .int .i64 (j : Int) ∧ (NrW w wr D Z B O A G X Y A1 c1 A2 c2 b V1 v1 V2 v2 b0 (some ⟨gl, ol, none⟩) rs Zc Mc T N1 n1 N2 n2 b' wd.heap.size ∧ RcAt wr R x)) (fun i _ => b'.zs.length - (intOf i).toNat)
                  case atStart => exact ⟨0, Nat.zero_le _, rfl, hNH.out, hRH.out⟩
                  case round =>
                    clear hNH hRH
                    obtain ⟨j, hj, rfl, hQ⟩ := hrel
                    have hQH := Lib.hid hQ
                    obtain ⟨hN, hRc⟩ := hQ
                    obtain ⟨t0, t1, t2, t3, t4, tf⟩ := hN.t
                    by_cases hlt2 : j < b'.zs.length
                    case pos =>
                      have hltb : j < b.zs.length := by have h1 := hnzl.out; have h2 := hzlH.out; omega
                      obtain ⟨ga, oa1, ea, -, s0, s1, s2⟩ := zo_at hN.n.i.z hltb
                      obtain ⟨b0', b1, b2, b3, b4, bf⟩ := hN.n.k
                      subst ea
                      have hj1 : (j : Int) < (b'.zs.length : Int) := by omega
                      have hjb : (j : Int) < (b.zs.length : Int) := by omega
                      have hkw : IntKind.i64.wrap ((j : Int) + 1) = (j : Int) + 1 := IntWalk.i64_in _ (by have := hN.o.zl; omega)
                      have hval := Lib.hid (hnz.out j hlt2 hltb)
                      have hWt := Lib.hid (show (fun W => NrW w W D Z B O A G X Y (some ⟨ga, oa1, none⟩) c1 A2 c2 b V1 v1 V2 v2 b0 (some ⟨gl, ol, none⟩) rs Zc Mc T N1 n1 N2 n2 b' wd.heap.size ∧ RcAt W R x ∧ W.cell? ⟨wr.heap.size, 0, none⟩ = some (.int .i64 b.zs[j].p) ∧ W.cell? ⟨wr.heap.size, 1, none⟩ = some (.int .i64 b.zs[j].g) ∧ W.cell? ⟨wr.heap.size, 2, none⟩ = some (.int .i64 b.zs[j].s) ∧ (∀ i, W.frozen? ⟨wr.heap.size, i, none⟩ = false) ∧ (∀ W', Below wr.heap.size W W' → NrW w W' D Z B O A G X Y (some ⟨ga, oa1, none⟩) c1 A2 c2 b V1 v1 V2 v2 b0 (some ⟨gl, ol, none⟩) rs Zc Mc T N1 n1 N2 n2 b' wd.heap.size) ∧ (∀ W', Below wr.heap.size W W' → RcAt W' R x)) (wr.alloc (.cells #[.int .i64 b.zs[j].p, .int .i64 b.zs[j].g, .int .i64 b.zs[j].s] 60)) from ⟨hN.below ((Below.refl _ _).alloc (Nat.le_refl _) _), hRc.below ((Below.refl _ _).alloc (Nat.le_refl _) _), by simp [World.cell?_alloc_new], by simp [World.cell?_alloc_new], by simp [World.cell?_alloc_new], fun i => (World.frozen?_alloc_mark wr _ _ 0 0 i).trans (by simp), fun W' hb => (hQH.out.1).below (((Below.refl wr.heap.size wr).alloc (Nat.le_refl _) _).trans hb), fun W' hb => (hQH.out.2).below (((Below.refl wr.heap.size wr).alloc (Nat.le_refl _) _).trans hb)⟩)
                      clear hN hRc hQH
                      generalize b.zs[j] = z at s0 s1 s2 hval hWt
                      go_upto_region 35 with fail
                      refine fresh_world (fun W => NrW w W D Z B O A G X Y (some ⟨ga, oa1, none⟩) c1 A2 c2 b V1 v1 V2 v2 b0 (some ⟨gl, ol, none⟩) rs Zc Mc T N1 n1 N2 n2 b' wd.heap.size ∧ RcAt W R x ∧ W.cell? ⟨wr.heap.size, 0, none⟩ = some (.int .i64 z.p) ∧ W.cell? ⟨wr.heap.size, 1, none⟩ = some (.int .i64 z.g) ∧ W.cell? ⟨wr.heap.size, 2, none⟩ = some (.int .i64 z.s) ∧ (∀ i, W.frozen? ⟨wr.heap.size, i, none⟩ = false) ∧ (∀ W', Below wr.heap.size W W' → NrW w W' D Z B O A G X Y (some ⟨ga, oa1, none⟩) c1 A2 c2 b V1 v1 V2 v2 b0 (some ⟨gl, ol, none⟩) rs Zc Mc T N1 n1 N2 n2 b' wd.heap.size) ∧ (∀ W', Below wr.heap.size W W' → RcAt W' R x)) hWt.out ?_
                      clear hWt s0 s1 s2 b0' b1 b2 b3 b4 bf t0 t1 t2 t3 t4 tf
                      generalize wr.heap.size = S
                      rintro we ⟨hN, hRc, z0, z1, z2, zf, hkN, hkR⟩
                      have hkNH := Lib.hid hkN
                      have hkRH := Lib.hid hkR
                      obtain ⟨r0, r1, r2, r3, r4, r5, r6⟩ := hRc
                      have zf0 := zf 0
                      have zf1 := zf 1
                      have zf2 := zf 2
                      have hNH := Lib.hid hN
                      clear hN hkN hkR
                      obtain ⟨N1z, hN1z⟩ : ∃ q, q = b'.zs[j] := ⟨_, rfl⟩
                      have hval2 := hval.out
                      rw [← hN1z] at hval2
                      obtain ⟨gn, on, en, -, m0, m1, m2⟩ := zo_at hNH.out.o.in_.z hlt2
                      rw [← hN1z] at m0 m1 m2
                      obtain ⟨t0, t1, t2, t3, t4, tf⟩ := hNH.out.t
                      subst en
                      have hne := fun W => (zo_eql W N1z N1z).2
                      rw [eqZ_self] at hne
                      have hN1zH := Lib.hid hN1z
                      clear hN1z hval hNH
                      by_cases h3 : x.k = 3
                      · have h3b : (x.k == 3) = true := by simp [h3]
                        by_cases ha : x.a = (j : Int)
                        · have hab : (x.a == (j : Int)) = true := by simp [ha]
                          rw [if_pos ⟨h3, ha⟩] at hval2
                          clear h3 ha
                          have hst3 := Lib.hid (three_set z0 z1 z2 (.int .i64 x.b) (.int .i64 x.c) (.int .i64 x.d))
                          go_upto_region 37 with fail
                          refine fresh_world (fun W => W.cell? ⟨S, 0, none⟩ = some (.int .i64 x.b) ∧ W.cell? ⟨S, 1, none⟩ = some (.int .i64 x.c) ∧ W.cell? ⟨S, 2, none⟩ = some (.int .i64 x.d) ∧ Below S we W) hst3.out ?_
                          clear hst3 z0 z1 z2 zf zf0 zf1 zf2 r0 r1 r2 r3 r4 r5 r6 m0 m1 m2 t0 t1 t2 t3 t4 tf
                          rintro wf ⟨z0, z1, z2, hbS⟩
                          have hN2 := hkNH.out _ hbS
                          obtain ⟨gn2, on2, en2, -, m0, m1, m2⟩ := zo_at hN2.o.in_.z hlt2
                          injection en2 with en2
                          injection en2 with en2 en3
                          subst en2
                          subst en3
                          rw [← hN1zH.out, hval2] at m0 m1 m2
                          dsimp only at m0 m1 m2
                          rw [hval2] at hne
                          dsimp only at hne
                          obtain ⟨t0, t1, t2, t3, t4, tf⟩ := hN2.t
                          have hbSH := Lib.hid hbS
                          clear hN2 hbS hval2
                          go_wp2_with fail
                          go_quiet (fail)
                          go_wp2_with fail
                          go_roundw
                          case rel => exact ⟨j + 1, by omega, by go_num, hkNH.out _ (below_drewN hbSH.out _), hkRH.out _ (below_drewN hbSH.out _)⟩
                          case measure => simp only [intOf]; omega
                        · have hab : (x.a == (j : Int)) = false := by simp [ha]
                          rw [if_neg (fun h => ha h.2)] at hval2
                          subst hval2
                          clear h3 ha
                          go_wp2_with fail
                          go_quiet (fail)
                          go_wp2_with fail
                          go_roundw
                          case rel => exact ⟨j + 1, by omega, by go_num, hkNH.out _ (below_drewN (Below.refl S we) _), hkRH.out _ (below_drewN (Below.refl S we) _)⟩
                          case measure => simp only [intOf]; omega
                      · have h3b : (x.k == 3) = false := by simp [h3]
                        rw [if_neg (fun h => h3 h.1)] at hval2
                        subst hval2
                        go_wp2_with fail
                        go_quiet (fail)
                        go_wp2_with fail
                        go_roundw
                        case rel => exact ⟨j + 1, by omega, by go_num, hkNH.out _ (below_drewN (Below.refl S we) _), hkRH.out _ (below_drewN (Below.refl S we) _)⟩
                        case measure => simp only [intOf]; omega
                    case neg =>
                      have hj1 : ¬ (j : Int) < (b'.zs.length : Int) := by omega
                      clear hN hRc hlt2 hj
                      go_wp2_with fail
                      clear t0 t1 t2 t3 t4 tf hj1
                      go_loopw [25] (fun i wr => ∃ j : Nat, j ≤ b'.ms.length ∧ i = .int .i64 (j : Int) ∧ (NrW w wr D Z B O A G X Y A1 c1 A2 c2 b V1 v1 V2 v2 b0 (some ⟨gl, ol, none⟩) rs Zc Mc T N1 n1 N2 n2 b' wd.heap.size ∧ RcAt wr R x)) (fun i _ => b'.ms.length - (intOf i).toNat)
                      case atStart => exact ⟨0, Nat.zero_le _, rfl, hQH.out⟩
                      case round =>
                        clear hQH
                        obtain ⟨j, hj, rfl, hQ⟩ := hrel
                        have hQH := Lib.hid hQ
                        obtain ⟨hN, hRc⟩ := hQ
                        obtain ⟨t0, t1, t2, t3, t4, tf⟩ := hN.t
                        by_cases hlt2 : j < b'.ms.length
                        case pos =>
                          have hltb : j < b.ms.length := by have h1 := hnml.out; have h2 := hmlH.out; omega
                          obtain ⟨ga, oa1, ea, -, s0⟩ := hN.n.i.m.at_ hltb
                          obtain ⟨gn, on, en, -, m0⟩ := hN.o.in_.m.at_ hlt2
                          obtain ⟨b0', b1, b2, b3, b4, bf⟩ := hN.n.k
                          obtain ⟨r0, r1, r2, r3, r4, r5, r6⟩ := hRc
                          subst ea
                          subst en
                          have hj1 : (j : Int) < (b'.ms.length : Int) := by omega
                          have hjb : (j : Int) < (b.ms.length : Int) := by omega
                          have hkw : IntKind.i64.wrap ((j : Int) + 1) = (j : Int) + 1 := IntWalk.i64_in _ (by have := hN.o.ml; omega)
                          have hval := hnm.out j hlt2 hltb
                          clear hN
                          generalize b.ms[j] = z at s0 hval
                          generalize b'.ms[j] = z' at m0 hval
                          by_cases h3 : x.k = 5
                          · have h3b : (x.k == 5) = true := by simp [h3]
                            by_cases ha : x.a = (j : Int)
                            · have hab : (x.a == (j : Int)) = true := by simp [ha]
                              rw [if_pos ⟨h3, ha⟩] at hval
                              clear h3 ha
                              subst hval
                              go_wp2_with fail
                              go_roundw
                              case rel => exact ⟨j + 1, by omega, by go_num, hQH.out.1, hQH.out.2⟩
                              case measure => simp only [intOf]; omega
                            · have hab : (x.a == (j : Int)) = false := by simp [ha]
                              rw [if_neg (fun h => ha h.2)] at hval
                              subst hval
                              clear h3 ha
                              go_wp2_with fail
                              go_roundw
                              case rel => exact ⟨j + 1, by omega, by go_num, hQH.out.1, hQH.out.2⟩
                              case measure => simp only [intOf]; omega
                          · have h3b : (x.k == 5) = false := by simp [h3]
                            rw [if_neg (fun h => h3 h.1)] at hval
                            subst hval
                            go_wp2_with fail
                            go_roundw
                            case rel => exact ⟨j + 1, by omega, by go_num, hQH.out.1, hQH.out.2⟩
                            case measure => simp only [intOf]; omega
                        case neg =>
                          have hj1 : ¬ (j : Int) < (b'.ms.length : Int) := by omega
                          obtain ⟨hc1, hc2⟩ := hnc.out
                          obtain ⟨b0', b1, b2, b3, b4, bf⟩ := hN.n.k
                          obtain ⟨r0, r1, r2, r3, r4, r5, r6⟩ := hRc
                          have bf0 := bf 0
                          have bf1 := bf 1
                          have bf2 := bf 2
                          have bf3 := bf 3
                          have bf4 := bf 4
                          have hP := hN.n.put hN.o hN.x
                          have hfin := Lib.hid (show b' = foldN b0 rs (k + 1) from hfs.out.symm)
                          have hkw : IntKind.i64.wrap ((k : Int) + 1) = (k : Int) + 1 := IntWalk.i64_in _ (by omega)
                          rw [hc1] at t3 hP
                          rw [hc2] at t4 hP
                          clear hlt2 hj hN hc1 hc2 hQH
                          by_cases h6 : x.k = 6
                          · have h6b : (x.k == 6) = true := by simp [h6]
                            have h6c : (x.k != 6) = false := by simp [h6]
                            rw [if_pos h6] at t3 t4
                            rw [if_pos h6, if_pos h6] at hP
                            clear h6
                            by_cases ha : x.a = 65535
                            · have hab : (x.a == 65535) = true := by simp [ha]
                              have hac : (x.a != 65535) = false := by simp [ha]
                              rw [if_pos ha] at t3 hP
                              have hP := Lib.hid hP
                              clear ha
                              go_upto_region 14 with fail
                              refine fresh_world (fun W' => BnW w W' D Z B O A G X Y N1 n1 N2 n2 b' V1 v1 V2 v2 b0 (some ⟨gl, ol, none⟩) rs) hP.out ?_
                              clear hP b0' b1 b2 b3 b4 bf r0 r1 r2 r3 r4 r5 r6 t0 t1 t2 t3 t4 tf bf0 bf1 bf2 bf3 bf4
                              rintro wg hB
                              have hBH := Lib.hid hB
                              clear hB
                              go_wp2_with fail
                              go_roundw
                              case rel => exact ⟨k + 1, N1, n1, N2, n2, by omega, by go_num, by rw [← hfin.out, hnq.out], by rw [← hfin.out]; exact hnzl.out, by rw [← hfin.out]; exact hnml.out, by rw [← hfin.out]; exact hBH.out⟩
                              case measure => simp only [intOf]; omega
                            · have hab : (x.a == 65535) = false := by simp [ha]
                              have hac : (x.a != 65535) = true := by simp [ha]
                              rw [if_neg ha] at t3 hP
                              have hP := Lib.hid hP
                              clear ha
                              go_upto_region 14 with fail
                              refine fresh_world (fun W' => BnW w W' D Z B O A G X Y N1 n1 N2 n2 b' V1 v1 V2 v2 b0 (some ⟨gl, ol, none⟩) rs) hP.out ?_
                              clear hP b0' b1 b2 b3 b4 bf r0 r1 r2 r3 r4 r5 r6 t0 t1 t2 t3 t4 tf bf0 bf1 bf2 bf3 bf4
                              rintro wg hB
                              have hBH := Lib.hid hB
                              clear hB
                              go_wp2_with fail
                              go_roundw
                              case rel => exact ⟨k + 1, N1, n1, N2, n2, by omega, by go_num, by rw [← hfin.out, hnq.out], by rw [← hfin.out]; exact hnzl.out, by rw [← hfin.out]; exact hnml.out, by rw [← hfin.out]; exact hBH.out⟩
                              case measure => simp only [intOf]; omega
                          · have h6b : (x.k == 6) = false := by simp [h6]
                            have h6c : (x.k != 6) = true := by simp [h6]
                            rw [if_neg h6] at t3 t4
                            rw [if_neg h6, if_neg h6] at hP
                            have hP := Lib.hid hP
                            go_upto_region 14 with fail
                            refine fresh_world (fun W' => BnW w W' D Z B O A G X Y N1 n1 N2 n2 b' V1 v1 V2 v2 b0 (some ⟨gl, ol, none⟩) rs) hP.out ?_
                            clear hP b0' b1 b2 b3 b4 bf r0 r1 r2 r3 r4 r5 r6 t0 t1 t2 t3 t4 tf bf0 bf1 bf2 bf3 bf4
                            rintro wg hB
                            have hBH := Lib.hid hB
                            clear hB
                            go_wp2_with fail
                            go_roundw
                            case rel => exact ⟨k + 1, N1, n1, N2, n2, by omega, by go_num, by rw [← hfin.out, hnq.out], by rw [← hfin.out]; exact hnzl.out, by rw [← hfin.out]; exact hnml.out, by rw [← hfin.out]; exact hBH.out⟩
                            case measure => simp only [intOf]; omega
    case neg =>
      as_aux_lemma =>
        have g1 : ¬ (k : Int) < (rs.length : Int) := by omega
        generalize foldN b0 rs k = b at hN hNH hzl hml ⊢
        clear hzl hml hlt hk
        obtain ⟨x0, x1, x2, x3, x4⟩ := hN.h
        clear hN
        go_wp2_with fail
        (with_reducible refine (hnw.out _).mono ?_)
        rintro e wa ⟨E1, e1, E2, e2, rfl, hO, hba⟩
        have hNa := Lib.hid (boxed hO.in_ 33 (R := fun W => BnW w W D Z B O A G X Y A1 c1 A2 c2 b V1 v1 V2 v2 b0 Al rs) (hNH.out.below hba) (fun _ _ h hb => h.below hb))
        clear hO hba hNH x0 x1 x2 x3 x4
        go_upto_region 51 with fail
        refine fresh_world (fun W' => BkAt W' wa.heap.size E1 e1 E2 e2 b0 ∧ BkIn W' E1 e1 E2 e2 b0 ∧ BnW w W' D Z B O A G X Y A1 c1 A2 c2 b V1 v1 V2 v2 b0 Al rs) hNa.out ?_
        clear hNa
        generalize wa.heap.size = U
        rintro wb ⟨hE, -, hN⟩
        have hNH := Lib.hid hN
        obtain ⟨t0, t1, t2, t3, t4, tf⟩ := hE
        obtain ⟨y0, y1, y2, y3, y4, yf⟩ := hN.f
        clear hN
        go_upto_region 53 with fail
        clear t0 t1 t2 t3 t4 tf y0 y1 y2 y3 y4 yf
        go_cut [28] from 274 to 294 (fun c wx => c = .bool (hasB b s p) ∧ wx = wb)
        case first =>
          obtain ⟨b0', b1, b2, b3, b4, bf⟩ := hNH.out.k
          by_cases h1 : 0 ≤ s
          · have h1b : decide (0 ≤ s) = true := by simp [h1]
            by_cases h2 : s < (b.ms.length : Int)
            · have h2b : decide (s < (b.ms.length : Int)) = true := by simp [h2]
              by_cases h3 : s = b.sl
              · have h3b : (s != b.sl) = false := by simp [h3]
                have hv : hasB b s p = decide (p < b.cu) := decide_eq_decide.2 ⟨fun h => h.2.2.resolve_left (fun h4 => h4 h3), fun h => ⟨h1, h2, .inr h⟩⟩
                have hvH := Lib.hid hv
                clear hv h3 h1 h2
                go_wp2_with fail
                go_meet
                case rel => exact ⟨by rw [hvH.out], rfl⟩
              · have h3b : (s != b.sl) = true := by simp [h3]
                have hvH := Lib.hid (show hasB b s p = true from decide_eq_true ⟨h1, h2, .inl h3⟩)
                clear h3 h1 h2
                go_wp2_with fail
                go_meet
                case rel => exact ⟨by rw [hvH.out], rfl⟩
            · have h2b : decide (s < (b.ms.length : Int)) = false := by simp only [decide_eq_false_iff_not]; exact h2
              have hvH := Lib.hid (show hasB b s p = false from decide_eq_false (fun h => h2 h.2.1))
              clear h1 h2
              go_wp2_with fail
              go_meet
              case rel => exact ⟨by rw [hvH.out], rfl⟩
          · have h1b : decide (0 ≤ s) = false := by simp only [decide_eq_false_iff_not]; exact h1
            have hvH := Lib.hid (show hasB b s p = false from decide_eq_false (fun h => h1 h.1))
            clear h1
            go_wp2_with fail
            go_meet
            case rel => exact ⟨by rw [hvH.out], rfl⟩
        case rest =>
          obtain ⟨rfl, rfl⟩ := hcut
          have hha := Lib.hid (fun W => has_anyB W A1 c1 A2 c2 b s p)
          generalize hasB b s p = hb at hha ⊢
          obtain ⟨g0, gz, g2, g3, g4⟩ := hNH.out.g
          cases hgd : goodB D Z B O A with
          | false =>
            rw [hgd] at hgr
            obtain ⟨pz, hpz⟩ : ∃ pz, pz = IntKind.i64.wrap (Z - 1) := ⟨_, rfl⟩
            have hpz2 : IntKind.i64.wrap (Z - 1) = pz := hpz.symm
            clear hpz hgd
            go_wp2_with fail
            clear g0 gz g2 g3 g4 hpz2
            go_loopw [29, 30] (fun f q wr => f = .int .i64 (-1) ∧ q = .int .i64 pz ∧ BnW w wr D Z B O A G X Y A1 c1 A2 c2 b V1 v1 V2 v2 b0 Al rs) (fun _ _ _ => 0)
            case atStart => exact ⟨rfl, rfl, hNH.out⟩
            case round =>
              clear hNH
              obtain ⟨rfl, rfl, hN⟩ := hrel
              have hNH := Lib.hid hN
              obtain ⟨g0, gz, g2, g3, g4⟩ := hN.g
              clear hN
              by_cases h2 : (2 : Int) ≤ pz
              · go_wp2_with fail
                refine (hgr.out _).mono ?_
                rintro e wd ⟨rfl, hbd⟩
                have hNd := Lib.hid (hNH.out.below hbd)
                clear hbd hNH g0 gz g2 g3 g4 h2
                obtain ⟨b0', b1, b2, b3, b4, bf⟩ := hNd.out.k
                go_wp2_with fail
                refine (hha.out _).mono ?_
                rintro e we ⟨rfl, hbe⟩
                have hNe := Lib.hid (hNd.out.below hbe)
                clear hbe hNd b0' b1 b2 b3 b4 bf
                obtain ⟨g0, gz, g2, g3, g4⟩ := hNe.out.g
                go_wp2_with fail
                refine (hgr.out _).mono ?_
                rintro e wf ⟨rfl, hbf⟩
                have hfin := Lib.hid (hNe.out.bw.trans (hbf.mono hNe.out.bw.size))
                clear hbf hNe g0 gz g2 g3 g4
                go_wp2_with fail
                rw [hffH.out]
                exact bodyPost_ret (v := .bool true) (by simp [results, Try.results5, go_sem]) rfl ⟨rfl, hfin.out⟩
              · obtain ⟨b0', b1, b2, b3, b4, bf⟩ := hNH.out.k
                go_wp2_with fail
                refine (hha.out _).mono ?_
                rintro e we ⟨rfl, hbe⟩
                have hNe := Lib.hid (hNH.out.below hbe)
                clear hbe hNH b0' b1 b2 b3 b4 bf g0 gz g2 g3 g4
                obtain ⟨g0, gz, g2, g3, g4⟩ := hNe.out.g
                go_wp2_with fail
                refine (hgr.out _).mono ?_
                rintro e wf ⟨rfl, hbf⟩
                have hfin := Lib.hid (hNe.out.bw.trans (hbf.mono hNe.out.bw.size))
                clear hbf hNe g0 gz g2 g3 g4
                go_wp2_with fail
                rw [hffH.out]
                exact bodyPost_ret (v := .bool true) (by simp [results, Try.results5, go_sem]) rfl ⟨rfl, hfin.out⟩
          | true =>
            obtain ⟨q1, q2, q3, q4, _⟩ := goodB_iff.1 hgd
            rw [hgd] at hgr
            clear hgd
            have hpz2 : IntKind.i64.wrap (Z - 1) = Z - 1 := IntWalk.i64_in _ (by omega)
            go_wp2_with fail
            clear g0 gz g2 g3 g4 hpz2
            go_loopw [29, 30] (fun f q wr => ∃ (f' q' : Int), f = .int .i64 f' ∧ q = .int .i64 q' ∧ 1 ≤ q' ∧ q' ≤ Z - 1 ∧ FreeFrom b.zs Z q' f' ∧ BnW w wr D Z B O A G X Y A1 c1 A2 c2 b V1 v1 V2 v2 b0 Al rs) (fun _ q _ => (intOf q).toNat)
            case atStart => exact ⟨-1, Z - 1, rfl, rfl, by omega, by omega, freeFrom_top b.zs Z, hNH.out⟩
            case round =>
              clear hNH
              obtain ⟨f, q, rfl, rfl, hq1, hqZ, hF, hN⟩ := hrel
              have hNH := Lib.hid hN
              have hFH := Lib.hid hF
              obtain ⟨g0, gz, g2, g3, g4⟩ := hN.g
              clear hN hF
              by_cases h2 : (2 : Int) ≤ q
              case pos =>
                go_wp2_with fail
                refine (hgr.out _).mono ?_
                rintro e wd ⟨rfl, hbd⟩
                have hNd := Lib.hid (hNH.out.below hbd)
                clear hbd hNH g0 gz g2 g3 g4
                go_wp2_with fail
                go_loopw [31, 32] (fun t i wr => ∃ (j : Nat), j ≤ b.zs.length ∧ t = .bool (hasZ (b.zs.take j) q) ∧ i = .int .i64 (j : Int) ∧ BnW w wr D Z B O A G X Y A1 c1 A2 c2 b V1 v1 V2 v2 b0 Al rs) (fun _ i _ => b.zs.length - (intOf i).toNat)
                case atStart => exact ⟨0, Nat.zero_le _, by simp [hasZ], rfl, hNd.out⟩
                case round =>
                  clear hNd
                  obtain ⟨j, hj, rfl, rfl, hN⟩ := hrel
                  have hNH := Lib.hid hN
                  obtain ⟨b0', b1, b2, b3, b4, bf⟩ := hN.k
                  by_cases hlt2 : j < b.zs.length
                  case pos =>
                    obtain ⟨ga, oa1, ea, -, s0, s1, s2⟩ := zo_at hN.i.z hlt2
                    have hst := Lib.hid (hasZ_succ b.zs q j hlt2)
                    have hj1 : (j : Int) < (b.zs.length : Int) := by omega
                    have hkw : IntKind.i64.wrap ((j : Int) + 1) = (j : Int) + 1 := IntWalk.i64_in _ (by have := hN.i.zl; omega)
                    subst ea
                    clear hN s1 s2
                    generalize hasZ (b.zs.take j) q = t at hst ⊢
                    generalize b.zs[j].p = zp at s0 hst
                    cases t with
                    | true =>
                      go_wp2_with fail
                      go_roundw
                      case rel => exact ⟨j + 1, by omega, by rw [hst.out]; rfl, by go_num, hNH.out⟩
                      case measure => simp only [intOf]; omega
                    | false =>
                      go_wp2_with fail
                      go_roundw
                      case rel => exact ⟨j + 1, by omega, by rw [hst.out]; rfl, by go_num, hNH.out⟩
                      case measure => simp only [intOf]; omega
                  case neg =>
                    have hj1 : ¬ (j : Int) < (b.zs.length : Int) := by omega
                    have hjl : b.zs.take j = b.zs := List.take_of_length_le (by omega)
                    rw [hjl]
                    have hqw : IntKind.i64.wrap (q - 1) = q - 1 := IntWalk.i64_in _ (by omega)
                    clear hjl hN hlt2 hj
                    cases hz : hasZ b.zs q with
                    | true =>
                      have hF2 := Lib.hid (freeFrom_has hFH.out hz)
                      clear hz
                      go_wp2_with fail
                      go_roundw
                      case rel => exact ⟨f, q - 1, rfl, rfl, by omega, by omega, hF2.out, hNH.out⟩
                      case measure => simp only [intOf]; omega
                    | false =>
                      have hF2 := Lib.hid (freeFrom_not hz (by omega : q < Z))
                      clear hz
                      go_wp2_with fail
                      go_roundw
                      case rel => exact ⟨q, q - 1, rfl, rfl, by omega, by omega, hF2.out, hNH.out⟩
                      case measure => simp only [intOf]; omega
              case neg =>
                obtain rfl : q = 1 := by omega
                have hfr := Lib.hid (fun W (hb : Below wr.heap.size wr W) => free_any W A1 c1 A2 c2 b D Z B O A (hNH.out.below hb).i (by omega))
                have hIF := Lib.hid (freeFrom_is hFH.out)
                obtain ⟨b0', b1, b2, b3, b4, bf⟩ := hNH.out.k
                clear hFH h2 hq1 hqZ
                go_wp2_with fail
                refine (hha.out _).mono ?_
                rintro e we ⟨rfl, hbe⟩
                have hNe := Lib.hid (hNH.out.below hbe)
                have hbeH := Lib.hid hbe
                clear hbe hNH b0' b1 b2 b3 b4 bf g0 gz g2 g3 g4
                obtain ⟨g0, gz, g2, g3, g4⟩ := hNe.out.g
                go_wp2_with fail
                refine (hgr.out _).mono ?_
                rintro e wf ⟨rfl, hbf⟩
                have hNf := Lib.hid (hNe.out.below hbf)
                have hbfH := Lib.hid (hbeH.out.trans (hbf.mono hbeH.out.size))
                clear hbf hbeH hNe g0 gz g2 g3 g4
                obtain ⟨g0, gz, g2, g3, g4⟩ := hNf.out.h
                obtain ⟨b0', b1, b2, b3, b4, bf⟩ := hNf.out.k
                go_wp2_with fail
                (with_reducible refine (hfr.out _ hbfH.out).mono ?_)
                rintro e wg ⟨f2, rfl, hf2, hbg⟩
                obtain rfl := hf2.uniq hIF.out
                have hfin := Lib.hid (hNf.out.bw.trans (hbg.mono hNf.out.bw.size))
                clear hbg hNf hbfH hf2 hIF hfr g0 gz g2 g3 g4 b0' b1 b2 b3 b4 bf
                go_wp2_with fail
                rw [hffH.out]
                exact bodyPost_ret (v := .bool true) (by simp [results, Try.results5, go_sem]) rfl ⟨rfl, hfin.out⟩
end Go.Proofs.Ytpmhfalhieinjaa
