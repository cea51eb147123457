/- StripeOne's walk. -/
import Derived.Test.YtonoanjakfaloaaSpOneM
namespace Go.Proofs.Ytonoanjakfaloaa
open Go.RowKit Sp Xor

set_option maxRecDepth 100000 in
set_option maxHeartbeats 4000000 in
theorem one_law (A0 : Option Addr) (cap0 : Nat) (ps : List ByteArray) (x : Int) (w : World) (hS : StrsIn w A0 ps) (hz : ∀ q ∈ ps, q.size ≤ 140737488351232) :
    Calls Try.prog 7 #[.slice A0 ps.length cap0, .int .i64 x] w fun e w' => e = .returned (.bool true) ∧ Below w.heap.size w w' := by
  have cs := Lib.hid speaks11
  have cn := Lib.hid (fun W => newS_any 15 W (by decide))
  have hSH := Lib.hid (fun W (h : Below w.heap.size w W) => hS.below h)
  have hzH := Lib.hid hz
  have hpar := Lib.hid (fun W L (h : L.length ≤ 15) (h2 : ∀ q ∈ L, q.size = 64) => parity_anyS L 15 W h h2)
  clear hS hz
  go_enter Try.func7, Try.ntmps7
  go_wp2_with fail
  (with_reducible refine (cs.out _).mono ?_)
  rintro e w1 ⟨rfl, hb1⟩
  go_wp2_with fail
  (with_reducible refine (cn.out _).mono ?_)
  rintro e w2 ⟨rfl, hb2⟩
  have hB2 := hb1.trans (hb2.mono hb1.size)
  clear cs cn hb1 hb2
  go_upto_region 4 with (refine wpList_storeS (L' := []) (n' := 15) rfl _ _ rfl (SrAt.zero w2) rfl rfl (by decide) ?_; intro w3 hS3 hg3)
  have hP := SpW.fresh hB2 hS3 hg3
  refine fresh_world (fun W => OneW w w2.heap.size none 0 [] W) ⟨hP.1, Row.nil _ _, hP.2.1, hP.2.2, fun g' e => by cases e⟩ ?_
  clear hP hS3 hg3 w3 hB2
  generalize w2.heap.size = g
  rintro W hW
  have hWH := Lib.hid hW
  clear hW
  go_wp2_with fail
  go_loopw [7, 8] (fun s7 s8 wr => ∃ (i : Nat) (A : Option Addr) (cap : Nat), i ≤ ps.length ∧ i ≤ 15 ∧ s8 = .int .i64 (i : Int) ∧ s7 = .slice A i cap ∧ OneW w g A cap (blks ps i) wr) (fun _ s _ => ps.length - (intOf s).toNat)
  case atStart => exact ⟨0, none, 0, Nat.zero_le _, by omega, rfl, rfl, hWH.out⟩
  case round =>
    clear hWH
    obtain ⟨i, A, cap, hi, hi15, rfl, rfl, hW⟩ := hrel
    have hlb := blks_len hi
    by_cases hlt : i < ps.length ∧ i < 15
    case pos =>
      obtain ⟨hl1, hl2⟩ := hlt
      have g1 : decide ((i : Int) < (ps.length : Int)) = true := decide_eq_true (by omega)
      have g2 : decide ((i : Int) < 15) = true := decide_eq_true (by omega)
      have g3 : (i : Int) < (ps.length : Int) := by omega
      obtain ⟨b, off, rfl, hbl, -⟩ := (hSH.out _ hW.bw).at_ hl1
      have hcell : ∀ W, Below wr.heap.size wr W → W.cell? ⟨b, off + i, none⟩ = some (.string ps[i]) := fun W hb => by
        obtain ⟨b', off', e, _, hc⟩ := (hSH.out _ (hW.bw.trans (hb.mono hW.bw.size))).at_ hl1
        injection e with e; injection e with e1 e2
        rw [e1, e2]; exact hc
      have hcell2 : ∀ W, Below w.heap.size w W → W.cell? ⟨b, off + i, none⟩ = some (.string ps[i]) := fun W hb => by
        obtain ⟨b', off', e, _, hc⟩ := (hSH.out _ hb).at_ hl1
        injection e with e; injection e with e1 e2
        rw [e1, e2]; exact hc
      have hcH2 := Lib.hid hcell2
      have hzi := hzH.out ps[i] (List.getElem_mem hl1)
      have hbk := Lib.hid (fun W => block_any11 ps[i] false W hzi)
      have hmore := blks_more hl1
      have h64 := blkS_size ps[i]
      generalize hs : blkS ps[i] false = s at hbk hmore h64
      have had := Lib.hid (fun W => addS_any (blks ps i) 15 s W (by omega) h64 (by omega))
      have hlb2 : (blks ps i ++ [s]).length ≤ 15 := by rw [List.length_append, hlb]; simp; omega
      have hcH := Lib.hid hcell
      have hWH := Lib.hid hW
      have hmoreH := Lib.hid hmore
      have hlbH := Lib.hid hlb
      have hlb2H := Lib.hid hlb2
      generalize ps[i] = q at hbk hcH hcH2 hs
      clear hs hcell hcell2 hW hmore h64 hzi hlb hlb2
      go_upto_region 8 with fail
      have hW0 : Below wr.heap.size wr wr.drew := (Below.refl _ _).drew

      have hC0 := hcH.out _ hW0
      refine region_anyC (fun _ => true) (fun W => W.cell? ⟨b, off + i, none⟩ = some (.string q)) (by kernel_rfl) ?_
      refine anyL_take 1 (v := ?_) rfl (by kernel_rfl) (fun _ _ _ h => h) (Or.inl ⟨by rfl, ?_⟩) hC0 ?_
      rotate_left
      focus (intro W hW; go_simp; try with_reducible rfl)
      simp only [Act.put, List.setIfInBounds_toArray, List.set_cons_zero, List.set_cons_succ]
      refine anyL_take 2 (v := ?_) rfl (by kernel_rfl) (fun _ _ _ h => h) (Or.inl ⟨by rfl, ?_⟩) hC0 ?_
      rotate_left
      focus (intro W hW; go_simp; try with_reducible rfl)
      simp only [Act.put, List.setIfInBounds_toArray, List.set_cons_zero, List.set_cons_succ]
      refine anyL_take 3 (v := ?_) rfl (by kernel_rfl) (fun _ _ _ h => h) (Or.inl ⟨by rfl, ?_⟩) hC0 ?_
      rotate_left
      focus (intro W hW; go_simp; try with_reducible rfl)
      simp only [Act.put, List.setIfInBounds_toArray, List.set_cons_zero, List.set_cons_succ]
      refine anyL_take 4 (v := ?_) rfl (by kernel_rfl) (fun _ _ _ h => h) (Or.inl ⟨by rfl, ?_⟩) hC0 ?_
      rotate_left
      focus (intro W hW; go_simp; try with_reducible rfl)
      simp only [Act.put, List.setIfInBounds_toArray, List.set_cons_zero, List.set_cons_succ]
      refine anyL_two 0 5 rfl rfl (by kernel_rfl) (fun K hK => ?_) (fun K hK => ?_)
      · refine step_loadS rfl (.tmp 5) rfl (hWH.out.row.below hW0) rfl ?_
        refine hK.out _ _ (fun _ => hC0) ?_
        clear hK K
        try simp only [Act.put, List.setIfInBounds_toArray, List.set_cons_zero, List.set_cons_succ]
        refine anyL_one 5 rfl (by kernel_rfl) (fun K hK => ?_)
        go_simp
        refine (hbk.out _).mono ?_
        rintro e' v1 ⟨rfl, hp1⟩
        have hn : Below wr.heap.size wr v1 := hW0.trans (hp1.mono hW0.size)
        refine hK.out _ _ (fun _ => hcH.out _ hn) ?_
        clear hK K hC0
        try simp only [Act.put, List.setIfInBounds_toArray, List.set_cons_zero, List.set_cons_succ]
        refine fresh_anyC (fun W => Below wr.heap.size wr W) hn ?_
        clear hn hp1 hW0
        rintro U1 hW0
        have hC0 := hcH.out _ hW0
        refine anyL_one 6 rfl (by kernel_rfl) (fun K hK => ?_)
        go_simp
        refine (had.out _).mono ?_
        rintro e' v2 ⟨rfl, hp2⟩
        have hn : Below wr.heap.size wr v2 := hW0.trans (hp2.mono hW0.size)
        refine hK.out _ _ (fun _ => hcH.out _ hn) ?_
        clear hK K hC0
        try simp only [Act.put, List.setIfInBounds_toArray, List.set_cons_zero, List.set_cons_succ]
        refine fresh_anyC (fun W => Below wr.heap.size wr W) hn ?_
        clear hn hp2 hW0
        rintro U2 hW0
        have hC0 := hcH.out _ hW0
        refine anyL_take 7 (v := ?_) rfl (by kernel_rfl) (fun _ _ _ h => h) (Or.inl ⟨by rfl, ?_⟩) hC0 ?_
        rotate_left
        focus (intro W hW; go_simp; try with_reducible rfl)
        simp only [Act.put, List.setIfInBounds_toArray, List.set_cons_zero, List.set_cons_succ]
        refine anyL_take 8 (v := ?_) rfl (by kernel_rfl) (fun _ _ _ h => h) (Or.inl ⟨by rfl, ?_⟩) hC0 ?_
        rotate_left
        focus (intro W hW; go_simp; try with_reducible rfl)
        simp only [Act.put, List.setIfInBounds_toArray, List.set_cons_zero, List.set_cons_succ]
        refine anyL_take 9 (v := ?_) rfl (by kernel_rfl) (fun _ _ _ h => h) (Or.inl ⟨by rfl, ?_⟩) hC0 ?_
        rotate_left
        focus (intro W hW; go_simp; try with_reducible rfl)
        simp only [Act.put, List.setIfInBounds_toArray, List.set_cons_zero, List.set_cons_succ]
        refine anyL_one 10 rfl (by kernel_rfl) (fun K hK => ?_)
        refine step_storeS (L' := blks ps i ++ [s]) (n' := 15) rfl _ _ rfl (hWH.out.row.below hW0) rfl rfl hlb2H.out ?_
        intro w5 hS5 hg5
        have hw6 := hWH.out.below hW0
        have hn : SrAt w5 g (blks ps i ++ [s]) 15 ∧ Row w5 w.heap.size A cap (blks ps i) ∧ Below w.heap.size w w5 := ⟨hS5, hw6.hv.far1 hg5 hw6.ne, hw6.bw.grown hg5 hw6.bw.size (fun k e => by injection e with e; have := hw6.ge; omega)⟩
        refine hK.out _ _ (fun _ => hcH2.out _ hn.2.2) ?_
        clear hK K hS5 hg5 hw6 hW0 hC0
        try simp only [Act.put]
        refine fresh_anyC (fun W => SrAt W g (blks ps i ++ [s]) 15 ∧ Row W w.heap.size A cap (blks ps i) ∧ Below w.heap.size w W) hn ?_
        have hge := hWH.out.ge
        have hne := hWH.out.ne
        clear hn hWH
        rintro W6 hW6
        refine anyC_done (by kernel_rfl) ?_ _
        have hW6H := Lib.hid hW6
        have hcw : W6.cell? ⟨b, off + i, none⟩ = some (.string q) := hcH2.out _ hW6.2.2
        clear hW6 hcH hcH2 had
        go_wp2_with fail
        (with_reducible refine (hbk.out _).mono ?_)
        rintro e v5 ⟨rfl, hb5⟩
        have hg6 := hW6H.out.2.2.size
        have hR5 := hW6H.out.2.1.below hb5
        obtain ⟨A', cap', W', hrun, hR', hB', hgr, hA4⟩ := row_app hR5 (by rw [hlbH.out]; omega) (Nat.le_trans hg6 hb5.size) s
        rw [hlbH.out] at hrun
        have hS7 : SrAt (v5.alloc (.cells #[.string s] 9)) g (blks ps i ++ [s]) 15 := (hW6H.out.1.below hb5).below ((Below.refl _ _).alloc (Nat.le_refl _) _)
        have hS8 : SrAt W' g (blks ps i ++ [s]) 15 := hS7.other hgr (by
          rcases hR5.form with ⟨rfl, _⟩ | ⟨g', rfl, _⟩
          · simp [Value.ownBlock]
          · simp only [Value.ownBlock]
            intro e
            exact hne g' rfl (Option.some.inj e))
        have hlt5 := (hW6H.out.1.below hb5).lt
        have hF : OneW w g A' cap' (blks ps (i + 1)) W' := by
          rw [hmoreH.out]
          refine ⟨hS8, hR', (hW6H.out.2.2.trans (hb5.mono hg6)).trans hB', hge, fun g' e => ?_⟩
          rcases hA4 with e2 | e2
          · exact hne g' (by rw [← e2, e])
          · rw [e2] at e
            injection e with e
            injection e with e
            omega
        have hFH := Lib.hid hF
        have hrunH := Lib.hid hrun
        clear hrun hF hR' hB' hgr hA4 hS7 hS8 hR5 hb5 hW6H hne hlt5
        have hw1 : IntKind.i64.wrap ((i : Int) + 1) = (i : Int) + 1 := IntWalk.i64_in _ (by omega)
        go_wp2_with (at_builtin; refine append_run_wp rfl _ _ _ rfl rfl rfl hrunH.out ?_)
        go_roundw
        case rel => exact ⟨i + 1, A', cap', by omega, by omega, by go_num, by first | rfl | simp, hFH.out⟩
        case measure => simp [intOf]; omega
      · go_simp
        refine (hbk.out _).mono ?_
        rintro e' v1 ⟨rfl, hp1⟩
        have hn : Below wr.heap.size wr v1 := hW0.trans (hp1.mono hW0.size)
        refine hK.out _ _ (fun _ => hcH.out _ hn) ?_
        clear hK K hC0
        try simp only [Act.put, List.setIfInBounds_toArray, List.set_cons_zero, List.set_cons_succ]
        refine fresh_anyC (fun W => Below wr.heap.size wr W) hn ?_
        clear hn hp1 hW0
        rintro U1 hW0
        have hC0 := hcH.out _ hW0
        refine anyL_one 0 rfl (by kernel_rfl) (fun K hK => ?_)
        refine step_loadS rfl (.tmp 5) rfl (hWH.out.row.below hW0) rfl ?_
        refine hK.out _ _ (fun _ => hC0) ?_
        clear hK K
        try simp only [Act.put, List.setIfInBounds_toArray, List.set_cons_zero, List.set_cons_succ]
        refine anyL_one 6 rfl (by kernel_rfl) (fun K hK => ?_)
        go_simp
        refine (had.out _).mono ?_
        rintro e' v2 ⟨rfl, hp2⟩
        have hn : Below wr.heap.size wr v2 := hW0.trans (hp2.mono hW0.size)
        refine hK.out _ _ (fun _ => hcH.out _ hn) ?_
        clear hK K hC0
        try simp only [Act.put, List.setIfInBounds_toArray, List.set_cons_zero, List.set_cons_succ]
        refine fresh_anyC (fun W => Below wr.heap.size wr W) hn ?_
        clear hn hp2 hW0
        rintro U2 hW0
        have hC0 := hcH.out _ hW0
        refine anyL_take 7 (v := ?_) rfl (by kernel_rfl) (fun _ _ _ h => h) (Or.inl ⟨by rfl, ?_⟩) hC0 ?_
        rotate_left
        focus (intro W hW; go_simp; try with_reducible rfl)
        simp only [Act.put, List.setIfInBounds_toArray, List.set_cons_zero, List.set_cons_succ]
        refine anyL_take 8 (v := ?_) rfl (by kernel_rfl) (fun _ _ _ h => h) (Or.inl ⟨by rfl, ?_⟩) hC0 ?_
        rotate_left
        focus (intro W hW; go_simp; try with_reducible rfl)
        simp only [Act.put, List.setIfInBounds_toArray, List.set_cons_zero, List.set_cons_succ]
        refine anyL_take 9 (v := ?_) rfl (by kernel_rfl) (fun _ _ _ h => h) (Or.inl ⟨by rfl, ?_⟩) hC0 ?_
        rotate_left
        focus (intro W hW; go_simp; try with_reducible rfl)
        simp only [Act.put, List.setIfInBounds_toArray, List.set_cons_zero, List.set_cons_succ]
        refine anyL_one 10 rfl (by kernel_rfl) (fun K hK => ?_)
        refine step_storeS (L' := blks ps i ++ [s]) (n' := 15) rfl _ _ rfl (hWH.out.row.below hW0) rfl rfl hlb2H.out ?_
        intro w5 hS5 hg5
        have hw6 := hWH.out.below hW0
        have hn : SrAt w5 g (blks ps i ++ [s]) 15 ∧ Row w5 w.heap.size A cap (blks ps i) ∧ Below w.heap.size w w5 := ⟨hS5, hw6.hv.far1 hg5 hw6.ne, hw6.bw.grown hg5 hw6.bw.size (fun k e => by injection e with e; have := hw6.ge; omega)⟩
        refine hK.out _ _ (fun _ => hcH2.out _ hn.2.2) ?_
        clear hK K hS5 hg5 hw6 hW0 hC0
        try simp only [Act.put]
        refine fresh_anyC (fun W => SrAt W g (blks ps i ++ [s]) 15 ∧ Row W w.heap.size A cap (blks ps i) ∧ Below w.heap.size w W) hn ?_
        have hge := hWH.out.ge
        have hne := hWH.out.ne
        clear hn hWH
        rintro W6 hW6
        refine anyC_done (by kernel_rfl) ?_ _
        have hW6H := Lib.hid hW6
        have hcw : W6.cell? ⟨b, off + i, none⟩ = some (.string q) := hcH2.out _ hW6.2.2
        clear hW6 hcH hcH2 had
        go_wp2_with fail
        (with_reducible refine (hbk.out _).mono ?_)
        rintro e v5 ⟨rfl, hb5⟩
        have hg6 := hW6H.out.2.2.size
        have hR5 := hW6H.out.2.1.below hb5
        obtain ⟨A', cap', W', hrun, hR', hB', hgr, hA4⟩ := row_app hR5 (by rw [hlbH.out]; omega) (Nat.le_trans hg6 hb5.size) s
        rw [hlbH.out] at hrun
        have hS7 : SrAt (v5.alloc (.cells #[.string s] 9)) g (blks ps i ++ [s]) 15 := (hW6H.out.1.below hb5).below ((Below.refl _ _).alloc (Nat.le_refl _) _)
        have hS8 : SrAt W' g (blks ps i ++ [s]) 15 := hS7.other hgr (by
          rcases hR5.form with ⟨rfl, _⟩ | ⟨g', rfl, _⟩
          · simp [Value.ownBlock]
          · simp only [Value.ownBlock]
            intro e
            exact hne g' rfl (Option.some.inj e))
        have hlt5 := (hW6H.out.1.below hb5).lt
        have hF : OneW w g A' cap' (blks ps (i + 1)) W' := by
          rw [hmoreH.out]
          refine ⟨hS8, hR', (hW6H.out.2.2.trans (hb5.mono hg6)).trans hB', hge, fun g' e => ?_⟩
          rcases hA4 with e2 | e2
          · exact hne g' (by rw [← e2, e])
          · rw [e2] at e
            injection e with e
            injection e with e
            omega
        have hFH := Lib.hid hF
        have hrunH := Lib.hid hrun
        clear hrun hF hR' hB' hgr hA4 hS7 hS8 hR5 hb5 hW6H hne hlt5
        have hw1 : IntKind.i64.wrap ((i : Int) + 1) = (i : Int) + 1 := IntWalk.i64_in _ (by omega)
        go_wp2_with (at_builtin; refine append_run_wp rfl _ _ _ rfl rfl rfl hrunH.out ?_)
        go_roundw
        case rel => exact ⟨i + 1, A', cap', by omega, by omega, by go_num, by first | rfl | simp, hFH.out⟩
        case measure => simp [intOf]; omega
    case neg =>
      by_cases hl1 : i < ps.length
      · have g1 : decide ((i : Int) < (ps.length : Int)) = true := decide_eq_true (by omega)
        have g2 : decide ((i : Int) < 15) = false := decide_eq_false (by omega)
        have hi0 : ¬ i = 0 := by omega
        clear hlt
        have e0 : ¬ (i : Int) = 0 := by omega
        have e1 : ¬ (i : Int) = -1 := by omega
        obtain ⟨u, k, m1, m2, m3, m4, m5, hk⟩ := wrap_mod x i (by omega) hi15
        have hWH := Lib.hid hW
        have hkL : k < (blks ps i).length := by omega
        obtain ⟨A', cap', W', hrun, hR1, hR2, hB'⟩ := row_copy hW.hv (by omega)
        rw [hlb] at hrun
        have hL := hR1.caps
        obtain ⟨g2, rfl, hg2, hg2l, y0, y1, hR3⟩ := hR1.store hkL ⟨#[97, 110, 121, 116, 104, 105, 110, 103]⟩
        have hk1 : (k : Int) < (i : Int) := by omega
        have hrunH := Lib.hid hrun
        have hB2 : Below wr.heap.size wr (W'.setCell ⟨g2, k, none⟩ (.string ⟨#[97, 110, 121, 116, 104, 105, 110, 103]⟩)) := hB'.setCell hg2 _
        have hW2 := Lib.hid (hW.below hB2)
        have hR3H := Lib.hid hR3
        have hb0 : ¬ i = 0 := hi0
        clear hrun hR1 hR2 hR3 hW hB2 hB'
        generalize (blks ps i)[k] = bk0 at y0
        go_upto_region 16 with (at_builtin; refine append_run_wp rfl _ _ _ rfl rfl rfl hrunH.out ?_)
        refine fresh_world (fun W => OneW w g A cap (blks ps i) W ∧ Row W wr.heap.size (some ⟨g2, 0, none⟩) cap' ((blks ps i).set k ⟨#[97, 110, 121, 116, 104, 105, 110, 103]⟩)) ⟨hW2.out, hR3H.out⟩ ?_
        clear hrunH hR3H hW2 y0 y1 hg2l hg2
        rintro V hV
        have hVH := Lib.hid hV
        clear hV
        have hp1 := Lib.hid (fun W => hpar.out W (blks ps i) (by omega) blks_64)
        have h64 := size_parS (blks_64 (ps := ps) (i := i))
        have hsl : ((blks ps i).set k ⟨#[97, 110, 121, 116, 104, 105, 110, 103]⟩).length = i := by rw [List.length_set, hlb]
        have hcm : cap' ≤ 9223372036854775807 := by have := hL.2; unfold maxLen at this; omega
        have hrs := Lib.hid (fun W (h : StrsIn W (some ⟨g2, 0, none⟩) ((blks ps i).set k ⟨#[97, 110, 121, 116, 104, 105, 110, 103]⟩)) => restore_any (parS (blks ps i)) (some ⟨g2, 0, none⟩) cap' ((blks ps i).set k ⟨#[97, 110, 121, 116, 104, 105, 110, 103]⟩) (k : Int) W h (by rw [hsl, ← hlb]; exact hL.1) hcm (by rw [hsl]; omega) (fun q hq => by
          rcases List.mem_or_eq_of_mem_set hq with h | h
          · rw [blks_64 q h]; decide
          · rw [h]; decide) (by rw [h64]; decide))
        obtain ⟨r1, r2⟩ := one_res hkL (blks_64 (ps := ps) (i := i)) ⟨#[97, 110, 121, 116, 104, 105, 110, 103]⟩
        rw [r1, r2, hsl] at hrs
        have hcell : ∀ W, Below V.heap.size V W → (∃ gA, A = some ⟨gA, 0, none⟩ ∧ W.cell? ⟨gA, k, none⟩ = some (.string (blks ps i)[k])) ∧ W.cell? ⟨g2, k, none⟩ = some (.string ⟨#[97, 110, 121, 116, 104, 105, 110, 103]⟩) := fun W hb => by
          refine ⟨?_, ?_⟩
          · obtain ⟨gA, e, _, _, h⟩ := (hVH.out.1.hv.below hb).at_ hkL
            exact ⟨gA, e, h⟩
          · obtain ⟨g', e, _, _, h⟩ := (hVH.out.2.below hb).at_ (k := k) (by rw [List.length_set]; exact hkL)
            injection e with e; injection e with e
            rw [List.getElem_set_self] at h
            rw [e]; exact h
        have hcH := Lib.hid hcell
        generalize (blks ps i)[k] = bk at hrs hcH
        generalize parS (blks ps i) = pv at hp1 hrs h64
        clear r1 r2 h64 hcell hpar hsl hcm hL
        go_wp2_with (refine wpList_loadS rfl _ rfl hVH.out.1.row rfl ?_)
        (with_reducible refine (hp1.out _).mono ?_)
        rintro e v1 ⟨rfl, hb1⟩
        go_wp2_with fail
        (with_reducible refine (hrs.out _ (hVH.out.2.strs.below hb1)).mono ?_)
        rintro e v2 ⟨rfl, hb2⟩
        have hB3 := hb1.trans (hb2.mono hb1.size)
        obtain ⟨⟨gA, rfl, z0⟩, z1⟩ := hcH.out _ hB3
        have hF := Lib.hid (hVH.out.1.bw.trans (hB3.mono hVH.out.1.bw.size))
        clear hb1 hb2 hB3 hcH hVH hp1 hrs
        go_wp2
        go_ret
        exact ⟨rfl, hF.out⟩
      · have g1 : decide ((i : Int) < (ps.length : Int)) = false := decide_eq_false (by omega)
        clear hlt
        by_cases hi0 : i = 0
        case pos =>
          subst hi0
          have hWH := Lib.hid hW
          have hp1 := Lib.hid (fun W => hpar.out W (blks ps 0) (by omega) blks_64)
          have h64 := size_parS (blks_64 (ps := ps) (i := 0))
          have hrs := Lib.hid (fun W => (show Calls Try.prog 21 #[.string (parS (blks ps 0)), .slice none 0 0, .int .i64 x] W fun e w' => e = .returned (.tuple #[.string (resV (parS (blks ps 0)) [] x), .int .i64 (resE (parS (blks ps 0)) [] x)]) ∧ Below W.heap.size W w' from restore_any (parS (blks ps 0)) none 0 [] x W (.inl rfl) (Nat.le_refl _) (by decide) (by simp) (by simp) (by rw [h64]; decide)))
          have hrb : resE (parS (blks ps 0)) [] x = 1 := (res_bad (by unfold resBad; rw [(elB_out (by rintro ⟨h1, h2⟩; simp at h2; omega)).2]; rfl)).2
          rw [hrb] at hrs
          generalize resV (parS (blks ps 0)) [] x = rv at hrs
          generalize parS (blks ps 0) = pv at hp1 hrs h64
          clear hrb h64 hpar hW hlb
          go_wp2_with (refine wpList_loadS rfl _ rfl hWH.out.row rfl ?_)
          (with_reducible refine (hp1.out _).mono ?_)
          rintro e v1 ⟨rfl, hb1⟩
          go_wp2_with fail
          (with_reducible refine (hrs.out _).mono ?_)
          rintro e v2 ⟨rfl, hb2⟩
          have hF := Lib.hid (hWH.out.bw.trans ((hb1.trans (hb2.mono hb1.size)).mono hWH.out.bw.size))
          clear hb1 hb2 hWH
          go_wp2
          go_ret
          exact ⟨rfl, hF.out⟩
        case neg =>
          have e0 : ¬ (i : Int) = 0 := by omega
          have e1 : ¬ (i : Int) = -1 := by omega
          obtain ⟨u, k, m1, m2, m3, m4, m5, hk⟩ := wrap_mod x i (by omega) hi15
          have hWH := Lib.hid hW
          have hkL : k < (blks ps i).length := by omega
          obtain ⟨A', cap', W', hrun, hR1, hR2, hB'⟩ := row_copy hW.hv (by omega)
          rw [hlb] at hrun
          have hL := hR1.caps
          obtain ⟨g2, rfl, hg2, hg2l, y0, y1, hR3⟩ := hR1.store hkL ⟨#[97, 110, 121, 116, 104, 105, 110, 103]⟩
          have hk1 : (k : Int) < (i : Int) := by omega
          have hrunH := Lib.hid hrun
          have hB2 : Below wr.heap.size wr (W'.setCell ⟨g2, k, none⟩ (.string ⟨#[97, 110, 121, 116, 104, 105, 110, 103]⟩)) := hB'.setCell hg2 _
          have hW2 := Lib.hid (hW.below hB2)
          have hR3H := Lib.hid hR3
          have hb0 : ¬ i = 0 := hi0
          clear hrun hR1 hR2 hR3 hW hB2 hB'
          generalize (blks ps i)[k] = bk0 at y0
          go_upto_region 16 with (at_builtin; refine append_run_wp rfl _ _ _ rfl rfl rfl hrunH.out ?_)
          refine fresh_world (fun W => OneW w g A cap (blks ps i) W ∧ Row W wr.heap.size (some ⟨g2, 0, none⟩) cap' ((blks ps i).set k ⟨#[97, 110, 121, 116, 104, 105, 110, 103]⟩)) ⟨hW2.out, hR3H.out⟩ ?_
          clear hrunH hR3H hW2 y0 y1 hg2l hg2
          rintro V hV
          have hVH := Lib.hid hV
          clear hV
          have hp1 := Lib.hid (fun W => hpar.out W (blks ps i) (by omega) blks_64)
          have h64 := size_parS (blks_64 (ps := ps) (i := i))
          have hsl : ((blks ps i).set k ⟨#[97, 110, 121, 116, 104, 105, 110, 103]⟩).length = i := by rw [List.length_set, hlb]
          have hcm : cap' ≤ 9223372036854775807 := by have := hL.2; unfold maxLen at this; omega
          have hrs := Lib.hid (fun W (h : StrsIn W (some ⟨g2, 0, none⟩) ((blks ps i).set k ⟨#[97, 110, 121, 116, 104, 105, 110, 103]⟩)) => restore_any (parS (blks ps i)) (some ⟨g2, 0, none⟩) cap' ((blks ps i).set k ⟨#[97, 110, 121, 116, 104, 105, 110, 103]⟩) (k : Int) W h (by rw [hsl, ← hlb]; exact hL.1) hcm (by rw [hsl]; omega) (fun q hq => by
            rcases List.mem_or_eq_of_mem_set hq with h | h
            · rw [blks_64 q h]; decide
            · rw [h]; decide) (by rw [h64]; decide))
          obtain ⟨r1, r2⟩ := one_res hkL (blks_64 (ps := ps) (i := i)) ⟨#[97, 110, 121, 116, 104, 105, 110, 103]⟩
          rw [r1, r2, hsl] at hrs
          have hcell : ∀ W, Below V.heap.size V W → (∃ gA, A = some ⟨gA, 0, none⟩ ∧ W.cell? ⟨gA, k, none⟩ = some (.string (blks ps i)[k])) ∧ W.cell? ⟨g2, k, none⟩ = some (.string ⟨#[97, 110, 121, 116, 104, 105, 110, 103]⟩) := fun W hb => by
            refine ⟨?_, ?_⟩
            · obtain ⟨gA, e, _, _, h⟩ := (hVH.out.1.hv.below hb).at_ hkL
              exact ⟨gA, e, h⟩
            · obtain ⟨g', e, _, _, h⟩ := (hVH.out.2.below hb).at_ (k := k) (by rw [List.length_set]; exact hkL)
              injection e with e; injection e with e
              rw [List.getElem_set_self] at h
              rw [e]; exact h
          have hcH := Lib.hid hcell
          generalize (blks ps i)[k] = bk at hrs hcH
          generalize parS (blks ps i) = pv at hp1 hrs h64
          clear r1 r2 h64 hcell hpar hsl hcm hL
          go_wp2_with (refine wpList_loadS rfl _ rfl hVH.out.1.row rfl ?_)
          (with_reducible refine (hp1.out _).mono ?_)
          rintro e v1 ⟨rfl, hb1⟩
          go_wp2_with fail
          (with_reducible refine (hrs.out _ (hVH.out.2.strs.below hb1)).mono ?_)
          rintro e v2 ⟨rfl, hb2⟩
          have hB3 := hb1.trans (hb2.mono hb1.size)
          obtain ⟨⟨gA, rfl, z0⟩, z1⟩ := hcH.out _ hB3
          have hF := Lib.hid (hVH.out.1.bw.trans (hB3.mono hVH.out.1.bw.size))
          clear hb1 hb2 hB3 hcH hVH hp1 hrs
          go_wp2
          go_ret
          exact ⟨rfl, hF.out⟩

end Go.Proofs.Ytonoanjakfaloaa
