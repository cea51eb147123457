/- StripeRows' walk, where there is such a row. -/
import Derived.Test.YtonoanjakfaloaaSpRwM
import Derived.Test.YtonoanjakfaloaaSpRow
namespace Go.Proofs.Ytonoanjakfaloaa
open Go.RowKit Sp Xor

theorem fresh_cut {Q : Exit → Act → World → Prop} {K : Exit} {a : Act} {W : World} (R : World → Prop) (hR : R W) (h : ∀ W2, R W2 → Q K a W2) : Q K a W := h W hR
set_option maxRecDepth 100000 in
set_option maxHeartbeats 4000000 in
theorem rows_some (N : Nat) (A0 : Option Addr) (cap0 : Nat) (ps : List ByteArray) (B0 : Option Addr) (capB : Nat) (bs : List Bool) (w : World) (hn : 2 ≤ N) (hn2 : N ≤ 15) (hS : StrsIn w A0 ps) (hz : ∀ q ∈ ps, q.size ≤ 140737488351232) (hbs : BoolsIn w B0 bs) :
    Calls Try.prog 3 #[.int .i64 (N : Int), .slice A0 ps.length cap0, .slice B0 bs.length capB] w fun e w' => e = .returned (.bool true) ∧ Below w.heap.size w w' := by
  have cs := Lib.hid speaks11
  have cn := Lib.hid (fun W => newS_any (N : Int) W (by omega))
  have k1 : decide ((N : Int) < 2) = false := decide_eq_false (by omega)
  have k2 : decide (15 < (N : Int)) = false := decide_eq_false (by omega)
  have hSH := Lib.hid (fun W (h : Below w.heap.size w W) => hS.below h)
  have hbH := Lib.hid (fun W (h : Below w.heap.size w W) => hbs.below h)
  have hzH := Lib.hid hz
  clear hS hz hbs
  go_enter Try.func3, Try.ntmps3
  go_wp2_with fail
  (with_reducible refine (cs.out _).mono ?_)
  rintro e w1 ⟨rfl, hb1⟩
  go_wp2_with fail
  (with_reducible refine (cn.out _).mono ?_)
  rintro e w2 ⟨rfl, hb2⟩
  have hB2 := hb1.trans (hb2.mono hb1.size)
  clear cs cn hb1 hb2
  go_upto_region 4 with (refine wpList_storeS (L' := []) (n' := (N : Int)) rfl _ _ rfl (SrAt.zero w2) rfl rfl (by decide) ?_; intro w3 hS3 hg3)
  have hP := SpW.fresh hB2 hS3 hg3
  refine fresh_world (fun W => RwW w w2.heap.size N none 0 [] W) ⟨hP.1, Row.nil _ _, hP.2.1, hP.2.2, fun g' e => by cases e⟩ ?_
  clear hP hS3 hg3 w3 hB2
  generalize w2.heap.size = g
  rintro W hW
  have hWH := Lib.hid hW
  clear hW
  go_wp2_with fail
  go_loopw [9, 10] (fun s9 s10 wr => ∃ (i : Nat) (L : List ByteArray) (A : Option Addr) (cap : Nat), i ≤ ps.length ∧ i ≤ 30 ∧ L.length ≤ N ∧ (∀ q ∈ L, q.size = 64) ∧ s10 = .int .i64 (i : Int) ∧ s9 = .slice A L.length cap ∧ RwW w g N A cap L wr) (fun _ s _ => ps.length - (intOf s).toNat)
  case atStart => exact ⟨0, [], none, 0, Nat.zero_le _, by omega, Nat.zero_le _, by simp, rfl, rfl, hWH.out⟩
  case round =>
    clear hWH
    obtain ⟨i, L, A, cap, hi, hi30, hLN, h64, rfl, rfl, hW⟩ := hrel
    by_cases hlt : i < ps.length ∧ i < 30
    case neg =>
      have hF := Lib.hid hW.bw
      clear hW
      by_cases hl1 : i < ps.length
      · have g1 : decide ((i : Int) < (ps.length : Int)) = true := decide_eq_true (by omega)
        have g2 : decide ((i : Int) < 30) = false := decide_eq_false (by omega)
        have hl2 : ¬ i < 30 := by omega
        clear hlt
        go_wp2
        go_ret
        exact ⟨rfl, hF.out⟩
      · have g1 : decide ((i : Int) < (ps.length : Int)) = false := decide_eq_false (by omega)
        clear hlt
        go_wp2
        go_ret
        exact ⟨rfl, hF.out⟩
    case pos =>
      obtain ⟨hl1, hl2⟩ := hlt
      have g1 : decide ((i : Int) < (ps.length : Int)) = true := decide_eq_true (by omega)
      have g2 : decide ((i : Int) < 30) = true := decide_eq_true (by omega)
      have g3 : (i : Int) < (ps.length : Int) := by omega
      obtain ⟨b, off, rfl, hbl, -⟩ := (hSH.out _ hW.bw).at_ hl1
      have hcell2 : ∀ W, Below w.heap.size w W → W.cell? ⟨b, off + i, none⟩ = some (.string ps[i]) := fun W hb => by
        obtain ⟨b', off', e, _, hc⟩ := (hSH.out _ hb).at_ hl1
        injection e with e; injection e with e1 e2
        rw [e1, e2]; exact hc
      have hcH := Lib.hid hcell2
      have hzi := hzH.out ps[i] (List.getElem_mem hl1)
      obtain ⟨vb, hvb⟩ : ∃ vb, bs.getD i false = vb := ⟨_, rfl⟩
      have hbk := Lib.hid (fun W v => block_any11 ps[i] v W hzi)
      have hbl0 := blkS_le2 (v := vb) hzi
      generalize ps[i] = q at hbk hcH hbl0
      have hWH := Lib.hid hW
      have h64H := Lib.hid h64
      have hvbH := Lib.hid hvb
      clear hcell2 hzi hW h64 hvb
      go_upto_region 10 with fail
      go_cut [11] from 52 to 66 (fun s11 wx => s11 = .string (blkS q vb) ∧ Below wr.heap.size wr wx)
      case first =>
        have hW0 : Below wr.heap.size wr wr.drew := (Below.refl _ _).drew
        by_cases hbl : i < bs.length
        · have gb : decide ((i : Int) < (bs.length : Int)) = true := decide_eq_true (by omega)
          obtain ⟨bb, ob, rfl, -, -⟩ := (hbH.out _ hWH.out.bw).at_ hbl
          have hbc : ∀ W, Below w.heap.size w W → W.cell? ⟨bb, ob + i, none⟩ = some (.bool vb) := fun W hb => by
            obtain ⟨b', off', e, _, hc⟩ := (hbH.out _ hb).at_ hbl
            injection e with e; injection e with e1 e2
            rw [e1, e2, hc, ← hvbH.out, List.getD_eq_getElem?_getD, List.getElem?_eq_getElem hbl]; rfl
          have hbcH := Lib.hid hbc
          have gb2 : (i : Int) < (bs.length : Int) := by omega
          clear hbc
          refine region_anyC (fun _ => true) (fun W => Below wr.heap.size wr W) (by kernel_rfl) ?_
          refine anyL_take 0 (v := ?_) rfl (by kernel_rfl) (fun _ _ _ h => h) (Or.inl ⟨by rfl, ?_⟩) hW0 ?_
          rotate_left
          focus (intro W hW; go_simp; try with_reducible rfl)
          simp only [Act.put, List.setIfInBounds_toArray, List.set_cons_zero, List.set_cons_succ]
          refine anyL_take 1 (v := ?_) rfl (by kernel_rfl) (fun _ _ _ h => h) (Or.inl ⟨by rfl, ?_⟩) hW0 ?_
          rotate_left
          focus (intro W hW; go_simp; try with_reducible rfl)
          simp only [Act.put, List.setIfInBounds_toArray, List.set_cons_zero, List.set_cons_succ]
          refine anyL_take 2 (v := ?_) rfl (by kernel_rfl) (fun _ _ _ h => h) (Or.inl ⟨by rfl, ?_⟩) hW0 ?_
          rotate_left
          focus (intro W hW; go_simp; try with_reducible rfl)
          simp only [Act.put, List.setIfInBounds_toArray, List.set_cons_zero, List.set_cons_succ]
          refine anyL_take 3 (v := ?_) rfl (by kernel_rfl) (fun _ _ _ h => h) (Or.inl ⟨by rfl, ?_⟩) hW0 ?_
          rotate_left
          focus (intro W hW; have y := hcH.out _ (hWH.out.bw.trans (hW.mono hWH.out.bw.size)); go_simp; try with_reducible rfl)
          simp only [Act.put, List.setIfInBounds_toArray, List.set_cons_zero, List.set_cons_succ]
          refine anyL_take 4 (v := ?_) rfl (by kernel_rfl) (fun _ _ _ h => h) (Or.inl ⟨by rfl, ?_⟩) hW0 ?_
          rotate_left
          focus (intro W hW; go_simp; try with_reducible rfl)
          simp only [Act.put, List.setIfInBounds_toArray, List.set_cons_zero, List.set_cons_succ]
          refine anyL_take 5 (v := ?_) rfl (by kernel_rfl) (fun _ _ _ h => h) (Or.inl ⟨by rfl, ?_⟩) hW0 ?_
          rotate_left
          focus (intro W hW; go_simp; try with_reducible rfl)
          simp only [Act.put, List.setIfInBounds_toArray, List.set_cons_zero, List.set_cons_succ]
          refine anyL_take 6 (v := ?_) rfl (by kernel_rfl) (fun _ _ _ h => h) (Or.inl ⟨by rfl, ?_⟩) hW0 ?_
          rotate_left
          focus (intro W hW; go_simp; try with_reducible rfl)
          simp only [Act.put, List.setIfInBounds_toArray, List.set_cons_zero, List.set_cons_succ]
          refine anyL_take 7 (v := ?_) rfl (by kernel_rfl) (fun _ _ _ h => h) (Or.inl ⟨by rfl, ?_⟩) hW0 ?_
          rotate_left
          focus (intro W hW; go_simp; try with_reducible rfl)
          simp only [Act.put, List.setIfInBounds_toArray, List.set_cons_zero, List.set_cons_succ]
          refine anyL_take 8 (v := ?_) rfl (by kernel_rfl) (fun _ _ _ h => h) (Or.inl ⟨by rfl, ?_⟩) hW0 ?_
          rotate_left
          focus (intro W hW; go_simp; try with_reducible rfl)
          simp only [Act.put, List.setIfInBounds_toArray, List.set_cons_zero, List.set_cons_succ]
          refine anyL_take 9 (v := ?_) rfl (by kernel_rfl) (fun _ _ _ h => h) (Or.inl ⟨by rfl, ?_⟩) hW0 ?_
          rotate_left
          focus (intro W hW; go_simp; try with_reducible rfl)
          simp only [Act.put, List.setIfInBounds_toArray, List.set_cons_zero, List.set_cons_succ]
          refine anyL_take 10 (v := ?_) rfl (by kernel_rfl) (fun _ _ _ h => h) (Or.inl ⟨by rfl, ?_⟩) hW0 ?_
          rotate_left
          focus (intro W hW; go_simp; try with_reducible rfl)
          simp only [Act.put, List.setIfInBounds_toArray, List.set_cons_zero, List.set_cons_succ]
          refine anyL_take 11 (v := ?_) rfl (by kernel_rfl) (fun _ _ _ h => h) (Or.inl ⟨by rfl, ?_⟩) hW0 ?_
          rotate_left
          focus (intro W hW; go_simp; try with_reducible rfl)
          simp only [Act.put, List.setIfInBounds_toArray, List.set_cons_zero, List.set_cons_succ]
          refine anyL_take 12 (v := ?_) rfl (by kernel_rfl) (fun _ _ _ h => h) (Or.inl ⟨by rfl, ?_⟩) hW0 ?_
          rotate_left
          focus (intro W hW; have y := hbcH.out _ (hWH.out.bw.trans (hW.mono hWH.out.bw.size)); go_simp; try with_reducible rfl)
          simp only [Act.put, List.setIfInBounds_toArray, List.set_cons_zero, List.set_cons_succ]
          refine anyL_take 13 (v := ?_) rfl (by kernel_rfl) (fun _ _ _ h => h) (Or.inl ⟨by rfl, ?_⟩) hW0 ?_
          rotate_left
          focus (intro W hW; go_simp; try with_reducible rfl)
          simp only [Act.put, List.setIfInBounds_toArray, List.set_cons_zero, List.set_cons_succ]
          refine fresh_anyC (fun W => Below wr.heap.size wr W) hW0 ?_
          clear hW0
          rintro U0 hW0
          refine anyL_one 14 rfl (by kernel_rfl) (fun K hK => ?_)
          go_simp
          refine (hbk.out _ vb).mono ?_
          rintro e' v1 ⟨rfl, hp⟩
          have hn' : Below wr.heap.size wr v1 := hW0.trans (hp.mono hW0.size)
          refine hK.out _ _ (fun _ => hn') ?_
          clear hK K
          try simp only [Act.put, List.setIfInBounds_toArray, List.set_cons_zero, List.set_cons_succ]
          refine anyL_one 15 rfl (by kernel_rfl) (fun K hK => ?_)
          go_simp
          refine hK.out _ _ (fun _ => hn') ?_
          clear hK K
          try simp only [Act.put, List.setIfInBounds_toArray, List.set_cons_zero, List.set_cons_succ]
          refine anyC_done (by kernel_rfl) ?_ _
          go_wp2_with fail
          go_meet
          exact ⟨rfl, hn'⟩
        · have gb : decide ((i : Int) < (bs.length : Int)) = false := decide_eq_false (by omega)
          have hv0 : vb = false := by rw [← hvbH.out, List.getD_eq_getElem?_getD, List.getElem?_eq_none (by omega)]; rfl
          subst hv0
          refine region_anyC (fun _ => true) (fun W => Below wr.heap.size wr W) (by kernel_rfl) ?_
          refine anyL_take 0 (v := ?_) rfl (by kernel_rfl) (fun _ _ _ h => h) (Or.inl ⟨by rfl, ?_⟩) hW0 ?_
          rotate_left
          focus (intro W hW; go_simp; try with_reducible rfl)
          simp only [Act.put, List.setIfInBounds_toArray, List.set_cons_zero, List.set_cons_succ]
          refine anyL_take 1 (v := ?_) rfl (by kernel_rfl) (fun _ _ _ h => h) (Or.inl ⟨by rfl, ?_⟩) hW0 ?_
          rotate_left
          focus (intro W hW; go_simp; try with_reducible rfl)
          simp only [Act.put, List.setIfInBounds_toArray, List.set_cons_zero, List.set_cons_succ]
          refine anyL_take 2 (v := ?_) rfl (by kernel_rfl) (fun _ _ _ h => h) (Or.inl ⟨by rfl, ?_⟩) hW0 ?_
          rotate_left
          focus (intro W hW; go_simp; try with_reducible rfl)
          simp only [Act.put, List.setIfInBounds_toArray, List.set_cons_zero, List.set_cons_succ]
          refine anyL_take 3 (v := ?_) rfl (by kernel_rfl) (fun _ _ _ h => h) (Or.inl ⟨by rfl, ?_⟩) hW0 ?_
          rotate_left
          focus (intro W hW; have y := hcH.out _ (hWH.out.bw.trans (hW.mono hWH.out.bw.size)); go_simp; try with_reducible rfl)
          simp only [Act.put, List.setIfInBounds_toArray, List.set_cons_zero, List.set_cons_succ]
          refine anyL_take 4 (v := ?_) rfl (by kernel_rfl) (fun _ _ _ h => h) (Or.inl ⟨by rfl, ?_⟩) hW0 ?_
          rotate_left
          focus (intro W hW; go_simp; try with_reducible rfl)
          simp only [Act.put, List.setIfInBounds_toArray, List.set_cons_zero, List.set_cons_succ]
          refine anyL_take 5 (v := ?_) rfl (by kernel_rfl) (fun _ _ _ h => h) (Or.inl ⟨by rfl, ?_⟩) hW0 ?_
          rotate_left
          focus (intro W hW; go_simp; try with_reducible rfl)
          simp only [Act.put, List.setIfInBounds_toArray, List.set_cons_zero, List.set_cons_succ]
          refine anyL_take 6 (v := ?_) rfl (by kernel_rfl) (fun _ _ _ h => h) (Or.inl ⟨by rfl, ?_⟩) hW0 ?_
          rotate_left
          focus (intro W hW; go_simp; try with_reducible rfl)
          simp only [Act.put, List.setIfInBounds_toArray, List.set_cons_zero, List.set_cons_succ]
          refine anyL_take 7 (v := ?_) rfl (by kernel_rfl) (fun _ _ _ h => h) (Or.inl ⟨by rfl, ?_⟩) hW0 ?_
          rotate_left
          focus (intro W hW; go_simp; try with_reducible rfl)
          simp only [Act.put, List.setIfInBounds_toArray, List.set_cons_zero, List.set_cons_succ]
          refine anyL_take 8 (v := ?_) rfl (by kernel_rfl) (fun _ _ _ h => h) (Or.inl ⟨by rfl, ?_⟩) hW0 ?_
          rotate_left
          focus (intro W hW; go_simp; try with_reducible rfl)
          simp only [Act.put, List.setIfInBounds_toArray, List.set_cons_zero, List.set_cons_succ]
          refine anyL_take 9 (v := undef) rfl (by kernel_rfl) (fun _ _ _ h => h) (Or.inr ⟨by rfl, rfl⟩) hW0 ?_
          simp only [Act.put, List.setIfInBounds_toArray, List.set_cons_zero, List.set_cons_succ]
          refine anyL_take 10 (v := undef) rfl (by kernel_rfl) (fun _ _ _ h => h) (Or.inr ⟨by rfl, rfl⟩) hW0 ?_
          simp only [Act.put, List.setIfInBounds_toArray, List.set_cons_zero, List.set_cons_succ]
          refine anyL_take 11 (v := undef) rfl (by kernel_rfl) (fun _ _ _ h => h) (Or.inr ⟨by rfl, rfl⟩) hW0 ?_
          simp only [Act.put, List.setIfInBounds_toArray, List.set_cons_zero, List.set_cons_succ]
          refine anyL_take 12 (v := undef) rfl (by kernel_rfl) (fun _ _ _ h => h) (Or.inr ⟨by rfl, rfl⟩) hW0 ?_
          simp only [Act.put, List.setIfInBounds_toArray, List.set_cons_zero, List.set_cons_succ]
          refine anyL_take 13 (v := ?_) rfl (by kernel_rfl) (fun _ _ _ h => h) (Or.inl ⟨by rfl, ?_⟩) hW0 ?_
          rotate_left
          focus (intro W hW; go_simp; try with_reducible rfl)
          simp only [Act.put, List.setIfInBounds_toArray, List.set_cons_zero, List.set_cons_succ]
          refine fresh_anyC (fun W => Below wr.heap.size wr W) hW0 ?_
          clear hW0
          rintro U0 hW0
          refine anyL_one 14 rfl (by kernel_rfl) (fun K hK => ?_)
          go_simp
          refine (hbk.out _ false).mono ?_
          rintro e' v1 ⟨rfl, hp⟩
          have hn' : Below wr.heap.size wr v1 := hW0.trans (hp.mono hW0.size)
          refine hK.out _ _ (fun _ => hn') ?_
          clear hK K
          try simp only [Act.put, List.setIfInBounds_toArray, List.set_cons_zero, List.set_cons_succ]
          refine anyL_one 15 rfl (by kernel_rfl) (fun K hK => ?_)
          go_simp
          refine hK.out _ _ (fun _ => hn') ?_
          clear hK K
          try simp only [Act.put, List.setIfInBounds_toArray, List.set_cons_zero, List.set_cons_succ]
          refine anyC_done (by kernel_rfl) ?_ _
          go_wp2_with fail
          go_meet
          exact ⟨rfl, hn'⟩
      case rest =>
        obtain ⟨rfl, hb0⟩ := hcut
        have hW1 := Lib.hid (hWH.out.below hb0)
        clear hb0 hWH hbk hcH hvbH
        generalize blkS q vb = s at hbl0 ⊢
        have hsz := hbl0
        unfold maxLen at hsz
        obtain ⟨LR, nR, f, hadd, hLR, hways⟩ := add_ways L N s hLN hn2 hbl0
        have hL15 : L.length ≤ 15 := by omega
        have hL15H := Lib.hid hL15
        have hLRH := Lib.hid hLR
        have hwH := Lib.hid hways
        clear hL15 hLR hways hbl0
        go_upto_region 11 with fail
        refine fresh_world (RwW w g N A cap L) hW1.out ?_
        clear hW1
        rintro V1 hV
        have hVH := Lib.hid hV
        clear hV
        go_upto_region 12 with (first | (refine wpList_loadS rfl _ rfl hVH.out.row rfl ?_) | (refine wpList_storeS (L' := L) (n' := (N : Int)) rfl _ _ rfl (SrAt.zero V1) rfl rfl hL15H.out ?_; intro w5 hS5 hg5))
        have hP : RwW w g N A cap L w5 ∧ SrAt w5 V1.heap.size L (N : Int) := ⟨hVH.out.below (newBox hg5), hS5⟩
        refine fresh_world (fun W => RwW w g N A cap L W ∧ SrAt W V1.heap.size L (N : Int)) hP ?_
        clear hP hS5 hg5 hVH
        generalize V1.heap.size = G1
        rintro V2 hV
        have hVH := Lib.hid hV
        clear hV w5
        go_wp2_with (refine wpList_loadS rfl _ rfl hVH.out.1.row rfl ?_)
        (with_reducible refine (hadd.out _).mono ?_)
        rintro e v1 ⟨rfl, hb1⟩
        have hV2 := Lib.hid (⟨hVH.out.1.below hb1, hVH.out.2.below hb1⟩ : RwW w g N A cap L v1 ∧ SrAt v1 G1 L (N : Int))
        clear hb1 hVH hadd
        go_upto_region 16 with (refine wpList_storeS (L' := LR) (n' := nR) rfl _ _ rfl (SrAt.zero v1) rfl rfl hLRH.out ?_; intro w6 hS6 hg6)
        have hP : RwX w g G1 v1.heap.size N A cap L LR nR w6 := by
          have hb := newBox hg6
          have hgl := hV2.out.1.row.lt
          refine ⟨hV2.out.1.below hb, hV2.out.2.below hb, hS6, by omega, fun g' e => ?_⟩
          rcases hV2.out.1.hv.form with ⟨e2, _⟩ | ⟨g2, e2, _, hlt⟩
          · rw [e2] at e; cases e
          · rw [e2] at e; injection e with e; injection e with e; omega
        refine fresh_world (RwX w g G1 v1.heap.size N A cap L LR nR) hP ?_
        clear hP hS6 hg6 hV2
        generalize v1.heap.size = G2
        rintro V3 hV
        have hVH := Lib.hid hV
        clear hV
        have cc := Lib.hid (fun W L (n : Int) (h : L.length ≤ 15) => count_anyS L n W h)
        have c0 := Lib.hid (fun W => (show Calls Try.prog 14 #[rowV [] 0] W fun e w' => e = .returned (.int .i64 0) ∧ Below W.heap.size W w' from count_anyS [] 0 W (by decide)))
        rcases hwH.out with ⟨hs6, rfl, rfl, rfl⟩ | ⟨hs6, hLN2, rfl, rfl, rfl⟩ | ⟨hs6, hLN2, rfl, rfl, rfl⟩
        · have e6 : ¬ (s.size : Int) = 64 := by omega
          clear hs6 hwH
          go_wp2_with (refine wpList_loadS rfl _ rfl hVH.out.r2 rfl ?_)
          (with_reducible refine (c0.out _).mono ?_)
          rintro e v2 ⟨rfl, hb2⟩
          have hT := Lib.hid ((hVH.out.below hb2).a)
          clear hb2 hVH c0
          obtain ⟨M, hM⟩ : ∃ M, M = L := ⟨_, rfl⟩
          rw [← hM] at hT
          have hM15 : M.length ≤ 15 := by rw [hM]; omega
          have hM64 : ∀ q ∈ M, q.size = 64 := by rw [hM]; exact h64H.out
          have hMN : M.length ≤ N := by rw [hM]; exact hLN
          rw [← hM]
          clear hM
          have cf := Lib.hid (fun W => full_anyS M (N : Int) W hM15)
          have cp := Lib.hid (fun W => parity_anyS M (N : Int) W hM15 hM64)
          have crp := Lib.hid (fun W (h : StrsIn W A M) => rparity_any A cap M W (by omega) hM64 h)
          have ck := Lib.hid (fun W (k : Int) => block_anyS M (N : Int) k W hM15)
          have cM := Lib.hid (fun W => cc.out W M (N : Int) hM15)
          obtain ⟨fb, hfb⟩ : ∃ fb, decide ((M.length : Int) = (N : Int)) = fb := ⟨_, rfl⟩
          rw [hfb] at cf
          have e8 : ((M.length : Int) == (N : Int)) = fb := by rw [← hfb, Bool.eq_iff_iff]; simp
          have e9 : (M.length == N) = fb := by rw [← hfb, Bool.eq_iff_iff]; simp; omega
          have hM15H := Lib.hid hM15
          have hM64H := Lib.hid hM64
          generalize parS M = P at cp crp
          clear hfb cc hM15 hM64
          go_wp2_with (refine wpList_loadS rfl _ rfl hT.out.row rfl ?_)
          (with_reducible refine (cM.out _).mono ?_)
          rintro e v3 ⟨rfl, hb3⟩
          have hT3 := Lib.hid (hT.out.below hb3)
          clear hb3 hT
          go_wp2_with (refine wpList_loadS rfl _ rfl hT3.out.row rfl ?_)
          (with_reducible refine (cf.out _).mono ?_)
          rintro e v4 ⟨rfl, hb4⟩
          have hT4 := Lib.hid (hT3.out.below hb4)
          clear hb4 hT3
          cases fb
          · go_wp2_with (refine wpList_loadS rfl _ rfl hT4.out.row rfl ?_)
            (with_reducible refine (cp.out _).mono ?_)
            rintro e v5 ⟨rfl, hb5⟩
            have hT5 := Lib.hid (hT4.out.below hb5)
            clear hb5 hT4
            go_wp2_with fail
            (with_reducible refine (crp.out _ hT5.out.hv.strs).mono ?_)
            rintro e v6 ⟨rfl, hb6⟩
            have hT6 := Lib.hid (hT5.out.below hb6)
            clear hb6 hT5 cp crp cf
            go_wp2_with fail
            go_loopw [15] (fun s15 wr => ∃ k : Nat, k ≤ M.length + 2 ∧ s15 = .int .i64 ((k : Int) - 1) ∧ RwW w g N A cap M wr) (fun s _ => M.length + 2 - (intOf s + 1).toNat)
            case atStart => exact ⟨0, by omega, by first | rfl | simp, hT6.out⟩
            case round =>
              clear hT6
              obtain ⟨k, hk, rfl, hR⟩ := hrel
              have hRH := Lib.hid hR
              by_cases hlt : k ≤ M.length + 1
              case neg =>
                have l1 : ¬ ((k : Int) - 1 ≤ (M.length : Int)) := by omega
                have hw1 : IntKind.i64.wrap ((i : Int) + 1) = (i : Int) + 1 := IntWalk.i64_in _ (by omega)
                clear hR hlt
                go_wp2_with fail
                go_roundw
                case rel => exact ⟨i + 1, M, A, cap, by omega, by omega, hMN, hM64H.out, by go_num, by first | rfl | simp, hRH.out⟩
                case measure => simp [intOf]; omega
              case pos =>
                have l1 : (k : Int) - 1 ≤ (M.length : Int) := by omega
                have hM15' := hM15H.out
                have hw2 : IntKind.i64.wrap ((k : Int) - 1 + 1) = (k : Int) := by rw [show (k : Int) - 1 + 1 = (k : Int) by omega]; exact IntWalk.i64_in _ (by omega)
                have ckk := Lib.hid (fun W => ck.out W ((k : Int) - 1))
                rcases idx_facts M k hlt with ⟨rfl, e1, e2⟩ | ⟨j, hj, rfl, ej, e1, e2⟩ | ⟨rfl, e1, e2⟩
                · rw [e1, e2] at ckk
                  rw [show (((0 : Nat) : Int) - 1) = -1 from rfl] at ckk
                  clear e1 e2 hR
                  go_wp2_with (refine wpList_loadS rfl _ rfl hRH.out.row rfl ?_)
                  (with_reducible refine (ckk.out _).mono ?_)
                  rintro e v7 ⟨rfl, hb7⟩
                  have hF := Lib.hid (hRH.out.below hb7)
                  clear hb7 hRH
                  go_wp2_with fail
                  go_roundw
                  case rel => exact ⟨1, by omega, by first | rfl | simp, hF.out⟩
                  case measure => simp [intOf]
                · rw [e1, e2] at ckk
                  have hcell : ∀ W, Below wr.heap.size wr W → ∃ gA, A = some ⟨gA, 0, none⟩ ∧ W.cell? ⟨gA, j, none⟩ = some (.string M[j]) := fun W hb => by
                    obtain ⟨gA, e, _, _, h⟩ := (hRH.out.hv.below hb).at_ hj
                    exact ⟨gA, e, h⟩
                  have hcH := Lib.hid hcell
                  rw [ej] at ckk l1 hw2
                  generalize M[j] = bj at ckk hcH
                  have j1 : decide ((j : Int) < (M.length : Int)) = true := decide_eq_true (by omega)
                  have j2 : (j : Int) < (M.length : Int) := by omega
                  have j3 : decide ((0 : Int) ≤ (j : Int)) = true := decide_eq_true (by omega)
                  have hjs : (((j + 1 : Nat) : Int) - 1) = (j : Int) := ej
                  clear e1 e2 hR hcell
                  rw [hjs]
                  go_wp2_with (refine wpList_loadS rfl _ rfl hRH.out.row rfl ?_)
                  (with_reducible refine (ckk.out _).mono ?_)
                  rintro e v7 ⟨rfl, hb7⟩
                  obtain ⟨gA, rfl, z0⟩ := hcH.out _ hb7
                  have hF := Lib.hid (hRH.out.below hb7)
                  clear hb7 hRH hcH
                  go_wp2_with fail
                  go_roundw
                  case rel => exact ⟨j + 2, by omega, by first | rfl | (simp; done) | (refine congrArg _ ?_; omega), hF.out⟩
                  case measure => simp [intOf]; omega
                · rw [e1, e2] at ckk
                  have j1 : decide (((M.length + 1 : Nat) : Int) - 1 < (M.length : Int)) = false := decide_eq_false (by omega)
                  have hjs : (((M.length + 1 : Nat) : Int) - 1) = (M.length : Int) := by omega
                  rw [hjs] at ckk l1 hw2 j1
                  have j2 : ¬ (M.length : Int) < (M.length : Int) := by omega
                  have j3 : decide ((0 : Int) ≤ (M.length : Int)) = true := decide_eq_true (by omega)
                  clear e1 e2 hR
                  rw [hjs]
                  go_wp2_with (refine wpList_loadS rfl _ rfl hRH.out.row rfl ?_)
                  (with_reducible refine (ckk.out _).mono ?_)
                  rintro e v7 ⟨rfl, hb7⟩
                  have hF := Lib.hid (hRH.out.below hb7)
                  clear hb7 hRH
                  go_wp2_with fail
                  go_roundw
                  case rel => exact ⟨M.length + 2, by omega, by first | rfl | (simp; done) | (refine congrArg _ ?_; omega), hF.out⟩
                  case measure => simp [intOf]; omega
          · go_wp2_with (refine wpList_loadS rfl _ rfl hT4.out.row rfl ?_)
            (with_reducible refine (cp.out _).mono ?_)
            rintro e v5 ⟨rfl, hb5⟩
            have hT5 := Lib.hid (hT4.out.below hb5)
            clear hb5 hT4
            go_wp2_with fail
            (with_reducible refine (crp.out _ hT5.out.hv.strs).mono ?_)
            rintro e v6 ⟨rfl, hb6⟩
            have hT6 := Lib.hid (hT5.out.below hb6)
            clear hb6 hT5 cp crp cf
            go_wp2_with fail
            go_loopw [15] (fun s15 wr => ∃ k : Nat, k ≤ M.length + 2 ∧ s15 = .int .i64 ((k : Int) - 1) ∧ RwW w g N A cap M wr) (fun s _ => M.length + 2 - (intOf s + 1).toNat)
            case atStart => exact ⟨0, by omega, by first | rfl | simp, hT6.out⟩
            case round =>
              clear hT6
              obtain ⟨k, hk, rfl, hR⟩ := hrel
              have hRH := Lib.hid hR
              by_cases hlt : k ≤ M.length + 1
              case neg =>
                have l1 : ¬ ((k : Int) - 1 ≤ (M.length : Int)) := by omega
                have hw1 : IntKind.i64.wrap ((i : Int) + 1) = (i : Int) + 1 := IntWalk.i64_in _ (by omega)
                clear hR hlt
                go_wp2_with fail
                go_roundw
                case rel => exact ⟨i + 1, M, A, cap, by omega, by omega, hMN, hM64H.out, by go_num, by first | rfl | simp, hRH.out⟩
                case measure => simp [intOf]; omega
              case pos =>
                have l1 : (k : Int) - 1 ≤ (M.length : Int) := by omega
                have hM15' := hM15H.out
                have hw2 : IntKind.i64.wrap ((k : Int) - 1 + 1) = (k : Int) := by rw [show (k : Int) - 1 + 1 = (k : Int) by omega]; exact IntWalk.i64_in _ (by omega)
                have ckk := Lib.hid (fun W => ck.out W ((k : Int) - 1))
                rcases idx_facts M k hlt with ⟨rfl, e1, e2⟩ | ⟨j, hj, rfl, ej, e1, e2⟩ | ⟨rfl, e1, e2⟩
                · rw [e1, e2] at ckk
                  rw [show (((0 : Nat) : Int) - 1) = -1 from rfl] at ckk
                  clear e1 e2 hR
                  go_wp2_with (refine wpList_loadS rfl _ rfl hRH.out.row rfl ?_)
                  (with_reducible refine (ckk.out _).mono ?_)
                  rintro e v7 ⟨rfl, hb7⟩
                  have hF := Lib.hid (hRH.out.below hb7)
                  clear hb7 hRH
                  go_wp2_with fail
                  go_roundw
                  case rel => exact ⟨1, by omega, by first | rfl | simp, hF.out⟩
                  case measure => simp [intOf]
                · rw [e1, e2] at ckk
                  have hcell : ∀ W, Below wr.heap.size wr W → ∃ gA, A = some ⟨gA, 0, none⟩ ∧ W.cell? ⟨gA, j, none⟩ = some (.string M[j]) := fun W hb => by
                    obtain ⟨gA, e, _, _, h⟩ := (hRH.out.hv.below hb).at_ hj
                    exact ⟨gA, e, h⟩
                  have hcH := Lib.hid hcell
                  rw [ej] at ckk l1 hw2
                  generalize M[j] = bj at ckk hcH
                  have j1 : decide ((j : Int) < (M.length : Int)) = true := decide_eq_true (by omega)
                  have j2 : (j : Int) < (M.length : Int) := by omega
                  have j3 : decide ((0 : Int) ≤ (j : Int)) = true := decide_eq_true (by omega)
                  have hjs : (((j + 1 : Nat) : Int) - 1) = (j : Int) := ej
                  clear e1 e2 hR hcell
                  rw [hjs]
                  go_wp2_with (refine wpList_loadS rfl _ rfl hRH.out.row rfl ?_)
                  (with_reducible refine (ckk.out _).mono ?_)
                  rintro e v7 ⟨rfl, hb7⟩
                  obtain ⟨gA, rfl, z0⟩ := hcH.out _ hb7
                  have hF := Lib.hid (hRH.out.below hb7)
                  clear hb7 hRH hcH
                  go_wp2_with fail
                  go_roundw
                  case rel => exact ⟨j + 2, by omega, by first | rfl | (simp; done) | (refine congrArg _ ?_; omega), hF.out⟩
                  case measure => simp [intOf]; omega
                · rw [e1, e2] at ckk
                  have j1 : decide (((M.length + 1 : Nat) : Int) - 1 < (M.length : Int)) = false := decide_eq_false (by omega)
                  have hjs : (((M.length + 1 : Nat) : Int) - 1) = (M.length : Int) := by omega
                  rw [hjs] at ckk l1 hw2 j1
                  have j2 : ¬ (M.length : Int) < (M.length : Int) := by omega
                  have j3 : decide ((0 : Int) ≤ (M.length : Int)) = true := decide_eq_true (by omega)
                  clear e1 e2 hR
                  rw [hjs]
                  go_wp2_with (refine wpList_loadS rfl _ rfl hRH.out.row rfl ?_)
                  (with_reducible refine (ckk.out _).mono ?_)
                  rintro e v7 ⟨rfl, hb7⟩
                  have hF := Lib.hid (hRH.out.below hb7)
                  clear hb7 hRH
                  go_wp2_with fail
                  go_roundw
                  case rel => exact ⟨M.length + 2, by omega, by first | rfl | (simp; done) | (refine congrArg _ ?_; omega), hF.out⟩
                  case measure => simp [intOf]; omega
        · have e6 : (s.size : Int) = 64 := by omega
          have e7b : ((L.length : Int) == (N : Int)) = true := by rw [beq_iff_eq]; omega
          have e7c : (L.length == N) = true := by rw [beq_iff_eq]; exact hLN2
          have hLN2H := Lib.hid hLN2
          clear hs6 hwH hLN2
          go_wp2_with (refine wpList_loadS rfl _ rfl hVH.out.r2 rfl ?_)
          (with_reducible refine (c0.out _).mono ?_)
          rintro e v2 ⟨rfl, hb2⟩
          have hT := Lib.hid ((hVH.out.below hb2).a)
          clear hb2 hVH c0 e7b e7c
          obtain ⟨M, hM⟩ : ∃ M, M = L := ⟨_, rfl⟩
          rw [← hM] at hT
          have hM15 : M.length ≤ 15 := by rw [hM]; omega
          have hM64 : ∀ q ∈ M, q.size = 64 := by rw [hM]; exact h64H.out
          have hMN : M.length ≤ N := by rw [hM]; exact hLN
          rw [← hM]
          clear hM
          have cf := Lib.hid (fun W => full_anyS M (N : Int) W hM15)
          have cp := Lib.hid (fun W => parity_anyS M (N : Int) W hM15 hM64)
          have crp := Lib.hid (fun W (h : StrsIn W A M) => rparity_any A cap M W (by omega) hM64 h)
          have ck := Lib.hid (fun W (k : Int) => block_anyS M (N : Int) k W hM15)
          have cM := Lib.hid (fun W => cc.out W M (N : Int) hM15)
          obtain ⟨fb, hfb⟩ : ∃ fb, decide ((M.length : Int) = (N : Int)) = fb := ⟨_, rfl⟩
          rw [hfb] at cf
          have e8 : ((M.length : Int) == (N : Int)) = fb := by rw [← hfb, Bool.eq_iff_iff]; simp
          have e9 : (M.length == N) = fb := by rw [← hfb, Bool.eq_iff_iff]; simp; omega
          have hM15H := Lib.hid hM15
          have hM64H := Lib.hid hM64
          generalize parS M = P at cp crp
          clear hfb cc hM15 hM64
          go_wp2_with (refine wpList_loadS rfl _ rfl hT.out.row rfl ?_)
          (with_reducible refine (cM.out _).mono ?_)
          rintro e v3 ⟨rfl, hb3⟩
          have hT3 := Lib.hid (hT.out.below hb3)
          clear hb3 hT
          go_wp2_with (refine wpList_loadS rfl _ rfl hT3.out.row rfl ?_)
          (with_reducible refine (cf.out _).mono ?_)
          rintro e v4 ⟨rfl, hb4⟩
          have hT4 := Lib.hid (hT3.out.below hb4)
          clear hb4 hT3
          cases fb
          · go_wp2_with (refine wpList_loadS rfl _ rfl hT4.out.row rfl ?_)
            (with_reducible refine (cp.out _).mono ?_)
            rintro e v5 ⟨rfl, hb5⟩
            have hT5 := Lib.hid (hT4.out.below hb5)
            clear hb5 hT4
            go_wp2_with fail
            (with_reducible refine (crp.out _ hT5.out.hv.strs).mono ?_)
            rintro e v6 ⟨rfl, hb6⟩
            have hT6 := Lib.hid (hT5.out.below hb6)
            clear hb6 hT5 cp crp cf
            go_wp2_with fail
            go_loopw [15] (fun s15 wr => ∃ k : Nat, k ≤ M.length + 2 ∧ s15 = .int .i64 ((k : Int) - 1) ∧ RwW w g N A cap M wr) (fun s _ => M.length + 2 - (intOf s + 1).toNat)
            case atStart => exact ⟨0, by omega, by first | rfl | simp, hT6.out⟩
            case round =>
              clear hT6
              obtain ⟨k, hk, rfl, hR⟩ := hrel
              have hRH := Lib.hid hR
              by_cases hlt : k ≤ M.length + 1
              case neg =>
                have l1 : ¬ ((k : Int) - 1 ≤ (M.length : Int)) := by omega
                have hw1 : IntKind.i64.wrap ((i : Int) + 1) = (i : Int) + 1 := IntWalk.i64_in _ (by omega)
                clear hR hlt
                go_wp2_with fail
                go_roundw
                case rel => exact ⟨i + 1, M, A, cap, by omega, by omega, hMN, hM64H.out, by go_num, by first | rfl | simp, hRH.out⟩
                case measure => simp [intOf]; omega
              case pos =>
                have l1 : (k : Int) - 1 ≤ (M.length : Int) := by omega
                have hM15' := hM15H.out
                have hw2 : IntKind.i64.wrap ((k : Int) - 1 + 1) = (k : Int) := by rw [show (k : Int) - 1 + 1 = (k : Int) by omega]; exact IntWalk.i64_in _ (by omega)
                have ckk := Lib.hid (fun W => ck.out W ((k : Int) - 1))
                rcases idx_facts M k hlt with ⟨rfl, e1, e2⟩ | ⟨j, hj, rfl, ej, e1, e2⟩ | ⟨rfl, e1, e2⟩
                · rw [e1, e2] at ckk
                  rw [show (((0 : Nat) : Int) - 1) = -1 from rfl] at ckk
                  clear e1 e2 hR
                  go_wp2_with (refine wpList_loadS rfl _ rfl hRH.out.row rfl ?_)
                  (with_reducible refine (ckk.out _).mono ?_)
                  rintro e v7 ⟨rfl, hb7⟩
                  have hF := Lib.hid (hRH.out.below hb7)
                  clear hb7 hRH
                  go_wp2_with fail
                  go_roundw
                  case rel => exact ⟨1, by omega, by first | rfl | simp, hF.out⟩
                  case measure => simp [intOf]
                · rw [e1, e2] at ckk
                  have hcell : ∀ W, Below wr.heap.size wr W → ∃ gA, A = some ⟨gA, 0, none⟩ ∧ W.cell? ⟨gA, j, none⟩ = some (.string M[j]) := fun W hb => by
                    obtain ⟨gA, e, _, _, h⟩ := (hRH.out.hv.below hb).at_ hj
                    exact ⟨gA, e, h⟩
                  have hcH := Lib.hid hcell
                  rw [ej] at ckk l1 hw2
                  generalize M[j] = bj at ckk hcH
                  have j1 : decide ((j : Int) < (M.length : Int)) = true := decide_eq_true (by omega)
                  have j2 : (j : Int) < (M.length : Int) := by omega
                  have j3 : decide ((0 : Int) ≤ (j : Int)) = true := decide_eq_true (by omega)
                  have hjs : (((j + 1 : Nat) : Int) - 1) = (j : Int) := ej
                  clear e1 e2 hR hcell
                  rw [hjs]
                  go_wp2_with (refine wpList_loadS rfl _ rfl hRH.out.row rfl ?_)
                  (with_reducible refine (ckk.out _).mono ?_)
                  rintro e v7 ⟨rfl, hb7⟩
                  obtain ⟨gA, rfl, z0⟩ := hcH.out _ hb7
                  have hF := Lib.hid (hRH.out.below hb7)
                  clear hb7 hRH hcH
                  go_wp2_with fail
                  go_roundw
                  case rel => exact ⟨j + 2, by omega, by first | rfl | (simp; done) | (refine congrArg _ ?_; omega), hF.out⟩
                  case measure => simp [intOf]; omega
                · rw [e1, e2] at ckk
                  have j1 : decide (((M.length + 1 : Nat) : Int) - 1 < (M.length : Int)) = false := decide_eq_false (by omega)
                  have hjs : (((M.length + 1 : Nat) : Int) - 1) = (M.length : Int) := by omega
                  rw [hjs] at ckk l1 hw2 j1
                  have j2 : ¬ (M.length : Int) < (M.length : Int) := by omega
                  have j3 : decide ((0 : Int) ≤ (M.length : Int)) = true := decide_eq_true (by omega)
                  clear e1 e2 hR
                  rw [hjs]
                  go_wp2_with (refine wpList_loadS rfl _ rfl hRH.out.row rfl ?_)
                  (with_reducible refine (ckk.out _).mono ?_)
                  rintro e v7 ⟨rfl, hb7⟩
                  have hF := Lib.hid (hRH.out.below hb7)
                  clear hb7 hRH
                  go_wp2_with fail
                  go_roundw
                  case rel => exact ⟨M.length + 2, by omega, by first | rfl | (simp; done) | (refine congrArg _ ?_; omega), hF.out⟩
                  case measure => simp [intOf]; omega
          · go_wp2_with (refine wpList_loadS rfl _ rfl hT4.out.row rfl ?_)
            (with_reducible refine (cp.out _).mono ?_)
            rintro e v5 ⟨rfl, hb5⟩
            have hT5 := Lib.hid (hT4.out.below hb5)
            clear hb5 hT4
            go_wp2_with fail
            (with_reducible refine (crp.out _ hT5.out.hv.strs).mono ?_)
            rintro e v6 ⟨rfl, hb6⟩
            have hT6 := Lib.hid (hT5.out.below hb6)
            clear hb6 hT5 cp crp cf
            go_wp2_with fail
            go_loopw [15] (fun s15 wr => ∃ k : Nat, k ≤ M.length + 2 ∧ s15 = .int .i64 ((k : Int) - 1) ∧ RwW w g N A cap M wr) (fun s _ => M.length + 2 - (intOf s + 1).toNat)
            case atStart => exact ⟨0, by omega, by first | rfl | simp, hT6.out⟩
            case round =>
              clear hT6
              obtain ⟨k, hk, rfl, hR⟩ := hrel
              have hRH := Lib.hid hR
              by_cases hlt : k ≤ M.length + 1
              case neg =>
                have l1 : ¬ ((k : Int) - 1 ≤ (M.length : Int)) := by omega
                have hw1 : IntKind.i64.wrap ((i : Int) + 1) = (i : Int) + 1 := IntWalk.i64_in _ (by omega)
                clear hR hlt
                go_wp2_with fail
                go_roundw
                case rel => exact ⟨i + 1, M, A, cap, by omega, by omega, hMN, hM64H.out, by go_num, by first | rfl | simp, hRH.out⟩
                case measure => simp [intOf]; omega
              case pos =>
                have l1 : (k : Int) - 1 ≤ (M.length : Int) := by omega
                have hM15' := hM15H.out
                have hw2 : IntKind.i64.wrap ((k : Int) - 1 + 1) = (k : Int) := by rw [show (k : Int) - 1 + 1 = (k : Int) by omega]; exact IntWalk.i64_in _ (by omega)
                have ckk := Lib.hid (fun W => ck.out W ((k : Int) - 1))
                rcases idx_facts M k hlt with ⟨rfl, e1, e2⟩ | ⟨j, hj, rfl, ej, e1, e2⟩ | ⟨rfl, e1, e2⟩
                · rw [e1, e2] at ckk
                  rw [show (((0 : Nat) : Int) - 1) = -1 from rfl] at ckk
                  clear e1 e2 hR
                  go_wp2_with (refine wpList_loadS rfl _ rfl hRH.out.row rfl ?_)
                  (with_reducible refine (ckk.out _).mono ?_)
                  rintro e v7 ⟨rfl, hb7⟩
                  have hF := Lib.hid (hRH.out.below hb7)
                  clear hb7 hRH
                  go_wp2_with fail
                  go_roundw
                  case rel => exact ⟨1, by omega, by first | rfl | simp, hF.out⟩
                  case measure => simp [intOf]
                · rw [e1, e2] at ckk
                  have hcell : ∀ W, Below wr.heap.size wr W → ∃ gA, A = some ⟨gA, 0, none⟩ ∧ W.cell? ⟨gA, j, none⟩ = some (.string M[j]) := fun W hb => by
                    obtain ⟨gA, e, _, _, h⟩ := (hRH.out.hv.below hb).at_ hj
                    exact ⟨gA, e, h⟩
                  have hcH := Lib.hid hcell
                  rw [ej] at ckk l1 hw2
                  generalize M[j] = bj at ckk hcH
                  have j1 : decide ((j : Int) < (M.length : Int)) = true := decide_eq_true (by omega)
                  have j2 : (j : Int) < (M.length : Int) := by omega
                  have j3 : decide ((0 : Int) ≤ (j : Int)) = true := decide_eq_true (by omega)
                  have hjs : (((j + 1 : Nat) : Int) - 1) = (j : Int) := ej
                  clear e1 e2 hR hcell
                  rw [hjs]
                  go_wp2_with (refine wpList_loadS rfl _ rfl hRH.out.row rfl ?_)
                  (with_reducible refine (ckk.out _).mono ?_)
                  rintro e v7 ⟨rfl, hb7⟩
                  obtain ⟨gA, rfl, z0⟩ := hcH.out _ hb7
                  have hF := Lib.hid (hRH.out.below hb7)
                  clear hb7 hRH hcH
                  go_wp2_with fail
                  go_roundw
                  case rel => exact ⟨j + 2, by omega, by first | rfl | (simp; done) | (refine congrArg _ ?_; omega), hF.out⟩
                  case measure => simp [intOf]; omega
                · rw [e1, e2] at ckk
                  have j1 : decide (((M.length + 1 : Nat) : Int) - 1 < (M.length : Int)) = false := decide_eq_false (by omega)
                  have hjs : (((M.length + 1 : Nat) : Int) - 1) = (M.length : Int) := by omega
                  rw [hjs] at ckk l1 hw2 j1
                  have j2 : ¬ (M.length : Int) < (M.length : Int) := by omega
                  have j3 : decide ((0 : Int) ≤ (M.length : Int)) = true := decide_eq_true (by omega)
                  clear e1 e2 hR
                  rw [hjs]
                  go_wp2_with (refine wpList_loadS rfl _ rfl hRH.out.row rfl ?_)
                  (with_reducible refine (ckk.out _).mono ?_)
                  rintro e v7 ⟨rfl, hb7⟩
                  have hF := Lib.hid (hRH.out.below hb7)
                  clear hb7 hRH
                  go_wp2_with fail
                  go_roundw
                  case rel => exact ⟨M.length + 2, by omega, by first | rfl | (simp; done) | (refine congrArg _ ?_; omega), hF.out⟩
                  case measure => simp [intOf]; omega
        · have e6 : (s.size : Int) = 64 := by omega
          have e7 : ¬ (L.length : Int) = (N : Int) := by omega
          have e7b : ((L.length : Int) == (N : Int)) = false := by rw [beq_eq_false_iff_ne]; exact e7
          have hs6H := Lib.hid hs6
          clear hs6 hwH c0
          go_wp2_with (refine wpList_loadS rfl _ rfl hVH.out.r1 rfl ?_)
          (with_reducible refine (cc.out _ L (N : Int) hL15H.out).mono ?_)
          rintro e v2 ⟨rfl, hb2⟩
          have hVX := Lib.hid (hVH.out.below hb2)
          clear hb2 hVH e7 e7b
          go_upto_region 15 with fail
          have hl1 : (L ++ [s]).length ≤ 15 := by simp; omega
          have hl1H := Lib.hid hl1
          have hLl : L.length ≤ 1000 := by omega
          clear hl1
          have hW0 := hVX.out.below ((Below.refl _ _).drew)
          have hS0 := hW0.r2
          clear hVX
          refine region_anyC (fun _ => true) (fun W => SrAt W G2 (L ++ [s]) (N : Int)) (by kernel_rfl) ?_
          refine anyL_take 0 (v := ?_) rfl (by kernel_rfl) (fun _ _ _ h => h) (Or.inl ⟨by rfl, ?_⟩) hS0 ?_
          rotate_left
          focus (intro W hW; go_simp; try with_reducible rfl)
          simp only [Act.put, List.setIfInBounds_toArray, List.set_cons_zero, List.set_cons_succ]
          refine anyL_take 1 (v := ?_) rfl (by kernel_rfl) (fun _ _ _ h => h) (Or.inl ⟨by rfl, ?_⟩) hS0 ?_
          rotate_left
          focus (intro W hW; go_simp; try with_reducible rfl)
          simp only [Act.put, List.setIfInBounds_toArray, List.set_cons_zero, List.set_cons_succ]
          refine anyL_take 4 (v := ?_) rfl (by kernel_rfl) (fun _ _ _ h => h) (Or.inl ⟨by rfl, ?_⟩) hS0 ?_
          rotate_left
          focus (intro W hW; refine run_loadS (.tmp 13) ?_ hW ?_ <;> rfl)
          simp only [Act.put, List.setIfInBounds_toArray, List.set_cons_zero, List.set_cons_succ]
          refine fresh_anyC (RwX w g G1 G2 N A cap L (L ++ [s]) (N : Int)) hW0 ?_
          clear hW0 hS0
          rintro U0 hU
          obtain ⟨A', cap', W', hrun, hR', hB', hgr, hA4⟩ := row_app hU.a.hv hLl hU.a.bw.size s
          have hUa := hU.below ((Below.refl _ _).alloc (Nat.le_refl _) (.cells #[.string s] 9))
          have hob : ∀ x, (∀ g', A = some ⟨g', 0, none⟩ → g' ≠ x) → Value.ownBlock (.slice A L.length cap) ≠ some x := fun x hx => by
            rcases hU.a.hv.form with ⟨e, _⟩ | ⟨g', e, _⟩
            · rw [e]; simp [Value.ownBlock]
            · rw [e]; simp only [Value.ownBlock]
              intro e2
              exact hx g' e (Option.some.inj e2)
          have hF : RwY w g G2 N A' cap' L s W' := by
            refine ⟨hUa.a.row.other hgr (hob g hU.a.ne), hUa.r2.other hgr (hob G2 hU.n2), hR', hU.a.bw.trans (hB'.mono (Nat.le_refl _)), hU.a.ge, fun g' e => ?_, hU.g2⟩
            rcases hA4 with e2 | e2
            · exact hU.a.ne g' (by rw [← e2, e])
            · have := hU.a.row.lt
              rw [e2] at e; injection e with e; injection e with e; omega
          have hFH := Lib.hid hF
          have hrunH := Lib.hid hrun
          refine anyL_one 2 rfl (by kernel_rfl) (fun K hK => ?_)
          go_simp
          refine hK.out _ _ (fun _ => hUa.r2) ?_
          clear hK K hUa hob hgr hA4 hR' hB' hF hrun hU
          try simp only [Act.put, List.setIfInBounds_toArray, List.set_cons_zero, List.set_cons_succ]
          refine anyL_one 3 rfl (by kernel_rfl) (fun K hK => ?_)
          refine append_run_step rfl _ _ _ rfl rfl rfl hrunH.out ?_
          refine hK.out _ _ (fun _ => hFH.out.r2) ?_
          clear hK K hrunH
          try simp only [Act.put, List.setIfInBounds_toArray, List.set_cons_zero, List.set_cons_succ]
          refine fresh_anyC (RwY w g G2 N A' cap' L s) hFH.out ?_
          clear hFH
          rintro U2 hU2
          refine anyL_one 5 rfl (by kernel_rfl) (fun K hK => ?_)
          go_simp
          refine hK.out _ _ (fun _ => hU2.r2) ?_
          clear hK K
          try simp only [Act.put, List.setIfInBounds_toArray, List.set_cons_zero, List.set_cons_succ]
          refine anyL_one 6 rfl (by kernel_rfl) (fun K hK => ?_)
          refine step_storeS (L' := L ++ [s]) (n' := (N : Int)) rfl _ _ rfl hU2.row rfl rfl hl1H.out ?_
          intro w7 hS7 hg7
          have hF : RwW w g N A' cap' (L ++ [s]) w7 := ⟨hS7, hU2.hv.far1 hg7 hU2.ne, hU2.bw.grown hg7 hU2.bw.size (fun k e => by injection e with e; have := hU2.ge; omega), hU2.ge, hU2.ne⟩
          refine hK.out _ _ (fun _ => hU2.r2.other hg7 (fun e => hU2.g2 (Option.some.inj e))) ?_
          clear hK K hS7 hg7 hU2
          try simp only [Act.put]
          refine anyC_done (by kernel_rfl) ?_ _
          have hT := Lib.hid hF
          clear hF
          obtain ⟨M, hM⟩ : ∃ M, M = L ++ [s] := ⟨_, rfl⟩
          rw [← hM] at hT
          have hM15 : M.length ≤ 15 := by rw [hM]; exact hl1H.out
          have hM64 : ∀ q ∈ M, q.size = 64 := by
            rw [hM]
            intro q hq
            rcases List.mem_append.1 hq with h | h
            · exact h64H.out q h
            · obtain rfl := List.mem_singleton.1 h; exact hs6H.out
          have hMN : M.length ≤ N := by rw [hM]; simp; omega
          have hMl : L.length + 1 = M.length := by rw [hM]; simp
          try rw [hMl]
          clear hM hMl hl1H
          have cf := Lib.hid (fun W => full_anyS M (N : Int) W hM15)
          have cp := Lib.hid (fun W => parity_anyS M (N : Int) W hM15 hM64)
          have crp := Lib.hid (fun W (h : StrsIn W A' M) => rparity_any A' cap' M W (by omega) hM64 h)
          have ck := Lib.hid (fun W (k : Int) => block_anyS M (N : Int) k W hM15)
          have cM := Lib.hid (fun W => cc.out W M (N : Int) hM15)
          obtain ⟨fb, hfb⟩ : ∃ fb, decide ((M.length : Int) = (N : Int)) = fb := ⟨_, rfl⟩
          rw [hfb] at cf
          have e8 : ((M.length : Int) == (N : Int)) = fb := by rw [← hfb, Bool.eq_iff_iff]; simp
          have e9 : (M.length == N) = fb := by rw [← hfb, Bool.eq_iff_iff]; simp; omega
          have hM15H := Lib.hid hM15
          have hM64H := Lib.hid hM64
          generalize parS M = P at cp crp
          clear hfb cc hM15 hM64
          go_wp2_with (refine wpList_loadS rfl _ rfl hT.out.row rfl ?_)
          (with_reducible refine (cM.out _).mono ?_)
          rintro e v3 ⟨rfl, hb3⟩
          have hT3 := Lib.hid (hT.out.below hb3)
          clear hb3 hT
          go_wp2_with (refine wpList_loadS rfl _ rfl hT3.out.row rfl ?_)
          (with_reducible refine (cf.out _).mono ?_)
          rintro e v4 ⟨rfl, hb4⟩
          have hT4 := Lib.hid (hT3.out.below hb4)
          clear hb4 hT3
          cases fb
          · go_wp2_with (refine wpList_loadS rfl _ rfl hT4.out.row rfl ?_)
            (with_reducible refine (cp.out _).mono ?_)
            rintro e v5 ⟨rfl, hb5⟩
            have hT5 := Lib.hid (hT4.out.below hb5)
            clear hb5 hT4
            go_wp2_with fail
            (with_reducible refine (crp.out _ hT5.out.hv.strs).mono ?_)
            rintro e v6 ⟨rfl, hb6⟩
            have hT6 := Lib.hid (hT5.out.below hb6)
            clear hb6 hT5 cp crp cf
            go_wp2_with fail
            go_loopw [15] (fun s15 wr => ∃ k : Nat, k ≤ M.length + 2 ∧ s15 = .int .i64 ((k : Int) - 1) ∧ RwW w g N A' cap' M wr) (fun s _ => M.length + 2 - (intOf s + 1).toNat)
            case atStart => exact ⟨0, by omega, by first | rfl | simp, hT6.out⟩
            case round =>
              clear hT6
              obtain ⟨k, hk, rfl, hR⟩ := hrel
              have hRH := Lib.hid hR
              by_cases hlt : k ≤ M.length + 1
              case neg =>
                have l1 : ¬ ((k : Int) - 1 ≤ (M.length : Int)) := by omega
                have hw1 : IntKind.i64.wrap ((i : Int) + 1) = (i : Int) + 1 := IntWalk.i64_in _ (by omega)
                clear hR hlt
                go_wp2_with fail
                go_roundw
                case rel => exact ⟨i + 1, M, A', cap', by omega, by omega, hMN, hM64H.out, by go_num, by first | rfl | simp, hRH.out⟩
                case measure => simp [intOf]; omega
              case pos =>
                have l1 : (k : Int) - 1 ≤ (M.length : Int) := by omega
                have hM15' := hM15H.out
                have hw2 : IntKind.i64.wrap ((k : Int) - 1 + 1) = (k : Int) := by rw [show (k : Int) - 1 + 1 = (k : Int) by omega]; exact IntWalk.i64_in _ (by omega)
                have ckk := Lib.hid (fun W => ck.out W ((k : Int) - 1))
                rcases idx_facts M k hlt with ⟨rfl, e1, e2⟩ | ⟨j, hj, rfl, ej, e1, e2⟩ | ⟨rfl, e1, e2⟩
                · rw [e1, e2] at ckk
                  rw [show (((0 : Nat) : Int) - 1) = -1 from rfl] at ckk
                  clear e1 e2 hR
                  go_wp2_with (refine wpList_loadS rfl _ rfl hRH.out.row rfl ?_)
                  (with_reducible refine (ckk.out _).mono ?_)
                  rintro e v7 ⟨rfl, hb7⟩
                  have hF := Lib.hid (hRH.out.below hb7)
                  clear hb7 hRH
                  go_wp2_with fail
                  go_roundw
                  case rel => exact ⟨1, by omega, by first | rfl | simp, hF.out⟩
                  case measure => simp [intOf]
                · rw [e1, e2] at ckk
                  have hcell : ∀ W, Below wr.heap.size wr W → ∃ gA, A' = some ⟨gA, 0, none⟩ ∧ W.cell? ⟨gA, j, none⟩ = some (.string M[j]) := fun W hb => by
                    obtain ⟨gA, e, _, _, h⟩ := (hRH.out.hv.below hb).at_ hj
                    exact ⟨gA, e, h⟩
                  have hcH := Lib.hid hcell
                  rw [ej] at ckk l1 hw2
                  generalize M[j] = bj at ckk hcH
                  have j1 : decide ((j : Int) < (M.length : Int)) = true := decide_eq_true (by omega)
                  have j2 : (j : Int) < (M.length : Int) := by omega
                  have j3 : decide ((0 : Int) ≤ (j : Int)) = true := decide_eq_true (by omega)
                  have hjs : (((j + 1 : Nat) : Int) - 1) = (j : Int) := ej
                  clear e1 e2 hR hcell
                  rw [hjs]
                  go_wp2_with (refine wpList_loadS rfl _ rfl hRH.out.row rfl ?_)
                  (with_reducible refine (ckk.out _).mono ?_)
                  rintro e v7 ⟨rfl, hb7⟩
                  obtain ⟨gA, rfl, z0⟩ := hcH.out _ hb7
                  have hF := Lib.hid (hRH.out.below hb7)
                  clear hb7 hRH hcH
                  go_wp2_with fail
                  go_roundw
                  case rel => exact ⟨j + 2, by omega, by first | rfl | (simp; done) | (refine congrArg _ ?_; omega), hF.out⟩
                  case measure => simp [intOf]; omega
                · rw [e1, e2] at ckk
                  have j1 : decide (((M.length + 1 : Nat) : Int) - 1 < (M.length : Int)) = false := decide_eq_false (by omega)
                  have hjs : (((M.length + 1 : Nat) : Int) - 1) = (M.length : Int) := by omega
                  rw [hjs] at ckk l1 hw2 j1
                  have j2 : ¬ (M.length : Int) < (M.length : Int) := by omega
                  have j3 : decide ((0 : Int) ≤ (M.length : Int)) = true := decide_eq_true (by omega)
                  clear e1 e2 hR
                  rw [hjs]
                  go_wp2_with (refine wpList_loadS rfl _ rfl hRH.out.row rfl ?_)
                  (with_reducible refine (ckk.out _).mono ?_)
                  rintro e v7 ⟨rfl, hb7⟩
                  have hF := Lib.hid (hRH.out.below hb7)
                  clear hb7 hRH
                  go_wp2_with fail
                  go_roundw
                  case rel => exact ⟨M.length + 2, by omega, by first | rfl | (simp; done) | (refine congrArg _ ?_; omega), hF.out⟩
                  case measure => simp [intOf]; omega
          · go_wp2_with (refine wpList_loadS rfl _ rfl hT4.out.row rfl ?_)
            (with_reducible refine (cp.out _).mono ?_)
            rintro e v5 ⟨rfl, hb5⟩
            have hT5 := Lib.hid (hT4.out.below hb5)
            clear hb5 hT4
            go_wp2_with fail
            (with_reducible refine (crp.out _ hT5.out.hv.strs).mono ?_)
            rintro e v6 ⟨rfl, hb6⟩
            have hT6 := Lib.hid (hT5.out.below hb6)
            clear hb6 hT5 cp crp cf
            go_wp2_with fail
            go_loopw [15] (fun s15 wr => ∃ k : Nat, k ≤ M.length + 2 ∧ s15 = .int .i64 ((k : Int) - 1) ∧ RwW w g N A' cap' M wr) (fun s _ => M.length + 2 - (intOf s + 1).toNat)
            case atStart => exact ⟨0, by omega, by first | rfl | simp, hT6.out⟩
            case round =>
              clear hT6
              obtain ⟨k, hk, rfl, hR⟩ := hrel
              have hRH := Lib.hid hR
              by_cases hlt : k ≤ M.length + 1
              case neg =>
                have l1 : ¬ ((k : Int) - 1 ≤ (M.length : Int)) := by omega
                have hw1 : IntKind.i64.wrap ((i : Int) + 1) = (i : Int) + 1 := IntWalk.i64_in _ (by omega)
                clear hR hlt
                go_wp2_with fail
                go_roundw
                case rel => exact ⟨i + 1, M, A', cap', by omega, by omega, hMN, hM64H.out, by go_num, by first | rfl | simp, hRH.out⟩
                case measure => simp [intOf]; omega
              case pos =>
                have l1 : (k : Int) - 1 ≤ (M.length : Int) := by omega
                have hM15' := hM15H.out
                have hw2 : IntKind.i64.wrap ((k : Int) - 1 + 1) = (k : Int) := by rw [show (k : Int) - 1 + 1 = (k : Int) by omega]; exact IntWalk.i64_in _ (by omega)
                have ckk := Lib.hid (fun W => ck.out W ((k : Int) - 1))
                rcases idx_facts M k hlt with ⟨rfl, e1, e2⟩ | ⟨j, hj, rfl, ej, e1, e2⟩ | ⟨rfl, e1, e2⟩
                · rw [e1, e2] at ckk
                  rw [show (((0 : Nat) : Int) - 1) = -1 from rfl] at ckk
                  clear e1 e2 hR
                  go_wp2_with (refine wpList_loadS rfl _ rfl hRH.out.row rfl ?_)
                  (with_reducible refine (ckk.out _).mono ?_)
                  rintro e v7 ⟨rfl, hb7⟩
                  have hF := Lib.hid (hRH.out.below hb7)
                  clear hb7 hRH
                  go_wp2_with fail
                  go_roundw
                  case rel => exact ⟨1, by omega, by first | rfl | simp, hF.out⟩
                  case measure => simp [intOf]
                · rw [e1, e2] at ckk
                  have hcell : ∀ W, Below wr.heap.size wr W → ∃ gA, A' = some ⟨gA, 0, none⟩ ∧ W.cell? ⟨gA, j, none⟩ = some (.string M[j]) := fun W hb => by
                    obtain ⟨gA, e, _, _, h⟩ := (hRH.out.hv.below hb).at_ hj
                    exact ⟨gA, e, h⟩
                  have hcH := Lib.hid hcell
                  rw [ej] at ckk l1 hw2
                  generalize M[j] = bj at ckk hcH
                  have j1 : decide ((j : Int) < (M.length : Int)) = true := decide_eq_true (by omega)
                  have j2 : (j : Int) < (M.length : Int) := by omega
                  have j3 : decide ((0 : Int) ≤ (j : Int)) = true := decide_eq_true (by omega)
                  have hjs : (((j + 1 : Nat) : Int) - 1) = (j : Int) := ej
                  clear e1 e2 hR hcell
                  rw [hjs]
                  go_wp2_with (refine wpList_loadS rfl _ rfl hRH.out.row rfl ?_)
                  (with_reducible refine (ckk.out _).mono ?_)
                  rintro e v7 ⟨rfl, hb7⟩
                  obtain ⟨gA, rfl, z0⟩ := hcH.out _ hb7
                  have hF := Lib.hid (hRH.out.below hb7)
                  clear hb7 hRH hcH
                  go_wp2_with fail
                  go_roundw
                  case rel => exact ⟨j + 2, by omega, by first | rfl | (simp; done) | (refine congrArg _ ?_; omega), hF.out⟩
                  case measure => simp [intOf]; omega
                · rw [e1, e2] at ckk
                  have j1 : decide (((M.length + 1 : Nat) : Int) - 1 < (M.length : Int)) = false := decide_eq_false (by omega)
                  have hjs : (((M.length + 1 : Nat) : Int) - 1) = (M.length : Int) := by omega
                  rw [hjs] at ckk l1 hw2 j1
                  have j2 : ¬ (M.length : Int) < (M.length : Int) := by omega
                  have j3 : decide ((0 : Int) ≤ (M.length : Int)) = true := decide_eq_true (by omega)
                  clear e1 e2 hR
                  rw [hjs]
                  go_wp2_with (refine wpList_loadS rfl _ rfl hRH.out.row rfl ?_)
                  (with_reducible refine (ckk.out _).mono ?_)
                  rintro e v7 ⟨rfl, hb7⟩
                  have hF := Lib.hid (hRH.out.below hb7)
                  clear hb7 hRH
                  go_wp2_with fail
                  go_roundw
                  case rel => exact ⟨M.length + 2, by omega, by first | rfl | (simp; done) | (refine congrArg _ ?_; omega), hF.out⟩
                  case measure => simp [intOf]; omega

end Go.Proofs.Ytonoanjakfaloaa
