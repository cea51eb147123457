/- StripeBranches' walk. -/
import Derived.Test.YtonoanjakfaloaaSpOneM
namespace Go.Proofs.Ytonoanjakfaloaa
open Go.RowKit Sp Xor

theorem fresh_cut {Q : Exit → Act → World → Prop} {K : Exit} {a : Act} {W : World} (R : World → Prop) (hR : R W) (h : ∀ W2, R W2 → Q K a W2) : Q K a W := h W hR
/-- Four rows in boxes. -/
structure BrF (w : World) (g G1 G2 G3 : Nat) (L : List ByteArray) (X Y : ByteArray) (W : World) : Prop where
  r0 : SrAt W g L 15
  r1 : SrAt W G1 (L ++ [X]) 15
  r2 : SrAt W G2 (L ++ [Y]) 15
  r3 : SrAt W G3 (L ++ [X, Y]) 15
  bw : Below w.heap.size w W
theorem BrF.below {w : World} {g G1 G2 G3 : Nat} {L : List ByteArray} {X Y : ByteArray} {W W' : World} (h : BrF w g G1 G2 G3 L X Y W) (hb : Below W.heap.size W W') : BrF w g G1 G2 G3 L X Y W' :=
  ⟨h.r0.below hb, h.r1.below hb, h.r2.below hb, h.r3.below hb, h.bw.trans (hb.mono h.bw.size)⟩
/-- A new row in a box, beside what stood. -/
def NewR (w : World) (G : Nat) (L : List ByteArray) (W : World) : Prop := SrAt W G L 15 ∧ Below w.heap.size w W ∧ w.heap.size ≤ G
theorem allocR {w W : World} (h : Below w.heap.size w W) : SrAt (W.alloc (.cells #[.string ⟨#[]⟩, .string ⟨#[]⟩, .string ⟨#[]⟩, .string ⟨#[]⟩, .string ⟨#[]⟩, .string ⟨#[]⟩, .string ⟨#[]⟩, .string ⟨#[]⟩, .string ⟨#[]⟩, .string ⟨#[]⟩, .string ⟨#[]⟩, .string ⟨#[]⟩, .string ⟨#[]⟩, .string ⟨#[]⟩, .string ⟨#[]⟩, .int .i64 0, .int .i64 0] 27)) W.heap.size [] 0 ∧ Below w.heap.size w (W.alloc (.cells #[.string ⟨#[]⟩, .string ⟨#[]⟩, .string ⟨#[]⟩, .string ⟨#[]⟩, .string ⟨#[]⟩, .string ⟨#[]⟩, .string ⟨#[]⟩, .string ⟨#[]⟩, .string ⟨#[]⟩, .string ⟨#[]⟩, .string ⟨#[]⟩, .string ⟨#[]⟩, .string ⟨#[]⟩, .string ⟨#[]⟩, .string ⟨#[]⟩, .int .i64 0, .int .i64 0] 27)) ∧ w.heap.size ≤ W.heap.size := ⟨SrAt.zero W, h.alloc h.size _, h.size⟩
theorem storedR {w W W' : World} {G : Nat} {L : List ByteArray} {n : Int} (h : SrAt W G [] 0 ∧ Below w.heap.size w W ∧ w.heap.size ≤ G) (hS : SrAt W' G L n) (hg : W.grownBy W' (some G)) : SrAt W' G L n ∧ Below w.heap.size w W' ∧ w.heap.size ≤ G :=
  ⟨hS, h.2.1.grown hg h.2.1.size (fun k e => by injection e with e; have := h.2.2; omega), h.2.2⟩

set_option maxRecDepth 100000 in
set_option maxHeartbeats 4000000 in
theorem branch_law (A0 : Option Addr) (cap0 : Nat) (ps : List ByteArray) (a b : ByteArray) (w : World) (hS : StrsIn w A0 ps) (hz : ∀ q ∈ ps, q.size ≤ 140737488351232) (ha : a.size ≤ 140737488351232) (hb : b.size ≤ 140737488351232) :
    Calls Try.prog 4 #[.slice A0 ps.length cap0, .string a, .string b] w fun e w' => e = .returned (.bool true) ∧ Below w.heap.size w w' := by
  have cs := Lib.hid speaks11
  have cn := Lib.hid (fun W => newS_any 15 W (by decide))
  have hSH := Lib.hid (fun W (h : Below w.heap.size w W) => hS.below h)
  have hzH := Lib.hid hz
  have hba := Lib.hid (fun W => block_any11 a false W ha)
  have hbb := Lib.hid (fun W => block_any11 b false W hb)
  have h64a := blkS_size a
  have h64b := blkS_size b
  obtain ⟨X, hX⟩ : ∃ X, blkS a false = X := ⟨_, rfl⟩
  obtain ⟨Y, hY⟩ : ∃ Y, blkS b false = Y := ⟨_, rfl⟩
  rw [hX] at hba h64a
  rw [hY] at hbb h64b
  clear hX hY hS hz ha hb
  go_enter Try.func4, Try.ntmps4
  go_wp2_with fail
  (with_reducible refine (cs.out _).mono ?_)
  rintro e w1 ⟨rfl, hb1⟩
  go_wp2_with fail
  (with_reducible refine (cn.out _).mono ?_)
  rintro e w2 ⟨rfl, hb2⟩
  have hB2 := hb1.trans (hb2.mono hb1.size)
  clear cs cn hb1 hb2
  go_upto_region 4 with (refine wpList_storeS (L' := []) (n' := 15) rfl _ _ rfl (SrAt.zero w2) rfl rfl (by decide) ?_; intro w3 hS3 hg3)
  have hP := SpW.fresh hB2 hS3 hg3
  refine fresh_world (SpW w w2.heap.size [] 15) hP ?_
  clear hP hS3 hg3 w3 hB2
  generalize w2.heap.size = g
  rintro W hW
  have hWH := Lib.hid hW
  clear hW
  go_wp2_with fail
  go_loopw [9] (fun s9 wr => ∃ i : Nat, i ≤ ps.length ∧ i ≤ 13 ∧ s9 = .int .i64 (i : Int) ∧ SpW w g (blks ps i) 15 wr) (fun s _ => ps.length - (intOf s).toNat)
  case atStart => exact ⟨0, Nat.zero_le _, by omega, rfl, hWH.out⟩
  case round =>
    clear hWH
    obtain ⟨i, hi, hi13, rfl, hW⟩ := hrel
    have hlb := blks_len hi
    by_cases hlt : i < ps.length ∧ i < 13
    case pos =>
      obtain ⟨hl1, hl2⟩ := hlt
      have g1 : decide ((i : Int) < (ps.length : Int)) = true := decide_eq_true (by omega)
      have g2 : decide ((i : Int) < 13) = true := decide_eq_true (by omega)
      have g3 : (i : Int) < (ps.length : Int) := by omega
      obtain ⟨b, off, rfl, hbl, -⟩ := (hSH.out _ hW.2.1).at_ hl1
      have hcell2 : ∀ W, Below w.heap.size w W → W.cell? ⟨b, off + i, none⟩ = some (.string ps[i]) := fun W hb => by
        obtain ⟨b', off', e, _, hc⟩ := (hSH.out _ hb).at_ hl1
        injection e with e; injection e with e1 e2
        rw [e1, e2]; exact hc
      have hcH2 := Lib.hid hcell2
      have hzi := hzH.out ps[i] (List.getElem_mem hl1)
      have hbk := Lib.hid (fun W => block_any11 ps[i] false W hzi)
      have hmore := blks_more hl1
      have h64 := blkS_size ps[i]
      generalize hs : blkS ps[i] false = s at hbk hmore h64
      have had := Lib.hid (fun W => addS_any (blks ps i) 15 s W (by omega) h64 (by omega))
      have hlb2 : (blks ps i ++ [s]).length ≤ 15 := by rw [List.length_append, hlb]; simp; omega
      have hWH := Lib.hid hW
      have hmoreH := Lib.hid hmore
      have hlb2H := Lib.hid hlb2
      generalize ps[i] = q at hbk hcH2 hs
      clear hs hcell2 hW hmore h64 hzi hlb hlb2
      go_upto_region 7 with fail
      have hW0 : SpW w g (blks ps i) 15 wr.drew := hWH.out.below (Below.refl _ _).drew
      have hC0 := hcH2.out _ hW0.2.1

      refine region_anyC (fun _ => true) (fun W => W.cell? ⟨b, off + i, none⟩ = some (.string q)) (by kernel_rfl) ?_
      refine anyL_take 1 (v := ?_) rfl (by kernel_rfl) (fun _ _ _ h => h) (Or.inl ⟨by rfl, ?_⟩) hC0 ?_
      rotate_left
      focus (intro W hW; go_simp; try with_reducible rfl)
      simp only [Act.put, List.setIfInBounds_toArray, List.set_cons_zero, List.set_cons_succ]
      refine anyL_take 2 (v := ?_) rfl (by kernel_rfl) (fun _ _ _ h => h) (Or.inl ⟨by rfl, ?_⟩) hC0 ?_
      rotate_left
      focus (intro W hW; go_simp; try with_reducible rfl)
      simp only [Act.put, List.setIfInBounds_toArray, List.set_cons_zero, List.set_cons_succ]
      refine anyL_take 3 (v := ?_) rfl (by kernel_rfl) (fun _ _ _ h => h) (Or.inl ⟨by rfl, ?_⟩) hC0 ?_
      rotate_left
      focus (intro W hW; go_simp; try with_reducible rfl)
      simp only [Act.put, List.setIfInBounds_toArray, List.set_cons_zero, List.set_cons_succ]
      refine anyL_take 4 (v := ?_) rfl (by kernel_rfl) (fun _ _ _ h => h) (Or.inl ⟨by rfl, ?_⟩) hC0 ?_
      rotate_left
      focus (intro W hW; go_simp; try with_reducible rfl)
      simp only [Act.put, List.setIfInBounds_toArray, List.set_cons_zero, List.set_cons_succ]
      refine anyL_two 0 5 rfl rfl (by kernel_rfl) (fun K hK => ?_) (fun K hK => ?_)
      · refine step_loadS rfl (.tmp 7) rfl hW0.1 rfl ?_
        refine hK.out _ _ (fun _ => hC0) ?_
        clear hK K
        try simp only [Act.put, List.setIfInBounds_toArray, List.set_cons_zero, List.set_cons_succ]
        refine anyL_one 5 rfl (by kernel_rfl) (fun K hK => ?_)
        go_simp
        refine (hbk.out _).mono ?_
        rintro e' v1 ⟨rfl, hp⟩
        have hn := hW0.below hp
        refine hK.out _ _ (fun _ => hcH2.out _ hn.2.1) ?_
        clear hK K hC0
        try simp only [Act.put, List.setIfInBounds_toArray, List.set_cons_zero, List.set_cons_succ]
        refine fresh_anyC (SpW w g (blks ps i) 15) hn ?_
        clear hn hp hW0
        rintro U hW0
        have hC0 := hcH2.out _ hW0.2.1
        refine anyL_one 6 rfl (by kernel_rfl) (fun K hK => ?_)
        go_simp
        refine (had.out _).mono ?_
        rintro e' v2 ⟨rfl, hp⟩
        have hn := hW0.below hp
        refine hK.out _ _ (fun _ => hcH2.out _ hn.2.1) ?_
        clear hK K hC0
        try simp only [Act.put, List.setIfInBounds_toArray, List.set_cons_zero, List.set_cons_succ]
        refine fresh_anyC (SpW w g (blks ps i) 15) hn ?_
        clear hn hp hW0
        rintro U hW0
        have hC0 := hcH2.out _ hW0.2.1
        refine anyL_take 7 (v := ?_) rfl (by kernel_rfl) (fun _ _ _ h => h) (Or.inl ⟨by rfl, ?_⟩) hC0 ?_
        rotate_left
        focus (intro W hW; go_simp; try with_reducible rfl)
        simp only [Act.put, List.setIfInBounds_toArray, List.set_cons_zero, List.set_cons_succ]
        refine anyL_take 8 (v := ?_) rfl (by kernel_rfl) (fun _ _ _ h => h) (Or.inl ⟨by rfl, ?_⟩) hC0 ?_
        rotate_left
        focus (intro W hW; go_simp; try with_reducible rfl)
        simp only [Act.put, List.setIfInBounds_toArray, List.set_cons_zero, List.set_cons_succ]
        refine anyL_take 9 (v := ?_) rfl (by kernel_rfl) (fun _ _ _ h => h) (Or.inl ⟨by rfl, ?_⟩) hC0 ?_
        rotate_left
        focus (intro W hW; go_simp; try with_reducible rfl)
        simp only [Act.put, List.setIfInBounds_toArray, List.set_cons_zero, List.set_cons_succ]
        refine anyL_one 10 rfl (by kernel_rfl) (fun K hK => ?_)
        refine step_storeS (L' := blks ps i ++ [s]) (n' := 15) rfl _ _ rfl hW0.1 rfl rfl hlb2H.out ?_
        intro w5 hS5 hg5
        have hn := hW0.stored hS5 hg5
        refine hK.out _ _ (fun _ => hcH2.out _ hn.2.1) ?_
        clear hK K hS5 hg5 hW0 hC0
        try simp only [Act.put]
        refine fresh_anyC (SpW w g (blks ps i ++ [s]) 15) hn ?_
        clear hn
        rintro W6 hW6
        refine anyC_done (by kernel_rfl) ?_ _
        have hF : SpW w g (blks ps (i + 1)) 15 W6 := by rw [hmoreH.out]; exact hW6
        have hFH := Lib.hid hF
        clear hW6 hF
        have hw1 : IntKind.i64.wrap ((i : Int) + 1) = (i : Int) + 1 := IntWalk.i64_in _ (by omega)
        go_wp2_with fail
        go_roundw
        case rel => exact ⟨i + 1, by omega, by omega, by go_num, hFH.out⟩
        case measure => simp [intOf]; omega
      · go_simp
        refine (hbk.out _).mono ?_
        rintro e' v1 ⟨rfl, hp⟩
        have hn := hW0.below hp
        refine hK.out _ _ (fun _ => hcH2.out _ hn.2.1) ?_
        clear hK K hC0
        try simp only [Act.put, List.setIfInBounds_toArray, List.set_cons_zero, List.set_cons_succ]
        refine fresh_anyC (SpW w g (blks ps i) 15) hn ?_
        clear hn hp hW0
        rintro U hW0
        have hC0 := hcH2.out _ hW0.2.1
        refine anyL_one 0 rfl (by kernel_rfl) (fun K hK => ?_)
        refine step_loadS rfl (.tmp 7) rfl hW0.1 rfl ?_
        refine hK.out _ _ (fun _ => hC0) ?_
        clear hK K
        try simp only [Act.put, List.setIfInBounds_toArray, List.set_cons_zero, List.set_cons_succ]
        refine anyL_one 6 rfl (by kernel_rfl) (fun K hK => ?_)
        go_simp
        refine (had.out _).mono ?_
        rintro e' v2 ⟨rfl, hp⟩
        have hn := hW0.below hp
        refine hK.out _ _ (fun _ => hcH2.out _ hn.2.1) ?_
        clear hK K hC0
        try simp only [Act.put, List.setIfInBounds_toArray, List.set_cons_zero, List.set_cons_succ]
        refine fresh_anyC (SpW w g (blks ps i) 15) hn ?_
        clear hn hp hW0
        rintro U hW0
        have hC0 := hcH2.out _ hW0.2.1
        refine anyL_take 7 (v := ?_) rfl (by kernel_rfl) (fun _ _ _ h => h) (Or.inl ⟨by rfl, ?_⟩) hC0 ?_
        rotate_left
        focus (intro W hW; go_simp; try with_reducible rfl)
        simp only [Act.put, List.setIfInBounds_toArray, List.set_cons_zero, List.set_cons_succ]
        refine anyL_take 8 (v := ?_) rfl (by kernel_rfl) (fun _ _ _ h => h) (Or.inl ⟨by rfl, ?_⟩) hC0 ?_
        rotate_left
        focus (intro W hW; go_simp; try with_reducible rfl)
        simp only [Act.put, List.setIfInBounds_toArray, List.set_cons_zero, List.set_cons_succ]
        refine anyL_take 9 (v := ?_) rfl (by kernel_rfl) (fun _ _ _ h => h) (Or.inl ⟨by rfl, ?_⟩) hC0 ?_
        rotate_left
        focus (intro W hW; go_simp; try with_reducible rfl)
        simp only [Act.put, List.setIfInBounds_toArray, List.set_cons_zero, List.set_cons_succ]
        refine anyL_one 10 rfl (by kernel_rfl) (fun K hK => ?_)
        refine step_storeS (L' := blks ps i ++ [s]) (n' := 15) rfl _ _ rfl hW0.1 rfl rfl hlb2H.out ?_
        intro w5 hS5 hg5
        have hn := hW0.stored hS5 hg5
        refine hK.out _ _ (fun _ => hcH2.out _ hn.2.1) ?_
        clear hK K hS5 hg5 hW0 hC0
        try simp only [Act.put]
        refine fresh_anyC (SpW w g (blks ps i ++ [s]) 15) hn ?_
        clear hn
        rintro W6 hW6
        refine anyC_done (by kernel_rfl) ?_ _
        have hF : SpW w g (blks ps (i + 1)) 15 W6 := by rw [hmoreH.out]; exact hW6
        have hFH := Lib.hid hF
        clear hW6 hF
        have hw1 : IntKind.i64.wrap ((i : Int) + 1) = (i : Int) + 1 := IntWalk.i64_in _ (by omega)
        go_wp2_with fail
        go_roundw
        case rel => exact ⟨i + 1, by omega, by omega, by go_num, hFH.out⟩
        case measure => simp [intOf]; omega
    case neg =>
      by_cases hl1 : i < ps.length
      · have g1 : decide ((i : Int) < (ps.length : Int)) = true := decide_eq_true (by omega)
        have g2 : decide ((i : Int) < 13) = false := decide_eq_false (by omega)
        have hi13' : ¬ i < 13 := by omega
        clear hlt
        have hWH := Lib.hid hW
        have hlbH := Lib.hid hlb
        have cc := Lib.hid (fun W L (h : L.length ≤ 15) => count_anyS L 15 W h)
        have ck := Lib.hid (fun W L (k : Int) (h : L.length ≤ 15) => block_anyS L 15 k W h)
        have caX := Lib.hid (fun W => addS_any (blks ps i) 15 X W (by omega) h64a (by omega))
        have caY := Lib.hid (fun W => addS_any (blks ps i) 15 Y W (by omega) h64b (by omega))
        have hl1 : (blks ps i ++ [X]).length ≤ 15 := by rw [List.length_append, hlb]; simp; omega
        have hl1y : (blks ps i ++ [Y]).length ≤ 15 := by rw [List.length_append, hlb]; simp; omega
        have hl2 : (blks ps i ++ [X, Y]).length ≤ 15 := by simp [hlb]; omega
        have caXY := Lib.hid (fun W => (show Calls Try.prog 17 #[rowV (blks ps i ++ [X]) 15, .string Y] W fun e w' => e = .returned (.tuple #[rowV (blks ps i ++ [X, Y]) 15, .int .i64 0]) ∧ Below W.heap.size W w' from by have := addS_any (blks ps i ++ [X]) 15 Y W (by simp [hlb]; omega) h64b (by simp [hlb]; omega); rwa [List.append_assoc] at this))
        have hl1H := Lib.hid hl1
        have hl1yH := Lib.hid hl1y
        have hl2H := Lib.hid hl2
        obtain ⟨L, hL⟩ : ∃ L, blks ps i = L := ⟨_, rfl⟩
        rw [hL] at hlbH caX caY caXY hl1H hl1yH hl2H
        have hWL : SpW w g L 15 wr := by rw [← hL]; exact hW
        have hWLH := Lib.hid hWL
        clear hWL hWH hW hlb hl1 hl1y hl2 hL hSH hzH h64a h64b hi
        go_wp2_with (refine wpList_loadS rfl _ rfl hWLH.out.1 rfl ?_)
        (with_reducible refine (cc.out _ _ (by rw [hlbH.out]; omega)).mono ?_)
        rintro e v1 ⟨rfl, hb1⟩
        rw [hlbH.out]
        have hW1 := Lib.hid (hWLH.out.below hb1)
        clear hWLH hb1
        go_upto_region 9 with fail
        refine fresh_world (SpW w g L 15) hW1.out ?_
        clear hW1
        rintro w9 hW
        have hW9 := Lib.hid hW
        clear hW
        go_cut [11, 12] from 51 to 57 (fun s11 s12 wx => ∃ G, s11 = .pointer (some ⟨G, 0, none⟩) ∧ s12 = .int .i64 0 ∧ NewR w9 G (L ++ [X]) wx)
        case first =>
          have hW0 : Below w9.heap.size w9 w9.drew := (Below.refl _ _).drew
          refine region_anyC (fun _ => true) (fun W => Below w9.heap.size w9 W) (by kernel_rfl) ?_
          refine anyL_take 0 (v := ?_) rfl (by kernel_rfl) (fun _ _ _ h => h) (Or.inl ⟨by rfl, ?_⟩) hW0 ?_
          rotate_left
          focus (intro W hW; refine run_loadS (.tmp 7) ?_ (hW9.out.1.below hW) ?_ <;> rfl)
          simp only [Act.put, List.setIfInBounds_toArray, List.set_cons_zero, List.set_cons_succ]
          refine anyL_take 1 (v := ?_) rfl (by kernel_rfl) (fun _ _ _ h => h) (Or.inl ⟨by rfl, ?_⟩) hW0 ?_
          rotate_left
          focus (intro W hW; go_simp; try with_reducible rfl)
          simp only [Act.put, List.setIfInBounds_toArray, List.set_cons_zero, List.set_cons_succ]
          refine fresh_anyC (fun W => Below w9.heap.size w9 W) hW0 ?_
          clear hW0
          rintro U0 hW0
          refine anyL_two 2 7 rfl rfl (by kernel_rfl) (fun K hK => ?_) (fun K hK => ?_)
          · go_simp
            refine (hba.out _).mono ?_
            rintro e' v ⟨rfl, hp⟩
            have hn : Below w9.heap.size w9 v := hW0.trans (hp.mono hW0.size)
            refine hK.out _ _ (fun _ => hn) ?_
            clear hK K
            try simp only [Act.put, List.setIfInBounds_toArray, List.set_cons_zero, List.set_cons_succ]
            refine fresh_anyC (fun W => Below w9.heap.size w9 W) hn ?_
            clear hn hp hW0
            rintro U hW0
            refine anyL_two 3 7 rfl rfl (by kernel_rfl) (fun K hK => ?_) (fun K hK => ?_)
            · go_simp
              refine (caX.out _).mono ?_
              rintro e' v ⟨rfl, hp⟩
              have hn : Below w9.heap.size w9 v := hW0.trans (hp.mono hW0.size)
              refine hK.out _ _ (fun _ => hn) ?_
              clear hK K
              try simp only [Act.put, List.setIfInBounds_toArray, List.set_cons_zero, List.set_cons_succ]
              refine fresh_anyC (fun W => Below w9.heap.size w9 W) hn ?_
              clear hn hp hW0
              rintro U hW0
              refine anyL_take 4 (v := ?_) rfl (by kernel_rfl) (fun _ _ _ h => h) (Or.inl ⟨by rfl, ?_⟩) hW0 ?_
              rotate_left
              focus (intro W hW; go_simp; try with_reducible rfl)
              simp only [Act.put, List.setIfInBounds_toArray, List.set_cons_zero, List.set_cons_succ]
              refine anyL_take 5 (v := ?_) rfl (by kernel_rfl) (fun _ _ _ h => h) (Or.inl ⟨by rfl, ?_⟩) hW0 ?_
              rotate_left
              focus (intro W hW; go_simp; try with_reducible rfl)
              simp only [Act.put, List.setIfInBounds_toArray, List.set_cons_zero, List.set_cons_succ]
              refine anyL_take 6 (v := ?_) rfl (by kernel_rfl) (fun _ _ _ h => h) (Or.inl ⟨by rfl, ?_⟩) hW0 ?_
              rotate_left
              focus (intro W hW; go_simp; try with_reducible rfl)
              simp only [Act.put, List.setIfInBounds_toArray, List.set_cons_zero, List.set_cons_succ]
              refine anyL_one 7 rfl (by kernel_rfl) (fun K hK => ?_)
              go_simp
              have hA := allocR hW0
              refine hK.out _ _ (fun _ => hA.2.1) ?_
              clear hK K
              try simp only [Act.put, List.setIfInBounds_toArray, List.set_cons_zero, List.set_cons_succ]
              refine fresh_anyC (fun W => SrAt W _ [] 0 ∧ Below w9.heap.size w9 W ∧ w9.heap.size ≤ _) hA ?_
              clear hA hW0
              generalize U.heap.size = G
              rintro U hA
              have hW0 := hA.2.1
              refine anyL_one 8 rfl (by kernel_rfl) (fun K hK => ?_)
              refine step_storeS (L' := L ++ [X]) (n' := 15) rfl _ _ rfl hA.1 rfl rfl hl1H.out ?_
              intro w5 hS5 hg5
              have hn := storedR hA hS5 hg5
              refine hK.out _ _ (fun _ => hn.2.1) ?_
              clear hK K hS5 hg5 hA hW0
              try simp only [Act.put]
              refine fresh_anyC (NewR w9 G (L ++ [X])) hn ?_
              clear hn
              rintro U9 hN9
              refine anyL_one 9 rfl (by kernel_rfl) (fun K hK => ?_)
              go_simp
              refine hK.out _ _ (fun _ => hN9.2.1) ?_
              clear hK K
              try simp only [Act.put, List.setIfInBounds_toArray, List.set_cons_zero, List.set_cons_succ]
              refine anyC_done (by kernel_rfl) ?_ _
              go_wp2_with fail
              go_meet
              exact ⟨G, rfl, rfl, hN9⟩
            · go_simp
              have hA := allocR hW0
              refine hK.out _ _ (fun _ => hA.2.1) ?_
              clear hK K
              try simp only [Act.put, List.setIfInBounds_toArray, List.set_cons_zero, List.set_cons_succ]
              refine fresh_anyC (fun W => SrAt W _ [] 0 ∧ Below w9.heap.size w9 W ∧ w9.heap.size ≤ _) hA ?_
              clear hA hW0
              generalize U.heap.size = G
              rintro U hA
              have hW0 := hA.2.1
              refine anyL_one 3 rfl (by kernel_rfl) (fun K hK => ?_)
              go_simp
              refine (caX.out _).mono ?_
              rintro e' v ⟨rfl, hp⟩
              have hn : Below w9.heap.size w9 v := hW0.trans (hp.mono hW0.size)
              have hN := hA.1.below hp
              refine hK.out _ _ (fun _ => hn) ?_
              clear hK K
              try simp only [Act.put, List.setIfInBounds_toArray, List.set_cons_zero, List.set_cons_succ]
              refine fresh_anyC (fun W => SrAt W G [] 0 ∧ Below w9.heap.size w9 W ∧ w9.heap.size ≤ G) ⟨hN, hn, hA.2.2⟩ ?_
              clear hn hp hN hA hW0
              rintro U hA
              have hW0 := hA.2.1
              refine anyL_take 4 (v := ?_) rfl (by kernel_rfl) (fun _ _ _ h => h) (Or.inl ⟨by rfl, ?_⟩) hW0 ?_
              rotate_left
              focus (intro W hW; go_simp; try with_reducible rfl)
              simp only [Act.put, List.setIfInBounds_toArray, List.set_cons_zero, List.set_cons_succ]
              refine anyL_take 5 (v := ?_) rfl (by kernel_rfl) (fun _ _ _ h => h) (Or.inl ⟨by rfl, ?_⟩) hW0 ?_
              rotate_left
              focus (intro W hW; go_simp; try with_reducible rfl)
              simp only [Act.put, List.setIfInBounds_toArray, List.set_cons_zero, List.set_cons_succ]
              refine anyL_take 6 (v := ?_) rfl (by kernel_rfl) (fun _ _ _ h => h) (Or.inl ⟨by rfl, ?_⟩) hW0 ?_
              rotate_left
              focus (intro W hW; go_simp; try with_reducible rfl)
              simp only [Act.put, List.setIfInBounds_toArray, List.set_cons_zero, List.set_cons_succ]
              refine anyL_one 8 rfl (by kernel_rfl) (fun K hK => ?_)
              refine step_storeS (L' := L ++ [X]) (n' := 15) rfl _ _ rfl hA.1 rfl rfl hl1H.out ?_
              intro w5 hS5 hg5
              have hn := storedR hA hS5 hg5
              refine hK.out _ _ (fun _ => hn.2.1) ?_
              clear hK K hS5 hg5 hA hW0
              try simp only [Act.put]
              refine fresh_anyC (NewR w9 G (L ++ [X])) hn ?_
              clear hn
              rintro U9 hN9
              refine anyL_one 9 rfl (by kernel_rfl) (fun K hK => ?_)
              go_simp
              refine hK.out _ _ (fun _ => hN9.2.1) ?_
              clear hK K
              try simp only [Act.put, List.setIfInBounds_toArray, List.set_cons_zero, List.set_cons_succ]
              refine anyC_done (by kernel_rfl) ?_ _
              go_wp2_with fail
              go_meet
              exact ⟨G, rfl, rfl, hN9⟩
          · go_simp
            have hA := allocR hW0
            refine hK.out _ _ (fun _ => hA.2.1) ?_
            clear hK K
            try simp only [Act.put, List.setIfInBounds_toArray, List.set_cons_zero, List.set_cons_succ]
            refine fresh_anyC (fun W => SrAt W _ [] 0 ∧ Below w9.heap.size w9 W ∧ w9.heap.size ≤ _) hA ?_
            clear hA hW0
            generalize U0.heap.size = G
            rintro U hA
            have hW0 := hA.2.1
            refine anyL_one 2 rfl (by kernel_rfl) (fun K hK => ?_)
            go_simp
            refine (hba.out _).mono ?_
            rintro e' v ⟨rfl, hp⟩
            have hn : Below w9.heap.size w9 v := hW0.trans (hp.mono hW0.size)
            have hN := hA.1.below hp
            refine hK.out _ _ (fun _ => hn) ?_
            clear hK K
            try simp only [Act.put, List.setIfInBounds_toArray, List.set_cons_zero, List.set_cons_succ]
            refine fresh_anyC (fun W => SrAt W G [] 0 ∧ Below w9.heap.size w9 W ∧ w9.heap.size ≤ G) ⟨hN, hn, hA.2.2⟩ ?_
            clear hn hp hN hA hW0
            rintro U hA
            have hW0 := hA.2.1
            refine anyL_one 3 rfl (by kernel_rfl) (fun K hK => ?_)
            go_simp
            refine (caX.out _).mono ?_
            rintro e' v ⟨rfl, hp⟩
            have hn : Below w9.heap.size w9 v := hW0.trans (hp.mono hW0.size)
            have hN := hA.1.below hp
            refine hK.out _ _ (fun _ => hn) ?_
            clear hK K
            try simp only [Act.put, List.setIfInBounds_toArray, List.set_cons_zero, List.set_cons_succ]
            refine fresh_anyC (fun W => SrAt W G [] 0 ∧ Below w9.heap.size w9 W ∧ w9.heap.size ≤ G) ⟨hN, hn, hA.2.2⟩ ?_
            clear hn hp hN hA hW0
            rintro U hA
            have hW0 := hA.2.1
            refine anyL_take 4 (v := ?_) rfl (by kernel_rfl) (fun _ _ _ h => h) (Or.inl ⟨by rfl, ?_⟩) hW0 ?_
            rotate_left
            focus (intro W hW; go_simp; try with_reducible rfl)
            simp only [Act.put, List.setIfInBounds_toArray, List.set_cons_zero, List.set_cons_succ]
            refine anyL_take 5 (v := ?_) rfl (by kernel_rfl) (fun _ _ _ h => h) (Or.inl ⟨by rfl, ?_⟩) hW0 ?_
            rotate_left
            focus (intro W hW; go_simp; try with_reducible rfl)
            simp only [Act.put, List.setIfInBounds_toArray, List.set_cons_zero, List.set_cons_succ]
            refine anyL_take 6 (v := ?_) rfl (by kernel_rfl) (fun _ _ _ h => h) (Or.inl ⟨by rfl, ?_⟩) hW0 ?_
            rotate_left
            focus (intro W hW; go_simp; try with_reducible rfl)
            simp only [Act.put, List.setIfInBounds_toArray, List.set_cons_zero, List.set_cons_succ]
            refine anyL_one 8 rfl (by kernel_rfl) (fun K hK => ?_)
            refine step_storeS (L' := L ++ [X]) (n' := 15) rfl _ _ rfl hA.1 rfl rfl hl1H.out ?_
            intro w5 hS5 hg5
            have hn := storedR hA hS5 hg5
            refine hK.out _ _ (fun _ => hn.2.1) ?_
            clear hK K hS5 hg5 hA hW0
            try simp only [Act.put]
            refine fresh_anyC (NewR w9 G (L ++ [X])) hn ?_
            clear hn
            rintro U9 hN9
            refine anyL_one 9 rfl (by kernel_rfl) (fun K hK => ?_)
            go_simp
            refine hK.out _ _ (fun _ => hN9.2.1) ?_
            clear hK K
            try simp only [Act.put, List.setIfInBounds_toArray, List.set_cons_zero, List.set_cons_succ]
            refine anyC_done (by kernel_rfl) ?_ _
            go_wp2_with fail
            go_meet
            exact ⟨G, rfl, rfl, hN9⟩
        case rest =>
          obtain ⟨G1, rfl, rfl, hN1⟩ := hcut
          obtain ⟨wA, rfl⟩ : ∃ wA, wA = wc := ⟨_, rfl⟩
          have hWA := Lib.hid (SpW.below hW9.out hN1.2.1)
          have hG1 := Lib.hid hN1.1
          clear hN1 hW9
          go_upto_region 10 with fail
          go_cut [13, 14] from 58 to 64 (fun s13 s14 wx => ∃ G, s13 = .pointer (some ⟨G, 0, none⟩) ∧ s14 = .int .i64 0 ∧ NewR wA G (L ++ [Y]) wx)
          case first =>
            have hW0 : Below wA.heap.size wA wA.drew := (Below.refl _ _).drew
            refine region_anyC (fun _ => true) (fun W => Below wA.heap.size wA W) (by kernel_rfl) ?_
            refine anyL_take 0 (v := ?_) rfl (by kernel_rfl) (fun _ _ _ h => h) (Or.inl ⟨by rfl, ?_⟩) hW0 ?_
            rotate_left
            focus (intro W hW; refine run_loadS (.tmp 7) ?_ ((SpW.below hWA.out hW).1) ?_ <;> rfl)
            simp only [Act.put, List.setIfInBounds_toArray, List.set_cons_zero, List.set_cons_succ]
            refine anyL_take 1 (v := ?_) rfl (by kernel_rfl) (fun _ _ _ h => h) (Or.inl ⟨by rfl, ?_⟩) hW0 ?_
            rotate_left
            focus (intro W hW; go_simp; try with_reducible rfl)
            simp only [Act.put, List.setIfInBounds_toArray, List.set_cons_zero, List.set_cons_succ]
            refine fresh_anyC (fun W => Below wA.heap.size wA W) hW0 ?_
            clear hW0
            rintro U0 hW0
            refine anyL_two 2 7 rfl rfl (by kernel_rfl) (fun K hK => ?_) (fun K hK => ?_)
            · go_simp
              refine (hbb.out _).mono ?_
              rintro e' v ⟨rfl, hp⟩
              have hn : Below wA.heap.size wA v := hW0.trans (hp.mono hW0.size)
              refine hK.out _ _ (fun _ => hn) ?_
              clear hK K
              try simp only [Act.put, List.setIfInBounds_toArray, List.set_cons_zero, List.set_cons_succ]
              refine fresh_anyC (fun W => Below wA.heap.size wA W) hn ?_
              clear hn hp hW0
              rintro U hW0
              refine anyL_two 3 7 rfl rfl (by kernel_rfl) (fun K hK => ?_) (fun K hK => ?_)
              · go_simp
                refine (caY.out _).mono ?_
                rintro e' v ⟨rfl, hp⟩
                have hn : Below wA.heap.size wA v := hW0.trans (hp.mono hW0.size)
                refine hK.out _ _ (fun _ => hn) ?_
                clear hK K
                try simp only [Act.put, List.setIfInBounds_toArray, List.set_cons_zero, List.set_cons_succ]
                refine fresh_anyC (fun W => Below wA.heap.size wA W) hn ?_
                clear hn hp hW0
                rintro U hW0
                refine anyL_take 4 (v := ?_) rfl (by kernel_rfl) (fun _ _ _ h => h) (Or.inl ⟨by rfl, ?_⟩) hW0 ?_
                rotate_left
                focus (intro W hW; go_simp; try with_reducible rfl)
                simp only [Act.put, List.setIfInBounds_toArray, List.set_cons_zero, List.set_cons_succ]
                refine anyL_take 5 (v := ?_) rfl (by kernel_rfl) (fun _ _ _ h => h) (Or.inl ⟨by rfl, ?_⟩) hW0 ?_
                rotate_left
                focus (intro W hW; go_simp; try with_reducible rfl)
                simp only [Act.put, List.setIfInBounds_toArray, List.set_cons_zero, List.set_cons_succ]
                refine anyL_take 6 (v := ?_) rfl (by kernel_rfl) (fun _ _ _ h => h) (Or.inl ⟨by rfl, ?_⟩) hW0 ?_
                rotate_left
                focus (intro W hW; go_simp; try with_reducible rfl)
                simp only [Act.put, List.setIfInBounds_toArray, List.set_cons_zero, List.set_cons_succ]
                refine anyL_one 7 rfl (by kernel_rfl) (fun K hK => ?_)
                go_simp
                have hA := allocR hW0
                refine hK.out _ _ (fun _ => hA.2.1) ?_
                clear hK K
                try simp only [Act.put, List.setIfInBounds_toArray, List.set_cons_zero, List.set_cons_succ]
                refine fresh_anyC (fun W => SrAt W _ [] 0 ∧ Below wA.heap.size wA W ∧ wA.heap.size ≤ _) hA ?_
                clear hA hW0
                generalize U.heap.size = G
                rintro U hA
                have hW0 := hA.2.1
                refine anyL_one 8 rfl (by kernel_rfl) (fun K hK => ?_)
                refine step_storeS (L' := L ++ [Y]) (n' := 15) rfl _ _ rfl hA.1 rfl rfl hl1yH.out ?_
                intro w5 hS5 hg5
                have hn := storedR hA hS5 hg5
                refine hK.out _ _ (fun _ => hn.2.1) ?_
                clear hK K hS5 hg5 hA hW0
                try simp only [Act.put]
                refine fresh_anyC (NewR wA G (L ++ [Y])) hn ?_
                clear hn
                rintro U9 hN9
                refine anyL_one 9 rfl (by kernel_rfl) (fun K hK => ?_)
                go_simp
                refine hK.out _ _ (fun _ => hN9.2.1) ?_
                clear hK K
                try simp only [Act.put, List.setIfInBounds_toArray, List.set_cons_zero, List.set_cons_succ]
                refine anyC_done (by kernel_rfl) ?_ _
                go_wp2_with fail
                go_meet
                exact ⟨G, rfl, rfl, hN9⟩
              · go_simp
                have hA := allocR hW0
                refine hK.out _ _ (fun _ => hA.2.1) ?_
                clear hK K
                try simp only [Act.put, List.setIfInBounds_toArray, List.set_cons_zero, List.set_cons_succ]
                refine fresh_anyC (fun W => SrAt W _ [] 0 ∧ Below wA.heap.size wA W ∧ wA.heap.size ≤ _) hA ?_
                clear hA hW0
                generalize U.heap.size = G
                rintro U hA
                have hW0 := hA.2.1
                refine anyL_one 3 rfl (by kernel_rfl) (fun K hK => ?_)
                go_simp
                refine (caY.out _).mono ?_
                rintro e' v ⟨rfl, hp⟩
                have hn : Below wA.heap.size wA v := hW0.trans (hp.mono hW0.size)
                have hN := hA.1.below hp
                refine hK.out _ _ (fun _ => hn) ?_
                clear hK K
                try simp only [Act.put, List.setIfInBounds_toArray, List.set_cons_zero, List.set_cons_succ]
                refine fresh_anyC (fun W => SrAt W G [] 0 ∧ Below wA.heap.size wA W ∧ wA.heap.size ≤ G) ⟨hN, hn, hA.2.2⟩ ?_
                clear hn hp hN hA hW0
                rintro U hA
                have hW0 := hA.2.1
                refine anyL_take 4 (v := ?_) rfl (by kernel_rfl) (fun _ _ _ h => h) (Or.inl ⟨by rfl, ?_⟩) hW0 ?_
                rotate_left
                focus (intro W hW; go_simp; try with_reducible rfl)
                simp only [Act.put, List.setIfInBounds_toArray, List.set_cons_zero, List.set_cons_succ]
                refine anyL_take 5 (v := ?_) rfl (by kernel_rfl) (fun _ _ _ h => h) (Or.inl ⟨by rfl, ?_⟩) hW0 ?_
                rotate_left
                focus (intro W hW; go_simp; try with_reducible rfl)
                simp only [Act.put, List.setIfInBounds_toArray, List.set_cons_zero, List.set_cons_succ]
                refine anyL_take 6 (v := ?_) rfl (by kernel_rfl) (fun _ _ _ h => h) (Or.inl ⟨by rfl, ?_⟩) hW0 ?_
                rotate_left
                focus (intro W hW; go_simp; try with_reducible rfl)
                simp only [Act.put, List.setIfInBounds_toArray, List.set_cons_zero, List.set_cons_succ]
                refine anyL_one 8 rfl (by kernel_rfl) (fun K hK => ?_)
                refine step_storeS (L' := L ++ [Y]) (n' := 15) rfl _ _ rfl hA.1 rfl rfl hl1yH.out ?_
                intro w5 hS5 hg5
                have hn := storedR hA hS5 hg5
                refine hK.out _ _ (fun _ => hn.2.1) ?_
                clear hK K hS5 hg5 hA hW0
                try simp only [Act.put]
                refine fresh_anyC (NewR wA G (L ++ [Y])) hn ?_
                clear hn
                rintro U9 hN9
                refine anyL_one 9 rfl (by kernel_rfl) (fun K hK => ?_)
                go_simp
                refine hK.out _ _ (fun _ => hN9.2.1) ?_
                clear hK K
                try simp only [Act.put, List.setIfInBounds_toArray, List.set_cons_zero, List.set_cons_succ]
                refine anyC_done (by kernel_rfl) ?_ _
                go_wp2_with fail
                go_meet
                exact ⟨G, rfl, rfl, hN9⟩
            · go_simp
              have hA := allocR hW0
              refine hK.out _ _ (fun _ => hA.2.1) ?_
              clear hK K
              try simp only [Act.put, List.setIfInBounds_toArray, List.set_cons_zero, List.set_cons_succ]
              refine fresh_anyC (fun W => SrAt W _ [] 0 ∧ Below wA.heap.size wA W ∧ wA.heap.size ≤ _) hA ?_
              clear hA hW0
              generalize U0.heap.size = G
              rintro U hA
              have hW0 := hA.2.1
              refine anyL_one 2 rfl (by kernel_rfl) (fun K hK => ?_)
              go_simp
              refine (hbb.out _).mono ?_
              rintro e' v ⟨rfl, hp⟩
              have hn : Below wA.heap.size wA v := hW0.trans (hp.mono hW0.size)
              have hN := hA.1.below hp
              refine hK.out _ _ (fun _ => hn) ?_
              clear hK K
              try simp only [Act.put, List.setIfInBounds_toArray, List.set_cons_zero, List.set_cons_succ]
              refine fresh_anyC (fun W => SrAt W G [] 0 ∧ Below wA.heap.size wA W ∧ wA.heap.size ≤ G) ⟨hN, hn, hA.2.2⟩ ?_
              clear hn hp hN hA hW0
              rintro U hA
              have hW0 := hA.2.1
              refine anyL_one 3 rfl (by kernel_rfl) (fun K hK => ?_)
              go_simp
              refine (caY.out _).mono ?_
              rintro e' v ⟨rfl, hp⟩
              have hn : Below wA.heap.size wA v := hW0.trans (hp.mono hW0.size)
              have hN := hA.1.below hp
              refine hK.out _ _ (fun _ => hn) ?_
              clear hK K
              try simp only [Act.put, List.setIfInBounds_toArray, List.set_cons_zero, List.set_cons_succ]
              refine fresh_anyC (fun W => SrAt W G [] 0 ∧ Below wA.heap.size wA W ∧ wA.heap.size ≤ G) ⟨hN, hn, hA.2.2⟩ ?_
              clear hn hp hN hA hW0
              rintro U hA
              have hW0 := hA.2.1
              refine anyL_take 4 (v := ?_) rfl (by kernel_rfl) (fun _ _ _ h => h) (Or.inl ⟨by rfl, ?_⟩) hW0 ?_
              rotate_left
              focus (intro W hW; go_simp; try with_reducible rfl)
              simp only [Act.put, List.setIfInBounds_toArray, List.set_cons_zero, List.set_cons_succ]
              refine anyL_take 5 (v := ?_) rfl (by kernel_rfl) (fun _ _ _ h => h) (Or.inl ⟨by rfl, ?_⟩) hW0 ?_
              rotate_left
              focus (intro W hW; go_simp; try with_reducible rfl)
              simp only [Act.put, List.setIfInBounds_toArray, List.set_cons_zero, List.set_cons_succ]
              refine anyL_take 6 (v := ?_) rfl (by kernel_rfl) (fun _ _ _ h => h) (Or.inl ⟨by rfl, ?_⟩) hW0 ?_
              rotate_left
              focus (intro W hW; go_simp; try with_reducible rfl)
              simp only [Act.put, List.setIfInBounds_toArray, List.set_cons_zero, List.set_cons_succ]
              refine anyL_one 8 rfl (by kernel_rfl) (fun K hK => ?_)
              refine step_storeS (L' := L ++ [Y]) (n' := 15) rfl _ _ rfl hA.1 rfl rfl hl1yH.out ?_
              intro w5 hS5 hg5
              have hn := storedR hA hS5 hg5
              refine hK.out _ _ (fun _ => hn.2.1) ?_
              clear hK K hS5 hg5 hA hW0
              try simp only [Act.put]
              refine fresh_anyC (NewR wA G (L ++ [Y])) hn ?_
              clear hn
              rintro U9 hN9
              refine anyL_one 9 rfl (by kernel_rfl) (fun K hK => ?_)
              go_simp
              refine hK.out _ _ (fun _ => hN9.2.1) ?_
              clear hK K
              try simp only [Act.put, List.setIfInBounds_toArray, List.set_cons_zero, List.set_cons_succ]
              refine anyC_done (by kernel_rfl) ?_ _
              go_wp2_with fail
              go_meet
              exact ⟨G, rfl, rfl, hN9⟩
          case rest =>
            obtain ⟨G2, rfl, rfl, hN2⟩ := hcut
            obtain ⟨wB, rfl⟩ : ∃ wB, wB = wc := ⟨_, rfl⟩
            have hWB := Lib.hid (SpW.below hWA.out hN2.2.1)
            have hG1B := Lib.hid (hG1.out.below (hN2.2.1.mono (Nat.le_refl _)))
            have hG2 := Lib.hid hN2.1
            clear hN2 hWA hG1 caX caY
            go_upto_region 11 with fail
            go_cut [15, 16] from 65 to 71 (fun s15 s16 wx => ∃ G, s15 = .pointer (some ⟨G, 0, none⟩) ∧ s16 = .int .i64 0 ∧ NewR wB G (L ++ [X, Y]) wx)
            case first =>
              have hW0 : Below wB.heap.size wB wB.drew := (Below.refl _ _).drew
              refine region_anyC (fun _ => true) (fun W => Below wB.heap.size wB W) (by kernel_rfl) ?_
              refine anyL_take 0 (v := ?_) rfl (by kernel_rfl) (fun _ _ _ h => h) (Or.inl ⟨by rfl, ?_⟩) hW0 ?_
              rotate_left
              focus (intro W hW; refine run_loadS (.tmp 11) ?_ (hG1B.out.below hW) ?_ <;> rfl)
              simp only [Act.put, List.setIfInBounds_toArray, List.set_cons_zero, List.set_cons_succ]
              refine anyL_take 1 (v := ?_) rfl (by kernel_rfl) (fun _ _ _ h => h) (Or.inl ⟨by rfl, ?_⟩) hW0 ?_
              rotate_left
              focus (intro W hW; go_simp; try with_reducible rfl)
              simp only [Act.put, List.setIfInBounds_toArray, List.set_cons_zero, List.set_cons_succ]
              refine fresh_anyC (fun W => Below wB.heap.size wB W) hW0 ?_
              clear hW0
              rintro U0 hW0
              refine anyL_two 2 7 rfl rfl (by kernel_rfl) (fun K hK => ?_) (fun K hK => ?_)
              · go_simp
                refine (hbb.out _).mono ?_
                rintro e' v ⟨rfl, hp⟩
                have hn : Below wB.heap.size wB v := hW0.trans (hp.mono hW0.size)
                refine hK.out _ _ (fun _ => hn) ?_
                clear hK K
                try simp only [Act.put, List.setIfInBounds_toArray, List.set_cons_zero, List.set_cons_succ]
                refine fresh_anyC (fun W => Below wB.heap.size wB W) hn ?_
                clear hn hp hW0
                rintro U hW0
                refine anyL_two 3 7 rfl rfl (by kernel_rfl) (fun K hK => ?_) (fun K hK => ?_)
                · go_simp
                  refine (caXY.out _).mono ?_
                  rintro e' v ⟨rfl, hp⟩
                  have hn : Below wB.heap.size wB v := hW0.trans (hp.mono hW0.size)
                  refine hK.out _ _ (fun _ => hn) ?_
                  clear hK K
                  try simp only [Act.put, List.setIfInBounds_toArray, List.set_cons_zero, List.set_cons_succ]
                  refine fresh_anyC (fun W => Below wB.heap.size wB W) hn ?_
                  clear hn hp hW0
                  rintro U hW0
                  refine anyL_take 4 (v := ?_) rfl (by kernel_rfl) (fun _ _ _ h => h) (Or.inl ⟨by rfl, ?_⟩) hW0 ?_
                  rotate_left
                  focus (intro W hW; go_simp; try with_reducible rfl)
                  simp only [Act.put, List.setIfInBounds_toArray, List.set_cons_zero, List.set_cons_succ]
                  refine anyL_take 5 (v := ?_) rfl (by kernel_rfl) (fun _ _ _ h => h) (Or.inl ⟨by rfl, ?_⟩) hW0 ?_
                  rotate_left
                  focus (intro W hW; go_simp; try with_reducible rfl)
                  simp only [Act.put, List.setIfInBounds_toArray, List.set_cons_zero, List.set_cons_succ]
                  refine anyL_take 6 (v := ?_) rfl (by kernel_rfl) (fun _ _ _ h => h) (Or.inl ⟨by rfl, ?_⟩) hW0 ?_
                  rotate_left
                  focus (intro W hW; go_simp; try with_reducible rfl)
                  simp only [Act.put, List.setIfInBounds_toArray, List.set_cons_zero, List.set_cons_succ]
                  refine anyL_one 7 rfl (by kernel_rfl) (fun K hK => ?_)
                  go_simp
                  have hA := allocR hW0
                  refine hK.out _ _ (fun _ => hA.2.1) ?_
                  clear hK K
                  try simp only [Act.put, List.setIfInBounds_toArray, List.set_cons_zero, List.set_cons_succ]
                  refine fresh_anyC (fun W => SrAt W _ [] 0 ∧ Below wB.heap.size wB W ∧ wB.heap.size ≤ _) hA ?_
                  clear hA hW0
                  generalize U.heap.size = G
                  rintro U hA
                  have hW0 := hA.2.1
                  refine anyL_one 8 rfl (by kernel_rfl) (fun K hK => ?_)
                  refine step_storeS (L' := L ++ [X, Y]) (n' := 15) rfl _ _ rfl hA.1 rfl rfl hl2H.out ?_
                  intro w5 hS5 hg5
                  have hn := storedR hA hS5 hg5
                  refine hK.out _ _ (fun _ => hn.2.1) ?_
                  clear hK K hS5 hg5 hA hW0
                  try simp only [Act.put]
                  refine fresh_anyC (NewR wB G (L ++ [X, Y])) hn ?_
                  clear hn
                  rintro U9 hN9
                  refine anyL_one 9 rfl (by kernel_rfl) (fun K hK => ?_)
                  go_simp
                  refine hK.out _ _ (fun _ => hN9.2.1) ?_
                  clear hK K
                  try simp only [Act.put, List.setIfInBounds_toArray, List.set_cons_zero, List.set_cons_succ]
                  refine anyC_done (by kernel_rfl) ?_ _
                  go_wp2_with fail
                  go_meet
                  exact ⟨G, rfl, rfl, hN9⟩
                · go_simp
                  have hA := allocR hW0
                  refine hK.out _ _ (fun _ => hA.2.1) ?_
                  clear hK K
                  try simp only [Act.put, List.setIfInBounds_toArray, List.set_cons_zero, List.set_cons_succ]
                  refine fresh_anyC (fun W => SrAt W _ [] 0 ∧ Below wB.heap.size wB W ∧ wB.heap.size ≤ _) hA ?_
                  clear hA hW0
                  generalize U.heap.size = G
                  rintro U hA
                  have hW0 := hA.2.1
                  refine anyL_one 3 rfl (by kernel_rfl) (fun K hK => ?_)
                  go_simp
                  refine (caXY.out _).mono ?_
                  rintro e' v ⟨rfl, hp⟩
                  have hn : Below wB.heap.size wB v := hW0.trans (hp.mono hW0.size)
                  have hN := hA.1.below hp
                  refine hK.out _ _ (fun _ => hn) ?_
                  clear hK K
                  try simp only [Act.put, List.setIfInBounds_toArray, List.set_cons_zero, List.set_cons_succ]
                  refine fresh_anyC (fun W => SrAt W G [] 0 ∧ Below wB.heap.size wB W ∧ wB.heap.size ≤ G) ⟨hN, hn, hA.2.2⟩ ?_
                  clear hn hp hN hA hW0
                  rintro U hA
                  have hW0 := hA.2.1
                  refine anyL_take 4 (v := ?_) rfl (by kernel_rfl) (fun _ _ _ h => h) (Or.inl ⟨by rfl, ?_⟩) hW0 ?_
                  rotate_left
                  focus (intro W hW; go_simp; try with_reducible rfl)
                  simp only [Act.put, List.setIfInBounds_toArray, List.set_cons_zero, List.set_cons_succ]
                  refine anyL_take 5 (v := ?_) rfl (by kernel_rfl) (fun _ _ _ h => h) (Or.inl ⟨by rfl, ?_⟩) hW0 ?_
                  rotate_left
                  focus (intro W hW; go_simp; try with_reducible rfl)
                  simp only [Act.put, List.setIfInBounds_toArray, List.set_cons_zero, List.set_cons_succ]
                  refine anyL_take 6 (v := ?_) rfl (by kernel_rfl) (fun _ _ _ h => h) (Or.inl ⟨by rfl, ?_⟩) hW0 ?_
                  rotate_left
                  focus (intro W hW; go_simp; try with_reducible rfl)
                  simp only [Act.put, List.setIfInBounds_toArray, List.set_cons_zero, List.set_cons_succ]
                  refine anyL_one 8 rfl (by kernel_rfl) (fun K hK => ?_)
                  refine step_storeS (L' := L ++ [X, Y]) (n' := 15) rfl _ _ rfl hA.1 rfl rfl hl2H.out ?_
                  intro w5 hS5 hg5
                  have hn := storedR hA hS5 hg5
                  refine hK.out _ _ (fun _ => hn.2.1) ?_
                  clear hK K hS5 hg5 hA hW0
                  try simp only [Act.put]
                  refine fresh_anyC (NewR wB G (L ++ [X, Y])) hn ?_
                  clear hn
                  rintro U9 hN9
                  refine anyL_one 9 rfl (by kernel_rfl) (fun K hK => ?_)
                  go_simp
                  refine hK.out _ _ (fun _ => hN9.2.1) ?_
                  clear hK K
                  try simp only [Act.put, List.setIfInBounds_toArray, List.set_cons_zero, List.set_cons_succ]
                  refine anyC_done (by kernel_rfl) ?_ _
                  go_wp2_with fail
                  go_meet
                  exact ⟨G, rfl, rfl, hN9⟩
              · go_simp
                have hA := allocR hW0
                refine hK.out _ _ (fun _ => hA.2.1) ?_
                clear hK K
                try simp only [Act.put, List.setIfInBounds_toArray, List.set_cons_zero, List.set_cons_succ]
                refine fresh_anyC (fun W => SrAt W _ [] 0 ∧ Below wB.heap.size wB W ∧ wB.heap.size ≤ _) hA ?_
                clear hA hW0
                generalize U0.heap.size = G
                rintro U hA
                have hW0 := hA.2.1
                refine anyL_one 2 rfl (by kernel_rfl) (fun K hK => ?_)
                go_simp
                refine (hbb.out _).mono ?_
                rintro e' v ⟨rfl, hp⟩
                have hn : Below wB.heap.size wB v := hW0.trans (hp.mono hW0.size)
                have hN := hA.1.below hp
                refine hK.out _ _ (fun _ => hn) ?_
                clear hK K
                try simp only [Act.put, List.setIfInBounds_toArray, List.set_cons_zero, List.set_cons_succ]
                refine fresh_anyC (fun W => SrAt W G [] 0 ∧ Below wB.heap.size wB W ∧ wB.heap.size ≤ G) ⟨hN, hn, hA.2.2⟩ ?_
                clear hn hp hN hA hW0
                rintro U hA
                have hW0 := hA.2.1
                refine anyL_one 3 rfl (by kernel_rfl) (fun K hK => ?_)
                go_simp
                refine (caXY.out _).mono ?_
                rintro e' v ⟨rfl, hp⟩
                have hn : Below wB.heap.size wB v := hW0.trans (hp.mono hW0.size)
                have hN := hA.1.below hp
                refine hK.out _ _ (fun _ => hn) ?_
                clear hK K
                try simp only [Act.put, List.setIfInBounds_toArray, List.set_cons_zero, List.set_cons_succ]
                refine fresh_anyC (fun W => SrAt W G [] 0 ∧ Below wB.heap.size wB W ∧ wB.heap.size ≤ G) ⟨hN, hn, hA.2.2⟩ ?_
                clear hn hp hN hA hW0
                rintro U hA
                have hW0 := hA.2.1
                refine anyL_take 4 (v := ?_) rfl (by kernel_rfl) (fun _ _ _ h => h) (Or.inl ⟨by rfl, ?_⟩) hW0 ?_
                rotate_left
                focus (intro W hW; go_simp; try with_reducible rfl)
                simp only [Act.put, List.setIfInBounds_toArray, List.set_cons_zero, List.set_cons_succ]
                refine anyL_take 5 (v := ?_) rfl (by kernel_rfl) (fun _ _ _ h => h) (Or.inl ⟨by rfl, ?_⟩) hW0 ?_
                rotate_left
                focus (intro W hW; go_simp; try with_reducible rfl)
                simp only [Act.put, List.setIfInBounds_toArray, List.set_cons_zero, List.set_cons_succ]
                refine anyL_take 6 (v := ?_) rfl (by kernel_rfl) (fun _ _ _ h => h) (Or.inl ⟨by rfl, ?_⟩) hW0 ?_
                rotate_left
                focus (intro W hW; go_simp; try with_reducible rfl)
                simp only [Act.put, List.setIfInBounds_toArray, List.set_cons_zero, List.set_cons_succ]
                refine anyL_one 8 rfl (by kernel_rfl) (fun K hK => ?_)
                refine step_storeS (L' := L ++ [X, Y]) (n' := 15) rfl _ _ rfl hA.1 rfl rfl hl2H.out ?_
                intro w5 hS5 hg5
                have hn := storedR hA hS5 hg5
                refine hK.out _ _ (fun _ => hn.2.1) ?_
                clear hK K hS5 hg5 hA hW0
                try simp only [Act.put]
                refine fresh_anyC (NewR wB G (L ++ [X, Y])) hn ?_
                clear hn
                rintro U9 hN9
                refine anyL_one 9 rfl (by kernel_rfl) (fun K hK => ?_)
                go_simp
                refine hK.out _ _ (fun _ => hN9.2.1) ?_
                clear hK K
                try simp only [Act.put, List.setIfInBounds_toArray, List.set_cons_zero, List.set_cons_succ]
                refine anyC_done (by kernel_rfl) ?_ _
                go_wp2_with fail
                go_meet
                exact ⟨G, rfl, rfl, hN9⟩
            case rest =>
              obtain ⟨G3, rfl, rfl, hN3⟩ := hcut
              have hF : BrF w g G1 G2 G3 L X Y wc := ⟨(SpW.below hWB.out hN3.2.1).1, hG1B.out.below hN3.2.1, hG2.out.below hN3.2.1, hN3.1, (SpW.below hWB.out hN3.2.1).2.1⟩
              have hF0 := Lib.hid hF
              clear hN3 hF hWB hG1B hG2 caXY
              have hli : L.length = i := hlbH.out
              have ccL := Lib.hid (fun W => (show Calls Try.prog 14 #[rowV L 15] W fun e w' => e = .returned (.int .i64 (i : Int)) ∧ Below W.heap.size W w' from by have := cc.out W L (by omega); rwa [hli] at this))
              have ccX := Lib.hid (fun W => (show Calls Try.prog 14 #[rowV (L ++ [X]) 15] W fun e w' => e = .returned (.int .i64 ((i : Int) + 1)) ∧ Below W.heap.size W w' from by have := cc.out W (L ++ [X]) (by simp; omega); rwa [List.length_append, hli] at this))
              have ccZ := Lib.hid (fun W => (show Calls Try.prog 14 #[rowV (L ++ [X, Y]) 15] W fun e w' => e = .returned (.int .i64 ((i : Int) + 2)) ∧ Below W.heap.size W w' from by have := cc.out W (L ++ [X, Y]) (by simp; omega); rw [List.length_append, hli] at this; exact this))
              have eX : elV (L ++ [X]) (i : Int) = X ∧ elB (L ++ [X]) (i : Int) = true := by
                obtain ⟨e1, e2⟩ := elB_in (ps := L ++ [X]) (k := i) (by simp; omega)
                exact ⟨by rw [e1]; subst hli; simp, e2⟩
              have eY : elV (L ++ [Y]) (i : Int) = Y ∧ elB (L ++ [Y]) (i : Int) = true := by
                obtain ⟨e1, e2⟩ := elB_in (ps := L ++ [Y]) (k := i) (by simp; omega)
                exact ⟨by rw [e1]; subst hli; simp, e2⟩
              have eZ : elV (L ++ [X, Y]) (i : Int) = X ∧ elB (L ++ [X, Y]) (i : Int) = true := by
                obtain ⟨e1, e2⟩ := elB_in (ps := L ++ [X, Y]) (k := i) (by simp; omega)
                refine ⟨?_, e2⟩
                rw [e1]
                subst hli
                simp
              have kX := fun W => ck.out W (L ++ [X]) (i : Int) (by simp; omega)
              have kY := fun W => ck.out W (L ++ [Y]) (i : Int) (by simp; omega)
              have kZ := fun W => ck.out W (L ++ [X, Y]) (i : Int) (by simp; omega)
              rw [eX.1, eX.2] at kX
              rw [eY.1, eY.2] at kY
              rw [eZ.1, eZ.2] at kZ
              have kXH := Lib.hid kX
              have kYH := Lib.hid kY
              have kZH := Lib.hid kZ
              have w1' : IntKind.i64.wrap ((i : Int) + 1) = (i : Int) + 1 := IntWalk.i64_in _ (by omega)
              have w2' : IntKind.i64.wrap ((i : Int) + 2) = (i : Int) + 2 := IntWalk.i64_in _ (by omega)
              clear eX eY eZ kX kY kZ cc ck hli hl1H hl1yH hl2H hlbH
              go_wp2_with (refine wpList_loadS rfl _ rfl hF0.out.r1 rfl ?_)
              (with_reducible refine (kXH.out _).mono ?_)
              rintro e v0 ⟨rfl, hb⟩
              have hF1 := Lib.hid (hF0.out.below hb)
              clear hb hF0
              go_wp2_with (refine wpList_loadS rfl _ rfl hF1.out.r2 rfl ?_)
              (with_reducible refine (kYH.out _).mono ?_)
              rintro e v1 ⟨rfl, hb⟩
              have hF2 := Lib.hid (hF1.out.below hb)
              clear hb hF1
              go_wp2_with (refine wpList_loadS rfl _ rfl hF2.out.r3 rfl ?_)
              (with_reducible refine (kZH.out _).mono ?_)
              rintro e v2 ⟨rfl, hb⟩
              have hF3 := Lib.hid (hF2.out.below hb)
              clear hb hF2
              go_wp2_with (refine wpList_loadS rfl _ rfl hF3.out.r0 rfl ?_)
              (with_reducible refine (ccL.out _).mono ?_)
              rintro e v3 ⟨rfl, hb⟩
              have hF4 := Lib.hid (hF3.out.below hb)
              clear hb hF3
              go_wp2_with (refine wpList_loadS rfl _ rfl hF4.out.r1 rfl ?_)
              (with_reducible refine (ccX.out _).mono ?_)
              rintro e v4 ⟨rfl, hb⟩
              have hF5 := Lib.hid (hF4.out.below hb)
              clear hb hF4
              go_wp2_with (refine wpList_loadS rfl _ rfl hF5.out.r3 rfl ?_)
              (with_reducible refine (ccZ.out _).mono ?_)
              rintro e v5 ⟨rfl, hb⟩
              have hF6 := Lib.hid (hF5.out.below hb)
              clear hb hF5
              go_wp2_with (fail)
              (with_reducible refine (hba.out _).mono ?_)
              rintro e v6 ⟨rfl, hb⟩
              have hF7 := Lib.hid (hF6.out.below hb)
              clear hb hF6
              go_wp2_with (fail)
              (with_reducible refine (hbb.out _).mono ?_)
              rintro e v7 ⟨rfl, hb⟩
              have hF9 := Lib.hid (hF7.out.below hb)
              clear hb hF7
              go_wp2
              go_ret
              exact ⟨rfl, hF9.out.bw⟩
      · have g1 : decide ((i : Int) < (ps.length : Int)) = false := decide_eq_false (by omega)
        clear hlt
        have hWH := Lib.hid hW
        have hlbH := Lib.hid hlb
        have cc := Lib.hid (fun W L (h : L.length ≤ 15) => count_anyS L 15 W h)
        have ck := Lib.hid (fun W L (k : Int) (h : L.length ≤ 15) => block_anyS L 15 k W h)
        have caX := Lib.hid (fun W => addS_any (blks ps i) 15 X W (by omega) h64a (by omega))
        have caY := Lib.hid (fun W => addS_any (blks ps i) 15 Y W (by omega) h64b (by omega))
        have hl1 : (blks ps i ++ [X]).length ≤ 15 := by rw [List.length_append, hlb]; simp; omega
        have hl1y : (blks ps i ++ [Y]).length ≤ 15 := by rw [List.length_append, hlb]; simp; omega
        have hl2 : (blks ps i ++ [X, Y]).length ≤ 15 := by simp [hlb]; omega
        have caXY := Lib.hid (fun W => (show Calls Try.prog 17 #[rowV (blks ps i ++ [X]) 15, .string Y] W fun e w' => e = .returned (.tuple #[rowV (blks ps i ++ [X, Y]) 15, .int .i64 0]) ∧ Below W.heap.size W w' from by have := addS_any (blks ps i ++ [X]) 15 Y W (by simp [hlb]; omega) h64b (by simp [hlb]; omega); rwa [List.append_assoc] at this))
        have hl1H := Lib.hid hl1
        have hl1yH := Lib.hid hl1y
        have hl2H := Lib.hid hl2
        obtain ⟨L, hL⟩ : ∃ L, blks ps i = L := ⟨_, rfl⟩
        rw [hL] at hlbH caX caY caXY hl1H hl1yH hl2H
        have hWL : SpW w g L 15 wr := by rw [← hL]; exact hW
        have hWLH := Lib.hid hWL
        clear hWL hWH hW hlb hl1 hl1y hl2 hL hSH hzH h64a h64b hi
        go_wp2_with (refine wpList_loadS rfl _ rfl hWLH.out.1 rfl ?_)
        (with_reducible refine (cc.out _ _ (by rw [hlbH.out]; omega)).mono ?_)
        rintro e v1 ⟨rfl, hb1⟩
        rw [hlbH.out]
        have hW1 := Lib.hid (hWLH.out.below hb1)
        clear hWLH hb1
        go_upto_region 9 with fail
        refine fresh_world (SpW w g L 15) hW1.out ?_
        clear hW1
        rintro w9 hW
        have hW9 := Lib.hid hW
        clear hW
        go_cut [11, 12] from 51 to 57 (fun s11 s12 wx => ∃ G, s11 = .pointer (some ⟨G, 0, none⟩) ∧ s12 = .int .i64 0 ∧ NewR w9 G (L ++ [X]) wx)
        case first =>
          have hW0 : Below w9.heap.size w9 w9.drew := (Below.refl _ _).drew
          refine region_anyC (fun _ => true) (fun W => Below w9.heap.size w9 W) (by kernel_rfl) ?_
          refine anyL_take 0 (v := ?_) rfl (by kernel_rfl) (fun _ _ _ h => h) (Or.inl ⟨by rfl, ?_⟩) hW0 ?_
          rotate_left
          focus (intro W hW; refine run_loadS (.tmp 7) ?_ (hW9.out.1.below hW) ?_ <;> rfl)
          simp only [Act.put, List.setIfInBounds_toArray, List.set_cons_zero, List.set_cons_succ]
          refine anyL_take 1 (v := ?_) rfl (by kernel_rfl) (fun _ _ _ h => h) (Or.inl ⟨by rfl, ?_⟩) hW0 ?_
          rotate_left
          focus (intro W hW; go_simp; try with_reducible rfl)
          simp only [Act.put, List.setIfInBounds_toArray, List.set_cons_zero, List.set_cons_succ]
          refine fresh_anyC (fun W => Below w9.heap.size w9 W) hW0 ?_
          clear hW0
          rintro U0 hW0
          refine anyL_two 2 7 rfl rfl (by kernel_rfl) (fun K hK => ?_) (fun K hK => ?_)
          · go_simp
            refine (hba.out _).mono ?_
            rintro e' v ⟨rfl, hp⟩
            have hn : Below w9.heap.size w9 v := hW0.trans (hp.mono hW0.size)
            refine hK.out _ _ (fun _ => hn) ?_
            clear hK K
            try simp only [Act.put, List.setIfInBounds_toArray, List.set_cons_zero, List.set_cons_succ]
            refine fresh_anyC (fun W => Below w9.heap.size w9 W) hn ?_
            clear hn hp hW0
            rintro U hW0
            refine anyL_two 3 7 rfl rfl (by kernel_rfl) (fun K hK => ?_) (fun K hK => ?_)
            · go_simp
              refine (caX.out _).mono ?_
              rintro e' v ⟨rfl, hp⟩
              have hn : Below w9.heap.size w9 v := hW0.trans (hp.mono hW0.size)
              refine hK.out _ _ (fun _ => hn) ?_
              clear hK K
              try simp only [Act.put, List.setIfInBounds_toArray, List.set_cons_zero, List.set_cons_succ]
              refine fresh_anyC (fun W => Below w9.heap.size w9 W) hn ?_
              clear hn hp hW0
              rintro U hW0
              refine anyL_take 4 (v := ?_) rfl (by kernel_rfl) (fun _ _ _ h => h) (Or.inl ⟨by rfl, ?_⟩) hW0 ?_
              rotate_left
              focus (intro W hW; go_simp; try with_reducible rfl)
              simp only [Act.put, List.setIfInBounds_toArray, List.set_cons_zero, List.set_cons_succ]
              refine anyL_take 5 (v := ?_) rfl (by kernel_rfl) (fun _ _ _ h => h) (Or.inl ⟨by rfl, ?_⟩) hW0 ?_
              rotate_left
              focus (intro W hW; go_simp; try with_reducible rfl)
              simp only [Act.put, List.setIfInBounds_toArray, List.set_cons_zero, List.set_cons_succ]
              refine anyL_take 6 (v := ?_) rfl (by kernel_rfl) (fun _ _ _ h => h) (Or.inl ⟨by rfl, ?_⟩) hW0 ?_
              rotate_left
              focus (intro W hW; go_simp; try with_reducible rfl)
              simp only [Act.put, List.setIfInBounds_toArray, List.set_cons_zero, List.set_cons_succ]
              refine anyL_one 7 rfl (by kernel_rfl) (fun K hK => ?_)
              go_simp
              have hA := allocR hW0
              refine hK.out _ _ (fun _ => hA.2.1) ?_
              clear hK K
              try simp only [Act.put, List.setIfInBounds_toArray, List.set_cons_zero, List.set_cons_succ]
              refine fresh_anyC (fun W => SrAt W _ [] 0 ∧ Below w9.heap.size w9 W ∧ w9.heap.size ≤ _) hA ?_
              clear hA hW0
              generalize U.heap.size = G
              rintro U hA
              have hW0 := hA.2.1
              refine anyL_one 8 rfl (by kernel_rfl) (fun K hK => ?_)
              refine step_storeS (L' := L ++ [X]) (n' := 15) rfl _ _ rfl hA.1 rfl rfl hl1H.out ?_
              intro w5 hS5 hg5
              have hn := storedR hA hS5 hg5
              refine hK.out _ _ (fun _ => hn.2.1) ?_
              clear hK K hS5 hg5 hA hW0
              try simp only [Act.put]
              refine fresh_anyC (NewR w9 G (L ++ [X])) hn ?_
              clear hn
              rintro U9 hN9
              refine anyL_one 9 rfl (by kernel_rfl) (fun K hK => ?_)
              go_simp
              refine hK.out _ _ (fun _ => hN9.2.1) ?_
              clear hK K
              try simp only [Act.put, List.setIfInBounds_toArray, List.set_cons_zero, List.set_cons_succ]
              refine anyC_done (by kernel_rfl) ?_ _
              go_wp2_with fail
              go_meet
              exact ⟨G, rfl, rfl, hN9⟩
            · go_simp
              have hA := allocR hW0
              refine hK.out _ _ (fun _ => hA.2.1) ?_
              clear hK K
              try simp only [Act.put, List.setIfInBounds_toArray, List.set_cons_zero, List.set_cons_succ]
              refine fresh_anyC (fun W => SrAt W _ [] 0 ∧ Below w9.heap.size w9 W ∧ w9.heap.size ≤ _) hA ?_
              clear hA hW0
              generalize U.heap.size = G
              rintro U hA
              have hW0 := hA.2.1
              refine anyL_one 3 rfl (by kernel_rfl) (fun K hK => ?_)
              go_simp
              refine (caX.out _).mono ?_
              rintro e' v ⟨rfl, hp⟩
              have hn : Below w9.heap.size w9 v := hW0.trans (hp.mono hW0.size)
              have hN := hA.1.below hp
              refine hK.out _ _ (fun _ => hn) ?_
              clear hK K
              try simp only [Act.put, List.setIfInBounds_toArray, List.set_cons_zero, List.set_cons_succ]
              refine fresh_anyC (fun W => SrAt W G [] 0 ∧ Below w9.heap.size w9 W ∧ w9.heap.size ≤ G) ⟨hN, hn, hA.2.2⟩ ?_
              clear hn hp hN hA hW0
              rintro U hA
              have hW0 := hA.2.1
              refine anyL_take 4 (v := ?_) rfl (by kernel_rfl) (fun _ _ _ h => h) (Or.inl ⟨by rfl, ?_⟩) hW0 ?_
              rotate_left
              focus (intro W hW; go_simp; try with_reducible rfl)
              simp only [Act.put, List.setIfInBounds_toArray, List.set_cons_zero, List.set_cons_succ]
              refine anyL_take 5 (v := ?_) rfl (by kernel_rfl) (fun _ _ _ h => h) (Or.inl ⟨by rfl, ?_⟩) hW0 ?_
              rotate_left
              focus (intro W hW; go_simp; try with_reducible rfl)
              simp only [Act.put, List.setIfInBounds_toArray, List.set_cons_zero, List.set_cons_succ]
              refine anyL_take 6 (v := ?_) rfl (by kernel_rfl) (fun _ _ _ h => h) (Or.inl ⟨by rfl, ?_⟩) hW0 ?_
              rotate_left
              focus (intro W hW; go_simp; try with_reducible rfl)
              simp only [Act.put, List.setIfInBounds_toArray, List.set_cons_zero, List.set_cons_succ]
              refine anyL_one 8 rfl (by kernel_rfl) (fun K hK => ?_)
              refine step_storeS (L' := L ++ [X]) (n' := 15) rfl _ _ rfl hA.1 rfl rfl hl1H.out ?_
              intro w5 hS5 hg5
              have hn := storedR hA hS5 hg5
              refine hK.out _ _ (fun _ => hn.2.1) ?_
              clear hK K hS5 hg5 hA hW0
              try simp only [Act.put]
              refine fresh_anyC (NewR w9 G (L ++ [X])) hn ?_
              clear hn
              rintro U9 hN9
              refine anyL_one 9 rfl (by kernel_rfl) (fun K hK => ?_)
              go_simp
              refine hK.out _ _ (fun _ => hN9.2.1) ?_
              clear hK K
              try simp only [Act.put, List.setIfInBounds_toArray, List.set_cons_zero, List.set_cons_succ]
              refine anyC_done (by kernel_rfl) ?_ _
              go_wp2_with fail
              go_meet
              exact ⟨G, rfl, rfl, hN9⟩
          · go_simp
            have hA := allocR hW0
            refine hK.out _ _ (fun _ => hA.2.1) ?_
            clear hK K
            try simp only [Act.put, List.setIfInBounds_toArray, List.set_cons_zero, List.set_cons_succ]
            refine fresh_anyC (fun W => SrAt W _ [] 0 ∧ Below w9.heap.size w9 W ∧ w9.heap.size ≤ _) hA ?_
            clear hA hW0
            generalize U0.heap.size = G
            rintro U hA
            have hW0 := hA.2.1
            refine anyL_one 2 rfl (by kernel_rfl) (fun K hK => ?_)
            go_simp
            refine (hba.out _).mono ?_
            rintro e' v ⟨rfl, hp⟩
            have hn : Below w9.heap.size w9 v := hW0.trans (hp.mono hW0.size)
            have hN := hA.1.below hp
            refine hK.out _ _ (fun _ => hn) ?_
            clear hK K
            try simp only [Act.put, List.setIfInBounds_toArray, List.set_cons_zero, List.set_cons_succ]
            refine fresh_anyC (fun W => SrAt W G [] 0 ∧ Below w9.heap.size w9 W ∧ w9.heap.size ≤ G) ⟨hN, hn, hA.2.2⟩ ?_
            clear hn hp hN hA hW0
            rintro U hA
            have hW0 := hA.2.1
            refine anyL_one 3 rfl (by kernel_rfl) (fun K hK => ?_)
            go_simp
            refine (caX.out _).mono ?_
            rintro e' v ⟨rfl, hp⟩
            have hn : Below w9.heap.size w9 v := hW0.trans (hp.mono hW0.size)
            have hN := hA.1.below hp
            refine hK.out _ _ (fun _ => hn) ?_
            clear hK K
            try simp only [Act.put, List.setIfInBounds_toArray, List.set_cons_zero, List.set_cons_succ]
            refine fresh_anyC (fun W => SrAt W G [] 0 ∧ Below w9.heap.size w9 W ∧ w9.heap.size ≤ G) ⟨hN, hn, hA.2.2⟩ ?_
            clear hn hp hN hA hW0
            rintro U hA
            have hW0 := hA.2.1
            refine anyL_take 4 (v := ?_) rfl (by kernel_rfl) (fun _ _ _ h => h) (Or.inl ⟨by rfl, ?_⟩) hW0 ?_
            rotate_left
            focus (intro W hW; go_simp; try with_reducible rfl)
            simp only [Act.put, List.setIfInBounds_toArray, List.set_cons_zero, List.set_cons_succ]
            refine anyL_take 5 (v := ?_) rfl (by kernel_rfl) (fun _ _ _ h => h) (Or.inl ⟨by rfl, ?_⟩) hW0 ?_
            rotate_left
            focus (intro W hW; go_simp; try with_reducible rfl)
            simp only [Act.put, List.setIfInBounds_toArray, List.set_cons_zero, List.set_cons_succ]
            refine anyL_take 6 (v := ?_) rfl (by kernel_rfl) (fun _ _ _ h => h) (Or.inl ⟨by rfl, ?_⟩) hW0 ?_
            rotate_left
            focus (intro W hW; go_simp; try with_reducible rfl)
            simp only [Act.put, List.setIfInBounds_toArray, List.set_cons_zero, List.set_cons_succ]
            refine anyL_one 8 rfl (by kernel_rfl) (fun K hK => ?_)
            refine step_storeS (L' := L ++ [X]) (n' := 15) rfl _ _ rfl hA.1 rfl rfl hl1H.out ?_
            intro w5 hS5 hg5
            have hn := storedR hA hS5 hg5
            refine hK.out _ _ (fun _ => hn.2.1) ?_
            clear hK K hS5 hg5 hA hW0
            try simp only [Act.put]
            refine fresh_anyC (NewR w9 G (L ++ [X])) hn ?_
            clear hn
            rintro U9 hN9
            refine anyL_one 9 rfl (by kernel_rfl) (fun K hK => ?_)
            go_simp
            refine hK.out _ _ (fun _ => hN9.2.1) ?_
            clear hK K
            try simp only [Act.put, List.setIfInBounds_toArray, List.set_cons_zero, List.set_cons_succ]
            refine anyC_done (by kernel_rfl) ?_ _
            go_wp2_with fail
            go_meet
            exact ⟨G, rfl, rfl, hN9⟩
        case rest =>
          obtain ⟨G1, rfl, rfl, hN1⟩ := hcut
          obtain ⟨wA, rfl⟩ : ∃ wA, wA = wc := ⟨_, rfl⟩
          have hWA := Lib.hid (SpW.below hW9.out hN1.2.1)
          have hG1 := Lib.hid hN1.1
          clear hN1 hW9
          go_upto_region 10 with fail
          go_cut [13, 14] from 58 to 64 (fun s13 s14 wx => ∃ G, s13 = .pointer (some ⟨G, 0, none⟩) ∧ s14 = .int .i64 0 ∧ NewR wA G (L ++ [Y]) wx)
          case first =>
            have hW0 : Below wA.heap.size wA wA.drew := (Below.refl _ _).drew
            refine region_anyC (fun _ => true) (fun W => Below wA.heap.size wA W) (by kernel_rfl) ?_
            refine anyL_take 0 (v := ?_) rfl (by kernel_rfl) (fun _ _ _ h => h) (Or.inl ⟨by rfl, ?_⟩) hW0 ?_
            rotate_left
            focus (intro W hW; refine run_loadS (.tmp 7) ?_ ((SpW.below hWA.out hW).1) ?_ <;> rfl)
            simp only [Act.put, List.setIfInBounds_toArray, List.set_cons_zero, List.set_cons_succ]
            refine anyL_take 1 (v := ?_) rfl (by kernel_rfl) (fun _ _ _ h => h) (Or.inl ⟨by rfl, ?_⟩) hW0 ?_
            rotate_left
            focus (intro W hW; go_simp; try with_reducible rfl)
            simp only [Act.put, List.setIfInBounds_toArray, List.set_cons_zero, List.set_cons_succ]
            refine fresh_anyC (fun W => Below wA.heap.size wA W) hW0 ?_
            clear hW0
            rintro U0 hW0
            refine anyL_two 2 7 rfl rfl (by kernel_rfl) (fun K hK => ?_) (fun K hK => ?_)
            · go_simp
              refine (hbb.out _).mono ?_
              rintro e' v ⟨rfl, hp⟩
              have hn : Below wA.heap.size wA v := hW0.trans (hp.mono hW0.size)
              refine hK.out _ _ (fun _ => hn) ?_
              clear hK K
              try simp only [Act.put, List.setIfInBounds_toArray, List.set_cons_zero, List.set_cons_succ]
              refine fresh_anyC (fun W => Below wA.heap.size wA W) hn ?_
              clear hn hp hW0
              rintro U hW0
              refine anyL_two 3 7 rfl rfl (by kernel_rfl) (fun K hK => ?_) (fun K hK => ?_)
              · go_simp
                refine (caY.out _).mono ?_
                rintro e' v ⟨rfl, hp⟩
                have hn : Below wA.heap.size wA v := hW0.trans (hp.mono hW0.size)
                refine hK.out _ _ (fun _ => hn) ?_
                clear hK K
                try simp only [Act.put, List.setIfInBounds_toArray, List.set_cons_zero, List.set_cons_succ]
                refine fresh_anyC (fun W => Below wA.heap.size wA W) hn ?_
                clear hn hp hW0
                rintro U hW0
                refine anyL_take 4 (v := ?_) rfl (by kernel_rfl) (fun _ _ _ h => h) (Or.inl ⟨by rfl, ?_⟩) hW0 ?_
                rotate_left
                focus (intro W hW; go_simp; try with_reducible rfl)
                simp only [Act.put, List.setIfInBounds_toArray, List.set_cons_zero, List.set_cons_succ]
                refine anyL_take 5 (v := ?_) rfl (by kernel_rfl) (fun _ _ _ h => h) (Or.inl ⟨by rfl, ?_⟩) hW0 ?_
                rotate_left
                focus (intro W hW; go_simp; try with_reducible rfl)
                simp only [Act.put, List.setIfInBounds_toArray, List.set_cons_zero, List.set_cons_succ]
                refine anyL_take 6 (v := ?_) rfl (by kernel_rfl) (fun _ _ _ h => h) (Or.inl ⟨by rfl, ?_⟩) hW0 ?_
                rotate_left
                focus (intro W hW; go_simp; try with_reducible rfl)
                simp only [Act.put, List.setIfInBounds_toArray, List.set_cons_zero, List.set_cons_succ]
                refine anyL_one 7 rfl (by kernel_rfl) (fun K hK => ?_)
                go_simp
                have hA := allocR hW0
                refine hK.out _ _ (fun _ => hA.2.1) ?_
                clear hK K
                try simp only [Act.put, List.setIfInBounds_toArray, List.set_cons_zero, List.set_cons_succ]
                refine fresh_anyC (fun W => SrAt W _ [] 0 ∧ Below wA.heap.size wA W ∧ wA.heap.size ≤ _) hA ?_
                clear hA hW0
                generalize U.heap.size = G
                rintro U hA
                have hW0 := hA.2.1
                refine anyL_one 8 rfl (by kernel_rfl) (fun K hK => ?_)
                refine step_storeS (L' := L ++ [Y]) (n' := 15) rfl _ _ rfl hA.1 rfl rfl hl1yH.out ?_
                intro w5 hS5 hg5
                have hn := storedR hA hS5 hg5
                refine hK.out _ _ (fun _ => hn.2.1) ?_
                clear hK K hS5 hg5 hA hW0
                try simp only [Act.put]
                refine fresh_anyC (NewR wA G (L ++ [Y])) hn ?_
                clear hn
                rintro U9 hN9
                refine anyL_one 9 rfl (by kernel_rfl) (fun K hK => ?_)
                go_simp
                refine hK.out _ _ (fun _ => hN9.2.1) ?_
                clear hK K
                try simp only [Act.put, List.setIfInBounds_toArray, List.set_cons_zero, List.set_cons_succ]
                refine anyC_done (by kernel_rfl) ?_ _
                go_wp2_with fail
                go_meet
                exact ⟨G, rfl, rfl, hN9⟩
              · go_simp
                have hA := allocR hW0
                refine hK.out _ _ (fun _ => hA.2.1) ?_
                clear hK K
                try simp only [Act.put, List.setIfInBounds_toArray, List.set_cons_zero, List.set_cons_succ]
                refine fresh_anyC (fun W => SrAt W _ [] 0 ∧ Below wA.heap.size wA W ∧ wA.heap.size ≤ _) hA ?_
                clear hA hW0
                generalize U.heap.size = G
                rintro U hA
                have hW0 := hA.2.1
                refine anyL_one 3 rfl (by kernel_rfl) (fun K hK => ?_)
                go_simp
                refine (caY.out _).mono ?_
                rintro e' v ⟨rfl, hp⟩
                have hn : Below wA.heap.size wA v := hW0.trans (hp.mono hW0.size)
                have hN := hA.1.below hp
                refine hK.out _ _ (fun _ => hn) ?_
                clear hK K
                try simp only [Act.put, List.setIfInBounds_toArray, List.set_cons_zero, List.set_cons_succ]
                refine fresh_anyC (fun W => SrAt W G [] 0 ∧ Below wA.heap.size wA W ∧ wA.heap.size ≤ G) ⟨hN, hn, hA.2.2⟩ ?_
                clear hn hp hN hA hW0
                rintro U hA
                have hW0 := hA.2.1
                refine anyL_take 4 (v := ?_) rfl (by kernel_rfl) (fun _ _ _ h => h) (Or.inl ⟨by rfl, ?_⟩) hW0 ?_
                rotate_left
                focus (intro W hW; go_simp; try with_reducible rfl)
                simp only [Act.put, List.setIfInBounds_toArray, List.set_cons_zero, List.set_cons_succ]
                refine anyL_take 5 (v := ?_) rfl (by kernel_rfl) (fun _ _ _ h => h) (Or.inl ⟨by rfl, ?_⟩) hW0 ?_
                rotate_left
                focus (intro W hW; go_simp; try with_reducible rfl)
                simp only [Act.put, List.setIfInBounds_toArray, List.set_cons_zero, List.set_cons_succ]
                refine anyL_take 6 (v := ?_) rfl (by kernel_rfl) (fun _ _ _ h => h) (Or.inl ⟨by rfl, ?_⟩) hW0 ?_
                rotate_left
                focus (intro W hW; go_simp; try with_reducible rfl)
                simp only [Act.put, List.setIfInBounds_toArray, List.set_cons_zero, List.set_cons_succ]
                refine anyL_one 8 rfl (by kernel_rfl) (fun K hK => ?_)
                refine step_storeS (L' := L ++ [Y]) (n' := 15) rfl _ _ rfl hA.1 rfl rfl hl1yH.out ?_
                intro w5 hS5 hg5
                have hn := storedR hA hS5 hg5
                refine hK.out _ _ (fun _ => hn.2.1) ?_
                clear hK K hS5 hg5 hA hW0
                try simp only [Act.put]
                refine fresh_anyC (NewR wA G (L ++ [Y])) hn ?_
                clear hn
                rintro U9 hN9
                refine anyL_one 9 rfl (by kernel_rfl) (fun K hK => ?_)
                go_simp
                refine hK.out _ _ (fun _ => hN9.2.1) ?_
                clear hK K
                try simp only [Act.put, List.setIfInBounds_toArray, List.set_cons_zero, List.set_cons_succ]
                refine anyC_done (by kernel_rfl) ?_ _
                go_wp2_with fail
                go_meet
                exact ⟨G, rfl, rfl, hN9⟩
            · go_simp
              have hA := allocR hW0
              refine hK.out _ _ (fun _ => hA.2.1) ?_
              clear hK K
              try simp only [Act.put, List.setIfInBounds_toArray, List.set_cons_zero, List.set_cons_succ]
              refine fresh_anyC (fun W => SrAt W _ [] 0 ∧ Below wA.heap.size wA W ∧ wA.heap.size ≤ _) hA ?_
              clear hA hW0
              generalize U0.heap.size = G
              rintro U hA
              have hW0 := hA.2.1
              refine anyL_one 2 rfl (by kernel_rfl) (fun K hK => ?_)
              go_simp
              refine (hbb.out _).mono ?_
              rintro e' v ⟨rfl, hp⟩
              have hn : Below wA.heap.size wA v := hW0.trans (hp.mono hW0.size)
              have hN := hA.1.below hp
              refine hK.out _ _ (fun _ => hn) ?_
              clear hK K
              try simp only [Act.put, List.setIfInBounds_toArray, List.set_cons_zero, List.set_cons_succ]
              refine fresh_anyC (fun W => SrAt W G [] 0 ∧ Below wA.heap.size wA W ∧ wA.heap.size ≤ G) ⟨hN, hn, hA.2.2⟩ ?_
              clear hn hp hN hA hW0
              rintro U hA
              have hW0 := hA.2.1
              refine anyL_one 3 rfl (by kernel_rfl) (fun K hK => ?_)
              go_simp
              refine (caY.out _).mono ?_
              rintro e' v ⟨rfl, hp⟩
              have hn : Below wA.heap.size wA v := hW0.trans (hp.mono hW0.size)
              have hN := hA.1.below hp
              refine hK.out _ _ (fun _ => hn) ?_
              clear hK K
              try simp only [Act.put, List.setIfInBounds_toArray, List.set_cons_zero, List.set_cons_succ]
              refine fresh_anyC (fun W => SrAt W G [] 0 ∧ Below wA.heap.size wA W ∧ wA.heap.size ≤ G) ⟨hN, hn, hA.2.2⟩ ?_
              clear hn hp hN hA hW0
              rintro U hA
              have hW0 := hA.2.1
              refine anyL_take 4 (v := ?_) rfl (by kernel_rfl) (fun _ _ _ h => h) (Or.inl ⟨by rfl, ?_⟩) hW0 ?_
              rotate_left
              focus (intro W hW; go_simp; try with_reducible rfl)
              simp only [Act.put, List.setIfInBounds_toArray, List.set_cons_zero, List.set_cons_succ]
              refine anyL_take 5 (v := ?_) rfl (by kernel_rfl) (fun _ _ _ h => h) (Or.inl ⟨by rfl, ?_⟩) hW0 ?_
              rotate_left
              focus (intro W hW; go_simp; try with_reducible rfl)
              simp only [Act.put, List.setIfInBounds_toArray, List.set_cons_zero, List.set_cons_succ]
              refine anyL_take 6 (v := ?_) rfl (by kernel_rfl) (fun _ _ _ h => h) (Or.inl ⟨by rfl, ?_⟩) hW0 ?_
              rotate_left
              focus (intro W hW; go_simp; try with_reducible rfl)
              simp only [Act.put, List.setIfInBounds_toArray, List.set_cons_zero, List.set_cons_succ]
              refine anyL_one 8 rfl (by kernel_rfl) (fun K hK => ?_)
              refine step_storeS (L' := L ++ [Y]) (n' := 15) rfl _ _ rfl hA.1 rfl rfl hl1yH.out ?_
              intro w5 hS5 hg5
              have hn := storedR hA hS5 hg5
              refine hK.out _ _ (fun _ => hn.2.1) ?_
              clear hK K hS5 hg5 hA hW0
              try simp only [Act.put]
              refine fresh_anyC (NewR wA G (L ++ [Y])) hn ?_
              clear hn
              rintro U9 hN9
              refine anyL_one 9 rfl (by kernel_rfl) (fun K hK => ?_)
              go_simp
              refine hK.out _ _ (fun _ => hN9.2.1) ?_
              clear hK K
              try simp only [Act.put, List.setIfInBounds_toArray, List.set_cons_zero, List.set_cons_succ]
              refine anyC_done (by kernel_rfl) ?_ _
              go_wp2_with fail
              go_meet
              exact ⟨G, rfl, rfl, hN9⟩
          case rest =>
            obtain ⟨G2, rfl, rfl, hN2⟩ := hcut
            obtain ⟨wB, rfl⟩ : ∃ wB, wB = wc := ⟨_, rfl⟩
            have hWB := Lib.hid (SpW.below hWA.out hN2.2.1)
            have hG1B := Lib.hid (hG1.out.below (hN2.2.1.mono (Nat.le_refl _)))
            have hG2 := Lib.hid hN2.1
            clear hN2 hWA hG1 caX caY
            go_upto_region 11 with fail
            go_cut [15, 16] from 65 to 71 (fun s15 s16 wx => ∃ G, s15 = .pointer (some ⟨G, 0, none⟩) ∧ s16 = .int .i64 0 ∧ NewR wB G (L ++ [X, Y]) wx)
            case first =>
              have hW0 : Below wB.heap.size wB wB.drew := (Below.refl _ _).drew
              refine region_anyC (fun _ => true) (fun W => Below wB.heap.size wB W) (by kernel_rfl) ?_
              refine anyL_take 0 (v := ?_) rfl (by kernel_rfl) (fun _ _ _ h => h) (Or.inl ⟨by rfl, ?_⟩) hW0 ?_
              rotate_left
              focus (intro W hW; refine run_loadS (.tmp 11) ?_ (hG1B.out.below hW) ?_ <;> rfl)
              simp only [Act.put, List.setIfInBounds_toArray, List.set_cons_zero, List.set_cons_succ]
              refine anyL_take 1 (v := ?_) rfl (by kernel_rfl) (fun _ _ _ h => h) (Or.inl ⟨by rfl, ?_⟩) hW0 ?_
              rotate_left
              focus (intro W hW; go_simp; try with_reducible rfl)
              simp only [Act.put, List.setIfInBounds_toArray, List.set_cons_zero, List.set_cons_succ]
              refine fresh_anyC (fun W => Below wB.heap.size wB W) hW0 ?_
              clear hW0
              rintro U0 hW0
              refine anyL_two 2 7 rfl rfl (by kernel_rfl) (fun K hK => ?_) (fun K hK => ?_)
              · go_simp
                refine (hbb.out _).mono ?_
                rintro e' v ⟨rfl, hp⟩
                have hn : Below wB.heap.size wB v := hW0.trans (hp.mono hW0.size)
                refine hK.out _ _ (fun _ => hn) ?_
                clear hK K
                try simp only [Act.put, List.setIfInBounds_toArray, List.set_cons_zero, List.set_cons_succ]
                refine fresh_anyC (fun W => Below wB.heap.size wB W) hn ?_
                clear hn hp hW0
                rintro U hW0
                refine anyL_two 3 7 rfl rfl (by kernel_rfl) (fun K hK => ?_) (fun K hK => ?_)
                · go_simp
                  refine (caXY.out _).mono ?_
                  rintro e' v ⟨rfl, hp⟩
                  have hn : Below wB.heap.size wB v := hW0.trans (hp.mono hW0.size)
                  refine hK.out _ _ (fun _ => hn) ?_
                  clear hK K
                  try simp only [Act.put, List.setIfInBounds_toArray, List.set_cons_zero, List.set_cons_succ]
                  refine fresh_anyC (fun W => Below wB.heap.size wB W) hn ?_
                  clear hn hp hW0
                  rintro U hW0
                  refine anyL_take 4 (v := ?_) rfl (by kernel_rfl) (fun _ _ _ h => h) (Or.inl ⟨by rfl, ?_⟩) hW0 ?_
                  rotate_left
                  focus (intro W hW; go_simp; try with_reducible rfl)
                  simp only [Act.put, List.setIfInBounds_toArray, List.set_cons_zero, List.set_cons_succ]
                  refine anyL_take 5 (v := ?_) rfl (by kernel_rfl) (fun _ _ _ h => h) (Or.inl ⟨by rfl, ?_⟩) hW0 ?_
                  rotate_left
                  focus (intro W hW; go_simp; try with_reducible rfl)
                  simp only [Act.put, List.setIfInBounds_toArray, List.set_cons_zero, List.set_cons_succ]
                  refine anyL_take 6 (v := ?_) rfl (by kernel_rfl) (fun _ _ _ h => h) (Or.inl ⟨by rfl, ?_⟩) hW0 ?_
                  rotate_left
                  focus (intro W hW; go_simp; try with_reducible rfl)
                  simp only [Act.put, List.setIfInBounds_toArray, List.set_cons_zero, List.set_cons_succ]
                  refine anyL_one 7 rfl (by kernel_rfl) (fun K hK => ?_)
                  go_simp
                  have hA := allocR hW0
                  refine hK.out _ _ (fun _ => hA.2.1) ?_
                  clear hK K
                  try simp only [Act.put, List.setIfInBounds_toArray, List.set_cons_zero, List.set_cons_succ]
                  refine fresh_anyC (fun W => SrAt W _ [] 0 ∧ Below wB.heap.size wB W ∧ wB.heap.size ≤ _) hA ?_
                  clear hA hW0
                  generalize U.heap.size = G
                  rintro U hA
                  have hW0 := hA.2.1
                  refine anyL_one 8 rfl (by kernel_rfl) (fun K hK => ?_)
                  refine step_storeS (L' := L ++ [X, Y]) (n' := 15) rfl _ _ rfl hA.1 rfl rfl hl2H.out ?_
                  intro w5 hS5 hg5
                  have hn := storedR hA hS5 hg5
                  refine hK.out _ _ (fun _ => hn.2.1) ?_
                  clear hK K hS5 hg5 hA hW0
                  try simp only [Act.put]
                  refine fresh_anyC (NewR wB G (L ++ [X, Y])) hn ?_
                  clear hn
                  rintro U9 hN9
                  refine anyL_one 9 rfl (by kernel_rfl) (fun K hK => ?_)
                  go_simp
                  refine hK.out _ _ (fun _ => hN9.2.1) ?_
                  clear hK K
                  try simp only [Act.put, List.setIfInBounds_toArray, List.set_cons_zero, List.set_cons_succ]
                  refine anyC_done (by kernel_rfl) ?_ _
                  go_wp2_with fail
                  go_meet
                  exact ⟨G, rfl, rfl, hN9⟩
                · go_simp
                  have hA := allocR hW0
                  refine hK.out _ _ (fun _ => hA.2.1) ?_
                  clear hK K
                  try simp only [Act.put, List.setIfInBounds_toArray, List.set_cons_zero, List.set_cons_succ]
                  refine fresh_anyC (fun W => SrAt W _ [] 0 ∧ Below wB.heap.size wB W ∧ wB.heap.size ≤ _) hA ?_
                  clear hA hW0
                  generalize U.heap.size = G
                  rintro U hA
                  have hW0 := hA.2.1
                  refine anyL_one 3 rfl (by kernel_rfl) (fun K hK => ?_)
                  go_simp
                  refine (caXY.out _).mono ?_
                  rintro e' v ⟨rfl, hp⟩
                  have hn : Below wB.heap.size wB v := hW0.trans (hp.mono hW0.size)
                  have hN := hA.1.below hp
                  refine hK.out _ _ (fun _ => hn) ?_
                  clear hK K
                  try simp only [Act.put, List.setIfInBounds_toArray, List.set_cons_zero, List.set_cons_succ]
                  refine fresh_anyC (fun W => SrAt W G [] 0 ∧ Below wB.heap.size wB W ∧ wB.heap.size ≤ G) ⟨hN, hn, hA.2.2⟩ ?_
                  clear hn hp hN hA hW0
                  rintro U hA
                  have hW0 := hA.2.1
                  refine anyL_take 4 (v := ?_) rfl (by kernel_rfl) (fun _ _ _ h => h) (Or.inl ⟨by rfl, ?_⟩) hW0 ?_
                  rotate_left
                  focus (intro W hW; go_simp; try with_reducible rfl)
                  simp only [Act.put, List.setIfInBounds_toArray, List.set_cons_zero, List.set_cons_succ]
                  refine anyL_take 5 (v := ?_) rfl (by kernel_rfl) (fun _ _ _ h => h) (Or.inl ⟨by rfl, ?_⟩) hW0 ?_
                  rotate_left
                  focus (intro W hW; go_simp; try with_reducible rfl)
                  simp only [Act.put, List.setIfInBounds_toArray, List.set_cons_zero, List.set_cons_succ]
                  refine anyL_take 6 (v := ?_) rfl (by kernel_rfl) (fun _ _ _ h => h) (Or.inl ⟨by rfl, ?_⟩) hW0 ?_
                  rotate_left
                  focus (intro W hW; go_simp; try with_reducible rfl)
                  simp only [Act.put, List.setIfInBounds_toArray, List.set_cons_zero, List.set_cons_succ]
                  refine anyL_one 8 rfl (by kernel_rfl) (fun K hK => ?_)
                  refine step_storeS (L' := L ++ [X, Y]) (n' := 15) rfl _ _ rfl hA.1 rfl rfl hl2H.out ?_
                  intro w5 hS5 hg5
                  have hn := storedR hA hS5 hg5
                  refine hK.out _ _ (fun _ => hn.2.1) ?_
                  clear hK K hS5 hg5 hA hW0
                  try simp only [Act.put]
                  refine fresh_anyC (NewR wB G (L ++ [X, Y])) hn ?_
                  clear hn
                  rintro U9 hN9
                  refine anyL_one 9 rfl (by kernel_rfl) (fun K hK => ?_)
                  go_simp
                  refine hK.out _ _ (fun _ => hN9.2.1) ?_
                  clear hK K
                  try simp only [Act.put, List.setIfInBounds_toArray, List.set_cons_zero, List.set_cons_succ]
                  refine anyC_done (by kernel_rfl) ?_ _
                  go_wp2_with fail
                  go_meet
                  exact ⟨G, rfl, rfl, hN9⟩
              · go_simp
                have hA := allocR hW0
                refine hK.out _ _ (fun _ => hA.2.1) ?_
                clear hK K
                try simp only [Act.put, List.setIfInBounds_toArray, List.set_cons_zero, List.set_cons_succ]
                refine fresh_anyC (fun W => SrAt W _ [] 0 ∧ Below wB.heap.size wB W ∧ wB.heap.size ≤ _) hA ?_
                clear hA hW0
                generalize U0.heap.size = G
                rintro U hA
                have hW0 := hA.2.1
                refine anyL_one 2 rfl (by kernel_rfl) (fun K hK => ?_)
                go_simp
                refine (hbb.out _).mono ?_
                rintro e' v ⟨rfl, hp⟩
                have hn : Below wB.heap.size wB v := hW0.trans (hp.mono hW0.size)
                have hN := hA.1.below hp
                refine hK.out _ _ (fun _ => hn) ?_
                clear hK K
                try simp only [Act.put, List.setIfInBounds_toArray, List.set_cons_zero, List.set_cons_succ]
                refine fresh_anyC (fun W => SrAt W G [] 0 ∧ Below wB.heap.size wB W ∧ wB.heap.size ≤ G) ⟨hN, hn, hA.2.2⟩ ?_
                clear hn hp hN hA hW0
                rintro U hA
                have hW0 := hA.2.1
                refine anyL_one 3 rfl (by kernel_rfl) (fun K hK => ?_)
                go_simp
                refine (caXY.out _).mono ?_
                rintro e' v ⟨rfl, hp⟩
                have hn : Below wB.heap.size wB v := hW0.trans (hp.mono hW0.size)
                have hN := hA.1.below hp
                refine hK.out _ _ (fun _ => hn) ?_
                clear hK K
                try simp only [Act.put, List.setIfInBounds_toArray, List.set_cons_zero, List.set_cons_succ]
                refine fresh_anyC (fun W => SrAt W G [] 0 ∧ Below wB.heap.size wB W ∧ wB.heap.size ≤ G) ⟨hN, hn, hA.2.2⟩ ?_
                clear hn hp hN hA hW0
                rintro U hA
                have hW0 := hA.2.1
                refine anyL_take 4 (v := ?_) rfl (by kernel_rfl) (fun _ _ _ h => h) (Or.inl ⟨by rfl, ?_⟩) hW0 ?_
                rotate_left
                focus (intro W hW; go_simp; try with_reducible rfl)
                simp only [Act.put, List.setIfInBounds_toArray, List.set_cons_zero, List.set_cons_succ]
                refine anyL_take 5 (v := ?_) rfl (by kernel_rfl) (fun _ _ _ h => h) (Or.inl ⟨by rfl, ?_⟩) hW0 ?_
                rotate_left
                focus (intro W hW; go_simp; try with_reducible rfl)
                simp only [Act.put, List.setIfInBounds_toArray, List.set_cons_zero, List.set_cons_succ]
                refine anyL_take 6 (v := ?_) rfl (by kernel_rfl) (fun _ _ _ h => h) (Or.inl ⟨by rfl, ?_⟩) hW0 ?_
                rotate_left
                focus (intro W hW; go_simp; try with_reducible rfl)
                simp only [Act.put, List.setIfInBounds_toArray, List.set_cons_zero, List.set_cons_succ]
                refine anyL_one 8 rfl (by kernel_rfl) (fun K hK => ?_)
                refine step_storeS (L' := L ++ [X, Y]) (n' := 15) rfl _ _ rfl hA.1 rfl rfl hl2H.out ?_
                intro w5 hS5 hg5
                have hn := storedR hA hS5 hg5
                refine hK.out _ _ (fun _ => hn.2.1) ?_
                clear hK K hS5 hg5 hA hW0
                try simp only [Act.put]
                refine fresh_anyC (NewR wB G (L ++ [X, Y])) hn ?_
                clear hn
                rintro U9 hN9
                refine anyL_one 9 rfl (by kernel_rfl) (fun K hK => ?_)
                go_simp
                refine hK.out _ _ (fun _ => hN9.2.1) ?_
                clear hK K
                try simp only [Act.put, List.setIfInBounds_toArray, List.set_cons_zero, List.set_cons_succ]
                refine anyC_done (by kernel_rfl) ?_ _
                go_wp2_with fail
                go_meet
                exact ⟨G, rfl, rfl, hN9⟩
            case rest =>
              obtain ⟨G3, rfl, rfl, hN3⟩ := hcut
              have hF : BrF w g G1 G2 G3 L X Y wc := ⟨(SpW.below hWB.out hN3.2.1).1, hG1B.out.below hN3.2.1, hG2.out.below hN3.2.1, hN3.1, (SpW.below hWB.out hN3.2.1).2.1⟩
              have hF0 := Lib.hid hF
              clear hN3 hF hWB hG1B hG2 caXY
              have hli : L.length = i := hlbH.out
              have ccL := Lib.hid (fun W => (show Calls Try.prog 14 #[rowV L 15] W fun e w' => e = .returned (.int .i64 (i : Int)) ∧ Below W.heap.size W w' from by have := cc.out W L (by omega); rwa [hli] at this))
              have ccX := Lib.hid (fun W => (show Calls Try.prog 14 #[rowV (L ++ [X]) 15] W fun e w' => e = .returned (.int .i64 ((i : Int) + 1)) ∧ Below W.heap.size W w' from by have := cc.out W (L ++ [X]) (by simp; omega); rwa [List.length_append, hli] at this))
              have ccZ := Lib.hid (fun W => (show Calls Try.prog 14 #[rowV (L ++ [X, Y]) 15] W fun e w' => e = .returned (.int .i64 ((i : Int) + 2)) ∧ Below W.heap.size W w' from by have := cc.out W (L ++ [X, Y]) (by simp; omega); rw [List.length_append, hli] at this; exact this))
              have eX : elV (L ++ [X]) (i : Int) = X ∧ elB (L ++ [X]) (i : Int) = true := by
                obtain ⟨e1, e2⟩ := elB_in (ps := L ++ [X]) (k := i) (by simp; omega)
                exact ⟨by rw [e1]; subst hli; simp, e2⟩
              have eY : elV (L ++ [Y]) (i : Int) = Y ∧ elB (L ++ [Y]) (i : Int) = true := by
                obtain ⟨e1, e2⟩ := elB_in (ps := L ++ [Y]) (k := i) (by simp; omega)
                exact ⟨by rw [e1]; subst hli; simp, e2⟩
              have eZ : elV (L ++ [X, Y]) (i : Int) = X ∧ elB (L ++ [X, Y]) (i : Int) = true := by
                obtain ⟨e1, e2⟩ := elB_in (ps := L ++ [X, Y]) (k := i) (by simp; omega)
                refine ⟨?_, e2⟩
                rw [e1]
                subst hli
                simp
              have kX := fun W => ck.out W (L ++ [X]) (i : Int) (by simp; omega)
              have kY := fun W => ck.out W (L ++ [Y]) (i : Int) (by simp; omega)
              have kZ := fun W => ck.out W (L ++ [X, Y]) (i : Int) (by simp; omega)
              rw [eX.1, eX.2] at kX
              rw [eY.1, eY.2] at kY
              rw [eZ.1, eZ.2] at kZ
              have kXH := Lib.hid kX
              have kYH := Lib.hid kY
              have kZH := Lib.hid kZ
              have w1' : IntKind.i64.wrap ((i : Int) + 1) = (i : Int) + 1 := IntWalk.i64_in _ (by omega)
              have w2' : IntKind.i64.wrap ((i : Int) + 2) = (i : Int) + 2 := IntWalk.i64_in _ (by omega)
              clear eX eY eZ kX kY kZ cc ck hli hl1H hl1yH hl2H hlbH
              go_wp2_with (refine wpList_loadS rfl _ rfl hF0.out.r1 rfl ?_)
              (with_reducible refine (kXH.out _).mono ?_)
              rintro e v0 ⟨rfl, hb⟩
              have hF1 := Lib.hid (hF0.out.below hb)
              clear hb hF0
              go_wp2_with (refine wpList_loadS rfl _ rfl hF1.out.r2 rfl ?_)
              (with_reducible refine (kYH.out _).mono ?_)
              rintro e v1 ⟨rfl, hb⟩
              have hF2 := Lib.hid (hF1.out.below hb)
              clear hb hF1
              go_wp2_with (refine wpList_loadS rfl _ rfl hF2.out.r3 rfl ?_)
              (with_reducible refine (kZH.out _).mono ?_)
              rintro e v2 ⟨rfl, hb⟩
              have hF3 := Lib.hid (hF2.out.below hb)
              clear hb hF2
              go_wp2_with (refine wpList_loadS rfl _ rfl hF3.out.r0 rfl ?_)
              (with_reducible refine (ccL.out _).mono ?_)
              rintro e v3 ⟨rfl, hb⟩
              have hF4 := Lib.hid (hF3.out.below hb)
              clear hb hF3
              go_wp2_with (refine wpList_loadS rfl _ rfl hF4.out.r1 rfl ?_)
              (with_reducible refine (ccX.out _).mono ?_)
              rintro e v4 ⟨rfl, hb⟩
              have hF5 := Lib.hid (hF4.out.below hb)
              clear hb hF4
              go_wp2_with (refine wpList_loadS rfl _ rfl hF5.out.r3 rfl ?_)
              (with_reducible refine (ccZ.out _).mono ?_)
              rintro e v5 ⟨rfl, hb⟩
              have hF6 := Lib.hid (hF5.out.below hb)
              clear hb hF5
              go_wp2_with (fail)
              (with_reducible refine (hba.out _).mono ?_)
              rintro e v6 ⟨rfl, hb⟩
              have hF7 := Lib.hid (hF6.out.below hb)
              clear hb hF6
              go_wp2_with (fail)
              (with_reducible refine (hbb.out _).mono ?_)
              rintro e v7 ⟨rfl, hb⟩
              have hF9 := Lib.hid (hF7.out.below hb)
              clear hb hF7
              go_wp2
              go_ret
              exact ⟨rfl, hF9.out.bw⟩

end Go.Proofs.Ytonoanjakfaloaa
