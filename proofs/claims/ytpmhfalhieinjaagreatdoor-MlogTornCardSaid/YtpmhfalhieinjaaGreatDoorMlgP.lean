/- What parse of mlog's does. -/
import Derived.Test.YtpmhfalhieinjaaGreatDoorMlgD3
namespace Go.Proofs.YtpmhfalhieinjaaGreatDoor
open Go.RowKit Rec

/-- Of which generation the log is whole. -/
def parP (l : List Rc) : Option Int := if h : 0 < l.length then (if l[0].k = 1 ∧ l.any (isDn l[0].c) = true then some l[0].c else none) else none
/-- What parse says of a text. -/
def ParPost (w : World) (s : ByteArray) (e : Ending) (w' : World) : Prop := ∃ (l : List Rc) (n : Nat), Scans s l n ∧ Below w.heap.size w w' ∧
  ((parP l = none ∧ e = .returned (.tuple #[.agg #[.int .i64 0, .slice none 0 0, .bool false], .bool false])) ∨
   (∃ g A cap, parP l = some g ∧ e = .returned (.tuple #[.agg #[.int .i64 g, .slice A (nomk l).length cap, .bool (decide (n < s.size / 64))], .bool true]) ∧ RecsIn w' A (nomk l) ∧ ∀ b off, A = some ⟨b, off, none⟩ → w.heap.size ≤ b ∧ b < w'.heap.size))
theorem put3 {W : World} {N : Nat} {u0 u1 u2 : Value} (h0 : W.cell? ⟨N, 0, none⟩ = some u0) (h1 : W.cell? ⟨N, 1, none⟩ = some u1) (h2 : W.cell? ⟨N, 2, none⟩ = some u2) (v0 v1 v2 : Value) :
    (((W.setCell ⟨N, 0, none⟩ v0).setCell ⟨N, 1, none⟩ v1).setCell ⟨N, 2, none⟩ v2).cell? ⟨N, 0, none⟩ = some v0 ∧ (((W.setCell ⟨N, 0, none⟩ v0).setCell ⟨N, 1, none⟩ v1).setCell ⟨N, 2, none⟩ v2).cell? ⟨N, 1, none⟩ = some v1 ∧ (((W.setCell ⟨N, 0, none⟩ v0).setCell ⟨N, 1, none⟩ v1).setCell ⟨N, 2, none⟩ v2).cell? ⟨N, 2, none⟩ = some v2 :=
  ⟨(cell_ne _ N 2 0 _ (by omega)).trans ((cell_ne _ N 1 0 _ (by omega)).trans (cell_eq h0 _)), (cell_ne _ N 2 1 _ (by omega)).trans (cell_eq ((cell_ne W N 0 1 _ (by omega)).trans h1) _), cell_eq ((cell_ne _ N 1 2 _ (by omega)).trans ((cell_ne W N 0 2 _ (by omega)).trans h2)) _⟩
/-- A store into a cell that holds no record's number. -/
theorem RecsIn.set3 {W : World} {A : Option Addr} {rs : List Rc} (h : RecsIn W A rs) (N : Nat) (v0 v1 v2 : Value) (hN : ∀ b off, A = some ⟨b, off, none⟩ → b ≠ N) : RecsIn (((W.setCell ⟨N, 0, none⟩ v0).setCell ⟨N, 1, none⟩ v1).setCell ⟨N, 2, none⟩ v2) A rs := by
  rcases h with h | ⟨b, rfl, hlt, hc⟩
  · exact .inl h
  · have hne := hN b 0 rfl
    refine .inr ⟨b, rfl, by rw [World.size_setCell, World.size_setCell, World.size_setCell]; exact hlt, fun i hi j hj => ?_⟩
    rw [World.cell?_setCell_other _ _ _ _ (by intro e; injection e with e; exact hne e.symm), World.cell?_setCell_other _ _ _ _ (by intro e; injection e with e; exact hne e.symm), World.cell?_setCell_other _ _ _ _ (by intro e; injection e with e; exact hne e.symm)]
    exact hc i hi j hj
theorem parP_one {l : List Rc} (hl : 0 < l.length) (h : ¬ l[0].k = 1) : parP l = none := by
  unfold parP; rw [dif_pos hl, if_neg (fun h2 => h h2.1)]
theorem parP_two {l : List Rc} (hl : 0 < l.length) (h : l.any (isDn l[0].c) = false) : parP l = none := by
  unfold parP; rw [dif_pos hl, if_neg (fun h2 => by rw [h] at h2; simp at h2)]
theorem parP_some {l : List Rc} (hl : 0 < l.length) (h1 : l[0].k = 1) (h : l.any (isDn l[0].c) = true) : parP l = some l[0].c := by
  unfold parP; rw [dif_pos hl, if_pos ⟨h1, h⟩]
set_option maxRecDepth 100000 in
set_option maxHeartbeats 4000000 in
theorem mparse_any (s : ByteArray) (w : World) (hs : s.size ≤ 1000000) (hT : Tab w) : Calls Tryz.prog 35 #[.string s] w (ParPost w s) := by
  obtain ⟨W0, hW0⟩ : ∃ W0, W0 = w.alloc (.cells #[.int .i64 0, .slice none 0 0, .bool false] 81) := ⟨_, rfl⟩
  have hb0 : Below w.heap.size w W0 := by rw [hW0]; exact (Below.refl _ _).alloc (Nat.le_refl _) _
  have hz0 : W0.cell? ⟨w.heap.size, 0, none⟩ = some (.int .i64 0) ∧ W0.cell? ⟨w.heap.size, 1, none⟩ = some (.slice none 0 0) ∧ W0.cell? ⟨w.heap.size, 2, none⟩ = some (.bool false) ∧ ∀ j, W0.frozen? ⟨w.heap.size, j, none⟩ = false := by
    rw [hW0]
    exact ⟨by simp [World.cell?_alloc_new], by simp [World.cell?_alloc_new], by simp [World.cell?_alloc_new], fun j => (World.frozen?_alloc_mark w _ _ 0 0 j).trans (by simp)⟩
  have hlt : w.heap.size < W0.heap.size := lt_of_cell hz0.1
  have hsc := Lib.hid (scan_any s W0 hs (hT.below hb0))
  have hbo := Lib.hid (fun W => blocks_m s (by omega) W)
  have hz := Lib.hid (And.intro (fun V (hV : Below W0.heap.size W0 V) => (hV.cell (p := ⟨w.heap.size, 0, none⟩) hlt).trans hz0.1) (And.intro (fun V (hV : Below W0.heap.size W0 V) => (hV.cell (p := ⟨w.heap.size, 1, none⟩) hlt).trans hz0.2.1) (And.intro (fun V (hV : Below W0.heap.size W0 V) => (hV.cell (p := ⟨w.heap.size, 2, none⟩) hlt).trans hz0.2.2.1) (fun V (hV : Below W0.heap.size W0 V) j => (hV.frozen (p := ⟨w.heap.size, j, none⟩) hlt).trans (hz0.2.2.2 j)))))
  have hbH := Lib.hid hb0
  have hnn : ((s.size / 64 : Nat) : Int) = ((s.size / 64 : Nat) : Int) := rfl
  clear hT hb0 hz0 hnn
  generalize hnb : s.size / 64 = nb at hbo
  have hnbH := Lib.hid hnb
  clear hnb
  go_enter Tryz.func35, Tryz.ntmps35
  go_upto_region 1 with fail
  rw [← hW0]
  clear hW0
  go_wp2_with fail
  refine hsc.out.mono ?_
  rintro e W1 ⟨l, n, A, cap, rfl, hscn, hrow, hb1⟩
  have hscH := Lib.hid hscn
  have hrowH := Lib.hid hrow
  have hb1H := Lib.hid hb1
  have hll : l.length ≤ 1000000 := by have := hscn.len; omega
  clear hscn hrow hsc
  obtain ⟨N, hN⟩ : ∃ N, N = w.heap.size := ⟨_, rfl⟩
  rw [← hN] at hz hlt ⊢
  have hNH := Lib.hid hN
  clear hN
  by_cases hpos : 0 < l.length
  case neg =>
    obtain rfl : l = [] := List.eq_nil_of_length_eq_zero (by omega)
    have z0 := hz.out.1 _ hb1
    have z1 := hz.out.2.1 _ hb1
    have z2 := hz.out.2.2.1 _ hb1
    have y0 := hz.out.2.2.2 _ hb1 0
    have y1 := hz.out.2.2.2 _ hb1 1
    have y2 := hz.out.2.2.2 _ hb1 2
    have hput := Lib.hid (put3 z0 z1 z2 (.int .i64 0) (.slice none 0 0) (.bool false))
    have hbw9 := Lib.hid (bput (bput (bput (hbH.out.trans ((hb1).mono hbH.out.size)) (Nat.le_of_eq hNH.out.symm) (v := .int .i64 0) (o := 0)) (Nat.le_of_eq hNH.out.symm) (v := .slice none 0 0) (o := 1)) (Nat.le_of_eq hNH.out.symm) (v := .bool false) (o := 2))
    clear hb1 hrowH
    go_wp2_with fail
    refine fresh_endD (fun W' => (W'.cell? ⟨N, 0, none⟩ = some (.int .i64 0) ∧ W'.cell? ⟨N, 1, none⟩ = some (.slice none 0 0) ∧ W'.cell? ⟨N, 2, none⟩ = some (.bool false)) ∧ Below w.heap.size w W') ⟨hput.out, hbw9.out⟩ ?_
    rintro W9 ⟨⟨d0, d1, d2⟩, hB9⟩
    refine bodyPost_ret (v := .tuple #[.agg #[.int .i64 0, .slice none 0 0, .bool false], .bool false]) (by simp [results, Tryz.results35, go_sem, d0, d1, d2]) rfl ?_
    exact ⟨[], n, hscH.out, hB9, .inl ⟨rfl, rfl⟩⟩
  case pos =>
    obtain ⟨g0, rfl, hg0l, s0, -, -, -, s4, -, -⟩ := hrowH.out.recs.at_ hpos
    have hg0b : W0.heap.size ≤ g0 := by
      rcases hrowH.out.form with ⟨e, _⟩ | ⟨g', e, hb, _⟩
      · cases e
      · injection e with e; injection e with e; omega
    have p0 : W1.cell? ⟨g0, 0, none⟩ = some (.int .i64 l[0].k) := s0
    have p4 : W1.cell? ⟨g0, 4, none⟩ = some (.int .i64 l[0].c) := s4
    have g1 : ¬ (l.length : Int) = 0 := by omega
    have g2 : ((l.length : Int) == 0) = false := beq_false_of_ne g1
    have g3 : (0 : Int) < (l.length : Int) := by omega
    clear s0 s4
    by_cases hk1 : l[0].k = 1
    case neg =>
      have hpn := Lib.hid (parP_one hpos hk1)
      have hkb : (l[0].k != 1) = true := by simp [hk1]
      generalize l[0].k = kk at p0 hkb
      generalize l[0].c = cc at p4
      clear hk1
      have z0 := hz.out.1 _ hb1
      have z1 := hz.out.2.1 _ hb1
      have z2 := hz.out.2.2.1 _ hb1
      have y0 := hz.out.2.2.2 _ hb1 0
      have y1 := hz.out.2.2.2 _ hb1 1
      have y2 := hz.out.2.2.2 _ hb1 2
      have hput := Lib.hid (put3 z0 z1 z2 (.int .i64 0) (.slice none 0 0) (.bool false))
      have hbw9 := Lib.hid (bput (bput (bput (hbH.out.trans ((hb1).mono hbH.out.size)) (Nat.le_of_eq hNH.out.symm) (v := .int .i64 0) (o := 0)) (Nat.le_of_eq hNH.out.symm) (v := .slice none 0 0) (o := 1)) (Nat.le_of_eq hNH.out.symm) (v := .bool false) (o := 2))
      clear hb1 hrowH
      go_wp2_with fail
      refine fresh_endD (fun W' => (W'.cell? ⟨N, 0, none⟩ = some (.int .i64 0) ∧ W'.cell? ⟨N, 1, none⟩ = some (.slice none 0 0) ∧ W'.cell? ⟨N, 2, none⟩ = some (.bool false)) ∧ Below w.heap.size w W') ⟨hput.out, hbw9.out⟩ ?_
      rintro W9 ⟨⟨d0, d1, d2⟩, hB9⟩
      refine bodyPost_ret (v := .tuple #[.agg #[.int .i64 0, .slice none 0 0, .bool false], .bool false]) (by simp [results, Tryz.results35, go_sem, d0, d1, d2]) rfl ?_
      exact ⟨l, n, hscH.out, hB9, .inl ⟨hpn.out, rfl⟩⟩
    case pos =>
      have hkb : (l[0].k != 1) = false := by simp [hk1]
      have hp2 := Lib.hid (fun h => parP_two (l := l) hpos h)
      have hp3 := Lib.hid (fun h => parP_some (l := l) hpos hk1 h)
      obtain ⟨g, hg⟩ : ∃ g, g = l[0].c := ⟨_, rfl⟩
      obtain ⟨kk, hkk⟩ : ∃ kk, kk = l[0].k := ⟨_, rfl⟩
      rw [← hg] at p4 hp2 hp3
      rw [← hkk] at p0 hkb
      clear hg hkk hk1
      have hbX : Below W1.heap.size W1 (W1.alloc (.cells #[.int .i64 g] 3)) := (Below.refl _ _).alloc (Nat.le_refl _) _
      have hcX : (W1.alloc (.cells #[.int .i64 g] 3)).cell? ⟨W1.heap.size, 0, none⟩ = some (.int .i64 g) := by simp [World.cell?_alloc_new]
      have hX := Lib.hid (And.intro hbX hcX)
      clear hbX hcX
      go_upto_region 5 with fail
      refine fresh_world (fun W => Below W1.heap.size W1 W ∧ W.cell? ⟨W1.heap.size, 0, none⟩ = some (.int .i64 g)) hX.out ?_
      clear hX p0 p4 g1 g2 g3 hkb
      rintro W2 ⟨hb12, hX2⟩
      have hltX : W1.heap.size < W2.heap.size := lt_of_cell hX2
      have hca := Lib.hid (rhasdn_any W2 (some ⟨g0, 0, none⟩) cap l g W1.heap.size (hrowH.out.recs.below hb12) hll hX2)
      have hb02 := Lib.hid (hb1H.out.trans (hb12.mono hb1H.out.size))
      have hrow2 := Lib.hid (hrowH.out.below hb12)
      have hX2H := Lib.hid hX2
      have hX1 : W0.heap.size ≤ W1.heap.size := hb1H.out.size
      have hg0X := hg0l
      clear hX2 hb12 hb1 hrowH
      obtain ⟨X, hX⟩ : ∃ X, X = W1.heap.size := ⟨_, rfl⟩
      rw [← hX] at hltX hca hX2H hX1 hg0X ⊢
      clear hX hg0l
      go_wp2_with fail
      refine hca.out.mono ?_
      rintro e W3 ⟨rfl, hb23⟩
      have hb03 := Lib.hid (hb02.out.trans (hb23.mono hb02.out.size))
      have hrow3 := Lib.hid (hrow2.out.below hb23)
      have b0 := (hb23.cell (p := ⟨X, 0, none⟩) hltX).trans hX2H.out
      have hlt3 : X < W3.heap.size := lt_of_cell b0
      have hNX : N ≠ X := by omega
      clear hb23 hca hb02 hrow2 hX2H hltX
      cases hany : l.any (isDn g) with
      | false =>
        have hpn := Lib.hid (hp2.out hany)
        have z0 := hz.out.1 _ hb03.out
        have z1 := hz.out.2.1 _ hb03.out
        have z2 := hz.out.2.2.1 _ hb03.out
        have y0 := hz.out.2.2.2 _ hb03.out 0
        have y1 := hz.out.2.2.2 _ hb03.out 1
        have y2 := hz.out.2.2.2 _ hb03.out 2
        have hput := Lib.hid (put3 z0 z1 z2 (.int .i64 0) (.slice none 0 0) (.bool false))
        have hbw9 := Lib.hid (bput (bput (bput (hbH.out.trans ((hb03.out).mono hbH.out.size)) (Nat.le_of_eq hNH.out.symm) (v := .int .i64 0) (o := 0)) (Nat.le_of_eq hNH.out.symm) (v := .slice none 0 0) (o := 1)) (Nat.le_of_eq hNH.out.symm) (v := .bool false) (o := 2))
        clear hb03 hrow3 hany hp2 hp3 b0
        go_wp2_with fail
        refine fresh_endD (fun W' => (W'.cell? ⟨N, 0, none⟩ = some (.int .i64 0) ∧ W'.cell? ⟨N, 1, none⟩ = some (.slice none 0 0) ∧ W'.cell? ⟨N, 2, none⟩ = some (.bool false)) ∧ Below w.heap.size w W') ⟨hput.out, hbw9.out⟩ ?_
        rintro W9 ⟨⟨d0, d1, d2⟩, hB9⟩
        refine bodyPost_ret (v := .tuple #[.agg #[.int .i64 0, .slice none 0 0, .bool false], .bool false]) (by simp [results, Tryz.results35, go_sem, d0, d1, d2]) rfl ?_
        exact ⟨l, n, hscH.out, hB9, .inl ⟨hpn.out, rfl⟩⟩
      | true =>
        have hpn := Lib.hid (hp3.out hany)
        have hdl := Lib.hid (fun V (hV : Below W3.heap.size W3 V) => rdel_any V (some ⟨g0, 0, none⟩) cap W0.heap.size l (hrow3.out.below hV) hll (Nat.le_trans hb03.out.size hV.size))
        have hcell : Hid (∀ W4, KeptBut W3.drew W4 (some ⟨g0, 0, none⟩) → W4.cell? ⟨X, 0, none⟩ = some (.int .i64 g)) := Lib.hid fun W4 hk => by
          have e := hk.2 X hlt3 (fun off e => by injection e with e; injection e with e; omega)
          exact (same_cell (w := W3.drew) (o := 0) e).trans b0
        clear hany hp2 hp3 hrow3
        unfold DelPost at hdl
        obtain ⟨tv, htv⟩ : ∃ tv, tv = decide (n < nb) := ⟨_, rfl⟩
        have ht1 : decide ((n : Int) < (nb : Int)) = tv := by rw [htv, decide_eq_decide]; omega
        have ht2 : decide (n < nb) = tv := htv.symm
        have htvH := Lib.hid htv
        clear htv
        go_upto_region 7 with fail
        refine region_anyC (fun _ => true) (fun V => V.cell? ⟨X, 0, none⟩ = some (.int .i64 g)) (by kernel_rfl) ?_
        have hS : (fun V => V.cell? ⟨X, 0, none⟩ = some (.int .i64 g)) W3.drew := b0
        refine anyL_take 0 (v := ?_) rfl (by kernel_rfl) (fun _ _ _ h => h) (Or.inl ⟨by rfl, ?_⟩) hS ?_
        rotate_left
        focus (intro W hW; go_simp; try with_reducible rfl)
        simp only [Act.put, List.setIfInBounds_toArray, List.set_cons_zero, List.set_cons_succ]
        refine anyL_take 1 (v := ?_) rfl (by kernel_rfl) (fun _ _ _ h => h) (Or.inl ⟨by rfl, ?_⟩) hS ?_
        rotate_left
        focus (intro W hW; go_simp; try with_reducible rfl)
        simp only [Act.put, List.setIfInBounds_toArray, List.set_cons_zero, List.set_cons_succ]
        refine anyL_take 3 (v := ?_) rfl (by kernel_rfl) (fun _ _ _ h => h) (Or.inl ⟨by rfl, ?_⟩) hS ?_
        rotate_left
        focus (intro W hW; go_simp; try with_reducible rfl)
        simp only [Act.put, List.setIfInBounds_toArray, List.set_cons_zero, List.set_cons_succ]
        refine anyL_take 4 (v := ?_) rfl (by kernel_rfl) (fun _ _ _ h => h) (Or.inl ⟨by rfl, ?_⟩) hS ?_
        rotate_left
        focus (intro W hW; go_simp; try with_reducible rfl)
        simp only [Act.put, List.setIfInBounds_toArray, List.set_cons_zero, List.set_cons_succ]
        refine anyL_one 2 rfl (by kernel_rfl) (fun K hK => ?_)
        go_simp
        refine (hdl.out _ ((Below.refl _ _).drew)).mono ?_
        rintro e' W4 ⟨cap', rfl, hrec, hbw, hkp⟩
        have hS4 : (fun V => V.cell? ⟨X, 0, none⟩ = some (.int .i64 g)) W4 := hcell.out _ hkp
        refine hK.out _ _ (fun _ => hS4) ?_
        clear hK K
        try simp only [Act.put, List.setIfInBounds_toArray, List.set_cons_zero, List.set_cons_succ]
        refine anyL_one 5 rfl (by kernel_rfl) (fun K hK => ?_)
        go_simp
        refine (hbo.out _).mono ?_
        rintro e' wt ⟨rfl, rfl⟩
        refine hK.out _ _ (fun _ => hS4) ?_
        clear hK K
        try simp only [Act.put, List.setIfInBounds_toArray, List.set_cons_zero, List.set_cons_succ]
        refine anyL_take 6 (v := ?_) rfl (by kernel_rfl) (fun _ _ _ h => h) (Or.inl ⟨by rfl, ?_⟩) hS4 ?_
        rotate_left
        focus (intro W hW; go_simp; try with_reducible rfl)
        simp only [Act.put, List.setIfInBounds_toArray, List.set_cons_zero, List.set_cons_succ]
        refine anyL_take 7 (v := ?_) rfl (by kernel_rfl) (fun _ _ _ h => h) (Or.inl ⟨by rfl, ?_⟩) hS4 ?_
        rotate_left
        focus (intro W hW; go_simp; try with_reducible rfl)
        simp only [Act.put, List.setIfInBounds_toArray, List.set_cons_zero, List.set_cons_succ]
        have hb04 := hb03.out.drew.trans hbw
        have z0 := hz.out.1 _ hb04
        have z1 := hz.out.2.1 _ hb04
        have z2 := hz.out.2.2.1 _ hb04
        have y0 := hz.out.2.2.2 _ hb04 0
        have y1 := hz.out.2.2.2 _ hb04 1
        have y2 := hz.out.2.2.2 _ hb04 2
        have hput := Lib.hid (put3 z0 z1 z2 (.int .i64 g) (.slice (some ⟨g0, 0, none⟩) (nomk l).length cap') (.bool tv))
        have hbw9 := Lib.hid (bput (bput (bput (hbH.out.trans (hb04.mono hbH.out.size)) (Nat.le_of_eq hNH.out.symm) (v := .int .i64 g) (o := 0)) (Nat.le_of_eq hNH.out.symm) (v := .slice (some ⟨g0, 0, none⟩) (nomk l).length cap') (o := 1)) (Nat.le_of_eq hNH.out.symm) (v := .bool tv) (o := 2))
        have hS5 := Lib.hid (show (((W4.setCell ⟨N, 0, none⟩ (.int .i64 g)).setCell ⟨N, 1, none⟩ (.slice (some ⟨g0, 0, none⟩) (nomk l).length cap')).setCell ⟨N, 2, none⟩ (.bool tv)).cell? ⟨X, 0, none⟩ = some (.int .i64 g) by
          rw [World.cell?_setCell_other _ _ _ _ (by intro e; injection e with e; omega), World.cell?_setCell_other _ _ _ _ (by intro e; injection e with e; omega), World.cell?_setCell_other _ _ _ _ (by intro e; injection e with e; omega)]
          exact hS4)
        have hrec9 := Lib.hid (((hrec.set3 N (.int .i64 g) (.slice (some ⟨g0, 0, none⟩) (nomk l).length cap') (.bool tv) (fun b off e => by injection e with e; injection e with e; omega))))
        have hg9 := Lib.hid (show g0 < (((W4.setCell ⟨N, 0, none⟩ (.int .i64 g)).setCell ⟨N, 1, none⟩ (.slice (some ⟨g0, 0, none⟩) (nomk l).length cap')).setCell ⟨N, 2, none⟩ (.bool tv)).heap.size by rw [World.size_setCell, World.size_setCell, World.size_setCell]; exact Nat.lt_of_lt_of_le (Nat.lt_trans hg0X hlt3) hkp.1)
        clear hrec hbw hb04 hkp hdl hcell b0
        refine anyL_one 8 rfl (by kernel_rfl) (fun K hK => ?_)
        go_simp
        refine hK.out _ _ (fun _ => hS5.out) ?_
        clear hK K
        try simp only [Act.put, List.setIfInBounds_toArray, List.set_cons_zero, List.set_cons_succ]
        refine anyL_take 9 (v := ?_) rfl (by kernel_rfl) (fun _ _ _ h => h) (Or.inl ⟨by rfl, ?_⟩) hS5.out ?_
        rotate_left
        focus (intro W hW; go_simp; try with_reducible rfl)
        simp only [Act.put, List.setIfInBounds_toArray, List.set_cons_zero, List.set_cons_succ]
        refine anyC_done (by kernel_rfl) ?_ _
        clear hS hS4 z0 z1 z2 y0 y1 y2 ht1 ht2
        go_wp2_with fail
        refine fresh_endD (fun W' => (W'.cell? ⟨N, 0, none⟩ = some (.int .i64 g) ∧ W'.cell? ⟨N, 1, none⟩ = some (.slice (some ⟨g0, 0, none⟩) (nomk l).length cap') ∧ W'.cell? ⟨N, 2, none⟩ = some (.bool tv)) ∧ Below w.heap.size w W' ∧ RecsIn W' (some ⟨g0, 0, none⟩) (nomk l) ∧ g0 < W'.heap.size) ⟨hput.out, hbw9.out, hrec9.out, hg9.out⟩ ?_
        clear hput hbw9 hrec9 hS5 hg9
        rintro W9 ⟨⟨d0, d1, d2⟩, hB9, hr9, hg9b⟩
        refine bodyPost_ret (v := .tuple #[.agg #[.int .i64 g, .slice (some ⟨g0, 0, none⟩) (nomk l).length cap', .bool tv], .bool true]) (by simp [results, Tryz.results35, go_sem, d0, d1, d2]) rfl ?_
        exact ⟨l, n, hscH.out, hB9, .inr ⟨g, some ⟨g0, 0, none⟩, cap', hpn.out, by rw [htvH.out, hnbH.out], hr9, fun b off e => by injection e with e; injection e with e; have := hNH.out; omega⟩⟩
end Go.Proofs.YtpmhfalhieinjaaGreatDoor
