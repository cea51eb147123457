/- RebuildTasks: the walk. -/
import Derived.Test.YtdjdldcpaidmnaaRbTk
namespace Go.Proofs.Ytdjdldcpaidmnaa
open Go.RowKit Pl Tl Rb

theorem in_far {α : Type} {E : Enc α} {W W' : World} {r : Nat} {A : Option Addr} {xs : List α} (h : E.In W A xs) (hg : W.grownBy W' (some r)) (hA : ∀ g off, A = some ⟨g, off, none⟩ → g ≠ r) : E.In W' A xs := by
  rcases h with h0 | ⟨g, off, e, hgl, hc⟩
  · exact .inl h0
  · have := hA g off e
    exact .inr ⟨g, off, e, Nat.lt_of_lt_of_le hgl hg.size, fun i hi j hj => (World.cell?_of_block (a := ⟨g, _, none⟩) (hg.block g hgl (by simp; omega))).trans (hc i hi j hj)⟩
theorem infBl : (Try.prog.info? 4).map (fun i => (i.zero, i.size, i.bytes)) = some (some (.bool false), 1, 1) := by kernel_rfl
/-- The geometry's boxes and the table of the blocks that were seen. -/
structure TsW (w W : World) (s7 : Nat) (D Z B O A : Int) (G v : Nat) (l : List Bool) : Prop where
  g : RbG w s7 D Z B O A W
  r : blE.Row W (s7 + 1) 4 (some ⟨G, 0, none⟩) v l
theorem TsW.below {w W W' : World} {s7 : Nat} {D Z B O A : Int} {G v : Nat} {l : List Bool} (h : TsW w W s7 D Z B O A G v l) (hb : Below W.heap.size W W') : TsW w W' s7 D Z B O A G v l := ⟨h.g.below hb, h.r.below hb⟩
theorem TsW.ge {w W : World} {s7 : Nat} {D Z B O A : Int} {G v : Nat} {l : List Bool} (h : TsW w W s7 D Z B O A G v l) : s7 + 1 ≤ G ∧ G < W.heap.size := by
  rcases h.r.form with ⟨e, _⟩ | ⟨g', e, hb, hl, _⟩
  · cases e
  · injection e with e; injection e with e; subst e; exact ⟨hb, hl⟩
theorem TsW.store {w W : World} {s7 : Nat} {D Z B O A : Int} {G v : Nat} {l : List Bool} (h : TsW w W s7 D Z B O A G v l) {i : Nat} (hi : i < l.length) (x : Bool) :
    TsW w (W.setCell ⟨G, i, none⟩ (.bool x)) s7 D Z B O A G v (l.set i x) := by
  have hg := h.ge.1
  have hr := h.r.store hi x
  have e : Enc.storeAt W G (i * blE.k) (blE.c x) = W.setCell ⟨G, i, none⟩ (.bool x) := by
    show W.setCell ⟨G, i * 1, none⟩ _ = _
    rw [Nat.mul_one]
  rw [e] at hr
  exact ⟨h.g.low ((Below.refl _ W).setCell hg _) (Nat.lt_succ_self _), hr⟩
set_option maxRecDepth 100000 in
set_option maxHeartbeats 4000000 in
theorem tasks_law (w : World) (D Z B O A a a2 : Int) :
    Calls Try.prog 5 #[.agg #[.int .i64 D, .int .i64 Z, .int .i64 B, .int .i64 O, .int .i64 A], .int .i64 a, .int .i64 a2] w fun e w' => e = .returned (.bool true) ∧ Below w.heap.size w w' := by
  have hG := Lib.hid (GeoAt.new w D Z B O A 55)
  have hB := Lib.hid ((Below.refl w.heap.size w).alloc (Nat.le_refl _) (.cells #[.int .i64 D, .int .i64 Z, .int .i64 B, .int .i64 O, .int .i64 A] 55))
  go_enter Try.func5, Try.ntmps5
  go_upto_region 1 with fail
  refine fresh_world (fun W => GeoAt W w.heap.size D Z B O A ∧ Below w.heap.size w W) ⟨hG.out, hB.out⟩ ?_
  clear hG hB
  rintro W1 h1
  have h1H := Lib.hid h1
  clear h1
  go_wp2_with fail
  (with_reducible refine (speaks16 _).mono ?_)
  rintro e w1 ⟨rfl, hb1⟩
  have h1 := h1H.out.1.below hb1
  have h2 := bmore h1H.out.2 hb1
  obtain ⟨g0, g1, g2, g3, g4, _⟩ := h1
  have hG7 := GeoAt.new w1 D Z B O A 30
  have ha := (Below.refl w1.heap.size w1).alloc (Nat.le_refl _) (.cells #[.int .i64 D, .int .i64 Z, .int .i64 B, .int .i64 O, .int .i64 A] 30)
  have hN7 : Hid (RbG w w1.heap.size D Z B O A (w1.alloc (.cells #[.int .i64 D, .int .i64 Z, .int .i64 B, .int .i64 O, .int .i64 A] 30))) := Lib.hid ⟨(h1H.out.1.below hb1).below ha, hG7, bmore h2 ha, (h1H.out.1.below hb1).2.2.2.2.2⟩
  clear h1H hb1 h2 hG7 ha
  go_upto_region 4 with fail
  generalize w1.heap.size = s7 at hN7 ⊢
  refine fresh_world (fun W => RbG w s7 D Z B O A W) hN7.out ?_
  clear hN7 g0 g1 g2 g3 g4
  rintro w4 h4
  have h4H := Lib.hid h4
  obtain ⟨g0, g1, g2, g3, g4, _⟩ := h4.1
  have c1 := Lib.hid (fun W => refgood_any D Z B O A W)
  clear h4
  cases hg : goodB D Z B O A with
  | false =>
    rw [hg] at c1
    go_wp2_with fail
    (with_reducible refine (c1.out _).mono ?_)
    rintro e w2 ⟨rfl, hb2⟩
    have h2 := h4H.out.below hb2
    have htk := Lib.hid (tasks_no D Z B O A a a2 0 (by
      cases hx : lnB D Z B O A a a2 with
      | false => rfl
      | true =>
        obtain ⟨_, _, _, _, _, _, hgg, _⟩ := ln_yes hx
        rw [goodB_iff.2 hgg] at hg
        cases hg) w2)
    have h2H := Lib.hid h2.2.2.1
    clear h4H hb2 g0 g1 g2 g3 g4 hg
    obtain ⟨c0, c1, c2, c3, c4, _⟩ := h2.2.1
    clear h2
    go_wp2_with fail
    (with_reducible refine htk.out.mono ?_)
    rintro e w3 ⟨rfl, hb3⟩
    have hF := Lib.hid (bmore h2H.out hb3)
    clear h2H htk hb3 c0 c1 c2 c3 c4
    go_wp2_with fail
    go_ret
    exact ⟨rfl, hF.out⟩
  | true =>
    rw [hg] at c1
    have hgp := goodB_iff.1 hg
    obtain ⟨wd, hD⟩ : ∃ wd : Nat, D = (wd : Int) + 1 := ⟨(D - 1).toNat, by have := hgp.1; omega⟩
    obtain ⟨n, hZ⟩ : ∃ n : Nat, Z = (n : Int) + 3 := ⟨(Z - 3).toNat, by have := hgp.2.2.1; omega⟩
    have hw15 : wd ≤ 15 := by have := hgp.2.1; omega
    have hw2 : 2 ≤ wd := by have := hgp.1; omega
    have hn61 : n ≤ 61 := by have := hgp.2.2.2.1; omega
    have hn2 : 2 ≤ n := by have := hgp.2.2.1; omega
    have hzn := Lib.hid (fun W => zones_any D Z B O A W)
    obtain ⟨Zn, hZn⟩ : ∃ Zn : Int, Z - 3 = Zn := ⟨_, rfl⟩
    rw [zonesV_good hgp, hZn] at hzn
    have hcp := Lib.hid (fun W => cap_any D Z B O A W)
    have hVb := capV_bd D Z B O A
    have hVe := capV_good hgp
    obtain ⟨v, hV⟩ : ∃ v : Nat, capV D Z B O A = (v : Int) := ⟨(capV D Z B O A).toNat, by omega⟩
    rw [hV] at hcp hVb hVe
    obtain ⟨t1, z, x1, x2, x3, x4, x5, x6, x7, x8, x9⟩ := mod_more16 a (m := Zn) (by omega) (by omega)
    have hzZ : Hid ((z : Int) ≤ Z - 4) := Lib.hid (by omega)
    have hv3840 : v ≤ 3840 := by omega
    have hZH := Lib.hid hZ
    have hDH := Lib.hid hD
    have hgH := Lib.hid hgp
    have hVH := Lib.hid hVe
    clear hgp hD hZ hg hV hVe hVb hZn
    go_wp2_with fail
    (with_reducible refine (c1.out _).mono ?_)
    rintro e w2 ⟨rfl, hb2⟩
    have h2 := h4H.out.below hb2
    have hS0 : (fun W => RbG w s7 D Z B O A W) w2.drew := h2.below (Below.refl _ _).drew
    clear h4H hb2 g0 g1 g2 g3 g4 c1 h2
    go_upto_region 6 with fail
    refine region_anyC (fun _ => true) (fun W => RbG w s7 D Z B O A W) (by kernel_rfl) ?_
    generalize w2.drew = wa at hS0 ⊢
    refine anyL_take 0 (v := ?_) rfl (by kernel_rfl) (fun _ _ _ h => h) (Or.inl ⟨by rfl, ?_⟩) hS0 ?_
    rotate_left
    focus (intro W hW; go_simp; try with_reducible rfl)
    simp only [Act.put, List.setIfInBounds_toArray, List.set_cons_zero, List.set_cons_succ]
    refine anyL_take 1 (v := ?_) rfl (by kernel_rfl) (fun _ _ _ h => h) (Or.inl ⟨by rfl, ?_⟩) hS0 ?_
    rotate_left
    focus (intro W hW; obtain ⟨_, ⟨g0, g1, g2, g3, g4, _⟩, _⟩ := hW; go_simp; try with_reducible rfl)
    simp only [Act.put, List.setIfInBounds_toArray, List.set_cons_zero, List.set_cons_succ]
    refine anyL_take 4 (v := ?_) rfl (by kernel_rfl) (fun _ _ _ h => h) (Or.inl ⟨by rfl, ?_⟩) hS0 ?_
    rotate_left
    focus (intro W hW; obtain ⟨_, ⟨g0, g1, g2, g3, g4, _⟩, _⟩ := hW; go_simp; try with_reducible rfl)
    simp only [Act.put, List.setIfInBounds_toArray, List.set_cons_zero, List.set_cons_succ]
    refine anyL_take 7 (v := ?_) rfl (by kernel_rfl) (fun _ _ _ h => h) (Or.inl ⟨by rfl, ?_⟩) hS0 ?_
    rotate_left
    focus (intro W hW; obtain ⟨_, ⟨g0, g1, g2, g3, g4, _⟩, _⟩ := hW; go_simp; try with_reducible rfl)
    simp only [Act.put, List.setIfInBounds_toArray, List.set_cons_zero, List.set_cons_succ]
    refine anyL_one 2 rfl (by kernel_rfl) (fun K hK => ?_)
    go_simp
    refine (hzn.out _).mono ?_
    rintro e' wz0 ⟨rfl, hbz0⟩
    have hS1 : (fun W => RbG w s7 D Z B O A W) wz0 := RbG.below hS0 hbz0
    clear hS0 hbz0
    refine hK.out _ _ (fun _ => hS1) ?_
    clear hK K
    try simp only [Act.put, List.setIfInBounds_toArray, List.set_cons_zero, List.set_cons_succ]
    refine anyL_take 3 (v := ?_) rfl (by kernel_rfl) (fun _ _ _ h => h) (Or.inl ⟨by rfl, ?_⟩) hS1 ?_
    rotate_left
    focus (intro W hW; go_simp; try with_reducible rfl)
    simp only [Act.put, List.setIfInBounds_toArray, List.set_cons_zero, List.set_cons_succ]
    refine anyL_one 5 rfl (by kernel_rfl) (fun K hK => ?_)
    go_simp
    refine (hzn.out _).mono ?_
    rintro e' wz1 ⟨rfl, hbz1⟩
    have hS2 : (fun W => RbG w s7 D Z B O A W) wz1 := RbG.below hS1 hbz1
    clear hS1 hbz1
    refine hK.out _ _ (fun _ => hS2) ?_
    clear hK K
    try simp only [Act.put, List.setIfInBounds_toArray, List.set_cons_zero, List.set_cons_succ]
    refine anyL_take 6 (v := ?_) rfl (by kernel_rfl) (fun _ _ _ h => h) (Or.inl ⟨by rfl, ?_⟩) hS2 ?_
    rotate_left
    focus (intro W hW; go_simp; try with_reducible rfl)
    simp only [Act.put, List.setIfInBounds_toArray, List.set_cons_zero, List.set_cons_succ]
    refine anyL_one 8 rfl (by kernel_rfl) (fun K hK => ?_)
    go_simp
    refine (hzn.out _).mono ?_
    rintro e' wz2 ⟨rfl, hbz2⟩
    have hS3 : (fun W => RbG w s7 D Z B O A W) wz2 := RbG.below hS2 hbz2
    clear hS2 hbz2
    refine hK.out _ _ (fun _ => hS3) ?_
    clear hK K
    try simp only [Act.put, List.setIfInBounds_toArray, List.set_cons_zero, List.set_cons_succ]
    refine anyL_take 9 (v := ?_) rfl (by kernel_rfl) (fun _ _ _ h => h) (Or.inl ⟨by rfl, ?_⟩) hS3 ?_
    rotate_left
    focus (intro W hW; go_simp; try with_reducible rfl)
    simp only [Act.put, List.setIfInBounds_toArray, List.set_cons_zero, List.set_cons_succ]
    refine anyL_take 10 (v := ?_) rfl (by kernel_rfl) (fun _ _ _ h => h) (Or.inl ⟨by rfl, ?_⟩) hS3 ?_
    rotate_left
    focus (intro W hW; go_simp; try with_reducible rfl)
    simp only [Act.put, List.setIfInBounds_toArray, List.set_cons_zero, List.set_cons_succ]
    refine anyC_done (by kernel_rfl) ?_ _
    have h6H := Lib.hid hS3
    clear hS3 x1 x2 x4 x5 x6 x7 x8 x9 hzn
    obtain ⟨c0, c1, c2, c3, c4, _⟩ := h6H.out.2.1
    go_wp2_with fail
    (with_reducible refine (hcp.out _).mono ?_)
    rintro e w7 ⟨rfl, hb7⟩
    have h7 := h6H.out.below hb7
    have h7H := Lib.hid h7
    clear h6H hb7 hcp c0 c1 c2 c3 c4
    by_cases hbad : a2 < 0 ∨ (v : Int) < a2
    case pos =>
      have htk := Lib.hid (fun W => tasks_no D Z B O A (z : Int) a2 0 (by
        cases hx : lnB D Z B O A (z : Int) a2 with
        | false => rfl
        | true =>
          obtain ⟨_, _, r0, hd0, _, hr0, _, _, hrr, _⟩ := ln_yes hx
          rw [← hVH.out] at hrr
          omega) W)
      obtain ⟨c0, c1, c2, c3, c4, _⟩ := h7.2.1
      clear h7
      rcases hbad with hb1 | hb1
      case inl =>
        go_wp2_with fail
        (with_reducible refine (htk.out _).mono ?_)
        rintro e w8 ⟨rfl, hb8⟩
        have hF := Lib.hid (bmore h7H.out.2.2.1 hb8)
        clear h7H hb8 htk c0 c1 c2 c3 c4
        go_wp2_with fail
        go_ret
        exact ⟨rfl, hF.out⟩
      case inr =>
        have hb0 : ¬ a2 < 0 := by omega
        go_wp2_with fail
        (with_reducible refine (htk.out _).mono ?_)
        rintro e w8 ⟨rfl, hb8⟩
        have hF := Lib.hid (bmore h7H.out.2.2.1 hb8)
        clear h7H hb8 htk c0 c1 c2 c3 c4
        go_wp2_with fail
        go_ret
        exact ⟨rfl, hF.out⟩
    case neg =>
      obtain ⟨r, rfl⟩ : ∃ r : Nat, a2 = (r : Int) := ⟨a2.toNat, by omega⟩
      have hrv : r ≤ v := by omega
      have hrB : Hid ((r : Int) ≤ (D - 1) * B) := Lib.hid (by rw [← hVH.out]; omega)
      have hr0 : ¬ (r : Int) < 0 := by omega
      have hr1 : ¬ (v : Int) < (r : Int) := by omega
      obtain ⟨i0, hi, hz0, hz1, hz2⟩ := info_parts infBl
      have hmk := fun W => run_make_m (P := Try.prog) 75 4 i0 (.bool false) Try.underlying75 hi hz0 .i64 .i64 v v (Nat.le_refl _) (by rw [hz2]; omega) (by omega) W
      rw [hz1] at hmk
      have hrow := made_row blE false #[.bool false] rfl (by decide) w7 v (by omega) 4
      have hal := (Below.refl w7.heap.size w7).alloc (Nat.le_refl _) (.cells (madeCells #[.bool false] (v * 1)) 4)
      have hst : TsW w (w7.alloc (.cells (madeCells #[.bool false] (v * 1)) 4)) s7 D Z B O A w7.heap.size v (List.replicate v false) := ⟨h7.below hal, hrow.mono h7.lt⟩
      have hb0 : List.replicate v false = bsL (seenB wd z r 0 0) v := by
        apply List.ext_getElem
        · rw [List.length_replicate, bsL_len]
        · intro j _ _
          rw [List.getElem_replicate, bsL_at, seen_zero]
      rw [hb0] at hst
      have hstH := Lib.hid hst
      have hdv : decide (v < r) = false := decide_eq_false (by omega)
      have hdvI : decide ((v : Int) < (r : Int)) = false := decide_eq_false hr1
      have hdr : decide ((r : Int) < 0) = false := decide_eq_false hr0
      clear hbad hi hz0 hz1 hz2 hrow hal hst hb0 h7 h7H
      go_upto_region 11 with fail
      clear hmk hr0 hr1 hdv hdvI hdr
      rw [Nat.mul_one] at hstH
      generalize w7.heap.size = G at hstH ⊢
      refine fresh_world (fun W => TsW w W s7 D Z B O A G v (bsL (seenB wd z r 0 0) v)) hstH.out ?_
      clear hstH
      rintro w8 h8
      have h8H := Lib.hid h8
      clear h8
      have hbk := Lib.hid (fun (i s : Int) W => back_any D Z B O A (z : Int) i s W)
      have hcd := Lib.hid (fun s i => cnt_bd wd z r s i)
      have hpl := Lib.hid (fun s i => pT_le wd z s i)
      have hql : r / wd ≤ r := Nat.div_le_self _ _
      obtain ⟨q, hq⟩ : ∃ q, r / wd = q := ⟨_, rfl⟩
      rw [hq] at hql
      have hqH := Lib.hid hq
      clear hq
      go_wp2_with fail
      go_loopw [10, 11, 12] (fun nb np ss wr => ∃ s : Nat, s ≤ wd + 1 ∧ ss = .int .i64 (s : Int) ∧ nb = .int .i64 ((cntB wd z r s 0 : Nat) : Int) ∧ np = .int .i64 ((pT wd z (s : Int) q : Nat) : Int) ∧ Hid (TsW w wr s7 D Z B O A G v (bsL (seenB wd z r s 0) v))) (fun _ _ ss _ => wd + 1 - (intOf ss).toNat)
      case atStart => exact ⟨0, Nat.zero_le _, rfl, by rw [cnt_start]; rfl, by rw [show ((0 : Nat) : Int) = 0 from rfl, pT_zero]; rfl, h8H⟩
      case round =>
        clear h8H
        obtain ⟨s, hsd, rfl, rfl, rfl, hW⟩ := hrel
        have d0 := hW.out.g.1.1
        by_cases hlt : s < wd + 1
        case pos =>
          have hsD : (s : Int) < D := by have := hDH.out; omega
          have hsw : IntKind.i64.wrap ((s : Int) + 1) = (s : Int) + 1 := IntWalk.i64_in _ (by omega)
          obtain ⟨n2, hn2l⟩ : ∃ n2 : Nat, len wd z r (s : Int) = (n2 : Int) := ⟨(len wd z r (s : Int)).toNat, by have h1 := Int.le_trans (Int.natCast_nonneg _) (len_bd wd z r (s : Int)).1; omega⟩
          have hn2H := Lib.hid hn2l
          have htk := Lib.hid (fun W => tasks_good wd z r s n2 D Z B O A hDH.out W hgH.out hzZ.out hrB.out hlt hn2l)
          have hfat := Lib.hid (fun i (h : i < (tkL (tkA D Z B O A (z : Int) (s : Int)) n2 n2).length) => tkL_at h)
          have hfl := Lib.hid (tkL_len (tkA D Z B O A (z : Int) (s : Int)) n2 n2)
          have hfi0 : ∀ i : Nat, tkA D Z B O A (z : Int) (s : Int) i = ⟨(i : Int), !bkB D Z B O A (z : Int) (i : Int) (s : Int), bkV D Z B O A (z : Int) (i : Int) (s : Int)⟩ := fun _ => rfl
          have hfi := Lib.hid hfi0
          clear hfi0 hn2l
          generalize tkL (tkA D Z B O A (z : Int) (s : Int)) n2 n2 = l at htk hfat hfl
          generalize tkA D Z B O A (z : Int) (s : Int) = f at hfat hfi
          have hn2b : n2 ≤ 256 := by
            have h1 := len_rows (z := z) (r := r) (B := B) (show 0 < wd by omega) (by have := hrB.out; rw [hDH.out, show (wd : Int) + 1 - 1 = (wd : Int) by omega] at this; exact this) (s : Int)
            have := hgH.out.2.2.2.2.2.1
            have := hn2H.out
            omega
          obtain ⟨c0, c1, c2, c3, c4, _⟩ := hW.out.g.2.1
          clear hsd
          go_wp2_with fail
          refine (htk.out _).mono ?_
          rintro e w9 ⟨GT, rfl, hrowT, hb9⟩
          rw [hfl.out] at hrowT ⊢
          have hGT : G ≠ GT := by
            rcases hrowT.form with ⟨e, _⟩ | ⟨g', e, hb, _⟩
            · cases e
            · injection e with e; injection e with e
              have := hW.out.ge.2
              omega
          have hW9 := Lib.hid (hW.out.below hb9)
          have hT9 := Lib.hid hrowT.in_
          clear htk hrowT hb9 hW c0 c1 c2 c3 c4 d0
          go_wp2_with fail
          go_loopw [10, 11, 14] (fun nb np ii wr => ∃ (i P : Nat), i ≤ n2 ∧ ii = .int .i64 (i : Int) ∧ nb = .int .i64 ((cntB wd z r s i : Nat) : Int) ∧ np = .int .i64 (P : Int) ∧ Hid (P = pT wd z (s : Int) q + pc wd z (s : Int) i) ∧ Hid (TsW w wr s7 D Z B O A G v (bsL (seenB wd z r s i) v)) ∧ Hid (tkE.In wr (some ⟨GT, 0, none⟩) l)) (fun _ _ ii _ => n2 - (intOf ii).toNat)
          case atStart => exact ⟨0, pT wd z (s : Int) q, Nat.zero_le _, rfl, rfl, rfl, Lib.hid rfl, hW9, hT9⟩
          case round =>
            clear hW9 hT9
            obtain ⟨i, P, hin, rfl, rfl, rfl, hPe, hW, hT⟩ := hrel
            by_cases hil : i < n2
            case pos =>
              have iw : IntKind.i64.wrap ((i : Int) + 1) = (i : Int) + 1 := IntWalk.i64_in _ (by omega)
              have hlen : Hid ((i : Int) < len wd z r (s : Int)) := Lib.hid (by rw [hn2H.out]; omega)
              have hiB : Hid ((i : Int) < B) := Lib.hid (row_lt_B (show 0 < wd by omega) hDH.out hrB.out hlen.out)
              obtain ⟨b0, o0, e, _, y0, y1, y2⟩ := tk_at hT.out (i := i) (by rw [hfl.out]; exact hil)
              injection e with e; injection e with e1 e2
              subst e1; subst e2
              rw [hfat.out i (by rw [hfl.out]; exact hil), hfi.out i] at y0 y1 y2
              rw [Nat.zero_add] at y0 y1 y2
              have hiI : (i : Int) < (n2 : Int) := by omega
              have hcb := hcd.out s i
              have hpb := hpl.out (s : Int) q
              have hpcb := pc_le wd z (s : Int) i
              have hPb : P ≤ 4200 := by have := hPe.out; omega
              have hpw : IntKind.i64.wrap ((P : Int) + 1) = (P : Int) + 1 := IntWalk.i64_in _ (by omega)
              have hcw : IntKind.i64.wrap (((cntB wd z r s i : Nat) : Int) + 1) = ((cntB wd z r s i : Nat) : Int) + 1 := IntWalk.i64_in _ (by omega)
              have hbc := Lib.hid (fun W => hbk.out (i : Int) (s : Int) W)
              obtain ⟨c0, c1, c2, c3, c4, _⟩ := hW.out.g.2.1
              clear hcb hpb hpcb
              rcases back_of (z := z) (i := i) (show 0 < wd by omega) hlt with hp | ⟨hp, k, hk, hsl⟩
              case inl =>
                obtain ⟨hkb, hkv⟩ := bk_par hDH.out hgH.out hzZ.out hiB.out hp
                rw [hkb, hkv] at hbc
                rw [hkb] at y1
                rw [hkv] at y2
                have y1' : wr.cell? ⟨GT, i * 3 + 1, none⟩ = some (.bool true) := y1
                have hcn : Hid (cntB wd z r s (i + 1) = cntB wd z r s i) := Lib.hid (cnt_par (by omega) hp)
                have hsn : Hid (bsL (seenB wd z r s (i + 1)) v = bsL (seenB wd z r s i) v) := Lib.hid (bsL_congr (fun b => seen_par (by omega) hp) v)
                have hpn : Hid (P + 1 = pT wd z (s : Int) q + pc wd z (s : Int) (i + 1)) := Lib.hid (by
                  show _ = pT wd z (s : Int) q + (pc wd z (s : Int) i + if par wd z i = (s : Int) then 1 else 0)
                  rw [if_pos hp]; have := hPe.out; omega)
                have y0H := Lib.hid (fun W (hb : Below wr.heap.size wr W) => (hb.cell (lt_of_cell y0)).trans y0)
                have y1H := Lib.hid (fun W (hb : Below wr.heap.size wr W) => (hb.cell (lt_of_cell y1')).trans y1')
                have y2H := Lib.hid (fun W (hb : Below wr.heap.size wr W) => (hb.cell (lt_of_cell y2)).trans y2)
                clear hkb hkv hp y1 y1' y0 y2 hcw
                go_wp2_with fail
                (with_reducible refine (hbc.out _).mono ?_)
                rintro e wb ⟨rfl, hbb⟩
                have y0 := y0H.out _ hbb
                have y1 := y1H.out _ hbb
                have y2 := y2H.out _ hbb
                have hWb := Lib.hid (hW.out.below hbb)
                have hTb := Lib.hid (hT.out.below hbb)
                clear hbc hbb hW hT y0H y1H y2H c0 c1 c2 c3 c4
                go_wp2_with fail
                go_roundw
                case rel => exact ⟨i + 1, P + 1, hil, by go_num, by rw [hcn.out], by go_num, hpn, Lib.hid (by rw [hsn.out]; exact hWb.out), hTb⟩
                case measure => simp only [intOf]; omega
              case inr =>
                obtain ⟨hkb, hkv⟩ := bk_blk hDH.out hgH.out hzZ.out hiB.out hlt hp hk hsl
                have hxr := blk_lt (show 0 < wd by omega) hk hsl hlen.out
                have hcn : Hid (cntB wd z r s (i + 1) = cntB wd z r s i + 1) := Lib.hid (cnt_blk (by omega) hk hsl hxr)
                have hsn : Hid (bsL (seenB wd z r s (i + 1)) v = (bsL (seenB wd z r s i) v).set (i * wd + k) true) := Lib.hid (by
                  rw [bsL_set]
                  exact bsL_congr (fun b => seen_blk (by omega) hk hsl hxr) v)
                have hpn : Hid (P = pT wd z (s : Int) q + pc wd z (s : Int) (i + 1)) := Lib.hid (by
                  show _ = pT wd z (s : Int) q + (pc wd z (s : Int) i + if par wd z i = (s : Int) then 1 else 0)
                  rw [if_neg hp]; exact hPe.out)
                have hsee := seen_new (wd := wd) (z := z) (r := r) (by omega) hk hsl
                rw [hkb, hkv] at hbc
                rw [hkb] at y1
                rw [hkv] at y2
                have y1' : wr.cell? ⟨GT, i * 3 + 1, none⟩ = some (.bool false) := y1
                have hxl : i * wd + k < (bsL (seenB wd z r s i) v).length := by rw [bsL_len]; omega
                obtain ⟨_, eg, _, hgl, _, hcell, hfr⟩ := hW.out.r.at_ hxl
                injection eg with eg; injection eg with eg; subst eg
                have u0 : wr.cell? ⟨G, i * wd + k, none⟩ = some (.bool false) := by
                  have h1 := hcell 0 (by decide)
                  rw [bsL_at, hsee] at h1
                  have e1 : (i * wd + k) * blE.k + 0 = i * wd + k := by show (i * wd + k) * 1 + 0 = _; omega
                  rw [e1] at h1
                  exact h1
                have hxv : ((i * wd + k : Nat) : Int) < (v : Int) := by omega
                have hxrI : ¬ (r : Int) ≤ ((i * wd + k : Nat) : Int) := by omega
                have hx0 : ¬ ((i * wd + k : Nat) : Int) < 0 := by omega
                have hxrH := Lib.hid hxr
                have y0H := Lib.hid (fun W (hb : Below wr.heap.size wr W) => (hb.cell (lt_of_cell y0)).trans y0)
                have y1H := Lib.hid (fun W (hb : Below wr.heap.size wr W) => (hb.cell (lt_of_cell y1')).trans y1')
                have y2H := Lib.hid (fun W (hb : Below wr.heap.size wr W) => (hb.cell (lt_of_cell y2)).trans y2)
                have u0H := Lib.hid (fun W (hb : Below wr.heap.size wr W) => (hb.cell (lt_of_cell u0)).trans u0)
                have frH := Lib.hid (fun W (hb : Below wr.heap.size wr W) j => (World.frozen?_of_block (a := ⟨G, j, none⟩) (hb.block G hgl)).trans (hfr j))
                clear hkb hkv hp hk hsl hsee y1 y1' y0 y2 u0 hcell hfr hgl hpw hxr
                generalize i * wd + k = x at hbc y2H u0H hsn hxl hxv hxrI hx0 hxrH
                go_wp2_with fail
                (with_reducible refine (hbc.out _).mono ?_)
                rintro e wb ⟨rfl, hbb⟩
                have y0 := y0H.out _ hbb
                have y1 := y1H.out _ hbb
                have y2 := y2H.out _ hbb
                have u0 := u0H.out _ hbb
                have fr := frH.out _ hbb
                have hgl := lt_of_cell u0
                have hWs := Lib.hid ((hW.out.below hbb).store hxl true)
                rw [← hsn.out] at hWs
                have hTs := Lib.hid (in_far (hT.out.below hbb) (grownBy_one wb G x (.bool true)) (fun g off e => by injection e with e; injection e with e; omega))
                have hxn : x < v := by rw [bsL_len] at hxl; exact hxl
                clear hbc hbb hW hT y0H y1H y2H u0H frH c0 c1 c2 c3 c4 hxl
                go_wp2_with fail
                go_roundw
                case rel => exact ⟨i + 1, P, hil, by go_num, by rw [hcn.out]; go_num, rfl, hpn, hWs, hTs⟩
                case measure => simp only [intOf]; omega
            case neg =>
              have hie : i = n2 := by omega
              have hc1 : Hid (cntB wd z r s i = cntB wd z r (s + 1) 0) := Lib.hid (by rw [hie]; exact cnt_slot hn2H.out)
              have hs1 : Hid (bsL (seenB wd z r s i) v = bsL (seenB wd z r (s + 1) 0) v) := Lib.hid (by rw [hie]; exact bsL_congr (fun b => seen_slot hn2H.out) v)
              have hp1 : Hid (P = pT wd z ((s + 1 : Nat) : Int) q) := Lib.hid (by
                rw [hPe.out, hie, pc_len (show 0 < wd by omega) hn2H.out, hqH.out, show ((s + 1 : Nat) : Int) = (s : Int) + 1 by omega, pT_next])
              clear hie
              go_wp2_with fail
              go_roundw
              case rel => exact ⟨s + 1, hlt, by go_num, by rw [hc1.out], by rw [← hp1.out], Lib.hid (by rw [← hs1.out]; exact hW.out)⟩
              case measure => simp only [intOf]; omega
        case neg =>
          have hse : s = wd + 1 := by omega
          rw [hse, cnt_end, pT_all]
          have hnD : ¬ (((wd + 1 : Nat) : Int) < D) := by have := hDH.out; omega
          have hdw : IntKind.i64.wrap (D - 1) = (wd : Int) := by rw [show D - 1 = (wd : Int) by have := hDH.out; omega]; exact IntWalk.i64_in _ (by omega)
          have hwd0 : ¬ (wd : Int) = 0 := by omega
          have hwd1 : ¬ (wd : Int) = -1 := by omega
          have hwdn : ¬ wd = 0 := by omega
          have hqt : (r : Int).tdiv (wd : Int) = (q : Int) := by rw [tdiv_nat, hqH.out]
          have hqw : IntKind.i64.wrap (q : Int) = (q : Int) := IntWalk.i64_in _ (by omega)
          have ho1 := Lib.hid (fun W => tasks_out wd z r D Z B O A (-1) hDH.out W hgH.out hzZ.out hrB.out (.inl (by decide)))
          have ho2 := Lib.hid (fun W => tasks_out wd z r D Z B O A D hDH.out W hgH.out hzZ.out hrB.out (.inr (by have := hDH.out; omega)))
          have hS : (fun W => RbG w s7 D Z B O A W) wr.drew := hW.out.g.below (Below.refl _ _).drew
          generalize ((wd + 1 : Nat) : Int) = WD at hnD ⊢
          clear hse hW hlt hsd
          go_upto_region 28 with fail
          clear d0
          refine region_anyC (fun _ => true) (fun W => RbG w s7 D Z B O A W) (by kernel_rfl) ?_
          generalize wr.drew = wa at hS ⊢
          refine anyL_take 0 (v := ?_) rfl (by kernel_rfl) (fun _ _ _ h => h) (Or.inl ⟨by rfl, ?_⟩) hS ?_
          rotate_left
          focus (intro W hW; go_simp; try with_reducible rfl)
          simp only [Act.put, List.setIfInBounds_toArray, List.set_cons_zero, List.set_cons_succ]
          refine anyL_take 1 (v := ?_) rfl (by kernel_rfl) (fun _ _ _ h => h) (Or.inl ⟨by rfl, ?_⟩) hS ?_
          rotate_left
          focus (intro W hW; go_simp; try with_reducible rfl)
          simp only [Act.put, List.setIfInBounds_toArray, List.set_cons_zero, List.set_cons_succ]
          refine anyL_take 2 (v := ?_) rfl (by kernel_rfl) (fun _ _ _ h => h) (Or.inl ⟨by rfl, ?_⟩) hS ?_
          rotate_left
          focus (intro W hW; go_simp; try with_reducible rfl)
          simp only [Act.put, List.setIfInBounds_toArray, List.set_cons_zero, List.set_cons_succ]
          refine anyL_take 3 (v := ?_) rfl (by kernel_rfl) (fun _ _ _ h => h) (Or.inl ⟨by rfl, ?_⟩) hS ?_
          rotate_left
          focus (intro W hW; go_simp; try with_reducible rfl)
          simp only [Act.put, List.setIfInBounds_toArray, List.set_cons_zero, List.set_cons_succ]
          refine anyL_take 4 (v := ?_) rfl (by kernel_rfl) (fun _ _ _ h => h) (Or.inl ⟨by rfl, ?_⟩) hS ?_
          rotate_left
          focus (intro W hW; go_simp; try with_reducible rfl)
          simp only [Act.put, List.setIfInBounds_toArray, List.set_cons_zero, List.set_cons_succ]
          refine anyL_take 5 (v := ?_) rfl (by kernel_rfl) (fun _ _ _ h => h) (Or.inl ⟨by rfl, ?_⟩) hS ?_
          rotate_left
          focus (intro W hW; go_simp; try with_reducible rfl)
          simp only [Act.put, List.setIfInBounds_toArray, List.set_cons_zero, List.set_cons_succ]
          refine anyL_take 6 (v := ?_) rfl (by kernel_rfl) (fun _ _ _ h => h) (Or.inl ⟨by rfl, ?_⟩) hS ?_
          rotate_left
          focus (intro W hW; go_simp; try with_reducible rfl)
          simp only [Act.put, List.setIfInBounds_toArray, List.set_cons_zero, List.set_cons_succ]
          refine anyL_take 7 (v := ?_) rfl (by kernel_rfl) (fun _ _ _ h => h) (Or.inl ⟨by rfl, ?_⟩) hS ?_
          rotate_left
          focus (intro W hW; obtain ⟨⟨d0, d1, d2, d3, d4, _⟩, ⟨g0, g1, g2, g3, g4, _⟩, _⟩ := hW; go_simp; try with_reducible rfl)
          simp only [Act.put, List.setIfInBounds_toArray, List.set_cons_zero, List.set_cons_succ]
          refine anyL_take 8 (v := ?_) rfl (by kernel_rfl) (fun _ _ _ h => h) (Or.inl ⟨by rfl, ?_⟩) hS ?_
          rotate_left
          focus (intro W hW; go_simp; try with_reducible rfl)
          simp only [Act.put, List.setIfInBounds_toArray, List.set_cons_zero, List.set_cons_succ]
          refine anyL_take 9 (v := ?_) rfl (by kernel_rfl) (fun _ _ _ h => h) (Or.inl ⟨by rfl, ?_⟩) hS ?_
          rotate_left
          focus (intro W hW; go_simp; try with_reducible rfl)
          simp only [Act.put, List.setIfInBounds_toArray, List.set_cons_zero, List.set_cons_succ]
          refine anyL_take 10 (v := ?_) rfl (by kernel_rfl) (fun _ _ _ h => h) (Or.inl ⟨by rfl, ?_⟩) hS ?_
          rotate_left
          focus (intro W hW; go_simp; try with_reducible rfl)
          simp only [Act.put, List.setIfInBounds_toArray, List.set_cons_zero, List.set_cons_succ]
          refine anyL_take 11 (v := ?_) rfl (by kernel_rfl) (fun _ _ _ h => h) (Or.inl ⟨by rfl, ?_⟩) hS ?_
          rotate_left
          focus (intro W hW; go_simp; try with_reducible rfl)
          simp only [Act.put, List.setIfInBounds_toArray, List.set_cons_zero, List.set_cons_succ]
          refine anyL_take 12 (v := ?_) rfl (by kernel_rfl) (fun _ _ _ h => h) (Or.inl ⟨by rfl, ?_⟩) hS ?_
          rotate_left
          focus (intro W hW; go_simp; try with_reducible rfl)
          simp only [Act.put, List.setIfInBounds_toArray, List.set_cons_zero, List.set_cons_succ]
          refine anyL_take 13 (v := ?_) rfl (by kernel_rfl) (fun _ _ _ h => h) (Or.inl ⟨by rfl, ?_⟩) hS ?_
          rotate_left
          focus (intro W hW; obtain ⟨⟨d0, d1, d2, d3, d4, _⟩, ⟨g0, g1, g2, g3, g4, _⟩, _⟩ := hW; go_simp; try with_reducible rfl)
          simp only [Act.put, List.setIfInBounds_toArray, List.set_cons_zero, List.set_cons_succ]
          refine anyL_take 14 (v := ?_) rfl (by kernel_rfl) (fun _ _ _ h => h) (Or.inl ⟨by rfl, ?_⟩) hS ?_
          rotate_left
          focus (intro W hW; go_simp; try with_reducible rfl)
          simp only [Act.put, List.setIfInBounds_toArray, List.set_cons_zero, List.set_cons_succ]
          refine anyL_take 15 (v := ?_) rfl (by kernel_rfl) (fun _ _ _ h => h) (Or.inl ⟨by rfl, ?_⟩) hS ?_
          rotate_left
          focus (intro W hW; go_simp; try with_reducible rfl)
          simp only [Act.put, List.setIfInBounds_toArray, List.set_cons_zero, List.set_cons_succ]
          refine anyL_take 18 (v := ?_) rfl (by kernel_rfl) (fun _ _ _ h => h) (Or.inl ⟨by rfl, ?_⟩) hS ?_
          rotate_left
          focus (intro W hW; obtain ⟨⟨d0, d1, d2, d3, d4, _⟩, ⟨g0, g1, g2, g3, g4, _⟩, _⟩ := hW; go_simp; try with_reducible rfl)
          simp only [Act.put, List.setIfInBounds_toArray, List.set_cons_zero, List.set_cons_succ]
          refine anyL_take 19 (v := ?_) rfl (by kernel_rfl) (fun _ _ _ h => h) (Or.inl ⟨by rfl, ?_⟩) hS ?_
          rotate_left
          focus (intro W hW; go_simp; try with_reducible rfl)
          simp only [Act.put, List.setIfInBounds_toArray, List.set_cons_zero, List.set_cons_succ]
          refine anyL_take 20 (v := ?_) rfl (by kernel_rfl) (fun _ _ _ h => h) (Or.inl ⟨by rfl, ?_⟩) hS ?_
          rotate_left
          focus (intro W hW; go_simp; try with_reducible rfl)
          simp only [Act.put, List.setIfInBounds_toArray, List.set_cons_zero, List.set_cons_succ]
          refine anyL_take 21 (v := ?_) rfl (by kernel_rfl) (fun _ _ _ h => h) (Or.inl ⟨by rfl, ?_⟩) hS ?_
          rotate_left
          focus (intro W hW; go_simp; try with_reducible rfl)
          simp only [Act.put, List.setIfInBounds_toArray, List.set_cons_zero, List.set_cons_succ]
          refine anyL_take 22 (v := ?_) rfl (by kernel_rfl) (fun _ _ _ h => h) (Or.inl ⟨by rfl, ?_⟩) hS ?_
          rotate_left
          focus (intro W hW; obtain ⟨⟨d0, d1, d2, d3, d4, _⟩, ⟨g0, g1, g2, g3, g4, _⟩, _⟩ := hW; go_simp; try with_reducible rfl)
          simp only [Act.put, List.setIfInBounds_toArray, List.set_cons_zero, List.set_cons_succ]
          refine anyL_one 16 rfl (by kernel_rfl) (fun K hK => ?_)
          go_simp
          (with_reducible refine (ho1.out _).mono ?_)
          rintro e' wt ⟨rfl, hbwt⟩
          have hT : (fun W => RbG w s7 D Z B O A W) wt := RbG.below hS hbwt
          refine hK.out _ _ (fun _ => hT) ?_
          clear hK K hS hbwt
          try simp only [Act.put, List.setIfInBounds_toArray, List.set_cons_zero, List.set_cons_succ]
          refine anyL_take 17 (v := ?_) rfl (by kernel_rfl) (fun _ _ _ h => h) (Or.inl ⟨by rfl, ?_⟩) hT ?_
          rotate_left
          focus (intro W hW; go_simp; try with_reducible rfl)
          simp only [Act.put, List.setIfInBounds_toArray, List.set_cons_zero, List.set_cons_succ]
          refine anyL_one 23 rfl (by kernel_rfl) (fun K hK => ?_)
          go_simp
          (with_reducible refine (ho2.out _).mono ?_)
          rintro e' wu ⟨rfl, hbwu⟩
          have hU : (fun W => RbG w s7 D Z B O A W) wu := RbG.below hT hbwu
          refine hK.out _ _ (fun _ => hU) ?_
          clear hK K hT hbwu
          try simp only [Act.put, List.setIfInBounds_toArray, List.set_cons_zero, List.set_cons_succ]
          refine anyL_take 24 (v := ?_) rfl (by kernel_rfl) (fun _ _ _ h => h) (Or.inl ⟨by rfl, ?_⟩) hU ?_
          rotate_left
          focus (intro W hW; go_simp; try with_reducible rfl)
          simp only [Act.put, List.setIfInBounds_toArray, List.set_cons_zero, List.set_cons_succ]
          refine anyL_take 25 (v := ?_) rfl (by kernel_rfl) (fun _ _ _ h => h) (Or.inl ⟨by rfl, ?_⟩) hU ?_
          rotate_left
          focus (intro W hW; go_simp; try with_reducible rfl)
          simp only [Act.put, List.setIfInBounds_toArray, List.set_cons_zero, List.set_cons_succ]
          refine anyL_take 26 (v := ?_) rfl (by kernel_rfl) (fun _ _ _ h => h) (Or.inl ⟨by rfl, ?_⟩) hU ?_
          rotate_left
          focus (intro W hW; go_simp; try with_reducible rfl)
          simp only [Act.put, List.setIfInBounds_toArray, List.set_cons_zero, List.set_cons_succ]
          refine anyL_take 27 (v := ?_) rfl (by kernel_rfl) (fun _ _ _ h => h) (Or.inl ⟨by rfl, ?_⟩) hU ?_
          rotate_left
          focus (intro W hW; go_simp; try with_reducible rfl)
          simp only [Act.put, List.setIfInBounds_toArray, List.set_cons_zero, List.set_cons_succ]
          refine anyL_one 28 rfl (by kernel_rfl) (fun K hK => ?_)
          go_simp
          refine hK.out _ _ (fun _ => hU) ?_
          clear hK K
          try simp only [Act.put, List.setIfInBounds_toArray, List.set_cons_zero, List.set_cons_succ]
          refine anyC_done (by kernel_rfl) ?_ _
          have hF := Lib.hid hU.2.2.1
          clear hU
          go_wp2_with fail
          go_ret
          exact ⟨rfl, hF.out⟩
end Go.Proofs.Ytdjdldcpaidmnaa
