/- Encode of a group. -/
import Derived.Test.YtbgkmppngnedlaaDoorGpJ
namespace Go.Proofs.YtbgkmppngnedlaaDoor
open Go.RowKit Rec Crc Num Xor

theorem put_fieldG (v : Int) (k : Nat) (M : Int) (hv : 0 ≤ v ∧ v ≤ M) (h1 : 1 ≤ k) (h7 : k ≤ 7) (hM : M < ((256 ^ k : Nat) : Int)) (W : World) :
    Calls Tryd.prog 14 #[.int .i64 v, .int .i64 (k : Int)] W fun e w' => ∃ t, e = .returned (.string t) ∧ TextOf t (putL v.toNat k) ∧ Below W.heap.size W w' := by
  have h := put_ok v.toNat k W h1 h7 (by omega)
  rw [Int.toNat_of_nonneg hv.1] at h
  exact h.mono fun e w' ⟨h1, h2⟩ => ⟨_, h1, rfl, h2⟩
theorem zero_textG (n : Nat) (hn : n ≤ 65536) : TextOf (zeroS (n : Int)) (List.replicate n 0) := by
  unfold zeroS
  rw [if_neg (by omega)]
  unfold TextOf textOf
  simp only [Int.toNat_natCast]
  apply List.ext_getElem <;> simp
theorem encode_badG (w : World) (g : Gp) (A1 A2 : Option Addr) (c1 c2 : Nat) (h : GpW w A1 A2 g) (hl : g.es.length ≤ 1000) (hl2 : g.ds.length ≤ 1000) (hg : ¬ GoodG g) :
    Calls Tryd.prog 8 #[.agg #[.int .i64 g.q, .slice A1 g.es.length c1, .slice A2 g.ds.length c2]] w fun e w' => e = .returned (.tuple #[.string ⟨#[]⟩, .int .i64 1]) ∧ Below w.heap.size w w' := by
  have hb := (Below.refl w.heap.size w).alloc (Nat.le_refl _) (.cells #[.int .i64 g.q, .slice A1 g.es.length c1, .slice A2 g.ds.length c2] 30)
  have hpo := possible_anyG (w.alloc (.cells #[.int .i64 g.q, .slice A1 g.es.length c1, .slice A2 g.ds.length c2] 30)) g A1 A2 c1 c2 (h.below hb) hl hl2
  rw [decide_eq_false hg] at hpo
  have hpH := Lib.hid hpo
  have hbH := Lib.hid hb
  clear hpo hb h hg hl hl2
  go_enter Tryd.func8, Tryd.ntmps8
  go_wp2_with fail
  refine hpH.out.mono ?_
  rintro e w1 ⟨rfl, hb1⟩
  have hB := Lib.hid (bmore hbH.out hb1)
  clear hb1
  go_wp2_with fail
  go_ret2
  exact ⟨rfl, hB.out⟩
set_option maxRecDepth 100000 in
set_option maxHeartbeats 8000000 in
theorem encode_goodG (w : World) (g : Gp) (A1 A2 : Option Addr) (c1 c2 : Nat) (h : GpW w A1 A2 g) (hc2 : g.ds.length ≤ c2) (hg : GoodG g) (hT : Tab w) :
    Calls Tryd.prog 8 #[.agg #[.int .i64 g.q, .slice A1 g.es.length c1, .slice A2 g.ds.length c2]] w fun e w' => e = .returned (.tuple #[.string ⟨(encG g).toArray⟩, .int .i64 0]) ∧ Below w.heap.size w w' := by
  obtain ⟨q, es, ds⟩ := g
  have hlen := fits_len hg.2
  have hfl := flat_len hg.2
  have hbe := blkE_le es
  have hgd := Lib.hid (good_bd hg)
  obtain ⟨⟨hq0, hq1⟩, hn1, hn6⟩ := hg.1
  dsimp only at hlen hfl hq0 hq1 hn1 hn6 hc2 ⊢
  have hb := (Below.refl w.heap.size w).alloc (Nat.le_refl _) (.cells #[.int .i64 q, .slice A1 es.length c1, .slice A2 ds.length c2] 30)
  have hpo := possible_anyG (w.alloc (.cells #[.int .i64 q, .slice A1 es.length c1, .slice A2 ds.length c2] 30)) ⟨q, es, ds⟩ A1 A2 c1 c2 (h.below hb) (by dsimp only; omega) (by dsimp only; omega)
  rw [decide_eq_true hg] at hpo
  dsimp only at hpo
  have heH := Lib.hid (fun W (hb : Below w.heap.size w W) => h.e.below hb)
  have hjo := Lib.hid (fun W (hb : Below w.heap.size w W) => join_any W A2 c2 ds (h.d.below hb) hc2 (by omega) (by omega))
  dsimp only at heH
  have hTA := Lib.hid (fun W (hb : Below w.heap.size w W) => hT.below hb)
  have hfl2 := Lib.hid (show (flat ds).length ≤ 4096 by omega)
  obtain ⟨n, hn⟩ : ∃ n, es.length = n := ⟨_, rfl⟩
  rw [hlen] at hpo hb hc2 hjo ⊢
  rw [hn] at hpo hb hn1 hn6 hc2 hlen hjo ⊢
  have hnH := Lib.hid hn
  have hp1 := Lib.hid (fun W => put_fieldG q 6 1099511627776 ⟨hq0, hq1⟩ (by omega) (by omega) (by decide) W)
  have hp2 := Lib.hid (fun W => put_fieldG (n : Int) 1 255 (by omega) (by omega) (by omega) (by decide) W)
  have hpH := Lib.hid hpo
  have hst : Hid ((fun W : World => W.cell? ⟨w.heap.size, 0, none⟩ = some (.int .i64 q) ∧ W.cell? ⟨w.heap.size, 1, none⟩ = some (.slice A1 n c1) ∧ W.cell? ⟨w.heap.size, 2, none⟩ = some (.slice A2 n c2) ∧ Below w.heap.size w W) (w.alloc (.cells #[.int .i64 q, .slice A1 n c1, .slice A2 n c2] 30))) := Lib.hid ⟨by go_simp, by go_simp, by go_simp, hb⟩
  obtain ⟨ee, hee⟩ : ∃ ee : ByteArray, ee = ⟨(encG ⟨q, es, ds⟩).toArray⟩ := ⟨_, rfl⟩
  rw [← hee]
  have heeH := Lib.hid hee
  clear hpo hb h hg hT hq0 hq1 hfl hbe hn hlen hee
  go_enter Tryd.func8, Tryd.ntmps8
  go_wp2_with fail
  refine hpH.out.mono ?_
  rintro e w1 ⟨rfl, hb1⟩
  have hst1 : Hid ((fun W : World => W.cell? ⟨w.heap.size, 0, none⟩ = some (.int .i64 q) ∧ W.cell? ⟨w.heap.size, 1, none⟩ = some (.slice A1 n c1) ∧ W.cell? ⟨w.heap.size, 2, none⟩ = some (.slice A2 n c2) ∧ Below w.heap.size w W) w1) := Lib.hid ⟨(hb1.cell (lt_of_cell hst.out.1)).trans hst.out.1, (hb1.cell (lt_of_cell hst.out.2.1)).trans hst.out.2.1, (hb1.cell (lt_of_cell hst.out.2.2.1)).trans hst.out.2.2.1, bmore hst.out.2.2.2 hb1⟩
  clear hb1 hst hpH
  go_upto_region 3 with fail
  refine fresh_world (fun W : World => W.cell? ⟨w.heap.size, 0, none⟩ = some (.int .i64 q) ∧ W.cell? ⟨w.heap.size, 1, none⟩ = some (.slice A1 n c1) ∧ W.cell? ⟨w.heap.size, 2, none⟩ = some (.slice A2 n c2) ∧ Below w.heap.size w W) hst1.out ?_
  clear hst1
  rintro W3 hS3
  have hS0 : (fun W : World => W.cell? ⟨w.heap.size, 0, none⟩ = some (.int .i64 q) ∧ W.cell? ⟨w.heap.size, 1, none⟩ = some (.slice A1 n c1) ∧ W.cell? ⟨w.heap.size, 2, none⟩ = some (.slice A2 n c2) ∧ Below w.heap.size w W) W3.drew := ⟨hS3.1, hS3.2.1, hS3.2.2.1, hS3.2.2.2.drew⟩
  clear hS3
  refine region_anyC (fun _ => true) (fun W : World => W.cell? ⟨w.heap.size, 0, none⟩ = some (.int .i64 q) ∧ W.cell? ⟨w.heap.size, 1, none⟩ = some (.slice A1 n c1) ∧ W.cell? ⟨w.heap.size, 2, none⟩ = some (.slice A2 n c2) ∧ Below w.heap.size w W) (by kernel_rfl) ?_
  generalize W3.drew = Wd at hS0 ⊢
  refine anyL_take 0 (v := ?_) rfl (by kernel_rfl) (fun _ _ _ h => h) (Or.inl ⟨by rfl, ?_⟩) hS0 ?_
  rotate_left
  focus (intro W hW; go_simp; try with_reducible rfl)
  simp only [Act.put, List.setIfInBounds_toArray, List.set_cons_zero, List.set_cons_succ]
  refine anyL_take 1 (v := ?_) rfl (by kernel_rfl) (fun _ _ _ h => h) (Or.inl ⟨by rfl, ?_⟩) hS0 ?_
  rotate_left
  focus (intro W hW; obtain ⟨x0, x1, x2, _⟩ := hW; go_simp; try with_reducible rfl)
  simp only [Act.put, List.setIfInBounds_toArray, List.set_cons_zero, List.set_cons_succ]
  refine anyL_take 4 (v := ?_) rfl (by kernel_rfl) (fun _ _ _ h => h) (Or.inl ⟨by rfl, ?_⟩) hS0 ?_
  rotate_left
  focus (intro W hW; go_simp; try with_reducible rfl)
  simp only [Act.put, List.setIfInBounds_toArray, List.set_cons_zero, List.set_cons_succ]
  refine anyL_take 5 (v := ?_) rfl (by kernel_rfl) (fun _ _ _ h => h) (Or.inl ⟨by rfl, ?_⟩) hS0 ?_
  rotate_left
  focus (intro W hW; obtain ⟨x0, x1, x2, _⟩ := hW; go_simp; try with_reducible rfl)
  simp only [Act.put, List.setIfInBounds_toArray, List.set_cons_zero, List.set_cons_succ]
  refine anyL_take 6 (v := ?_) rfl (by kernel_rfl) (fun _ _ _ h => h) (Or.inl ⟨by rfl, ?_⟩) hS0 ?_
  rotate_left
  focus (intro W hW; go_simp; try with_reducible rfl)
  simp only [Act.put, List.setIfInBounds_toArray, List.set_cons_zero, List.set_cons_succ]
  refine anyL_one 2 rfl (by kernel_rfl) (fun K hK => ?_)
  go_simp
  refine (hp1.out _).mono ?_
  rintro e' w6 ⟨t1, rfl, ht1, hb6⟩
  have hS1 : (fun W : World => W.cell? ⟨w.heap.size, 0, none⟩ = some (.int .i64 q) ∧ W.cell? ⟨w.heap.size, 1, none⟩ = some (.slice A1 n c1) ∧ W.cell? ⟨w.heap.size, 2, none⟩ = some (.slice A2 n c2) ∧ Below w.heap.size w W) w6 := ⟨(hb6.cell (lt_of_cell hS0.1)).trans hS0.1, (hb6.cell (lt_of_cell hS0.2.1)).trans hS0.2.1, (hb6.cell (lt_of_cell hS0.2.2.1)).trans hS0.2.2.1, bmore hS0.2.2.2 hb6⟩
  have s1 : t1.size = 6 := by rw [ht1.size, putL_length]
  have s1a : ¬ 9223372036854775807 < 2 + t1.size := by omega
  have s1H := Lib.hid s1
  clear s1
  have ht1H := Lib.hid ht1
  clear ht1 hb6 hS0
  dsimp only
  refine hK.out _ _ (fun _ => hS1) ?_
  clear hK K
  try simp only [Act.put, List.setIfInBounds_toArray, List.set_cons_zero, List.set_cons_succ]
  refine anyL_take 3 (v := ?_) rfl (by kernel_rfl) (fun _ _ _ h => h) (Or.inl ⟨by rfl, ?_⟩) hS1 ?_
  rotate_left
  focus (intro W hW; go_simp; try with_reducible rfl)
  simp only [Act.put, List.setIfInBounds_toArray, List.set_cons_zero, List.set_cons_succ]
  refine anyL_one 7 rfl (by kernel_rfl) (fun K hK => ?_)
  go_simp
  refine (hp2.out _).mono ?_
  rintro e' w7 ⟨t2, rfl, ht2, hb7⟩
  have hS2 : (fun W : World => W.cell? ⟨w.heap.size, 0, none⟩ = some (.int .i64 q) ∧ W.cell? ⟨w.heap.size, 1, none⟩ = some (.slice A1 n c1) ∧ W.cell? ⟨w.heap.size, 2, none⟩ = some (.slice A2 n c2) ∧ Below w.heap.size w W) w7 := ⟨(hb7.cell (lt_of_cell hS1.1)).trans hS1.1, (hb7.cell (lt_of_cell hS1.2.1)).trans hS1.2.1, (hb7.cell (lt_of_cell hS1.2.2.1)).trans hS1.2.2.1, bmore hS1.2.2.2 hb7⟩
  have s2a : ¬ 9223372036854775807 < 2 + t1.size + t2.size := by rw [ht2.size, putL_length]; have := s1H.out; omega
  have ht2H := Lib.hid ht2
  clear ht2 hb7 hS1
  dsimp only
  refine hK.out _ _ (fun _ => hS2) ?_
  clear hK K
  try simp only [Act.put, List.setIfInBounds_toArray, List.set_cons_zero, List.set_cons_succ]
  refine anyL_take 8 (v := ?_) rfl (by kernel_rfl) (fun _ _ _ h => h) (Or.inl ⟨by rfl, ?_⟩) hS2 ?_
  rotate_left
  focus (intro W hW; go_simp; try with_reducible rfl)
  simp only [Act.put, List.setIfInBounds_toArray, List.set_cons_zero, List.set_cons_succ]
  refine anyL_take 9 (v := ?_) rfl (by kernel_rfl) (fun _ _ _ h => h) (Or.inl ⟨by rfl, ?_⟩) hS2 ?_
  rotate_left
  focus (intro W hW; go_simp; try with_reducible rfl)
  simp only [Act.put, List.setIfInBounds_toArray, List.set_cons_zero, List.set_cons_succ]
  refine anyC_done (by kernel_rfl) ?_ _
  obtain ⟨h0, hh0⟩ : ∃ h0 : ByteArray, (⟨#[67, 71]⟩ : ByteArray) ++ t1 ++ t2 = h0 := ⟨_, rfl⟩
  rw [hh0]
  have hh0H : Hid (TextOf h0 ([67, 71] ++ putL q.toNat 6 ++ putL n 1)) := Lib.hid (by
    rw [← hh0]
    have h2 := ht2H.out
    rw [Int.toNat_natCast] at h2
    exact (TextOf.append (TextOf.append rfl ht1H.out) h2))
  have hS2H := Lib.hid hS2
  clear hh0 ht1H ht2H s1H s1a s2a hp1 hp2
  obtain ⟨x0, x1, x2, _⟩ := hS2
  go_wp2_with fail
  clear x0 x1 x2
  go_loopw [4, 24] (fun hv iv wr => ∃ (k : Nat) (h : ByteArray), k ≤ n ∧ iv = .int .i64 (k : Int) ∧ hv = .string h ∧ Hid (TextOf h ([67, 71] ++ putL q.toNat 6 ++ putL n 1 ++ numsL (es.take k))) ∧ Hid (wr.cell? ⟨w.heap.size, 0, none⟩ = some (.int .i64 q) ∧ wr.cell? ⟨w.heap.size, 1, none⟩ = some (.slice A1 n c1) ∧ wr.cell? ⟨w.heap.size, 2, none⟩ = some (.slice A2 n c2) ∧ Below w.heap.size w wr)) (fun _ iv _ => n - (intOf iv).toNat)
  case atStart => exact ⟨0, h0, Nat.zero_le _, rfl, rfl, Lib.hid (by rw [List.take_zero, numsL_nil, List.append_nil]; exact hh0H.out), hS2H⟩
  case round =>
    clear hh0H hS2H
    obtain ⟨k, h, hkn, rfl, rfl, hth, hP⟩ := hrel
    have hhs : Hid (h.size = 9 + 4 * k) := Lib.hid (by
      rw [hth.out.size]
      simp only [List.length_append, putL_length, numsL_len, List.length_take]
      have := hnH.out
      rw [Nat.min_eq_left (by omega)]
      rfl)
    by_cases hlt : k < n
    case pos =>
      have hkl : k < es.length := by rw [hnH.out]; exact hlt
      have hkI : (k : Int) < (n : Int) := by omega
      have hkw : IntKind.i64.wrap ((k : Int) + 1) = (k : Int) + 1 := IntWalk.i64_in _ (by omega)
      obtain ⟨eb, eo, rfl, hebl, e0, e1⟩ := ge_at (heH.out wr hP.out.2.2.2) hkl
      have hbd := hgd.out k hkl
      have htk := Lib.hid (show numsL (es.take (k + 1)) = numsL (es.take k) ++ putL (num1 es[k]).toNat 4 by rw [List.take_succ_eq_append_getElem hkl, numsL_snoc])
      generalize es[k] = x at hbd e0 e1 htk
      have hnb := num1_bd hbd
      have hnu := Lib.hid (fun W => number_any x hbd W)
      have hp4 := Lib.hid (fun W => put_fieldG (num1 x) 4 4294967295 (by omega) (by omega) (by omega) (by decide) W)
      have hal := (Below.refl wr.heap.size wr).alloc (Nat.le_refl _) (.cells #[.int .i64 x.1, .bool x.2] 47)
      have hP1 : Hid ((fun W : World => W.cell? ⟨w.heap.size, 0, none⟩ = some (.int .i64 q) ∧ W.cell? ⟨w.heap.size, 1, none⟩ = some (.slice (some ⟨eb, eo, none⟩) n c1) ∧ W.cell? ⟨w.heap.size, 2, none⟩ = some (.slice A2 n c2) ∧ Below w.heap.size w W) (wr.alloc (.cells #[.int .i64 x.1, .bool x.2] 47))) := Lib.hid ⟨(hal.cell (lt_of_cell hP.out.1)).trans hP.out.1, (hal.cell (lt_of_cell hP.out.2.1)).trans hP.out.2.1, (hal.cell (lt_of_cell hP.out.2.2.1)).trans hP.out.2.2.1, bmore hP.out.2.2.2 hal⟩
      generalize num1 x = nx at hnu hp4 htk
      clear hbd hnb hal hP
      go_wp2_with fail
      refine (hnu.out _).mono ?_
      rintro e w5 ⟨rfl, hb5⟩
      have hP2 : Hid ((fun W : World => W.cell? ⟨w.heap.size, 0, none⟩ = some (.int .i64 q) ∧ W.cell? ⟨w.heap.size, 1, none⟩ = some (.slice (some ⟨eb, eo, none⟩) n c1) ∧ W.cell? ⟨w.heap.size, 2, none⟩ = some (.slice A2 n c2) ∧ Below w.heap.size w W) w5) := Lib.hid ⟨(hb5.cell (lt_of_cell hP1.out.1)).trans hP1.out.1, (hb5.cell (lt_of_cell hP1.out.2.1)).trans hP1.out.2.1, (hb5.cell (lt_of_cell hP1.out.2.2.1)).trans hP1.out.2.2.1, bmore hP1.out.2.2.2 hb5⟩
      clear hb5 hP1 e0 e1
      go_wp2_with fail
      refine (hp4.out _).mono ?_
      rintro e w6 ⟨t, rfl, ht, hb6⟩
      have hP3 : Hid ((fun W : World => W.cell? ⟨w.heap.size, 0, none⟩ = some (.int .i64 q) ∧ W.cell? ⟨w.heap.size, 1, none⟩ = some (.slice (some ⟨eb, eo, none⟩) n c1) ∧ W.cell? ⟨w.heap.size, 2, none⟩ = some (.slice A2 n c2) ∧ Below w.heap.size w W) w6) := Lib.hid ⟨(hb6.cell (lt_of_cell hP2.out.1)).trans hP2.out.1, (hb6.cell (lt_of_cell hP2.out.2.1)).trans hP2.out.2.1, (hb6.cell (lt_of_cell hP2.out.2.2.1)).trans hP2.out.2.2.1, bmore hP2.out.2.2.2 hb6⟩
      have hts : ¬ 9223372036854775807 < h.size + t.size := by rw [ht.size, putL_length, hhs.out]; omega
      have hnt := Lib.hid (show TextOf (h ++ t) ([67, 71] ++ putL q.toNat 6 ++ putL n 1 ++ numsL (es.take (k + 1))) by
        rw [htk.out, ← List.append_assoc]
        exact hth.out.append ht)
      clear hb6 hP2 ht
      go_wp2_with fail
      go_roundw
      case rel => exact ⟨k + 1, h ++ t, hlt, by go_num, rfl, hnt, hP3⟩
      case measure => simp only [intOf]; omega
    case neg =>
      have hke : k = n := by omega
      subst hke
      have hkI : ¬ (k : Int) < (k : Int) := by omega
      have htk : es.take k = es := by rw [← hnH.out, List.take_length]
      rw [htk] at hth
      have hhd := Lib.hid (show TextOf h (headG ⟨q, es, ds⟩) by
        have h1 := hth.out
        unfold headG
        dsimp only
        rw [hnH.out]
        exact h1)
      clear hth htk
      have hPH := hP
      obtain ⟨x0, x1, x2, hbw⟩ := hP.out
      have hj := Lib.hid (hjo.out wr hbw)
      have q1 : IntKind.i64.wrap (64 - (h.size : Int)) = 64 - (h.size : Int) := IntWalk.i64_in _ (by have := hhs.out; omega)
      have q2 : IntKind.i64.wrap (64 - (h.size : Int) - 4) = ((51 - 4 * k : Nat) : Int) := by rw [IntWalk.i64_in _ (by have := hhs.out; omega)]; have := hhs.out; omega
      have hze := Lib.hid (fun W => zero_any ((51 - 4 * k : Nat) : Int) W)
      have hztx := Lib.hid (zero_textG (51 - 4 * k) (by omega))
      generalize zeroS ((51 - 4 * k : Nat) : Int) = zt at hze hztx
      generalize ((51 - 4 * k : Nat) : Int) = zn at q2 hze
      have hdt := Lib.hid (TextOf.mk (flat ds))
      generalize (⟨(flat ds).toArray⟩ : ByteArray) = dt at hj hdt
      clear hbw
      go_wp2_with fail
      refine hj.out.mono ?_
      rintro e w5 ⟨rfl, hb5⟩
      have hB5 := Lib.hid (bmore hPH.out.2.2.2 hb5)
      clear hb5 x0 x1 x2 hj hP hPH
      go_wp2_with fail
      refine (hze.out _).mono ?_
      rintro e w6 ⟨rfl, hb6⟩
      have hB6 := Lib.hid (bmore hB5.out hb6)
      have hck := Lib.hid (checksumG_any h dt w6 (hTA.out w6 hB6.out) (by have := hhs.out; omega) (by rw [hdt.out.size]; exact hfl2.out))
      clear hb6 hB5 hze q1 q2
      go_wp2_with fail
      refine hck.out.mono ?_
      rintro e w7 ⟨rfl, hb7⟩
      have hB7 := Lib.hid (bmore hB6.out hb7)
      have hct := Lib.hid (TextOf.mk (sumB (h.data.toList ++ dt.data.toList)))
      generalize (⟨(sumB (h.data.toList ++ dt.data.toList)).toArray⟩ : ByteArray) = ct at hct
      have hcs := Lib.hid (show ct.size = 4 by rw [hct.out.size, sumB_len])
      have hzs := Lib.hid (show zt.size ≤ 51 by rw [hztx.out.size, List.length_replicate]; omega)
      have hds := Lib.hid (show dt.size ≤ 4096 by rw [hdt.out.size]; exact hfl2.out)
      have r1 : ¬ 9223372036854775807 < h.size + ct.size := by have := hcs.out; have := hhs.out; omega
      have r2 : ¬ 9223372036854775807 < h.size + ct.size + zt.size := by have := hcs.out; have := hhs.out; have := hzs.out; omega
      have r3 : ¬ 9223372036854775807 < h.size + ct.size + zt.size + dt.size := by have := hcs.out; have := hhs.out; have := hzs.out; have := hds.out; omega
      have hfin : Hid (((h ++ ct) ++ zt) ++ dt = ee) := Lib.hid (by
        rw [heeH.out]
        have e1 := hct.out
        rw [show h.data.toList = headG ⟨q, es, ds⟩ from hhd.out, show dt.data.toList = flat ds from hdt.out] at e1
        have e2 := (((TextOf.append hhd.out e1).append hztx.out).append hdt.out).eq
        rw [e2]
        unfold encG dataG
        dsimp only
        rw [hnH.out])
      clear hb7 hB6 hck hct hcs hzs hds hhs hhd
      go_wp2_with fail
      go_ret2
      exact ⟨by rw [← hfin.out]; rfl, hB7.out⟩
end Go.Proofs.YtbgkmppngnedlaaDoor
