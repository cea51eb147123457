/- That the laws of rebuild speak. -/
import Derived.Test.YtdjdldcpaidmnaaRbK
import Derived.Test.YtdjdldcpaidmnaaRbU
import Derived.Test.YtdjdldcpaidmnaaNEq
namespace Go.Proofs.Ytdjdldcpaidmnaa
open Go.RowKit Rec Bk Rb

/-- A box lies apart from a book's slices and from a list. -/
def Ap (n : Nat) (B1 B2 A : Option Addr) : Prop := (∀ g off, B1 = some ⟨g, off, none⟩ → g ≠ n) ∧ (∀ g off, B2 = some ⟨g, off, none⟩ → g ≠ n) ∧ A ≠ some ⟨n, 0, none⟩
theorem ap_old {W : World} {m n : Nat} {B1 B2 A : Option Addr} {cap : Nat} {L : List Rc} (hN : NewB m B1 B2) (hR : RRow W m 62 A cap L) (h : n < m) : Ap n B1 B2 A := by
  refine ⟨fun g off e => (by have := hN.1 g off e; omega), fun g off e => (by have := hN.2 g off e; omega), fun e => ?_⟩
  rcases hR.form with ⟨e2, _⟩ | ⟨g2, e2, hge, _⟩
  · rw [e] at e2; cases e2
  · rw [e] at e2; injection e2 with e2; injection e2 with e2; omega
theorem ap_new {W : World} {m : Nat} {B1 B2 A : Option Addr} {d1 d2 cap : Nat} {b : Bo} {L : List Rc} (hI : BkIn W B1 d1 B2 d2 b) (hR : RRow W m 62 A cap L) (hz : b.zs ≠ []) (hm : b.ms ≠ []) : Ap W.heap.size B1 B2 A := by
  refine ⟨fun g off e => ?_, fun g off e => ?_, fun e => ?_⟩
  · rcases hI.z with h0 | ⟨g', off', e', hl, _⟩
    · exact absurd h0 hz
    · rw [e] at e'; injection e' with e'; injection e' with e'; omega
  · rcases hI.m with h0 | ⟨g', off', e', hl, _⟩
    · exact absurd h0 hm
    · rw [e] at e'; injection e' with e'; injection e' with e'; omega
  · rcases hR.form with ⟨e2, _⟩ | ⟨g2, e2, _, hl, _⟩
    · rw [e] at e2; cases e2
    · rw [e] at e2; injection e2 with e2; injection e2 with e2; omega
theorem bkin_far {W W' : World} {r : Nat} {A1 A2 : Option Addr} {c1 c2 : Nat} {b : Bo} (h : BkIn W A1 c1 A2 c2 b) (hg : W.grownBy W' (some r)) (h1 : ∀ g off, A1 = some ⟨g, off, none⟩ → g ≠ r) (h2 : ∀ g off, A2 = some ⟨g, off, none⟩ → g ≠ r) : BkIn W' A1 c1 A2 c2 b := by
  refine ⟨?_, ?_, h.n1, h.n2, h.zl, h.ml⟩
  · rcases h.z with h0 | ⟨g, off, e, hgl, hc⟩
    · exact .inl h0
    · have := h1 g off e
      exact .inr ⟨g, off, e, Nat.lt_of_lt_of_le hgl hg.size, fun i hi j hj => (World.cell?_of_block (a := ⟨g, _, none⟩) (hg.block g hgl (by simp; omega))).trans (hc i hi j hj)⟩
  · rcases h.m with h0 | ⟨g, off, e, hgl, hc⟩
    · exact .inl h0
    · have := h2 g off e
      exact .inr ⟨g, off, e, Nat.lt_of_lt_of_le hgl hg.size, fun i hi => (World.cell?_of_block (a := ⟨g, _, none⟩) (hg.block g hgl (by simp; omega))).trans (hc i hi)⟩
/-- A book put into a box, a list beside it. -/
theorem box_put {W : World} {s3 m : Nat} {X1 X2 B1 B2 A : Option Addr} {x1 x2 d1 d2 cap : Nat} {b0 b : Bo} {L : List Rc} (hX : BkAt W s3 X1 x1 X2 x2 b0) (hI : BkIn W B1 d1 B2 d2 b) (hR : RRow W m 62 A cap L) (hA : Ap s3 B1 B2 A) :
    BkAt (((((W.setCell ⟨s3, 0, none⟩ (.int .i64 b.q)).setCell ⟨s3, 1, none⟩ (.slice B1 b.zs.length d1)).setCell ⟨s3, 2, none⟩ (.slice B2 b.ms.length d2)).setCell ⟨s3, 3, none⟩ (.int .i64 b.sl)).setCell ⟨s3, 4, none⟩ (.int .i64 b.cu)) s3 B1 d1 B2 d2 b ∧ BkIn (((((W.setCell ⟨s3, 0, none⟩ (.int .i64 b.q)).setCell ⟨s3, 1, none⟩ (.slice B1 b.zs.length d1)).setCell ⟨s3, 2, none⟩ (.slice B2 b.ms.length d2)).setCell ⟨s3, 3, none⟩ (.int .i64 b.sl)).setCell ⟨s3, 4, none⟩ (.int .i64 b.cu)) B1 d1 B2 d2 b ∧
      RRow (((((W.setCell ⟨s3, 0, none⟩ (.int .i64 b.q)).setCell ⟨s3, 1, none⟩ (.slice B1 b.zs.length d1)).setCell ⟨s3, 2, none⟩ (.slice B2 b.ms.length d2)).setCell ⟨s3, 3, none⟩ (.int .i64 b.sl)).setCell ⟨s3, 4, none⟩ (.int .i64 b.cu)) m 62 A cap L ∧ Below s3 W (((((W.setCell ⟨s3, 0, none⟩ (.int .i64 b.q)).setCell ⟨s3, 1, none⟩ (.slice B1 b.zs.length d1)).setCell ⟨s3, 2, none⟩ (.slice B2 b.ms.length d2)).setCell ⟨s3, 3, none⟩ (.int .i64 b.sl)).setCell ⟨s3, 4, none⟩ (.int .i64 b.cu)) := by
  have hg := grownBy_put W s3 (.int .i64 b.q) (.slice B1 b.zs.length d1) (.slice B2 b.ms.length d2) (.int .i64 b.sl) (.int .i64 b.cu)
  have hl := Nat.le_refl s3
  refine ⟨hX.put b, bkin_far hI hg hA.1 hA.2.1, hR.far hg (fun g e e' => ?_), (((((Below.refl s3 W).setCell hl _).setCell hl _).setCell hl _).setCell hl _).setCell hl _⟩
  injection e' with e'
  subst e'
  exact hA.2.2 e
theorem geo_low {W W' : World} {b k : Nat} {D Z B O A : Int} (h : GeoAt W b D Z B O A) (hb : Below k W W') (hk : b < k) : GeoAt W' b D Z B O A := by
  obtain ⟨h0, h1, h2, h3, h4, h5⟩ := h
  exact ⟨(hb.cell (p := ⟨b, 0, none⟩) hk).trans h0, (hb.cell (p := ⟨b, 1, none⟩) hk).trans h1, (hb.cell (p := ⟨b, 2, none⟩) hk).trans h2, (hb.cell (p := ⟨b, 3, none⟩) hk).trans h3, (hb.cell (p := ⟨b, 4, none⟩) hk).trans h4, Nat.lt_of_lt_of_le h5 hb.size⟩
theorem rrow_at {W : World} {base cap : Nat} {t : TypeId} {A : Option Addr} {rs : List Rc} (h : RRow W base t A cap rs) : RecsAt W A rs := by
  rcases h.recs with h0 | ⟨b, e, hlt, hc⟩
  · exact .inl h0
  · exact .inr ⟨b, 0, e, hlt, fun i hi j hj => by rw [Nat.zero_add]; exact hc i hi j hj⟩
theorem ln_at {W : World} {A : Option Addr} (h : RecsAt W A ln16) : ∃ g off, (A = some ⟨g, off, none⟩ ∧ W.cell? ⟨g, off + 7, none⟩ = some (.int .i64 5)) ∧ W.cell? ⟨g, off + 7 + 1, none⟩ = some (.int .i64 2) ∧ W.cell? ⟨g, off + 7 + 2, none⟩ = some (.int .i64 1) ∧ W.cell? ⟨g, off + 7 + 3, none⟩ = some (.int .i64 3) ∧ W.cell? ⟨g, off + 7 + 4, none⟩ = some (.int .i64 0) ∧ W.cell? ⟨g, off + 7 + 5, none⟩ = some (.int .i64 0) ∧ W.cell? ⟨g, off + 7 + 6, none⟩ = some (.string ⟨#[]⟩) := by
  obtain ⟨g, off, e, _, x0, x1, x2, x3, x4, x5, x6⟩ := h.at_ (i := 1) (by decide)
  rw [Nat.one_mul] at x0 x1 x2 x3 x4 x5 x6
  exact ⟨g, off, ⟨e, x0⟩, x1, x2, x3, x4, x5, x6⟩
theorem ln_eql (W : World) : (binOp .eql 62 (.agg #[.int .i64 5, .int .i64 2, .int .i64 1, .int .i64 3, .int .i64 0, .int .i64 0, .string ⟨#[]⟩]) (.agg #[.int .i64 5, .int .i64 2, .int .i64 1, .int .i64 3, .int .i64 0, .int .i64 0, .string ⟨#[]⟩])).run Try.prog W = .ok (.bool true) W := by
  have h1 := (rec_eql W ⟨5, 2, 1, 3, 0, 0, ⟨#[]⟩⟩ ⟨5, 2, 1, 3, 0, 0, ⟨#[]⟩⟩).1
  rw [eqR_self] at h1
  exact h1
namespace Rb
/-- The world of the example behind the two calls. -/
structure Sp16 (w W : World) (s3 : Nat) (B1 : Option Addr) (d1 : Nat) (B2 : Option Addr) (d2 : Nat) (A : Option Addr) : Prop where
  g : GeoAt W w.heap.size 3 5 4 1 1
  a : BkAt W s3 B1 d1 B2 d2 bn16
  i : BkIn W B1 d1 B2 d2 bn16
  l : RecsAt W A ln16
  bw : Below w.heap.size w W
end Rb
theorem sp_put {w W : World} {s3 m : Nat} {B1 B2 A : Option Addr} {d1 d2 cap : Nat} (hG : GeoAt W w.heap.size 3 5 4 1 1) (hb : Below w.heap.size w W) (hX : BkAt W s3 none 0 none 0 noB) (hI : BkIn W B1 d1 B2 d2 bn16) (hR : RRow W m 62 A cap ln16) (hA : Ap s3 B1 B2 A) (hz : w.heap.size < s3) :
    Sp16 w (((((W.setCell ⟨s3, 0, none⟩ (.int .i64 bn16.q)).setCell ⟨s3, 1, none⟩ (.slice B1 bn16.zs.length d1)).setCell ⟨s3, 2, none⟩ (.slice B2 bn16.ms.length d2)).setCell ⟨s3, 3, none⟩ (.int .i64 bn16.sl)).setCell ⟨s3, 4, none⟩ (.int .i64 bn16.cu)) s3 B1 d1 B2 d2 A := by
  obtain ⟨h1, h2, h3, h4⟩ := box_put hX hI hR hA
  exact ⟨geo_low hG h4 hz, h1, h2, rrow_at h3, hb.trans (h4.mono (by omega))⟩
theorem beg_spk (w : World) (A1 : Option Addr) (c1 : Nat) (A2 : Option Addr) (c2 : Nat) (h : BkIn w A1 c1 A2 c2 bk16) :
    Calls Try.prog 21 #[.agg #[.int .i64 3, .int .i64 5, .int .i64 4, .int .i64 1, .int .i64 1], .agg #[.int .i64 bk16.q, .slice A1 bk16.zs.length c1, .slice A2 bk16.ms.length c2, .int .i64 bk16.sl, .int .i64 bk16.cu], .int .i64 1] w
      fun e w' => ∃ (B1 : Option Addr) (d1 : Nat) (B2 : Option Addr) (d2 : Nat) (A : Option Addr) (cap : Nat), e = .returned (.tuple #[.slice A 2 cap, .agg #[.int .i64 bn16.q, .slice B1 bn16.zs.length d1, .slice B2 bn16.ms.length d2, .int .i64 bn16.sl, .int .i64 bn16.cu], .int .i64 0]) ∧ RRow w' w.heap.size 62 A cap ln16 ∧ BkIn w' B1 d1 B2 d2 bn16 ∧ NewB w.heap.size B1 B2 ∧ Below w.heap.size w w' := by
  refine (begin_any w 3 5 4 1 1 A1 c1 A2 c2 bk16 1 h (by decide) good16 rfl (by decide)).mono ?_
  rintro e w' ⟨code, L, b', B1, d1, B2, d2, A, cap, rfl, hR, hRow, hI2, hN, hb⟩
  obtain ⟨rfl, rfl, rfl⟩ := beg16 hR
  exact ⟨B1, d1, B2, d2, A, cap, rfl, hRow, hI2, hN, hb⟩
set_option maxRecDepth 100000 in
set_option maxHeartbeats 4000000 in
theorem speaks16 (w : World) : Calls Try.prog 17 #[] w fun e w' => e = .returned (.bool true) ∧ Below w.heap.size w w' := by
  have hG := Lib.hid (GeoAt.new w 3 5 4 1 1 30)
  have hB := Lib.hid ((Below.refl w.heap.size w).alloc (Nat.le_refl _) (.cells #[.int .i64 3, .int .i64 5, .int .i64 4, .int .i64 1, .int .i64 1] 30))
  have hnw := Lib.hid (fun W => new_anyB W 3 5 4 1 1)
  rw [new16] at hnw
  go_enter Try.func17, Try.ntmps17
  go_upto_region 2 with fail
  refine fresh_world (fun W => GeoAt W w.heap.size 3 5 4 1 1 ∧ Below w.heap.size w W) ⟨hG.out, hB.out⟩ ?_
  clear hG hB
  rintro W1 h1
  have hS : (fun W => GeoAt W w.heap.size 3 5 4 1 1 ∧ Below w.heap.size w W) W1.drew := ⟨h1.1.below (Below.refl _ _).drew, bmore h1.2 (Below.refl _ _).drew⟩
  clear h1
  refine region_anyC (fun _ => true) (fun W => GeoAt W w.heap.size 3 5 4 1 1 ∧ Below w.heap.size w W) (by kernel_rfl) ?_
  generalize W1.drew = wa at hS ⊢
  refine anyL_take 0 (v := ?_) rfl (by kernel_rfl) (fun _ _ _ h => h) (Or.inl ⟨by rfl, ?_⟩) hS ?_
  rotate_left
  focus (intro W hW; obtain ⟨⟨g0, g1, g2, g3, g4, _⟩, _⟩ := hW; go_simp; try with_reducible rfl)
  simp only [Act.put, List.setIfInBounds_toArray, List.set_cons_zero, List.set_cons_succ]
  refine anyL_take 1 (v := ?_) rfl (by kernel_rfl) (fun _ _ _ h => h) (Or.inl ⟨by rfl, ?_⟩) hS ?_
  rotate_left
  focus (intro W hW; obtain ⟨⟨g0, g1, g2, g3, g4, _⟩, _⟩ := hW; go_simp; try with_reducible rfl)
  simp only [Act.put, List.setIfInBounds_toArray, List.set_cons_zero, List.set_cons_succ]
  refine anyL_two 2 8 rfl rfl (by kernel_rfl) (fun K hK => ?_) (fun K hK => ?_)
  case refine_1 =>
    go_simp
    refine (hnw.out wa).mono ?_
    rintro e' wax ⟨A1, c1, A2, c2, rfl, hO, hb⟩
    have hI := hO.in_
    have hS' : (fun W => GeoAt W w.heap.size 3 5 4 1 1 ∧ Below w.heap.size w W) wax := ⟨hS.1.below hb, bmore hS.2 hb⟩
    refine hK.out _ _ (fun _ => hS') ?_
    clear hK K hS hb hO
    have hS := hS'
    clear hS'
    try simp only [Act.put, List.setIfInBounds_toArray, List.set_cons_zero, List.set_cons_succ]
    refine anyL_two 3 8 rfl rfl (by kernel_rfl) (fun K hK => ?_) (fun K hK => ?_)
    case refine_1 =>
      go_simp
      refine (beg_spk wax A1 c1 A2 c2 hI).mono ?_
      rintro e' waxx ⟨B1, d1, B2, d2, A, cap, rfl, hRow, hI2, hN, hb⟩
      have hS' : (fun W => GeoAt W w.heap.size 3 5 4 1 1 ∧ Below w.heap.size w W) waxx := ⟨hS.1.below hb, bmore hS.2 hb⟩
      refine hK.out _ _ (fun _ => hS') ?_
      clear hK K hS hb hI hN
      have hS := hS'
      clear hS'
      try simp only [Act.put, List.setIfInBounds_toArray, List.set_cons_zero, List.set_cons_succ]
      refine anyL_take 4 (v := ?_) rfl (by kernel_rfl) (fun _ _ _ h => h) (Or.inl ⟨by rfl, ?_⟩) hS ?_
      rotate_left
      focus (intro W hW; go_simp; try with_reducible rfl)
      simp only [Act.put, List.setIfInBounds_toArray, List.set_cons_zero, List.set_cons_succ]
      refine anyL_take 5 (v := ?_) rfl (by kernel_rfl) (fun _ _ _ h => h) (Or.inl ⟨by rfl, ?_⟩) hS ?_
      rotate_left
      focus (intro W hW; go_simp; try with_reducible rfl)
      simp only [Act.put, List.setIfInBounds_toArray, List.set_cons_zero, List.set_cons_succ]
      refine anyL_take 6 (v := ?_) rfl (by kernel_rfl) (fun _ _ _ h => h) (Or.inl ⟨by rfl, ?_⟩) hS ?_
      rotate_left
      focus (intro W hW; go_simp; try with_reducible rfl)
      simp only [Act.put, List.setIfInBounds_toArray, List.set_cons_zero, List.set_cons_succ]
      refine anyL_take 7 (v := ?_) rfl (by kernel_rfl) (fun _ _ _ h => h) (Or.inl ⟨by rfl, ?_⟩) hS ?_
      rotate_left
      focus (intro W hW; go_simp; try with_reducible rfl)
      simp only [Act.put, List.setIfInBounds_toArray, List.set_cons_zero, List.set_cons_succ]
      refine anyL_one 8 rfl (by kernel_rfl) (fun K hK => ?_)
      go_simp
      have ha := (Below.refl waxx.heap.size waxx).alloc (Nat.le_refl _) (.cells #[.int .i64 0, .slice none 0 0, .slice none 0 0, .int .i64 0, .int .i64 0] 58)
      have hX : BkAt (waxx.alloc (.cells #[.int .i64 0, .slice none 0 0, .slice none 0 0, .int .i64 0, .int .i64 0] 58)) waxx.heap.size none 0 none 0 noB := BkAt.new waxx none 0 none 0 noB 58
      have hz : w.heap.size < waxx.heap.size := lt_of_cell hS.1.1
      have hS' : (fun W => GeoAt W w.heap.size 3 5 4 1 1 ∧ Below w.heap.size w W) (waxx.alloc (.cells #[.int .i64 0, .slice none 0 0, .slice none 0 0, .int .i64 0, .int .i64 0] 58)) := ⟨hS.1.below ha, bmore hS.2 ha⟩
      have hAp := ap_new hI2 hRow (by decide) (by decide)
      have hI2' := hI2.below ha
      have hRow' := hRow.below ha
      clear hI2 hRow
      have hI2 := hI2'
      have hRow := hRow'
      clear hI2' hRow'
      have hzl : waxx.heap.size < (waxx.alloc (.cells #[.int .i64 0, .slice none 0 0, .slice none 0 0, .int .i64 0, .int .i64 0] 58)).heap.size := hX.lt
      generalize waxx.alloc (.cells #[.int .i64 0, .slice none 0 0, .slice none 0 0, .int .i64 0, .int .i64 0] 58) = waxxx at hS' hX hzl hI2 hRow ⊢
      generalize waxx.heap.size = s3 at hX hz hzl hAp ⊢
      refine hK.out _ _ (fun _ => hS') ?_
      clear hK K hS ha
      have hS := hS'
      clear hS'
      try simp only [Act.put, List.setIfInBounds_toArray, List.set_cons_zero, List.set_cons_succ]
      have hfin := Lib.hid (sp_put hS.1 hS.2 hX hI2 hRow hAp hz)
      obtain ⟨p0, p1, p2, p3, p4, pf⟩ := hX
      have hS2 := Lib.hid (And.intro hfin.out.g hfin.out.bw)
      clear hI2 hRow hAp hz
      refine anyL_one 9 rfl (by kernel_rfl) (fun K hK => ?_)
      go_simp
      refine hK.out _ _ (fun _ => hS) ?_
      clear hK K
      try simp only [Act.put, List.setIfInBounds_toArray, List.set_cons_zero, List.set_cons_succ]
      refine anyL_one 10 rfl (by kernel_rfl) (fun K hK => ?_)
      go_simp
      refine hK.out _ _ (fun _ => hS2.out) ?_
      clear hK K
      try simp only [Act.put, List.setIfInBounds_toArray, List.set_cons_zero, List.set_cons_succ]
      refine anyL_one 11 rfl (by kernel_rfl) (fun K hK => ?_)
      go_simp
      refine hK.out _ _ (fun _ => hS2.out) ?_
      clear hK K
      try simp only [Act.put, List.setIfInBounds_toArray, List.set_cons_zero, List.set_cons_succ]
      refine anyC_done (by kernel_rfl) ?_ _
      clear p0 p1 p2 p3 p4 pf hnw hS hS2
      go_upto_region 3 with fail
      refine fresh_world (fun W => Sp16 w W s3 B1 d1 B2 d2 A) hfin.out ?_
      clear hfin
      rintro W3 hP
      obtain ⟨g0, g1, g2, g3, g4, _⟩ := hP.g
      obtain ⟨k0, k1, k2, k3, k4, _⟩ := hP.a
      have hnx := Lib.hid (next_any16 3 5 4 1 1 B1 d1 B2 d2 bn16 W3 hP.i (by decide))
      have hPH := Lib.hid hP
      clear hP
      go_wp2_with fail
      (with_reducible refine hnx.out.mono ?_)
      rintro e w4 ⟨p, i, t, rfl, hR, hb4⟩
      obtain ⟨rfl, rfl, rfl⟩ := next16 hR
      clear hR hnx g0 g1 g2 g3 g4 k0 k1 k2 k3 k4
      have k3 := (hPH.out.a.below hb4).c3
      have hF := Lib.hid (bmore hPH.out.bw hb4)
      have hL := hPH.out.l.below hb4
      clear hPH hb4
      obtain ⟨g, off, x0, x1, x2, x3, x4, x5, x6⟩ := ln_at hL
      obtain ⟨rfl, x0⟩ := x0
      have heq := ln_eql
      clear hL
      go_wp2_with fail
      go_ret
      exact ⟨rfl, hF.out⟩
    case refine_2 =>
      go_simp
      have ha := (Below.refl wax.heap.size wax).alloc (Nat.le_refl _) (.cells #[.int .i64 0, .slice none 0 0, .slice none 0 0, .int .i64 0, .int .i64 0] 58)
      have hX : BkAt (wax.alloc (.cells #[.int .i64 0, .slice none 0 0, .slice none 0 0, .int .i64 0, .int .i64 0] 58)) wax.heap.size none 0 none 0 noB := BkAt.new wax none 0 none 0 noB 58
      have hz : w.heap.size < wax.heap.size := lt_of_cell hS.1.1
      have hS' : (fun W => GeoAt W w.heap.size 3 5 4 1 1 ∧ Below w.heap.size w W) (wax.alloc (.cells #[.int .i64 0, .slice none 0 0, .slice none 0 0, .int .i64 0, .int .i64 0] 58)) := ⟨hS.1.below ha, bmore hS.2 ha⟩
      have hI' := hI.below ha
      clear hI
      have hI := hI'
      clear hI'
      have hzl : wax.heap.size < (wax.alloc (.cells #[.int .i64 0, .slice none 0 0, .slice none 0 0, .int .i64 0, .int .i64 0] 58)).heap.size := hX.lt
      generalize wax.alloc (.cells #[.int .i64 0, .slice none 0 0, .slice none 0 0, .int .i64 0, .int .i64 0] 58) = waxx at hS' hX hzl hI ⊢
      generalize wax.heap.size = s3 at hX hz hzl ⊢
      refine hK.out _ _ (fun _ => hS') ?_
      clear hK K hS ha
      have hS := hS'
      clear hS'
      try simp only [Act.put, List.setIfInBounds_toArray, List.set_cons_zero, List.set_cons_succ]
      refine anyL_one 3 rfl (by kernel_rfl) (fun K hK => ?_)
      go_simp
      refine (beg_spk waxx A1 c1 A2 c2 hI).mono ?_
      rintro e' waxxx ⟨B1, d1, B2, d2, A, cap, rfl, hRow, hI2, hN, hb⟩
      have hS' : (fun W => GeoAt W w.heap.size 3 5 4 1 1 ∧ Below w.heap.size w W) waxxx := ⟨hS.1.below hb, bmore hS.2 hb⟩
      have hAp := ap_old hN hRow hzl
      have hX' := hX.below hb
      clear hX hzl
      have hX := hX'
      clear hX'
      refine hK.out _ _ (fun _ => hS') ?_
      clear hK K hS hb hI hN
      have hS := hS'
      clear hS'
      try simp only [Act.put, List.setIfInBounds_toArray, List.set_cons_zero, List.set_cons_succ]
      refine anyL_take 4 (v := ?_) rfl (by kernel_rfl) (fun _ _ _ h => h) (Or.inl ⟨by rfl, ?_⟩) hS ?_
      rotate_left
      focus (intro W hW; go_simp; try with_reducible rfl)
      simp only [Act.put, List.setIfInBounds_toArray, List.set_cons_zero, List.set_cons_succ]
      refine anyL_take 5 (v := ?_) rfl (by kernel_rfl) (fun _ _ _ h => h) (Or.inl ⟨by rfl, ?_⟩) hS ?_
      rotate_left
      focus (intro W hW; go_simp; try with_reducible rfl)
      simp only [Act.put, List.setIfInBounds_toArray, List.set_cons_zero, List.set_cons_succ]
      refine anyL_take 6 (v := ?_) rfl (by kernel_rfl) (fun _ _ _ h => h) (Or.inl ⟨by rfl, ?_⟩) hS ?_
      rotate_left
      focus (intro W hW; go_simp; try with_reducible rfl)
      simp only [Act.put, List.setIfInBounds_toArray, List.set_cons_zero, List.set_cons_succ]
      refine anyL_take 7 (v := ?_) rfl (by kernel_rfl) (fun _ _ _ h => h) (Or.inl ⟨by rfl, ?_⟩) hS ?_
      rotate_left
      focus (intro W hW; go_simp; try with_reducible rfl)
      simp only [Act.put, List.setIfInBounds_toArray, List.set_cons_zero, List.set_cons_succ]
      have hfin := Lib.hid (sp_put hS.1 hS.2 hX hI2 hRow hAp hz)
      obtain ⟨p0, p1, p2, p3, p4, pf⟩ := hX
      have hS2 := Lib.hid (And.intro hfin.out.g hfin.out.bw)
      clear hI2 hRow hAp hz
      refine anyL_one 9 rfl (by kernel_rfl) (fun K hK => ?_)
      go_simp
      refine hK.out _ _ (fun _ => hS) ?_
      clear hK K
      try simp only [Act.put, List.setIfInBounds_toArray, List.set_cons_zero, List.set_cons_succ]
      refine anyL_one 10 rfl (by kernel_rfl) (fun K hK => ?_)
      go_simp
      refine hK.out _ _ (fun _ => hS2.out) ?_
      clear hK K
      try simp only [Act.put, List.setIfInBounds_toArray, List.set_cons_zero, List.set_cons_succ]
      refine anyL_one 11 rfl (by kernel_rfl) (fun K hK => ?_)
      go_simp
      refine hK.out _ _ (fun _ => hS2.out) ?_
      clear hK K
      try simp only [Act.put, List.setIfInBounds_toArray, List.set_cons_zero, List.set_cons_succ]
      refine anyC_done (by kernel_rfl) ?_ _
      clear p0 p1 p2 p3 p4 pf hnw hS hS2
      go_upto_region 3 with fail
      refine fresh_world (fun W => Sp16 w W s3 B1 d1 B2 d2 A) hfin.out ?_
      clear hfin
      rintro W3 hP
      obtain ⟨g0, g1, g2, g3, g4, _⟩ := hP.g
      obtain ⟨k0, k1, k2, k3, k4, _⟩ := hP.a
      have hnx := Lib.hid (next_any16 3 5 4 1 1 B1 d1 B2 d2 bn16 W3 hP.i (by decide))
      have hPH := Lib.hid hP
      clear hP
      go_wp2_with fail
      (with_reducible refine hnx.out.mono ?_)
      rintro e w4 ⟨p, i, t, rfl, hR, hb4⟩
      obtain ⟨rfl, rfl, rfl⟩ := next16 hR
      clear hR hnx g0 g1 g2 g3 g4 k0 k1 k2 k3 k4
      have k3 := (hPH.out.a.below hb4).c3
      have hF := Lib.hid (bmore hPH.out.bw hb4)
      have hL := hPH.out.l.below hb4
      clear hPH hb4
      obtain ⟨g, off, x0, x1, x2, x3, x4, x5, x6⟩ := ln_at hL
      obtain ⟨rfl, x0⟩ := x0
      have heq := ln_eql
      clear hL
      go_wp2_with fail
      go_ret
      exact ⟨rfl, hF.out⟩
  case refine_2 =>
    go_simp
    have ha := (Below.refl wa.heap.size wa).alloc (Nat.le_refl _) (.cells #[.int .i64 0, .slice none 0 0, .slice none 0 0, .int .i64 0, .int .i64 0] 58)
    have hX : BkAt (wa.alloc (.cells #[.int .i64 0, .slice none 0 0, .slice none 0 0, .int .i64 0, .int .i64 0] 58)) wa.heap.size none 0 none 0 noB := BkAt.new wa none 0 none 0 noB 58
    have hz : w.heap.size < wa.heap.size := lt_of_cell hS.1.1
    have hS' : (fun W => GeoAt W w.heap.size 3 5 4 1 1 ∧ Below w.heap.size w W) (wa.alloc (.cells #[.int .i64 0, .slice none 0 0, .slice none 0 0, .int .i64 0, .int .i64 0] 58)) := ⟨hS.1.below ha, bmore hS.2 ha⟩
    have hzl : wa.heap.size < (wa.alloc (.cells #[.int .i64 0, .slice none 0 0, .slice none 0 0, .int .i64 0, .int .i64 0] 58)).heap.size := hX.lt
    generalize wa.alloc (.cells #[.int .i64 0, .slice none 0 0, .slice none 0 0, .int .i64 0, .int .i64 0] 58) = wax at hS' hX hzl ⊢
    generalize wa.heap.size = s3 at hX hz hzl ⊢
    refine hK.out _ _ (fun _ => hS') ?_
    clear hK K hS ha
    have hS := hS'
    clear hS'
    try simp only [Act.put, List.setIfInBounds_toArray, List.set_cons_zero, List.set_cons_succ]
    refine anyL_one 2 rfl (by kernel_rfl) (fun K hK => ?_)
    go_simp
    refine (hnw.out wax).mono ?_
    rintro e' waxx ⟨A1, c1, A2, c2, rfl, hO, hb⟩
    have hI := hO.in_
    have hS' : (fun W => GeoAt W w.heap.size 3 5 4 1 1 ∧ Below w.heap.size w W) waxx := ⟨hS.1.below hb, bmore hS.2 hb⟩
    have hX' := hX.below hb
    have hzl' : s3 < waxx.heap.size := hX'.lt
    clear hX hzl
    have hX := hX'
    have hzl := hzl'
    clear hX' hzl'
    refine hK.out _ _ (fun _ => hS') ?_
    clear hK K hS hb hO
    have hS := hS'
    clear hS'
    try simp only [Act.put, List.setIfInBounds_toArray, List.set_cons_zero, List.set_cons_succ]
    refine anyL_one 3 rfl (by kernel_rfl) (fun K hK => ?_)
    go_simp
    refine (beg_spk waxx A1 c1 A2 c2 hI).mono ?_
    rintro e' waxxx ⟨B1, d1, B2, d2, A, cap, rfl, hRow, hI2, hN, hb⟩
    have hS' : (fun W => GeoAt W w.heap.size 3 5 4 1 1 ∧ Below w.heap.size w W) waxxx := ⟨hS.1.below hb, bmore hS.2 hb⟩
    have hAp := ap_old hN hRow hzl
    have hX' := hX.below hb
    clear hX hzl
    have hX := hX'
    clear hX'
    refine hK.out _ _ (fun _ => hS') ?_
    clear hK K hS hb hI hN
    have hS := hS'
    clear hS'
    try simp only [Act.put, List.setIfInBounds_toArray, List.set_cons_zero, List.set_cons_succ]
    refine anyL_take 4 (v := ?_) rfl (by kernel_rfl) (fun _ _ _ h => h) (Or.inl ⟨by rfl, ?_⟩) hS ?_
    rotate_left
    focus (intro W hW; go_simp; try with_reducible rfl)
    simp only [Act.put, List.setIfInBounds_toArray, List.set_cons_zero, List.set_cons_succ]
    refine anyL_take 5 (v := ?_) rfl (by kernel_rfl) (fun _ _ _ h => h) (Or.inl ⟨by rfl, ?_⟩) hS ?_
    rotate_left
    focus (intro W hW; go_simp; try with_reducible rfl)
    simp only [Act.put, List.setIfInBounds_toArray, List.set_cons_zero, List.set_cons_succ]
    refine anyL_take 6 (v := ?_) rfl (by kernel_rfl) (fun _ _ _ h => h) (Or.inl ⟨by rfl, ?_⟩) hS ?_
    rotate_left
    focus (intro W hW; go_simp; try with_reducible rfl)
    simp only [Act.put, List.setIfInBounds_toArray, List.set_cons_zero, List.set_cons_succ]
    refine anyL_take 7 (v := ?_) rfl (by kernel_rfl) (fun _ _ _ h => h) (Or.inl ⟨by rfl, ?_⟩) hS ?_
    rotate_left
    focus (intro W hW; go_simp; try with_reducible rfl)
    simp only [Act.put, List.setIfInBounds_toArray, List.set_cons_zero, List.set_cons_succ]
    have hfin := Lib.hid (sp_put hS.1 hS.2 hX hI2 hRow hAp hz)
    obtain ⟨p0, p1, p2, p3, p4, pf⟩ := hX
    have hS2 := Lib.hid (And.intro hfin.out.g hfin.out.bw)
    clear hI2 hRow hAp hz
    refine anyL_one 9 rfl (by kernel_rfl) (fun K hK => ?_)
    go_simp
    refine hK.out _ _ (fun _ => hS) ?_
    clear hK K
    try simp only [Act.put, List.setIfInBounds_toArray, List.set_cons_zero, List.set_cons_succ]
    refine anyL_one 10 rfl (by kernel_rfl) (fun K hK => ?_)
    go_simp
    refine hK.out _ _ (fun _ => hS2.out) ?_
    clear hK K
    try simp only [Act.put, List.setIfInBounds_toArray, List.set_cons_zero, List.set_cons_succ]
    refine anyL_one 11 rfl (by kernel_rfl) (fun K hK => ?_)
    go_simp
    refine hK.out _ _ (fun _ => hS2.out) ?_
    clear hK K
    try simp only [Act.put, List.setIfInBounds_toArray, List.set_cons_zero, List.set_cons_succ]
    refine anyC_done (by kernel_rfl) ?_ _
    clear p0 p1 p2 p3 p4 pf hnw hS hS2
    go_upto_region 3 with fail
    refine fresh_world (fun W => Sp16 w W s3 B1 d1 B2 d2 A) hfin.out ?_
    clear hfin
    rintro W3 hP
    obtain ⟨g0, g1, g2, g3, g4, _⟩ := hP.g
    obtain ⟨k0, k1, k2, k3, k4, _⟩ := hP.a
    have hnx := Lib.hid (next_any16 3 5 4 1 1 B1 d1 B2 d2 bn16 W3 hP.i (by decide))
    have hPH := Lib.hid hP
    clear hP
    go_wp2_with fail
    (with_reducible refine hnx.out.mono ?_)
    rintro e w4 ⟨p, i, t, rfl, hR, hb4⟩
    obtain ⟨rfl, rfl, rfl⟩ := next16 hR
    clear hR hnx g0 g1 g2 g3 g4 k0 k1 k2 k3 k4
    have k3 := (hPH.out.a.below hb4).c3
    have hF := Lib.hid (bmore hPH.out.bw hb4)
    have hL := hPH.out.l.below hb4
    clear hPH hb4
    obtain ⟨g, off, x0, x1, x2, x3, x4, x5, x6⟩ := ln_at hL
    obtain ⟨rfl, x0⟩ := x0
    have heq := ln_eql
    clear hL
    go_wp2_with fail
    go_ret
    exact ⟨rfl, hF.out⟩
end Go.Proofs.Ytdjdldcpaidmnaa
