/- A book copied. -/
import Derived.Test.YtpmhfalhieinjaaBkMem
import Derived.Test.YtpmhfalhieinjaaHeldTail
import Derived.Lib.Hide
namespace Go.Proofs.Ytpmhfalhieinjaa
open Go.RowKit Rec Bk

def ZPost (w : World) (zs : List Zo) (e : Ending) (w' : World) : Prop := ∃ A cap, e = .returned (.slice A zs.length cap) ∧ zoE.Row w' w.heap.size 60 A cap zs ∧ Below w.heap.size w w'
def NPost (w : World) (zs : List Int) (e : Ending) (w' : World) : Prop := ∃ A cap, e = .returned (.slice A zs.length cap) ∧ NRow w' w.heap.size A cap zs ∧ Below w.heap.size w w'
set_option maxRecDepth 100000 in
theorem zclone_any (w : World) (A : Option Addr) (cap : Nat) (zs : List Zo) (hI : zoE.In w A zs) (hN : A = none → cap = 0) (hl : zs.length ≤ 1000) :
    Calls Try.prog 36 #[.slice A zs.length cap] w (ZPost w zs) := by
  have hn := fun W => Lib.run_eql_slice_nil (P := Try.prog) W 30 60 A zs.length cap 0 0 Try.underlying30
  cases A with
  | none =>
    have hzs : zs = [] := by
      rcases hI with h | ⟨b, off, h, _⟩
      · exact h
      · cases h
    subst hzs
    obtain rfl := hN rfl
    have hn0 : ∀ W : World, (binOp .eql 30 (.slice none 0 0) (.slice none 0 0)).run Try.prog W = .ok (.bool true) W := fun W => Lib.run_eql_slice_nil (P := Try.prog) W 30 60 none 0 0 0 0 Try.underlying30
    clear hI hN hn
    go_enter Try.func36, Try.ntmps36
    go_wp2
    go_ret
    exact ⟨none, 0, rfl, Enc.Row.nil _ _ _, Below.refl _ _⟩
  | some ad =>
    have hnew : zoE.Row (w.alloc (.cells #[] 60)) w.heap.size 60 (some ⟨w.heap.size, 0, none⟩) 0 [] := World.ownsRow_made w #[] 0 (Nat.le_refl _) (by unfold maxLen; omega) rfl
    have hb : Below w.heap.size w (w.alloc (.cells #[] 60)) := (Below.refl _ _).alloc (Nat.le_refl _) _
    obtain ⟨A', cap', W', hrun, hrow, hgr, _⟩ := hnew.concat (P := Try.prog) (c2 := cap) Try.underlying30 infZo (by decide) (by decide) (hI.below hb) (by simp) (by omega) (by simp) 30
    have hb' : Below w.heap.size w W' := hb.grown hgr (by simp) (fun q hq => (World.ownsRow.lt hnew q hq).1)
    rw [List.nil_append] at hrow
    simp only [List.length_nil, Nat.zero_add] at hrun
    have hrunH := Lib.hid hrun
    have hrowH := Lib.hid hrow
    clear hrun hrow hI hN hnew hb hgr
    go_enter Try.func36, Try.ntmps36
    go_wp2_with (at_builtin; refine append_run_wp rfl _ _ _ rfl rfl rfl hrunH.out ?_)
    go_ret
    exact ⟨A', cap', rfl, hrowH.out, hb'⟩
theorem infoI4 : (Try.prog.info? 3).map (fun i => (i.zero, i.size, i.bytes)) = some (some (.int .i64 0), 1, 8) := by kernel_rfl
set_option maxRecDepth 100000 in
theorem nclone_any (w : World) (A : Option Addr) (cap : Nat) (zs : List Int) (hI : IntsIn w A zs) (hN : A = none → cap = 0) (hl : zs.length ≤ 1000) :
    Calls Try.prog 37 #[.slice A zs.length cap] w (NPost w zs) := by
  have hn := fun W => Lib.run_eql_slice_nil (P := Try.prog) W 31 3 A zs.length cap 0 0 Try.underlying31
  cases A with
  | none =>
    have hzs : zs = [] := by
      rcases hI with h | ⟨b, off, h, _⟩
      · exact h
      · cases h
    subst hzs
    obtain rfl := hN rfl
    have hn0 : ∀ W : World, (binOp .eql 31 (.slice none 0 0) (.slice none 0 0)).run Try.prog W = .ok (.bool true) W := fun W => Lib.run_eql_slice_nil (P := Try.prog) W 31 3 none 0 0 0 0 Try.underlying31
    clear hI hN hn
    go_enter Try.func37, Try.ntmps37
    go_wp2
    go_ret
    exact ⟨none, 0, rfl, NRow.nil _ _, Below.refl _ _⟩
  | some ad =>
    obtain ⟨i0, hi, hz0, hz1, hz2⟩ := info_parts infoI4
    have hnew : (w.alloc (.cells #[] 3)).ownsRow w.heap.size 3 1 (.slice (some ⟨w.heap.size, 0, none⟩) 0 0) 0 [] := World.ownsRow_made w #[] 0 (Nat.le_refl _) (by unfold maxLen; omega) rfl
    have hb : Below w.heap.size w (w.alloc (.cells #[] 3)) := (Below.refl _ _).alloc (Nat.le_refl _) _
    have hI2 := hI.below hb
    have hcells : ∀ j u, (zs.map (Value.int .i64))[j]? = some u → (w.alloc (.cells #[] 3)).cell? (ad.add j) = some u := fun j u hu => by
      rcases hI2 with h0 | ⟨b, off, he, _, hcc⟩
      · rw [h0] at hu; simp at hu
      · obtain rfl := Option.some.inj he
        rw [List.getElem?_map] at hu
        by_cases hj : j < zs.length
        · rw [List.getElem?_eq_getElem hj] at hu
          simp only [Option.map_some, Option.some.injEq] at hu
          rw [Go.WideShapes.add_plain, hcc j hj, hu]
        · rw [List.getElem?_eq_none (by omega)] at hu
          cases hu
    obtain ⟨v2, W', hrun, hown2, hgr2, _, _⟩ := run_append_own_at (P := Try.prog) (w.alloc (.cells #[] 3)) w.heap.size 31 31 3 i0 (.int .i64 0) 1 8 Try.underlying31 hi hz0 hz1 hz2 rfl (by decide) _ _ _ hnew ad zs.length cap (zs.map (Value.int .i64)) (by simp) hcells
      (by intro u hu; obtain ⟨p, _, rfl⟩ := List.mem_map.1 hu; rfl) (by unfold maxLen; omega) (by omega) (by simp)
    rw [Nat.zero_add, List.nil_append] at hown2
    have hb' : Below w.heap.size w W' := hb.grown hgr2 (by simp) (fun q hq => (hnew.lt q hq).1)
    obtain ⟨A', cap', rfl, hrow⟩ : ∃ A' cap', v2 = .slice A' zs.length cap' ∧ NRow W' w.heap.size A' cap' zs := by
      rcases hown2.2 with ⟨e, h0⟩ | ⟨g, cap, cur, e, hg, hgg, hnc, _⟩
      · refine ⟨none, 0, by rw [e, h0], ?_⟩
        have : zs = [] := List.eq_nil_of_length_eq_zero h0
        subst this
        exact NRow.nil _ _
      · exact ⟨_, cap, e, by unfold NRow; rw [← e]; exact hown2⟩
    have hrunH := Lib.hid hrun
    have hrowH := Lib.hid hrow
    clear hown2 hgr2 hcells hI2 hnew hb hi hz0 hz1 hz2 hrow
    clear hrun hI hN
    go_enter Try.func37, Try.ntmps37
    go_wp2_with (at_builtin; refine append_run_wp rfl _ _ _ rfl rfl rfl hrunH.out ?_)
    go_ret
    exact ⟨A', cap', rfl, hrowH.out, hb'⟩
end Go.Proofs.Ytpmhfalhieinjaa
namespace Go.Proofs.Ytpmhfalhieinjaa
open Go.RowKit Rec Bk

theorem clone_end {w W : World} {A1 A2 A1' A2' : Option Addr} {c1 c2 c1' c2' : Nat} {b : Bo} {B : Nat} (hB : BkAt W w.heap.size A1 c1 A2 c2 b) (hX : BkAt W (w.heap.size + 1) none 0 none 0 noB) (hO : BkO W B A1' c1' A2' c2' b) (hBB : w.heap.size + 1 < B) (hb : Below w.heap.size w W) :
    let W9 := (W.setCell ⟨w.heap.size, 1, none⟩ (.slice A1' b.zs.length c1')).setCell ⟨w.heap.size, 2, none⟩ (.slice A2' b.ms.length c2')
    BkAt W9 w.heap.size A1' c1' A2' c2' b ∧ BkAt W9 (w.heap.size + 1) none 0 none 0 noB ∧ BkO W9 B A1' c1' A2' c2' b ∧ Below w.heap.size w W9 := by
  have h1 := grownBy_one W w.heap.size 1 (.slice A1' b.zs.length c1')
  have h2 := grownBy_one (W.setCell ⟨w.heap.size, 1, none⟩ (.slice A1' b.zs.length c1')) w.heap.size 2 (.slice A2' b.ms.length c2')
  have hg := h1.trans h2
  have n1 : A1' ≠ some ⟨w.heap.size, 0, none⟩ := fun e => by
    rcases hO.z.form with ⟨e', _⟩ | ⟨g, e', hge, _⟩
    · rw [e'] at e; cases e
    · rw [e'] at e; injection e with e; injection e with e; omega
  have n2 : A2' ≠ some ⟨w.heap.size, 0, none⟩ := fun e => by
    rcases hO.m.form with ⟨e', _⟩ | ⟨g, e', hge, _⟩
    · rw [e'] at e; cases e
    · rw [e'] at e; injection e with e; injection e with e; omega
  exact ⟨(hB.set1 A1' c1' b.zs).set2 A2' c2' b.ms, hX.far hg (by simp), hO.far hg n1 n2, (hb.setCell (Nat.le_refl _) _).setCell (Nat.le_refl _) _⟩
theorem clone_mid {w W w1 w2 : World} {A1 A2 A1' A2' : Option Addr} {c1 c2 c1' c2' : Nat} {b : Bo} (hb : Below w.heap.size w W) (hzl : b.zs.length ≤ 64) (hml : b.ms.length ≤ 64) (hB : BkAt W w.heap.size A1 c1 A2 c2 b) (hX : BkAt W (w.heap.size + 1) none 0 none 0 noB)
    (hz1 : zoE.Row w1 W.heap.size 60 A1' c1' b.zs) (hb1 : Below W.heap.size W w1) (hm2 : NRow w2 w1.heap.size A2' c2' b.ms) (hb2 : Below w1.heap.size w1 w2) :
    BkAt w2 w.heap.size A1 c1 A2 c2 b ∧ BkAt w2 (w.heap.size + 1) none 0 none 0 noB ∧ BkO w2 W.heap.size A1' c1' A2' c2' b ∧ Below w.heap.size w w2 := by
  have hS := hb1.trans (hb2.mono hb1.size)
  refine ⟨hB.below hS, hX.below hS, ⟨hz1.below hb2, hm2.mono hb1.size, fun g e1 e2 => ?_, hzl, hml⟩, hb.trans (hS.mono hb.size)⟩
  rcases hz1.form with ⟨e, _⟩ | ⟨g1, e, _, hlt, _⟩
  · rw [e] at e1; cases e1
  · rcases hm2.form with ⟨e', _⟩ | ⟨g2, e', hge, _⟩
    · rw [e'] at e2; cases e2
    · rw [e] at e1
      rw [e'] at e2
      injection e1 with e1
      injection e1 with e1
      injection e2 with e2
      injection e2 with e2
      omega
def BPost (w : World) (b : Bo) (e : Ending) (w' : World) : Prop := ∃ A1 c1 A2 c2, e = .returned (.agg #[.int .i64 b.q, .slice A1 b.zs.length c1, .slice A2 b.ms.length c2, .int .i64 b.sl, .int .i64 b.cu]) ∧ BkO w' w.heap.size A1 c1 A2 c2 b ∧ Below w.heap.size w w'
set_option maxRecDepth 100000 in
set_option maxHeartbeats 2000000 in
theorem bclone_any (w : World) (A1 : Option Addr) (c1 : Nat) (A2 : Option Addr) (c2 : Nat) (b : Bo) (h : BkIn w A1 c1 A2 c2 b) :
    Calls Try.prog 28 #[.agg #[.int .i64 b.q, .slice A1 b.zs.length c1, .slice A2 b.ms.length c2, .int .i64 b.sl, .int .i64 b.cu]] w (BPost w b) := by
  have hz := Lib.hid (fun W (hb : Below w.heap.size w W) => zclone_any W A1 c1 b.zs (h.z.below hb) h.n1 (by have := h.zl; omega))
  have hm := Lib.hid (fun W (hb : Below w.heap.size w W) => nclone_any W A2 c2 b.ms (h.m.below hb) h.n2 (by have := h.ml; omega))
  have hzl := h.zl
  have hml := h.ml
  clear h
  go_enter Try.func28, Try.ntmps28
  go_wp2_with fail
  refine fresh_world (fun W => BkAt W w.heap.size A1 c1 A2 c2 b ∧ BkAt W (w.heap.size + 1) none 0 none 0 noB ∧ Below w.heap.size w W) ⟨(BkAt.new w A1 c1 A2 c2 b 33).below ((Below.refl _ _).alloc (Nat.le_refl _) _), ?_, ((Below.refl _ _).alloc (Nat.le_refl _) _).alloc (by simp) _⟩ ?_
  · have h1 := BkAt.new (w.alloc (.cells #[.int .i64 b.q, .slice A1 b.zs.length c1, .slice A2 b.ms.length c2, .int .i64 b.sl, .int .i64 b.cu] 33)) none 0 none 0 noB 33
    rw [World.size_alloc] at h1
    exact h1
  rintro W ⟨hB, hX, hb⟩
  have hsz := hb.size
  have hl0 := hX.lt
  have hf := Lib.hid (fun W' (hb' : Below W.heap.size W W') => (⟨(hb'.cell (p := ⟨w.heap.size, 1, none⟩) hB.lt).trans hB.c1, (hb'.cell (p := ⟨w.heap.size, 2, none⟩) hB.lt).trans hB.c2⟩ : W'.cell? ⟨w.heap.size, 1, none⟩ = some (.slice A1 b.zs.length c1) ∧ W'.cell? ⟨w.heap.size, 2, none⟩ = some (.slice A2 b.ms.length c2)))
  have hBH := Lib.hid hB
  have hXH := Lib.hid hX
  have hO := Lib.hid (fun w1 w2 A1' c1' A2' c2' (hS : Below W.heap.size W w1) (hz1 : zoE.Row w1 W.heap.size 60 A1' c1' b.zs) (hb1 : Below W.heap.size W w1) (hm2 : NRow w2 w1.heap.size A2' c2' b.ms) (hb2 : Below w1.heap.size w1 w2) => clone_mid hb hzl hml hB hX hz1 hb1 hm2 hb2)
  clear hB hX hzl hml
  refine region_anyC (fun i => decide (i < 7)) (fun W' => Below W.heap.size W W') (by kernel_rfl) ?_
  have hS : Below W.heap.size W W.drew := (Below.refl _ _).drew
  refine anyL_take 0 (v := ?_) rfl (by kernel_rfl) (fun _ _ _ h => h) (Or.inl ⟨by rfl, ?_⟩) hS ?_
  rotate_left
  focus (intro W' hW; go_simp; try with_reducible rfl)
  simp only [Act.put, List.setIfInBounds_toArray, List.set_cons_zero, List.set_cons_succ]
  refine anyL_take 1 (v := ?_) rfl (by kernel_rfl) (fun _ _ _ h => h) (Or.inl ⟨by rfl, ?_⟩) hS ?_
  rotate_left
  focus (intro W' hW; obtain ⟨f1, f2⟩ := hf.out W' hW; go_simp; try with_reducible rfl)
  simp only [Act.put, List.setIfInBounds_toArray, List.set_cons_zero, List.set_cons_succ]
  refine anyL_take 3 (v := ?_) rfl (by kernel_rfl) (fun _ _ _ h => h) (Or.inl ⟨by rfl, ?_⟩) hS ?_
  rotate_left
  focus (intro W' hW; go_simp; try with_reducible rfl)
  simp only [Act.put, List.setIfInBounds_toArray, List.set_cons_zero, List.set_cons_succ]
  refine anyL_take 4 (v := ?_) rfl (by kernel_rfl) (fun _ _ _ h => h) (Or.inl ⟨by rfl, ?_⟩) hS ?_
  rotate_left
  focus (intro W' hW; obtain ⟨f1, f2⟩ := hf.out W' hW; go_simp; try with_reducible rfl)
  simp only [Act.put, List.setIfInBounds_toArray, List.set_cons_zero, List.set_cons_succ]
  refine anyL_one 2 rfl (by kernel_rfl) (fun K hK => ?_)
  go_simp
  refine (hz.out _ (hb.trans (hS.mono hsz))).mono ?_
  rintro e' w1 ⟨A1', c1', rfl, hz1, hb1⟩
  have hS1 := hS.trans (hb1.mono hS.size)
  refine hK.out _ _ (fun _ => hS1) ?_
  clear hK K
  try simp only [Act.put, List.setIfInBounds_toArray, List.set_cons_zero, List.set_cons_succ]
  refine anyL_take 6 (v := ?_) rfl (by kernel_rfl) (fun _ _ _ h => h) (Or.inl ⟨by rfl, ?_⟩) hS1 ?_
  rotate_left
  focus (intro W' hW; go_simp; try with_reducible rfl)
  simp only [Act.put, List.setIfInBounds_toArray, List.set_cons_zero, List.set_cons_succ]
  refine anyL_one 5 rfl (by kernel_rfl) (fun K hK => ?_)
  go_simp
  refine (hm.out _ (hb.trans (hS1.mono hsz))).mono ?_
  rintro e' w2 ⟨A2', c2', rfl, hm2, hb2⟩
  have hS2 := hS1.trans (hb2.mono hS1.size)
  have hO2 := Lib.hid (hO.out w1 w2 A1' c1' A2' c2' hS1 hz1 hS1 hm2 hb2)
  obtain ⟨hk1, hk2, hk3⟩ := hO2.out
  have hB7H := Lib.hid (hk1.set1 A1' c1' b.zs)
  obtain ⟨b0, b1, b2, b3, b4, bf⟩ := hk1
  clear hk2 hk3
  refine hK.out _ _ (fun _ => hS2) ?_
  clear hK K
  try simp only [Act.put, List.setIfInBounds_toArray, List.set_cons_zero, List.set_cons_succ]
  refine anyL_one 7 rfl (by kernel_rfl) (fun K hK => ?_)
  go_simp
  refine hK.out _ _ (fun h => by cases h) ?_
  clear hK K
  try simp only [Act.put, List.setIfInBounds_toArray, List.set_cons_zero, List.set_cons_succ]
  refine anyL_one 8 rfl (by kernel_rfl) (fun K hK => ?_)
  go_simp
  refine hK.out _ _ (fun h => by cases h) ?_
  clear hK K
  try simp only [Act.put, List.setIfInBounds_toArray, List.set_cons_zero, List.set_cons_succ]
  obtain ⟨g0, g1, g2, g3, g4, gf⟩ := hB7H.out
  refine anyL_one 9 rfl (by kernel_rfl) (fun K hK => ?_)
  go_simp
  refine hK.out _ _ (fun h => by cases h) ?_
  clear hK K
  try simp only [Act.put, List.setIfInBounds_toArray, List.set_cons_zero, List.set_cons_succ]
  refine anyC_done (by kernel_rfl) ?_ _
  have hE := clone_end hO2.out.1 hO2.out.2.1 hO2.out.2.2.1 hl0 hO2.out.2.2.2
  have hEH := Lib.hid hE
  clear hE hO2 hO b0 b1 b2 b3 b4 bf g0 g1 g2 g3 g4 gf hB7H hz1 hb1 hm2 hb2
  refine fresh_K (fun W9 => BkAt W9 w.heap.size A1' c1' A2' c2' b ∧ BkAt W9 (w.heap.size + 1) none 0 none 0 noB ∧ BkO W9 W.heap.size A1' c1' A2' c2' b ∧ Below w.heap.size w W9) hEH.out ?_
  clear hEH
  rintro W9 ⟨hB9, hX9, hO9, hb9⟩
  have hXs := Lib.hid (book_out hX9 hO9 hl0 (by omega) hb9)
  obtain ⟨b0, b1, b2, b3, b4, bf⟩ := hB9
  obtain ⟨x0, x1, x2, x3, x4, xf⟩ := hX9
  clear hO9 hb9
  go_wp2
  refine fresh_post (fun W => BkAt W (w.heap.size + 1) A1' c1' A2' c2' b ∧ BkO W w.heap.size A1' c1' A2' c2' b ∧ Below w.heap.size w W) hXs.out ?_
  rintro W10 ⟨⟨y0, y1, y2, y3, y4, _⟩, hO10, hb10⟩
  refine bodyPost_ret (v := .agg #[.int .i64 b.q, .slice A1' b.zs.length c1', .slice A2' b.ms.length c2', .int .i64 b.sl, .int .i64 b.cu]) (by simp [results, Try.results28, go_sem, y0, y1, y2, y3, y4]) rfl ⟨A1', c1', A2', c2', rfl, hO10, hb10⟩
end Go.Proofs.Ytpmhfalhieinjaa
