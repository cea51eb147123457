/- The document's book in the making (by gen_bk3.py out of the program's). -/
import Derived.Test.YtpmhfalhieinjaaBkNewM
namespace Go.Proofs.Ytpmhfalhieinjaa
open Go.RowKit Rec Bk

/-- The same of the call's own. -/
structure RkO (W : World) (base : Nat) (A1 : Option Addr) (c1 : Nat) (A2 : Option Addr) (c2 : Nat) (b : Bo) : Prop where
  z : zoE.Row W base 84 A1 c1 b.zs
  m : NRow W base A2 c2 b.ms
  d : ∀ g, A1 = some ⟨g, 0, none⟩ → A2 ≠ some ⟨g, 0, none⟩
  zl : b.zs.length ≤ 64
  ml : b.ms.length ≤ 64
section
variable {W W' : World} {base : Nat} {A1 : Option Addr} {c1 : Nat} {A2 : Option Addr} {c2 : Nat} {b : Bo}
theorem RkO.in_ (h : RkO W base A1 c1 A2 c2 b) : BkIn W A1 c1 A2 c2 b := by
  refine ⟨h.z.in_, h.m.ints, fun e => ?_, fun e => ?_, h.zl, h.ml⟩
  · rcases h.z.form with h0 | ⟨g, e', _⟩
    · exact h0.2.1
    · rw [e] at e'; cases e'
  · rcases h.m.form with h0 | ⟨g, e', _⟩
    · exact h0.2.1
    · rw [e] at e'; cases e'
theorem RkO.below (h : RkO W base A1 c1 A2 c2 b) (hb : Below W.heap.size W W') : RkO W' base A1 c1 A2 c2 b := ⟨h.z.below hb, h.m.below hb, h.d, h.zl, h.ml⟩
theorem RkO.mono {base' : Nat} (h : RkO W base A1 c1 A2 c2 b) (hb : base' ≤ base) : RkO W base' A1 c1 A2 c2 b := ⟨h.z.mono hb, h.m.mono hb, h.d, h.zl, h.ml⟩
/-- A block of another kind has turned. -/
theorem RkO.far {o : Nat} (h : RkO W base A1 c1 A2 c2 b) (hg : W.grownBy W' (some o)) (h1 : A1 ≠ some ⟨o, 0, none⟩) (h2 : A2 ≠ some ⟨o, 0, none⟩) : RkO W' base A1 c1 A2 c2 b :=
  ⟨h.z.far hg (fun g e e' => h1 (by injection e' with e'; rw [e, e'])), h.m.far hg (fun g e e' => h2 (by injection e' with e'; rw [e, e'])), h.d, h.zl, h.ml⟩
/-- Its Seq, its Slot, its Cursor are in no block of its. -/
theorem RkO.same (h : RkO W base A1 c1 A2 c2 b) {b' : Bo} (hz : b'.zs = b.zs) (hm : b'.ms = b.ms) : RkO W base A1 c1 A2 c2 b' := by
  refine ⟨?_, ?_, h.d, by rw [hz]; exact h.zl, by rw [hm]; exact h.ml⟩
  · rw [hz]; exact h.z
  · rw [hm]; exact h.m
end
theorem RkO.off {W : World} {B : Nat} {A1 A2 : Option Addr} {c1 c2 : Nat} {b : Bo} (hO : RkO W B A1 c1 A2 c2 b) {r : Nat} (hr : r < B) : A1 ≠ some ⟨r, 0, none⟩ ∧ A2 ≠ some ⟨r, 0, none⟩ := by
  refine ⟨fun e => ?_, fun e => ?_⟩
  · rcases hO.z.form with ⟨e', _⟩ | ⟨g, e', hge, _⟩
    · rw [e'] at e; cases e
    · rw [e'] at e; injection e with e; injection e with e; omega
  · rcases hO.m.form with ⟨e', _⟩ | ⟨g, e', hge, _⟩
    · rw [e'] at e; cases e
    · rw [e'] at e; injection e with e; injection e with e; omega
/-- A book handed back in a box of the call's own. -/
theorem rbook_out {w W : World} {r B : Nat} {A1 A2 X1 X2 : Option Addr} {c1 c2 x1 x2 : Nat} {b b0 : Bo} (hX : BkAt W r X1 x1 X2 x2 b0) (hO : RkO W B A1 c1 A2 c2 b) (hr : r < B) (hw : w.heap.size ≤ r) (hb : Below w.heap.size w W) :
    BkAt (((((W.setCell ⟨r, 0, none⟩ (.int .i64 b.q)).setCell ⟨r, 1, none⟩ (.slice A1 b.zs.length c1)).setCell ⟨r, 2, none⟩ (.slice A2 b.ms.length c2)).setCell ⟨r, 3, none⟩ (.int .i64 b.sl)).setCell ⟨r, 4, none⟩ (.int .i64 b.cu)) r A1 c1 A2 c2 b ∧
    RkO (((((W.setCell ⟨r, 0, none⟩ (.int .i64 b.q)).setCell ⟨r, 1, none⟩ (.slice A1 b.zs.length c1)).setCell ⟨r, 2, none⟩ (.slice A2 b.ms.length c2)).setCell ⟨r, 3, none⟩ (.int .i64 b.sl)).setCell ⟨r, 4, none⟩ (.int .i64 b.cu)) w.heap.size A1 c1 A2 c2 b ∧
    Below w.heap.size w (((((W.setCell ⟨r, 0, none⟩ (.int .i64 b.q)).setCell ⟨r, 1, none⟩ (.slice A1 b.zs.length c1)).setCell ⟨r, 2, none⟩ (.slice A2 b.ms.length c2)).setCell ⟨r, 3, none⟩ (.int .i64 b.sl)).setCell ⟨r, 4, none⟩ (.int .i64 b.cu)) := by
  obtain ⟨n1, n2⟩ := hO.off hr
  exact ⟨hX.put b, (hO.far (grownBy_put W r _ _ _ _ _) n1 n2).mono (by omega), ((((hb.setCell hw _).setCell hw _).setCell hw _).setCell hw _).setCell hw _⟩
theorem infRz : Enc.Inf Try.prog 84 3 24 := by unfold Enc.Inf; kernel_rfl
/-- A book in a box, of the call's own. -/
structure RkB (W : World) (B r : Nat) (A1 : Option Addr) (c1 : Nat) (A2 : Option Addr) (c2 : Nat) (b : Bo) : Prop where
  a : BkAt W r A1 c1 A2 c2 b
  o : RkO W B A1 c1 A2 c2 b
  n1 : A1 ≠ some ⟨r, 0, none⟩
  n2 : A2 ≠ some ⟨r, 0, none⟩
section
variable {W W' : World} {B r : Nat} {A1 : Option Addr} {c1 : Nat} {A2 : Option Addr} {c2 : Nat} {b : Bo}
theorem RkB.below (h : RkB W B r A1 c1 A2 c2 b) (hb : Below W.heap.size W W') : RkB W' B r A1 c1 A2 c2 b := ⟨h.a.below hb, h.o.below hb, h.n1, h.n2⟩
theorem RkB.far {o : Option Nat} (h : RkB W B r A1 c1 A2 c2 b) (hg : W.grownBy W' o) (hr : ∀ k, o = some k → ¬ bkF r A1 A2 k) : RkB W' B r A1 c1 A2 c2 b := by
  have e1 : ∀ g, A1 = some ⟨g, 0, none⟩ → o ≠ some g := fun g e e' => hr g e' (.inr (.inl e))
  have e2 : ∀ g, A2 = some ⟨g, 0, none⟩ → o ≠ some g := fun g e e' => hr g e' (.inr (.inr e))
  exact ⟨h.a.far hg (fun e => hr r e (.inl rfl)), ⟨h.o.z.far hg e1, h.o.m.far hg e2, h.o.d, h.o.zl, h.o.ml⟩, h.n1, h.n2⟩
theorem RkB.chg {F : Nat → Prop} (h : RkB W B r A1 c1 A2 c2 b) (hc : Chg W W' F) (hF : ∀ k, F k → ¬ bkF r A1 A2 k) : RkB W' B r A1 c1 A2 c2 b := by
  have e0 : ∀ k, k < W.heap.size → bkF r A1 A2 k → W'.heap[k]? = W.heap[k]? := fun k hk hb => hc.block k hk (fun hf => hF k hf hb)
  refine ⟨h.a.of (e0 r h.a.lt (.inl rfl)), ⟨⟨h.o.z.1, ?_⟩, ⟨h.o.m.1, ?_⟩, h.o.d, h.o.zl, h.o.ml⟩, h.n1, h.n2⟩
  · rcases h.o.z.2 with hn | ⟨g, cap', cur, hv, hg, hgg, rest⟩
    · exact .inl hn
    · refine .inr ⟨g, cap', cur, hv, hg, ?_, rest⟩
      simp only [Value.slice.injEq] at hv
      rw [e0 g (Array.getElem?_eq_some_iff.1 hgg).1 (.inr (.inl hv.1))]; exact hgg
  · rcases h.o.m.2 with hn | ⟨g, cap', cur, hv, hg, hgg, rest⟩
    · exact .inl hn
    · refine .inr ⟨g, cap', cur, hv, hg, ?_, rest⟩
      simp only [Value.slice.injEq] at hv
      rw [e0 g (Array.getElem?_eq_some_iff.1 hgg).1 (.inr (.inr hv.1))]; exact hgg
end
section
variable {W : World} {B r : Nat} {A1 : Option Addr} {c1 : Nat} {A2 : Option Addr} {c2 : Nat} {b : Bo}
theorem RkB.set_q (h : RkB W B r A1 c1 A2 c2 b) (x : Int) : RkB (W.setCell ⟨r, 0, none⟩ (.int .i64 x)) B r A1 c1 A2 c2 { b with q := x } :=
  ⟨h.a.set0 x, (h.o.far (grownBy_one W r 0 _) h.n1 h.n2).same rfl rfl, h.n1, h.n2⟩
theorem RkB.set_sl (h : RkB W B r A1 c1 A2 c2 b) (x : Int) : RkB (W.setCell ⟨r, 3, none⟩ (.int .i64 x)) B r A1 c1 A2 c2 { b with sl := x } :=
  ⟨h.a.set3 x, (h.o.far (grownBy_one W r 3 _) h.n1 h.n2).same rfl rfl, h.n1, h.n2⟩
theorem RkB.set_cu (h : RkB W B r A1 c1 A2 c2 b) (x : Int) : RkB (W.setCell ⟨r, 4, none⟩ (.int .i64 x)) B r A1 c1 A2 c2 { b with cu := x } :=
  ⟨h.a.set4 x, (h.o.far (grownBy_one W r 4 _) h.n1 h.n2).same rfl rfl, h.n1, h.n2⟩
end
/-- The world within New: the geometry's box, the result's, the book's. -/
structure NewR (w W : World) (r : Nat) (D Z B O A : Int) (A1 : Option Addr) (c1 : Nat) (A2 : Option Addr) (c2 : Nat) (b : Bo) : Prop where
  g : GzAt W w.heap.size D Z B O A
  o : BkAt W (w.heap.size + 1) none 0 none 0 noB
  k : RkB W (r + 1) (r) A1 c1 A2 c2 b
  bw : Below w.heap.size w W
  lo : w.heap.size + 2 ≤ r
section
variable {w W W' : World} {r : Nat} {D Z B O A : Int} {A1 : Option Addr} {c1 : Nat} {A2 : Option Addr} {c2 : Nat} {b b' : Bo}
theorem NewR.lt (h : NewR w W r D Z B O A A1 c1 A2 c2 b) : r < W.heap.size := h.k.a.lt
theorem NewR.below (h : NewR w W r D Z B O A A1 c1 A2 c2 b) (hb : Below W.heap.size W W') : NewR w W' r D Z B O A A1 c1 A2 c2 b :=
  ⟨h.g.below hb, h.o.below hb, h.k.below hb, h.bw.trans (hb.mono h.bw.size), h.lo⟩
/-- Only blocks from the book's on have turned. -/
theorem NewR.turned {A1' A2' : Option Addr} {c1' c2' : Nat} {o : Option Nat} (h : NewR w W r D Z B O A A1 c1 A2 c2 b) (hg : W.grownBy W' o) (ho : ∀ k, o = some k → r ≤ k) (hk : RkB W' (r + 1) (r) A1' c1' A2' c2' b') : NewR w W' r D Z B O A A1' c1' A2' c2' b' := by
  have hl := h.lt
  have hlo := h.lo
  have hn : ∀ k, k < r → W'.heap[k]? = W.heap[k]? := fun k hk => hg.block k (by omega) (fun e => by have := ho k e.symm; omega)
  exact ⟨h.g.of (hn _ (by omega)) hg.size, h.o.of (hn _ (by omega)), hk, h.bw.grown hg (by omega) (fun k e => by have := ho k e; omega), h.lo⟩
theorem NewR.zone (h : NewR w W r D Z B O A A1 c1 A2 c2 b) (z : Zo) (hl : b.zs.length < 64) :
    ∃ A' cap' W2, (Builtin.append_ #[38, 38] 38 #[.slice A1 b.zs.length c1, .slice (some ⟨W.heap.size, 0, none⟩) 1 1]).run Try.prog (W.alloc (.cells #[.int .i64 z.p, .int .i64 z.g, .int .i64 z.s] 84)) = .ok (.slice A' (b.zs.length + 1) cap') W2 ∧
      W2.cell? ⟨r, 1, none⟩ = some (.slice A1 b.zs.length c1) ∧ W2.frozen? ⟨r, 1, none⟩ = false ∧
      NewR w (W2.setCell ⟨r, 1, none⟩ (.slice A' (b.zs.length + 1) cap')) r D Z B O A A' cap' A2 c2 { b with zs := b.zs ++ [z] } := by
  have hlt := h.lt
  have hlo := h.lo
  have h1 := h.below (W' := W.alloc (.cells #[.int .i64 z.p, .int .i64 z.g, .int .i64 z.s] 84)) ((Below.refl _ _).alloc (Nat.le_refl _) _)
  obtain ⟨A', cap', W2, hrun, hrow, hg, hA⟩ := h1.k.o.z.append (P := Try.prog) Try.underlying38 infRz (by decide) (by decide) (m := W.heap.size) (x := z) (by
    intro j hj
    have hj3 : j < 3 := hj
    rw [World.cell?_alloc_new]
    rcases (by omega : j = 0 ∨ j = 1 ∨ j = 2) with rfl | rfl | rfl <;> rfl) (by omega) (by simp; omega) 38
  have ho : ∀ k, (Value.slice A1 b.zs.length c1).ownBlock = some k → A1 = some ⟨k, 0, none⟩ := fun k e => by
    rcases h1.k.o.z.form with ⟨rfl, _⟩ | ⟨g, rfl, _⟩
    · simp [Value.ownBlock] at e
    · simp only [Value.ownBlock, Option.some.injEq] at e
      rw [e]
  have ha2 := h1.k.a.far hg (fun e => h1.k.n1 (ho _ e))
  have hAo := h1.k.o.off (Nat.lt_succ_self _)
  have hn' : A' ≠ some ⟨r, 0, none⟩ := by
    rcases hA with rfl | rfl
    · exact h1.k.n1
    · intro e; injection e with e; injection e with e; simp at e; omega
  have hm2 : NRow W2 (r + 1) A2 c2 b.ms := h1.k.o.m.far hg (fun g e e' => h1.k.o.d g (ho g e') e)
  have hd' : ∀ g, A' = some ⟨g, 0, none⟩ → A2 ≠ some ⟨g, 0, none⟩ := fun g e e' => by
    rcases hA with rfl | rfl
    · exact h1.k.o.d g e e'
    · rcases h1.k.o.m.form with ⟨e2, _⟩ | ⟨g2, e2, _, hl2, _⟩
      · rw [e2] at e'; cases e'
      · rw [e2] at e'
        injection e with e
        injection e with e
        injection e' with e'
        injection e' with e'
        omega
  have hgs := grownBy_one W2 (r) 1 (.slice A' (b.zs.length + 1) cap')
  have hlen : (b.zs ++ [z]).length = b.zs.length + 1 := by simp
  refine ⟨A', cap', W2, hrun, ha2.c1, ha2.fr 1, ?_⟩
  have hk : RkB (W2.setCell ⟨r, 1, none⟩ (.slice A' (b.zs.length + 1) cap')) (r + 1) (r) A' cap' A2 c2 { b with zs := b.zs ++ [z] } := by
    have hs := ha2.set1 A' cap' (b.zs ++ [z])
    rw [hlen] at hs
    exact ⟨hs, ⟨hrow.far hgs (fun g e e' => hn' (by injection e' with e'; rw [e, e'])), hm2.far hgs (fun g e e' => h1.k.n2 (by injection e' with e'; rw [e, e'])), hd', (by show (b.zs ++ [z]).length ≤ 64; omega), h1.k.o.ml⟩, hn', h1.k.n2⟩
  have hb : ∀ k, k < r → (W2.setCell ⟨r, 1, none⟩ (.slice A' (b.zs.length + 1) cap')).heap[k]? = (W.alloc (.cells #[.int .i64 z.p, .int .i64 z.g, .int .i64 z.s] 84)).heap[k]? := fun k hk => by
    have hs1 := h1.lt
    rw [hgs.block k (by have := hg.size; omega) (by simp; omega), hg.block k (by omega) (fun e => hAo.1 (by
      have := ho k e.symm
      have h3 : r + 1 ≤ k := by
        rcases h1.k.o.z.form with ⟨e2, _⟩ | ⟨g2, e2, hge, _⟩
        · rw [e2] at this; cases this
        · rw [e2] at this; injection this with this; injection this with this; omega
      omega))]
  exact ⟨h1.g.of (hb _ (by omega)) (Nat.le_trans hg.size hgs.size), h1.o.of (hb _ (by omega)), hk, ⟨hgs.os.trans (hg.os.trans h1.bw.os), hgs.tape.trans (hg.tape.trans h1.bw.tape), hgs.output.trans (hg.output.trans h1.bw.output), Nat.le_trans h1.bw.size (Nat.le_trans hg.size hgs.size), fun k hk => (hb k (by omega)).trans (h1.bw.block k hk)⟩, h.lo⟩
theorem NewR.mem (h : NewR w W r D Z B O A A1 c1 A2 c2 b) (z : Int) (hl : b.ms.length < 64) :
    ∃ A' cap' W2, (Builtin.append_ #[31, 31] 31 #[.slice A2 b.ms.length c2, .slice (some ⟨W.heap.size, 0, none⟩) 1 1]).run Try.prog (W.alloc (.cells #[.int .i64 z] 3)) = .ok (.slice A' (b.ms.length + 1) cap') W2 ∧
      W2.cell? ⟨r, 2, none⟩ = some (.slice A2 b.ms.length c2) ∧ W2.frozen? ⟨r, 2, none⟩ = false ∧
      NewR w (W2.setCell ⟨r, 2, none⟩ (.slice A' (b.ms.length + 1) cap')) r D Z B O A A1 c1 A' cap' { b with ms := b.ms ++ [z] } := by
  have hlt := h.lt
  have hlo := h.lo
  have h1 := h.below (W' := W.alloc (.cells #[.int .i64 z] 3)) ((Below.refl _ _).alloc (Nat.le_refl _) _)
  obtain ⟨A', cap', W2, hrun, hrow, hg, hA⟩ := h1.k.o.m.append (m := W.heap.size) (z := z) (by go_simp) (by omega) (by simp; omega)
  have ho : ∀ k, (Value.slice A2 b.ms.length c2).ownBlock = some k → A2 = some ⟨k, 0, none⟩ := fun k e => by
    rcases h1.k.o.m.form with ⟨rfl, _⟩ | ⟨g, rfl, _⟩
    · simp [Value.ownBlock] at e
    · simp only [Value.ownBlock, Option.some.injEq] at e
      rw [e]
  have ha2 := h1.k.a.far hg (fun e => h1.k.n2 (ho _ e))
  have hAo := h1.k.o.off (Nat.lt_succ_self _)
  have hn' : A' ≠ some ⟨r, 0, none⟩ := by
    rcases hA with rfl | rfl
    · exact h1.k.n2
    · intro e; injection e with e; injection e with e; simp at e; omega
  have hm2 : zoE.Row W2 (r + 1) 84 A1 c1 b.zs := h1.k.o.z.far hg (fun g e e' => h1.k.o.d g e (ho g e'))
  have hd' : ∀ g, A1 = some ⟨g, 0, none⟩ → A' ≠ some ⟨g, 0, none⟩ := fun g e e' => by
    rcases hA with rfl | rfl
    · exact h1.k.o.d g e e'
    · rcases h1.k.o.z.form with ⟨e2, _⟩ | ⟨g2, e2, _, hl2, _⟩
      · rw [e2] at e; cases e
      · rw [e2] at e
        injection e with e
        injection e with e
        injection e' with e'
        injection e' with e'
        omega
  have hgs := grownBy_one W2 (r) 2 (.slice A' (b.ms.length + 1) cap')
  have hlen : (b.ms ++ [z]).length = b.ms.length + 1 := by simp
  refine ⟨A', cap', W2, hrun, ha2.c2, ha2.fr 2, ?_⟩
  have hk : RkB (W2.setCell ⟨r, 2, none⟩ (.slice A' (b.ms.length + 1) cap')) (r + 1) (r) A1 c1 A' cap' { b with ms := b.ms ++ [z] } := by
    have hs := ha2.set2 A' cap' (b.ms ++ [z])
    rw [hlen] at hs
    exact ⟨hs, ⟨hm2.far hgs (fun g e e' => h1.k.n1 (by injection e' with e'; rw [e, e'])), hrow.far hgs (fun g e e' => hn' (by injection e' with e'; rw [e, e'])), hd', h1.k.o.zl, (by show (b.ms ++ [z]).length ≤ 64; omega)⟩, h1.k.n1, hn'⟩
  have hb : ∀ k, k < r → (W2.setCell ⟨r, 2, none⟩ (.slice A' (b.ms.length + 1) cap')).heap[k]? = (W.alloc (.cells #[.int .i64 z] 3)).heap[k]? := fun k hk => by
    have hs1 := h1.lt
    rw [hgs.block k (by have := hg.size; omega) (by simp; omega), hg.block k (by omega) (fun e => hAo.2 (by
      have := ho k e.symm
      have h3 : r + 1 ≤ k := by
        rcases h1.k.o.m.form with ⟨e2, _⟩ | ⟨g2, e2, hge, _⟩
        · rw [e2] at this; cases this
        · rw [e2] at this; injection this with this; injection this with this; omega
      omega))]
  exact ⟨h1.g.of (hb _ (by omega)) (Nat.le_trans hg.size hgs.size), h1.o.of (hb _ (by omega)), hk, ⟨hgs.os.trans (hg.os.trans h1.bw.os), hgs.tape.trans (hg.tape.trans h1.bw.tape), hgs.output.trans (hg.output.trans h1.bw.output), Nat.le_trans h1.bw.size (Nat.le_trans hg.size hgs.size), fun k hk => (hb k (by omega)).trans (h1.bw.block k hk)⟩, h.lo⟩
end
end Go.Proofs.Ytpmhfalhieinjaa
