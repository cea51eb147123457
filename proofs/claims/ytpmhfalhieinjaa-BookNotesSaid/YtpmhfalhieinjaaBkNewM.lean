/- A book in the making. -/
import Derived.Test.YtpmhfalhieinjaaBkNote
import Derived.Test.YtpmhfalhieinjaaGeoG2
namespace Go.Proofs.Ytpmhfalhieinjaa
open Go.RowKit Rec Bk

theorem GzAt.of {W W' : World} {g : Nat} {D Z B O A : Int} (h : GzAt W g D Z B O A) (hs : W'.heap[g]? = W.heap[g]?) (hl : W.heap.size ≤ W'.heap.size) : GzAt W' g D Z B O A := by
  obtain ⟨h0, h1, h2, h3, h4, h5⟩ := h
  exact ⟨(World.cell?_of_block (a := ⟨g, 0, none⟩) hs).trans h0, (World.cell?_of_block (a := ⟨g, 1, none⟩) hs).trans h1, (World.cell?_of_block (a := ⟨g, 2, none⟩) hs).trans h2, (World.cell?_of_block (a := ⟨g, 3, none⟩) hs).trans h3, (World.cell?_of_block (a := ⟨g, 4, none⟩) hs).trans h4, by omega⟩
/-- The world within New: the geometry's box, the result's, the book's. -/
structure NewW (w W : World) (D Z B O A : Int) (A1 : Option Addr) (c1 : Nat) (A2 : Option Addr) (c2 : Nat) (b : Bo) : Prop where
  g : GzAt W w.heap.size D Z B O A
  o : BkAt W (w.heap.size + 1) none 0 none 0 noB
  k : BkB W (w.heap.size + 1 + 1 + 1) (w.heap.size + 1 + 1) A1 c1 A2 c2 b
  bw : Below w.heap.size w W
section
variable {w W W' : World} {D Z B O A : Int} {A1 : Option Addr} {c1 : Nat} {A2 : Option Addr} {c2 : Nat} {b b' : Bo}
theorem NewW.lt (h : NewW w W D Z B O A A1 c1 A2 c2 b) : w.heap.size + 1 + 1 < W.heap.size := h.k.a.lt
theorem NewW.below (h : NewW w W D Z B O A A1 c1 A2 c2 b) (hb : Below W.heap.size W W') : NewW w W' D Z B O A A1 c1 A2 c2 b :=
  ⟨h.g.below hb, h.o.below hb, h.k.below hb, h.bw.trans (hb.mono h.bw.size)⟩
/-- Only blocks from the book's on have turned. -/
theorem NewW.turned {A1' A2' : Option Addr} {c1' c2' : Nat} {o : Option Nat} (h : NewW w W D Z B O A A1 c1 A2 c2 b) (hg : W.grownBy W' o) (ho : ∀ k, o = some k → w.heap.size + 1 + 1 ≤ k) (hk : BkB W' (w.heap.size + 1 + 1 + 1) (w.heap.size + 1 + 1) A1' c1' A2' c2' b') : NewW w W' D Z B O A A1' c1' A2' c2' b' := by
  have hl := h.lt
  have hn : ∀ k, k < w.heap.size + 1 + 1 → W'.heap[k]? = W.heap[k]? := fun k hk => hg.block k (by omega) (fun e => by have := ho k e.symm; omega)
  exact ⟨h.g.of (hn _ (by omega)) hg.size, h.o.of (hn _ (by omega)), hk, h.bw.grown hg (by omega) (fun k e => by have := ho k e; omega)⟩
theorem NewW.zone (h : NewW w W D Z B O A A1 c1 A2 c2 b) (z : Zo) (hl : b.zs.length < 64) :
    ∃ A' cap' W2, (Builtin.append_ #[30, 30] 30 #[.slice A1 b.zs.length c1, .slice (some ⟨W.heap.size, 0, none⟩) 1 1]).run Try.prog (W.alloc (.cells #[.int .i64 z.p, .int .i64 z.g, .int .i64 z.s] 60)) = .ok (.slice A' (b.zs.length + 1) cap') W2 ∧
      W2.cell? ⟨w.heap.size + 1 + 1, 1, none⟩ = some (.slice A1 b.zs.length c1) ∧ W2.frozen? ⟨w.heap.size + 1 + 1, 1, none⟩ = false ∧
      NewW w (W2.setCell ⟨w.heap.size + 1 + 1, 1, none⟩ (.slice A' (b.zs.length + 1) cap')) D Z B O A A' cap' A2 c2 { b with zs := b.zs ++ [z] } := by
  have hlt := h.lt
  have h1 := h.below (W' := W.alloc (.cells #[.int .i64 z.p, .int .i64 z.g, .int .i64 z.s] 60)) ((Below.refl _ _).alloc (Nat.le_refl _) _)
  obtain ⟨A', cap', W2, hrun, hrow, hg, hA⟩ := h1.k.o.z.append (P := Try.prog) Try.underlying30 infZo (by decide) (by decide) (m := W.heap.size) (x := z) (by
    intro j hj
    have hj3 : j < 3 := hj
    rw [World.cell?_alloc_new]
    rcases (by omega : j = 0 ∨ j = 1 ∨ j = 2) with rfl | rfl | rfl <;> rfl) (by omega) (by simp; omega) 30
  have ho : ∀ k, (Value.slice A1 b.zs.length c1).ownBlock = some k → A1 = some ⟨k, 0, none⟩ := fun k e => by
    rcases h1.k.o.z.form with ⟨rfl, _⟩ | ⟨g, rfl, _⟩
    · simp [Value.ownBlock] at e
    · simp only [Value.ownBlock, Option.some.injEq] at e
      rw [e]
  have ha2 := h1.k.a.far hg (fun e => h1.k.n1 (ho _ e))
  have hAo := h1.k.o.off (Nat.lt_succ_self _)
  have hn' : A' ≠ some ⟨w.heap.size + 1 + 1, 0, none⟩ := by
    rcases hA with rfl | rfl
    · exact h1.k.n1
    · intro e; injection e with e; injection e with e; simp at e; omega
  have hm2 : NRow W2 (w.heap.size + 1 + 1 + 1) A2 c2 b.ms := h1.k.o.m.far hg (fun g e e' => h1.k.o.d g (ho g e') e)
  have hd' : ∀ g, A' = some ⟨g, 0, none⟩ → A2 ≠ some ⟨g, 0, none⟩ := fun g e e' => by
    rcases hA with rfl | rfl
    · exact h1.k.o.d g e e'
    · rcases h1.k.o.m.form with ⟨e2, _⟩ | ⟨g2, e2, _, hl2, _⟩
      · rw [e2] at e'; cases e'
      · rw [e2] at e'
        injection e with e
        injection e with e
        injection e' with e'
        injection e' with e'
        omega
  have hgs := grownBy_one W2 (w.heap.size + 1 + 1) 1 (.slice A' (b.zs.length + 1) cap')
  have hlen : (b.zs ++ [z]).length = b.zs.length + 1 := by simp
  refine ⟨A', cap', W2, hrun, ha2.c1, ha2.fr 1, ?_⟩
  have hk : BkB (W2.setCell ⟨w.heap.size + 1 + 1, 1, none⟩ (.slice A' (b.zs.length + 1) cap')) (w.heap.size + 1 + 1 + 1) (w.heap.size + 1 + 1) A' cap' A2 c2 { b with zs := b.zs ++ [z] } := by
    have hs := ha2.set1 A' cap' (b.zs ++ [z])
    rw [hlen] at hs
    exact ⟨hs, ⟨hrow.far hgs (fun g e e' => hn' (by injection e' with e'; rw [e, e'])), hm2.far hgs (fun g e e' => h1.k.n2 (by injection e' with e'; rw [e, e'])), hd', (by show (b.zs ++ [z]).length ≤ 64; omega), h1.k.o.ml⟩, hn', h1.k.n2⟩
  have hb : ∀ k, k < w.heap.size + 1 + 1 → (W2.setCell ⟨w.heap.size + 1 + 1, 1, none⟩ (.slice A' (b.zs.length + 1) cap')).heap[k]? = (W.alloc (.cells #[.int .i64 z.p, .int .i64 z.g, .int .i64 z.s] 60)).heap[k]? := fun k hk => by
    have hs1 := h1.lt
    rw [hgs.block k (by have := hg.size; omega) (by simp; omega), hg.block k (by omega) (fun e => hAo.1 (by
      have := ho k e.symm
      have h3 : w.heap.size + 1 + 1 + 1 ≤ k := by
        rcases h1.k.o.z.form with ⟨e2, _⟩ | ⟨g2, e2, hge, _⟩
        · rw [e2] at this; cases this
        · rw [e2] at this; injection this with this; injection this with this; omega
      omega))]
  exact ⟨h1.g.of (hb _ (by omega)) (Nat.le_trans hg.size hgs.size), h1.o.of (hb _ (by omega)), hk, ⟨hgs.os.trans (hg.os.trans h1.bw.os), hgs.tape.trans (hg.tape.trans h1.bw.tape), hgs.output.trans (hg.output.trans h1.bw.output), Nat.le_trans h1.bw.size (Nat.le_trans hg.size hgs.size), fun k hk => (hb k (by omega)).trans (h1.bw.block k hk)⟩⟩
theorem NewW.mem (h : NewW w W D Z B O A A1 c1 A2 c2 b) (z : Int) (hl : b.ms.length < 64) :
    ∃ A' cap' W2, (Builtin.append_ #[31, 31] 31 #[.slice A2 b.ms.length c2, .slice (some ⟨W.heap.size, 0, none⟩) 1 1]).run Try.prog (W.alloc (.cells #[.int .i64 z] 3)) = .ok (.slice A' (b.ms.length + 1) cap') W2 ∧
      W2.cell? ⟨w.heap.size + 1 + 1, 2, none⟩ = some (.slice A2 b.ms.length c2) ∧ W2.frozen? ⟨w.heap.size + 1 + 1, 2, none⟩ = false ∧
      NewW w (W2.setCell ⟨w.heap.size + 1 + 1, 2, none⟩ (.slice A' (b.ms.length + 1) cap')) D Z B O A A1 c1 A' cap' { b with ms := b.ms ++ [z] } := by
  have hlt := h.lt
  have h1 := h.below (W' := W.alloc (.cells #[.int .i64 z] 3)) ((Below.refl _ _).alloc (Nat.le_refl _) _)
  obtain ⟨A', cap', W2, hrun, hrow, hg, hA⟩ := h1.k.o.m.append (m := W.heap.size) (z := z) (by go_simp) (by omega) (by simp; omega)
  have ho : ∀ k, (Value.slice A2 b.ms.length c2).ownBlock = some k → A2 = some ⟨k, 0, none⟩ := fun k e => by
    rcases h1.k.o.m.form with ⟨rfl, _⟩ | ⟨g, rfl, _⟩
    · simp [Value.ownBlock] at e
    · simp only [Value.ownBlock, Option.some.injEq] at e
      rw [e]
  have ha2 := h1.k.a.far hg (fun e => h1.k.n2 (ho _ e))
  have hAo := h1.k.o.off (Nat.lt_succ_self _)
  have hn' : A' ≠ some ⟨w.heap.size + 1 + 1, 0, none⟩ := by
    rcases hA with rfl | rfl
    · exact h1.k.n2
    · intro e; injection e with e; injection e with e; simp at e; omega
  have hm2 : zoE.Row W2 (w.heap.size + 1 + 1 + 1) 60 A1 c1 b.zs := h1.k.o.z.far hg (fun g e e' => h1.k.o.d g e (ho g e'))
  have hd' : ∀ g, A1 = some ⟨g, 0, none⟩ → A' ≠ some ⟨g, 0, none⟩ := fun g e e' => by
    rcases hA with rfl | rfl
    · exact h1.k.o.d g e e'
    · rcases h1.k.o.z.form with ⟨e2, _⟩ | ⟨g2, e2, _, hl2, _⟩
      · rw [e2] at e; cases e
      · rw [e2] at e
        injection e with e
        injection e with e
        injection e' with e'
        injection e' with e'
        omega
  have hgs := grownBy_one W2 (w.heap.size + 1 + 1) 2 (.slice A' (b.ms.length + 1) cap')
  have hlen : (b.ms ++ [z]).length = b.ms.length + 1 := by simp
  refine ⟨A', cap', W2, hrun, ha2.c2, ha2.fr 2, ?_⟩
  have hk : BkB (W2.setCell ⟨w.heap.size + 1 + 1, 2, none⟩ (.slice A' (b.ms.length + 1) cap')) (w.heap.size + 1 + 1 + 1) (w.heap.size + 1 + 1) A1 c1 A' cap' { b with ms := b.ms ++ [z] } := by
    have hs := ha2.set2 A' cap' (b.ms ++ [z])
    rw [hlen] at hs
    exact ⟨hs, ⟨hm2.far hgs (fun g e e' => h1.k.n1 (by injection e' with e'; rw [e, e'])), hrow.far hgs (fun g e e' => hn' (by injection e' with e'; rw [e, e'])), hd', h1.k.o.zl, (by show (b.ms ++ [z]).length ≤ 64; omega)⟩, h1.k.n1, hn'⟩
  have hb : ∀ k, k < w.heap.size + 1 + 1 → (W2.setCell ⟨w.heap.size + 1 + 1, 2, none⟩ (.slice A' (b.ms.length + 1) cap')).heap[k]? = (W.alloc (.cells #[.int .i64 z] 3)).heap[k]? := fun k hk => by
    have hs1 := h1.lt
    rw [hgs.block k (by have := hg.size; omega) (by simp; omega), hg.block k (by omega) (fun e => hAo.2 (by
      have := ho k e.symm
      have h3 : w.heap.size + 1 + 1 + 1 ≤ k := by
        rcases h1.k.o.m.form with ⟨e2, _⟩ | ⟨g2, e2, hge, _⟩
        · rw [e2] at this; cases this
        · rw [e2] at this; injection this with this; injection this with this; omega
      omega))]
  exact ⟨h1.g.of (hb _ (by omega)) (Nat.le_trans hg.size hgs.size), h1.o.of (hb _ (by omega)), hk, ⟨hgs.os.trans (hg.os.trans h1.bw.os), hgs.tape.trans (hg.tape.trans h1.bw.tape), hgs.output.trans (hg.output.trans h1.bw.output), Nat.le_trans h1.bw.size (Nat.le_trans hg.size hgs.size), fun k hk => (hb k (by omega)).trans (h1.bw.block k hk)⟩⟩
end
end Go.Proofs.Ytpmhfalhieinjaa
