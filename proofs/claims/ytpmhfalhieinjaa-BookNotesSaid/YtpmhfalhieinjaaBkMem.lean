/- A book in memory: as it is read, as the call's own, in a box. -/
import Derived.Test.YtpmhfalhieinjaaKRow
import Derived.Test.YtpmhfalhieinjaaNumRow
import Derived.Test.YtpmhfalhieinjaaBkM
namespace Go.Proofs.Ytpmhfalhieinjaa
open Go.RowKit Rec Bk

def zoE : Enc Zo := ⟨fun z => [.int .i64 z.p, .int .i64 z.g, .int .i64 z.s], 3, fun _ => rfl, fun _ u hu => by
  simp only [List.mem_cons, List.not_mem_nil, or_false] at hu
  rcases hu with rfl | rfl | rfl <;> rfl⟩
theorem zo_at {W : World} {A : Option Addr} {zs : List Zo} (h : zoE.In W A zs) {i : Nat} (hi : i < zs.length) : ∃ b off, A = some ⟨b, off, none⟩ ∧ b < W.heap.size ∧ W.cell? ⟨b, off + i * 3, none⟩ = some (.int .i64 zs[i].p) ∧ W.cell? ⟨b, off + i * 3 + 1, none⟩ = some (.int .i64 zs[i].g) ∧ W.cell? ⟨b, off + i * 3 + 2, none⟩ = some (.int .i64 zs[i].s) := by
  obtain ⟨b, off, e, hlt, h⟩ := h.at_ hi
  exact ⟨b, off, e, hlt, h 0 (by decide), h 1 (by decide), h 2 (by decide)⟩
theorem zo_own {W : World} {base cap : Nat} {t : TypeId} {A : Option Addr} {zs : List Zo} (h : zoE.Row W base t A cap zs) {i : Nat} (hi : i < zs.length) : ∃ g, A = some ⟨g, 0, none⟩ ∧ base ≤ g ∧ g < W.heap.size ∧ zs.length ≤ cap ∧ W.cell? ⟨g, i * 3, none⟩ = some (.int .i64 zs[i].p) ∧ W.cell? ⟨g, i * 3 + 1, none⟩ = some (.int .i64 zs[i].g) ∧ W.cell? ⟨g, i * 3 + 2, none⟩ = some (.int .i64 zs[i].s) ∧ ∀ j, W.frozen? ⟨g, j, none⟩ = false := by
  obtain ⟨g, e, hb, hlt, hc, h, hf⟩ := h.at_ hi
  exact ⟨g, e, hb, hlt, hc, h 0 (by decide), h 1 (by decide), h 2 (by decide), hf⟩

/-- A row of numbers of the call's own is read as one. -/
theorem NRow.ints {W : World} {base cap : Nat} {A : Option Addr} {zs : List Int} (h : NRow W base A cap zs) : IntsIn W A zs := by
  rcases h.form with h0 | ⟨g, rfl, _, hlt, _⟩
  · exact .inl h0.2.2
  · refine .inr ⟨g, 0, rfl, hlt, fun i hi => ?_⟩
    obtain ⟨g', e, _, hc⟩ := h.at_ hi
    injection e with e
    injection e with e
    subst e
    rw [Nat.zero_add]
    exact hc
theorem NRow.mono {W : World} {base base' cap : Nat} {A : Option Addr} {zs : List Int} (h : NRow W base A cap zs) (hb : base' ≤ base) : NRow W base' A cap zs := by
  refine ⟨h.1, ?_⟩
  rcases h.2 with hn | ⟨g, cap', cur, hv, hg, rest⟩
  · exact .inl hn
  · exact .inr ⟨g, cap', cur, hv, Nat.le_trans hb hg, rest⟩
theorem NRow.far {W W' : World} {base cap : Nat} {A : Option Addr} {zs : List Int} {o : Option Nat} (h : NRow W base A cap zs) (hg : W.grownBy W' o) (hne : ∀ g, A = some ⟨g, 0, none⟩ → o ≠ some g) : NRow W' base A cap zs := by
  refine World.ownsRow.kept h hg ?_
  rcases h.form with ⟨rfl, _⟩ | ⟨g, rfl, _⟩
  · left; rfl
  · right; intro e; exact hne g rfl e.symm
theorem NRow.store {W : World} {base cap g : Nat} {zs : List Int} (h : NRow W base (some ⟨g, 0, none⟩) cap zs) (i : Nat) (x : Int) : NRow (W.setCell ⟨g, i, none⟩ (.int .i64 x)) base (some ⟨g, 0, none⟩) cap (zs.set i x) := by
  unfold NRow
  rw [List.length_set, List.map_set]
  exact (h.stored i (.int .i64 x)).1

/-- What a book leads to, as it is read. -/
structure BkIn (W : World) (A1 : Option Addr) (c1 : Nat) (A2 : Option Addr) (c2 : Nat) (b : Bo) : Prop where
  z : zoE.In W A1 b.zs
  m : IntsIn W A2 b.ms
  n1 : A1 = none → c1 = 0
  n2 : A2 = none → c2 = 0
  zl : b.zs.length ≤ 64
  ml : b.ms.length ≤ 64
/-- The same of the call's own. -/
structure BkO (W : World) (base : Nat) (A1 : Option Addr) (c1 : Nat) (A2 : Option Addr) (c2 : Nat) (b : Bo) : Prop where
  z : zoE.Row W base 60 A1 c1 b.zs
  m : NRow W base A2 c2 b.ms
  d : ∀ g, A1 = some ⟨g, 0, none⟩ → A2 ≠ some ⟨g, 0, none⟩
  zl : b.zs.length ≤ 64
  ml : b.ms.length ≤ 64
section
variable {W W' : World} {base : Nat} {A1 : Option Addr} {c1 : Nat} {A2 : Option Addr} {c2 : Nat} {b : Bo}
theorem BkIn.below (h : BkIn W A1 c1 A2 c2 b) (hb : Below W.heap.size W W') : BkIn W' A1 c1 A2 c2 b := ⟨h.z.below hb, h.m.below hb, h.n1, h.n2, h.zl, h.ml⟩
theorem BkO.in_ (h : BkO W base A1 c1 A2 c2 b) : BkIn W A1 c1 A2 c2 b := by
  refine ⟨h.z.in_, h.m.ints, fun e => ?_, fun e => ?_, h.zl, h.ml⟩
  · rcases h.z.form with h0 | ⟨g, e', _⟩
    · exact h0.2.1
    · rw [e] at e'; cases e'
  · rcases h.m.form with h0 | ⟨g, e', _⟩
    · exact h0.2.1
    · rw [e] at e'; cases e'
theorem BkO.below (h : BkO W base A1 c1 A2 c2 b) (hb : Below W.heap.size W W') : BkO W' base A1 c1 A2 c2 b := ⟨h.z.below hb, h.m.below hb, h.d, h.zl, h.ml⟩
theorem BkO.mono {base' : Nat} (h : BkO W base A1 c1 A2 c2 b) (hb : base' ≤ base) : BkO W base' A1 c1 A2 c2 b := ⟨h.z.mono hb, h.m.mono hb, h.d, h.zl, h.ml⟩
/-- A block of another kind has turned. -/
theorem BkO.far {o : Nat} (h : BkO W base A1 c1 A2 c2 b) (hg : W.grownBy W' (some o)) (h1 : A1 ≠ some ⟨o, 0, none⟩) (h2 : A2 ≠ some ⟨o, 0, none⟩) : BkO W' base A1 c1 A2 c2 b :=
  ⟨h.z.far hg (fun g e e' => h1 (by injection e' with e'; rw [e, e'])), h.m.far hg (fun g e e' => h2 (by injection e' with e'; rw [e, e'])), h.d, h.zl, h.ml⟩
/-- Its Seq, its Slot, its Cursor are in no block of its. -/
theorem BkO.same (h : BkO W base A1 c1 A2 c2 b) {b' : Bo} (hz : b'.zs = b.zs) (hm : b'.ms = b.ms) : BkO W base A1 c1 A2 c2 b' := by
  refine ⟨?_, ?_, h.d, by rw [hz]; exact h.zl, by rw [hm]; exact h.ml⟩
  · rw [hz]; exact h.z
  · rw [hm]; exact h.m
theorem BkIn.same (h : BkIn W A1 c1 A2 c2 b) {b' : Bo} (hz : b'.zs = b.zs) (hm : b'.ms = b.ms) : BkIn W A1 c1 A2 c2 b' := by
  refine ⟨?_, ?_, h.n1, h.n2, by rw [hz]; exact h.zl, by rw [hm]; exact h.ml⟩
  · rw [hz]; exact h.z
  · rw [hm]; exact h.m
end
/-- A book in a box. -/
structure BkAt (W : World) (r : Nat) (A1 : Option Addr) (c1 : Nat) (A2 : Option Addr) (c2 : Nat) (b : Bo) : Prop where
  c0 : W.cell? ⟨r, 0, none⟩ = some (.int .i64 b.q)
  c1 : W.cell? ⟨r, 1, none⟩ = some (.slice A1 b.zs.length c1)
  c2 : W.cell? ⟨r, 2, none⟩ = some (.slice A2 b.ms.length c2)
  c3 : W.cell? ⟨r, 3, none⟩ = some (.int .i64 b.sl)
  c4 : W.cell? ⟨r, 4, none⟩ = some (.int .i64 b.cu)
  fr : ∀ j, W.frozen? ⟨r, j, none⟩ = false
section
variable {W W' : World} {r : Nat} {A1 : Option Addr} {c1 : Nat} {A2 : Option Addr} {c2 : Nat} {b : Bo}
theorem BkAt.lt (h : BkAt W r A1 c1 A2 c2 b) : r < W.heap.size := lt_of_cell h.c0
theorem BkAt.of (h : BkAt W r A1 c1 A2 c2 b) (hs : W'.heap[r]? = W.heap[r]?) : BkAt W' r A1 c1 A2 c2 b :=
  ⟨(World.cell?_of_block (a := ⟨r, 0, none⟩) hs).trans h.c0, (World.cell?_of_block (a := ⟨r, 1, none⟩) hs).trans h.c1, (World.cell?_of_block (a := ⟨r, 2, none⟩) hs).trans h.c2, (World.cell?_of_block (a := ⟨r, 3, none⟩) hs).trans h.c3, (World.cell?_of_block (a := ⟨r, 4, none⟩) hs).trans h.c4, fun j => (World.frozen?_of_block (a := ⟨r, j, none⟩) hs).trans (h.fr j)⟩
theorem BkAt.below (h : BkAt W r A1 c1 A2 c2 b) (hb : Below W.heap.size W W') : BkAt W' r A1 c1 A2 c2 b := h.of (hb.block r h.lt)
theorem BkAt.far {o : Option Nat} (h : BkAt W r A1 c1 A2 c2 b) (hg : W.grownBy W' o) (hne : o ≠ some r) : BkAt W' r A1 c1 A2 c2 b := h.of (hg.block r h.lt (Ne.symm hne))
end
theorem BkAt.new (w : World) (A1 : Option Addr) (c1 : Nat) (A2 : Option Addr) (c2 : Nat) (b : Bo) (t : TypeId) : BkAt (w.alloc (.cells #[.int .i64 b.q, .slice A1 b.zs.length c1, .slice A2 b.ms.length c2, .int .i64 b.sl, .int .i64 b.cu] t)) w.heap.size A1 c1 A2 c2 b :=
  ⟨by go_simp, by go_simp, by go_simp, by go_simp, by go_simp, fun j => (World.frozen?_alloc_mark w _ t 0 0 j).trans (by simp)⟩
theorem grownBy_one (W : World) (r o : Nat) (v : Value) : W.grownBy (W.setCell ⟨r, o, none⟩ v) (some r) :=
  ⟨rfl, rfl, rfl, by simp [World.setCell], fun k _ hk => Below.heap_setCell _ _ _ _ (fun e => hk (by rw [e]))⟩
section
variable {W : World} {r : Nat} {A1 : Option Addr} {c1 : Nat} {A2 : Option Addr} {c2 : Nat} {b : Bo}
theorem cellN (W : World) (r o o' : Nat) (u : Value) (h : o' ≠ o) : (W.setCell ⟨r, o, none⟩ u).cell? ⟨r, o', none⟩ = W.cell? ⟨r, o', none⟩ := World.cell?_setCell_other _ _ _ _ (by intro e; injection e with _ e; omega)
theorem cellS {W : World} {r o : Nat} {v : Value} (h : W.cell? ⟨r, o, none⟩ = some v) (u : Value) : (W.setCell ⟨r, o, none⟩ u).cell? ⟨r, o, none⟩ = some u := World.cell?_setCell_same' _ _ _ (by rw [h]; rfl)
theorem BkAt.set0 (h : BkAt W r A1 c1 A2 c2 b) (x : Int) : BkAt (W.setCell ⟨r, 0, none⟩ (.int .i64 x)) r A1 c1 A2 c2 { b with q := x } :=
  ⟨cellS h.c0 _, (cellN W r 0 1 _ (by omega)).trans h.c1, (cellN W r 0 2 _ (by omega)).trans h.c2, (cellN W r 0 3 _ (by omega)).trans h.c3, (cellN W r 0 4 _ (by omega)).trans h.c4, fun j => by rw [World.frozen?_setCell]; exact h.fr j⟩
theorem BkAt.set1 (h : BkAt W r A1 c1 A2 c2 b) (A : Option Addr) (c : Nat) (zs : List Zo) : BkAt (W.setCell ⟨r, 1, none⟩ (.slice A zs.length c)) r A c A2 c2 { b with zs := zs } :=
  ⟨(cellN W r 1 0 _ (by omega)).trans h.c0, cellS h.c1 _, (cellN W r 1 2 _ (by omega)).trans h.c2, (cellN W r 1 3 _ (by omega)).trans h.c3, (cellN W r 1 4 _ (by omega)).trans h.c4, fun j => by rw [World.frozen?_setCell]; exact h.fr j⟩
theorem BkAt.set2 (h : BkAt W r A1 c1 A2 c2 b) (A : Option Addr) (c : Nat) (ms : List Int) : BkAt (W.setCell ⟨r, 2, none⟩ (.slice A ms.length c)) r A1 c1 A c { b with ms := ms } :=
  ⟨(cellN W r 2 0 _ (by omega)).trans h.c0, (cellN W r 2 1 _ (by omega)).trans h.c1, cellS h.c2 _, (cellN W r 2 3 _ (by omega)).trans h.c3, (cellN W r 2 4 _ (by omega)).trans h.c4, fun j => by rw [World.frozen?_setCell]; exact h.fr j⟩
theorem BkAt.set3 (h : BkAt W r A1 c1 A2 c2 b) (x : Int) : BkAt (W.setCell ⟨r, 3, none⟩ (.int .i64 x)) r A1 c1 A2 c2 { b with sl := x } :=
  ⟨(cellN W r 3 0 _ (by omega)).trans h.c0, (cellN W r 3 1 _ (by omega)).trans h.c1, (cellN W r 3 2 _ (by omega)).trans h.c2, cellS h.c3 _, (cellN W r 3 4 _ (by omega)).trans h.c4, fun j => by rw [World.frozen?_setCell]; exact h.fr j⟩
theorem BkAt.set4 (h : BkAt W r A1 c1 A2 c2 b) (x : Int) : BkAt (W.setCell ⟨r, 4, none⟩ (.int .i64 x)) r A1 c1 A2 c2 { b with cu := x } :=
  ⟨(cellN W r 4 0 _ (by omega)).trans h.c0, (cellN W r 4 1 _ (by omega)).trans h.c1, (cellN W r 4 2 _ (by omega)).trans h.c2, (cellN W r 4 3 _ (by omega)).trans h.c3, cellS h.c4 _, fun j => by rw [World.frozen?_setCell]; exact h.fr j⟩
end
/-- A book stored over a box. -/
theorem BkAt.put {W : World} {r : Nat} {A1 A2 : Option Addr} {c1 c2 : Nat} {b0 : Bo} (h : BkAt W r A1 c1 A2 c2 b0) (b : Bo) {A1' A2' : Option Addr} {c1' c2' : Nat} :
    BkAt (((((W.setCell ⟨r, 0, none⟩ (.int .i64 b.q)).setCell ⟨r, 1, none⟩ (.slice A1' b.zs.length c1')).setCell ⟨r, 2, none⟩ (.slice A2' b.ms.length c2')).setCell ⟨r, 3, none⟩ (.int .i64 b.sl)).setCell ⟨r, 4, none⟩ (.int .i64 b.cu)) r A1' c1' A2' c2' b :=
  ((((h.set0 b.q).set1 A1' c1' b.zs).set2 A2' c2' b.ms).set3 b.sl).set4 b.cu
theorem grownBy_put (W : World) (r : Nat) (v0 v1 v2 v3 v4 : Value) : W.grownBy (((((W.setCell ⟨r, 0, none⟩ v0).setCell ⟨r, 1, none⟩ v1).setCell ⟨r, 2, none⟩ v2).setCell ⟨r, 3, none⟩ v3).setCell ⟨r, 4, none⟩ v4) (some r) :=
  ((((grownBy_one W r 0 v0).trans (grownBy_one _ r 1 v1)).trans (grownBy_one _ r 2 v2)).trans (grownBy_one _ r 3 v3)).trans (grownBy_one _ r 4 v4)
theorem BkO.off {W : World} {B : Nat} {A1 A2 : Option Addr} {c1 c2 : Nat} {b : Bo} (hO : BkO W B A1 c1 A2 c2 b) {r : Nat} (hr : r < B) : A1 ≠ some ⟨r, 0, none⟩ ∧ A2 ≠ some ⟨r, 0, none⟩ := by
  refine ⟨fun e => ?_, fun e => ?_⟩
  · rcases hO.z.form with ⟨e', _⟩ | ⟨g, e', hge, _⟩
    · rw [e'] at e; cases e
    · rw [e'] at e; injection e with e; injection e with e; omega
  · rcases hO.m.form with ⟨e', _⟩ | ⟨g, e', hge, _⟩
    · rw [e'] at e; cases e
    · rw [e'] at e; injection e with e; injection e with e; omega
/-- A book handed back in a box of the call's own. -/
theorem book_out {w W : World} {r B : Nat} {A1 A2 X1 X2 : Option Addr} {c1 c2 x1 x2 : Nat} {b b0 : Bo} (hX : BkAt W r X1 x1 X2 x2 b0) (hO : BkO W B A1 c1 A2 c2 b) (hr : r < B) (hw : w.heap.size ≤ r) (hb : Below w.heap.size w W) :
    BkAt (((((W.setCell ⟨r, 0, none⟩ (.int .i64 b.q)).setCell ⟨r, 1, none⟩ (.slice A1 b.zs.length c1)).setCell ⟨r, 2, none⟩ (.slice A2 b.ms.length c2)).setCell ⟨r, 3, none⟩ (.int .i64 b.sl)).setCell ⟨r, 4, none⟩ (.int .i64 b.cu)) r A1 c1 A2 c2 b ∧
    BkO (((((W.setCell ⟨r, 0, none⟩ (.int .i64 b.q)).setCell ⟨r, 1, none⟩ (.slice A1 b.zs.length c1)).setCell ⟨r, 2, none⟩ (.slice A2 b.ms.length c2)).setCell ⟨r, 3, none⟩ (.int .i64 b.sl)).setCell ⟨r, 4, none⟩ (.int .i64 b.cu)) w.heap.size A1 c1 A2 c2 b ∧
    Below w.heap.size w (((((W.setCell ⟨r, 0, none⟩ (.int .i64 b.q)).setCell ⟨r, 1, none⟩ (.slice A1 b.zs.length c1)).setCell ⟨r, 2, none⟩ (.slice A2 b.ms.length c2)).setCell ⟨r, 3, none⟩ (.int .i64 b.sl)).setCell ⟨r, 4, none⟩ (.int .i64 b.cu)) := by
  obtain ⟨n1, n2⟩ := hO.off hr
  exact ⟨hX.put b, (hO.far (grownBy_put W r _ _ _ _ _) n1 n2).mono (by omega), ((((hb.setCell hw _).setCell hw _).setCell hw _).setCell hw _).setCell hw _⟩
theorem infZo : Enc.Inf Try.prog 60 3 24 := by unfold Enc.Inf; kernel_rfl
end Go.Proofs.Ytpmhfalhieinjaa
