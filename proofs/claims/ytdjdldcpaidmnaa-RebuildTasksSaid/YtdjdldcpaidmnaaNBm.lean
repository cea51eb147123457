/- The book in memory. -/
import Derived.Test.YtdjdldcpaidmnaaMBase
import Derived.Maps.AppendAt
import Derived.Deep.AppendLies
import Derived.Laws.OwnMore
import Derived.OwnWalk
import Derived.Test.YtdjdldcpaidmnaaMKRow
import Derived.Test.YtdjdldcpaidmnaaNBk
import Derived.Lib.Hide
import Derived.Deep.QuietTactic
import Derived.BigQuiet
import Derived.RegionTactic
import Derived.BigRegion
namespace Go.Proofs.Ytdjdldcpaidmnaa
open Go.RowKit
/-- A slice of the call's own that reads as a list of numbers. -/
def NRow (W : World) (base : Nat) (A : Option Addr) (cap : Nat) (zs : List Int) : Prop := W.ownsRow base 3 1 (.slice A zs.length cap) zs.length (zs.map (Value.int .i64))
section
variable {W W' : World} {base cap : Nat} {A : Option Addr} {zs : List Int}
theorem NRow.form (h : NRow W base A cap zs) : (A = none ∧ cap = 0 ∧ zs = []) ∨ ∃ g, A = some ⟨g, 0, none⟩ ∧ base ≤ g ∧ g < W.heap.size ∧ zs.length ≤ cap := by
  rcases h.2 with ⟨hv, h0⟩ | ⟨g, cap', cur, hv, hb, hg, hc, _⟩
  · simp only [Value.slice.injEq] at hv
    exact .inl ⟨hv.1, hv.2.2, List.eq_nil_of_length_eq_zero h0⟩
  · simp only [Value.slice.injEq] at hv
    exact .inr ⟨g, hv.1, hb, (Array.getElem?_eq_some_iff.1 hg).1, by omega⟩
theorem NRow.at_ (h : NRow W base A cap zs) {i : Nat} (hi : i < zs.length) : ∃ g, A = some ⟨g, 0, none⟩ ∧ g < W.heap.size ∧ W.cell? ⟨g, i, none⟩ = some (.int .i64 zs[i]) := by
  rcases h.form with h0 | ⟨g, rfl, _, hlt, _⟩
  · rw [h0.2.2] at hi; simp at hi
  · refine ⟨g, rfl, hlt, ?_⟩
    rw [h.cellAt i (by omega), List.getElem?_map, List.getElem?_eq_getElem hi]
    rfl
theorem NRow.nil (W : World) (base : Nat) : NRow W base none 0 [] := World.ownsRow_nil _ _ _ _
theorem NRow.alloc (h : NRow W base A cap zs) (o : Obj) : NRow (W.alloc o) base A cap zs := World.ownsRow.alloc h o
theorem NRow.below (h : NRow W base A cap zs) (hb : Below W.heap.size W W') : NRow W' base A cap zs := by
  refine ⟨h.1, ?_⟩
  rcases h.2 with hn | ⟨g, cap', cur, hv, hg, hgg, rest⟩
  · exact .inl hn
  · exact .inr ⟨g, cap', cur, hv, hg, by rw [hb.block g (Array.getElem?_eq_some_iff.1 hgg).1]; exact hgg, rest⟩
theorem NRow.kept {v : Value} (h : NRow W base A cap zs) (hg : W.grownBy W' v.ownBlock) (hne : A = none ∨ (Value.slice A zs.length cap).ownBlock ≠ v.ownBlock) : NRow W' base A cap zs := by
  refine World.ownsRow.kept h hg ?_
  rcases hne with rfl | hne
  · left; rfl
  · right; exact hne
theorem NRow.grown (h : NRow W base A cap zs) (hg : W.grownBy W' (Value.slice A zs.length cap).ownBlock) (hb : base ≤ W.heap.size) : Below base W W' :=
  (Below.refl _ _).grown hg hb fun _ e => (World.ownsRow.lt h _ e).1
end
theorem infoInt8 : (Try.prog.info? 3).map (fun i => (i.zero.map (·.cells.size), i.size, i.bytes)) = some (some 1, 1, 8) := by kernel_rfl
theorem NRow.append {W : World} {base cap : Nat} {A : Option Addr} {zs : List Int} {m : Nat} {z : Int} (hr : NRow W base A cap zs) (hm : W.cell? ⟨m, 0, none⟩ = some (.int .i64 z)) (hl : zs.length ≤ 1000000) (hb : base ≤ W.heap.size) :
    ∃ A' cap' W', (Builtin.append_ #[26, 26] 26 #[.slice A zs.length cap, .slice (some ⟨m, 0, none⟩) 1 1]).run Try.prog W = .ok (.slice A' (zs.length + 1) cap') W' ∧ NRow W' base A' cap' (zs ++ [z]) ∧
      W.grownBy W' (Value.slice A zs.length cap).ownBlock ∧ (A' = A ∨ A' = some ⟨W.heap.size, 0, none⟩) := by
  have hinfo := infoInt8
  rw [Option.map_eq_some_iff] at hinfo
  obtain ⟨i, hi, he⟩ := hinfo
  simp only [Prod.mk.injEq, Option.map_eq_some_iff] at he
  obtain ⟨⟨z0, hz, hzs⟩, hs, hby⟩ := he
  obtain ⟨v', w', h1, h2, h3, h4, h5⟩ := run_append_own_at (P := Try.prog) W base 26 26 3 i z0 1 8 Try.underlying26 hi hz hs hby hzs (by decide) _ _ _ hr ⟨m, 0, none⟩ 1 1 [.int .i64 z] rfl (by
      intro j u hu
      have hj : j < 1 := (List.getElem?_eq_some_iff.1 hu).1
      obtain rfl : j = 0 := by omega
      rw [Go.WideShapes.add_plain, Nat.zero_add]
      exact hm.trans hu)
    (by
      intro u hu
      rw [List.mem_singleton.1 hu]
      rfl) (by unfold maxLen; omega) (by omega) hb
  have hf : (zs ++ [z]).map (Value.int .i64) = zs.map (Value.int .i64) ++ [.int .i64 z] := by simp
  rw [← hf] at h2
  have hlen : (zs ++ [z]).length = zs.length + 1 := by simp
  rcases h2.2 with ⟨hv, h0⟩ | ⟨g, cap', cur, hv, hrest⟩
  · omega
  · subst hv
    refine ⟨some ⟨g, 0, none⟩, cap', w', h1, by unfold NRow; rw [hlen]; exact h2, h3, ?_⟩
    rcases h5 with h5 | h5
    · left
      rcases hr.form with ⟨rfl, _⟩ | ⟨g0, rfl, _⟩
      · simp [Value.ownBlock] at h5
      · simp only [Value.ownBlock, Option.some.injEq] at h5
        rw [h5]
    · right
      simp only [Value.ownBlock, Option.some.injEq] at h5
      rw [h5]
/-- Two blocks of one's own. -/
theorem own_ne {A B : Option Addr} {n c n' c' : Nat} (h : A = none ∨ B = none ∨ A ≠ B) (hA : A = none ∨ ∃ g, A = some ⟨g, 0, none⟩) (hB : B = none ∨ ∃ g, B = some ⟨g, 0, none⟩) : A = none ∨ (Value.slice A n c).ownBlock ≠ (Value.slice B n' c').ownBlock := by
  rcases hA with rfl | ⟨g, rfl⟩
  · left; rfl
  right
  rcases hB with rfl | ⟨g', rfl⟩
  · simp [Value.ownBlock]
  · rcases h with h | h | h
    · cases h
    · cases h
    · simp only [Value.ownBlock]
      intro e
      exact h (by rw [Option.some.inj e])
end Go.Proofs.Ytdjdldcpaidmnaa
namespace Go.Proofs.Ytdjdldcpaidmnaa
open Go.RowKit Rec Bk
def zoE : Enc Zo := ⟨fun z => [.int .i64 z.p, .int .i64 z.g, .int .i64 z.s], 3, fun _ => rfl, fun _ u hu => by
  simp only [List.mem_cons, List.not_mem_nil, or_false] at hu
  rcases hu with rfl | rfl | rfl <;> rfl⟩
theorem zo_at {W : World} {A : Option Addr} {zs : List Zo} (h : zoE.In W A zs) {i : Nat} (hi : i < zs.length) : ∃ b off, A = some ⟨b, off, none⟩ ∧ b < W.heap.size ∧ W.cell? ⟨b, off + i * 3, none⟩ = some (.int .i64 zs[i].p) ∧ W.cell? ⟨b, off + i * 3 + 1, none⟩ = some (.int .i64 zs[i].g) ∧ W.cell? ⟨b, off + i * 3 + 2, none⟩ = some (.int .i64 zs[i].s) := by
  obtain ⟨b, off, e, hlt, h⟩ := h.at_ hi
  exact ⟨b, off, e, hlt, h 0 (by decide), h 1 (by decide), h 2 (by decide)⟩
theorem zo_own {W : World} {base cap : Nat} {t : TypeId} {A : Option Addr} {zs : List Zo} (h : zoE.Row W base t A cap zs) {i : Nat} (hi : i < zs.length) : ∃ g, A = some ⟨g, 0, none⟩ ∧ base ≤ g ∧ g < W.heap.size ∧ zs.length ≤ cap ∧ W.cell? ⟨g, i * 3, none⟩ = some (.int .i64 zs[i].p) ∧ W.cell? ⟨g, i * 3 + 1, none⟩ = some (.int .i64 zs[i].g) ∧ W.cell? ⟨g, i * 3 + 2, none⟩ = some (.int .i64 zs[i].s) ∧ ∀ j, W.frozen? ⟨g, j, none⟩ = false := by
  obtain ⟨g, e, hb, hlt, hc, h, hf⟩ := h.at_ hi
  exact ⟨g, e, hb, hlt, hc, h 0 (by decide), h 1 (by decide), h 2 (by decide), hf⟩
/-- A row of numbers of the call's own is read as one. -/
theorem NRow.ints {W : World} {base cap : Nat} {A : Option Addr} {zs : List Int} (h : NRow W base A cap zs) : IntsIn W A zs := by
  rcases h.form with h0 | ⟨g, rfl, _, hlt, _⟩
  · exact .inl h0.2.2
  · refine .inr ⟨g, 0, rfl, hlt, fun i hi => ?_⟩
    obtain ⟨g', e, _, hc⟩ := h.at_ hi
    injection e with e
    injection e with e
    subst e
    rw [Nat.zero_add]
    exact hc
theorem NRow.mono {W : World} {base base' cap : Nat} {A : Option Addr} {zs : List Int} (h : NRow W base A cap zs) (hb : base' ≤ base) : NRow W base' A cap zs := by
  refine ⟨h.1, ?_⟩
  rcases h.2 with hn | ⟨g, cap', cur, hv, hg, rest⟩
  · exact .inl hn
  · exact .inr ⟨g, cap', cur, hv, Nat.le_trans hb hg, rest⟩
theorem NRow.far {W W' : World} {base cap : Nat} {A : Option Addr} {zs : List Int} {o : Option Nat} (h : NRow W base A cap zs) (hg : W.grownBy W' o) (hne : ∀ g, A = some ⟨g, 0, none⟩ → o ≠ some g) : NRow W' base A cap zs := by
  refine World.ownsRow.kept h hg ?_
  rcases h.form with ⟨rfl, _⟩ | ⟨g, rfl, _⟩
  · left; rfl
  · right; intro e; exact hne g rfl e.symm
theorem NRow.store {W : World} {base cap g : Nat} {zs : List Int} (h : NRow W base (some ⟨g, 0, none⟩) cap zs) (i : Nat) (x : Int) : NRow (W.setCell ⟨g, i, none⟩ (.int .i64 x)) base (some ⟨g, 0, none⟩) cap (zs.set i x) := by
  unfold NRow
  rw [List.length_set, List.map_set]
  exact (h.stored i (.int .i64 x)).1
/-- What a book leads to, as it is read. -/
structure BkIn (W : World) (A1 : Option Addr) (c1 : Nat) (A2 : Option Addr) (c2 : Nat) (b : Bo) : Prop where
  z : zoE.In W A1 b.zs
  m : IntsIn W A2 b.ms
  n1 : A1 = none → c1 = 0
  n2 : A2 = none → c2 = 0
  zl : b.zs.length ≤ 64
  ml : b.ms.length ≤ 64
/-- The same of the call's own. -/
structure BkO (W : World) (base : Nat) (A1 : Option Addr) (c1 : Nat) (A2 : Option Addr) (c2 : Nat) (b : Bo) : Prop where
  z : zoE.Row W base 69 A1 c1 b.zs
  m : NRow W base A2 c2 b.ms
  d : ∀ g, A1 = some ⟨g, 0, none⟩ → A2 ≠ some ⟨g, 0, none⟩
  zl : b.zs.length ≤ 64
  ml : b.ms.length ≤ 64
section
variable {W W' : World} {base : Nat} {A1 : Option Addr} {c1 : Nat} {A2 : Option Addr} {c2 : Nat} {b : Bo}
theorem BkIn.below (h : BkIn W A1 c1 A2 c2 b) (hb : Below W.heap.size W W') : BkIn W' A1 c1 A2 c2 b := ⟨h.z.below hb, h.m.below hb, h.n1, h.n2, h.zl, h.ml⟩
theorem BkO.in_ (h : BkO W base A1 c1 A2 c2 b) : BkIn W A1 c1 A2 c2 b := by
  refine ⟨h.z.in_, h.m.ints, fun e => ?_, fun e => ?_, h.zl, h.ml⟩
  · rcases h.z.form with h0 | ⟨g, e', _⟩
    · exact h0.2.1
    · rw [e] at e'; cases e'
  · rcases h.m.form with h0 | ⟨g, e', _⟩
    · exact h0.2.1
    · rw [e] at e'; cases e'
theorem BkO.below (h : BkO W base A1 c1 A2 c2 b) (hb : Below W.heap.size W W') : BkO W' base A1 c1 A2 c2 b := ⟨h.z.below hb, h.m.below hb, h.d, h.zl, h.ml⟩
theorem BkO.mono {base' : Nat} (h : BkO W base A1 c1 A2 c2 b) (hb : base' ≤ base) : BkO W base' A1 c1 A2 c2 b := ⟨h.z.mono hb, h.m.mono hb, h.d, h.zl, h.ml⟩
/-- A block of another kind has turned. -/
theorem BkO.far {o : Nat} (h : BkO W base A1 c1 A2 c2 b) (hg : W.grownBy W' (some o)) (h1 : A1 ≠ some ⟨o, 0, none⟩) (h2 : A2 ≠ some ⟨o, 0, none⟩) : BkO W' base A1 c1 A2 c2 b :=
  ⟨h.z.far hg (fun g e e' => h1 (by injection e' with e'; rw [e, e'])), h.m.far hg (fun g e e' => h2 (by injection e' with e'; rw [e, e'])), h.d, h.zl, h.ml⟩
/-- Its Seq, its Slot, its Cursor are in no block of its. -/
theorem BkO.same (h : BkO W base A1 c1 A2 c2 b) {b' : Bo} (hz : b'.zs = b.zs) (hm : b'.ms = b.ms) : BkO W base A1 c1 A2 c2 b' := by
  refine ⟨?_, ?_, h.d, by rw [hz]; exact h.zl, by rw [hm]; exact h.ml⟩
  · rw [hz]; exact h.z
  · rw [hm]; exact h.m
theorem BkIn.same (h : BkIn W A1 c1 A2 c2 b) {b' : Bo} (hz : b'.zs = b.zs) (hm : b'.ms = b.ms) : BkIn W A1 c1 A2 c2 b' := by
  refine ⟨?_, ?_, h.n1, h.n2, by rw [hz]; exact h.zl, by rw [hm]; exact h.ml⟩
  · rw [hz]; exact h.z
  · rw [hm]; exact h.m
end
/-- A book in a box. -/
structure BkAt (W : World) (r : Nat) (A1 : Option Addr) (c1 : Nat) (A2 : Option Addr) (c2 : Nat) (b : Bo) : Prop where
  c0 : W.cell? ⟨r, 0, none⟩ = some (.int .i64 b.q)
  c1 : W.cell? ⟨r, 1, none⟩ = some (.slice A1 b.zs.length c1)
  c2 : W.cell? ⟨r, 2, none⟩ = some (.slice A2 b.ms.length c2)
  c3 : W.cell? ⟨r, 3, none⟩ = some (.int .i64 b.sl)
  c4 : W.cell? ⟨r, 4, none⟩ = some (.int .i64 b.cu)
  fr : ∀ j, W.frozen? ⟨r, j, none⟩ = false
section
variable {W W' : World} {r : Nat} {A1 : Option Addr} {c1 : Nat} {A2 : Option Addr} {c2 : Nat} {b : Bo}
theorem BkAt.lt (h : BkAt W r A1 c1 A2 c2 b) : r < W.heap.size := lt_of_cell h.c0
theorem BkAt.of (h : BkAt W r A1 c1 A2 c2 b) (hs : W'.heap[r]? = W.heap[r]?) : BkAt W' r A1 c1 A2 c2 b :=
  ⟨(World.cell?_of_block (a := ⟨r, 0, none⟩) hs).trans h.c0, (World.cell?_of_block (a := ⟨r, 1, none⟩) hs).trans h.c1, (World.cell?_of_block (a := ⟨r, 2, none⟩) hs).trans h.c2, (World.cell?_of_block (a := ⟨r, 3, none⟩) hs).trans h.c3, (World.cell?_of_block (a := ⟨r, 4, none⟩) hs).trans h.c4, fun j => (World.frozen?_of_block (a := ⟨r, j, none⟩) hs).trans (h.fr j)⟩
theorem BkAt.below (h : BkAt W r A1 c1 A2 c2 b) (hb : Below W.heap.size W W') : BkAt W' r A1 c1 A2 c2 b := h.of (hb.block r h.lt)
theorem BkAt.far {o : Option Nat} (h : BkAt W r A1 c1 A2 c2 b) (hg : W.grownBy W' o) (hne : o ≠ some r) : BkAt W' r A1 c1 A2 c2 b := h.of (hg.block r h.lt (Ne.symm hne))
end
theorem BkAt.new (w : World) (A1 : Option Addr) (c1 : Nat) (A2 : Option Addr) (c2 : Nat) (b : Bo) (t : TypeId) : BkAt (w.alloc (.cells #[.int .i64 b.q, .slice A1 b.zs.length c1, .slice A2 b.ms.length c2, .int .i64 b.sl, .int .i64 b.cu] t)) w.heap.size A1 c1 A2 c2 b :=
  ⟨by go_simp, by go_simp, by go_simp, by go_simp, by go_simp, fun j => (World.frozen?_alloc_mark w _ t 0 0 j).trans (by simp)⟩
theorem grownBy_one (W : World) (r o : Nat) (v : Value) : W.grownBy (W.setCell ⟨r, o, none⟩ v) (some r) :=
  ⟨rfl, rfl, rfl, by simp [World.setCell], fun k _ hk => Below.heap_setCell _ _ _ _ (fun e => hk (by rw [e]))⟩
section
variable {W : World} {r : Nat} {A1 : Option Addr} {c1 : Nat} {A2 : Option Addr} {c2 : Nat} {b : Bo}
theorem cellN (W : World) (r o o' : Nat) (u : Value) (h : o' ≠ o) : (W.setCell ⟨r, o, none⟩ u).cell? ⟨r, o', none⟩ = W.cell? ⟨r, o', none⟩ := World.cell?_setCell_other _ _ _ _ (by intro e; injection e with _ e; omega)
theorem cellS {W : World} {r o : Nat} {v : Value} (h : W.cell? ⟨r, o, none⟩ = some v) (u : Value) : (W.setCell ⟨r, o, none⟩ u).cell? ⟨r, o, none⟩ = some u := World.cell?_setCell_same' _ _ _ (by rw [h]; rfl)
theorem BkAt.set0 (h : BkAt W r A1 c1 A2 c2 b) (x : Int) : BkAt (W.setCell ⟨r, 0, none⟩ (.int .i64 x)) r A1 c1 A2 c2 { b with q := x } :=
  ⟨cellS h.c0 _, (cellN W r 0 1 _ (by omega)).trans h.c1, (cellN W r 0 2 _ (by omega)).trans h.c2, (cellN W r 0 3 _ (by omega)).trans h.c3, (cellN W r 0 4 _ (by omega)).trans h.c4, fun j => by rw [World.frozen?_setCell]; exact h.fr j⟩
theorem BkAt.set1 (h : BkAt W r A1 c1 A2 c2 b) (A : Option Addr) (c : Nat) (zs : List Zo) : BkAt (W.setCell ⟨r, 1, none⟩ (.slice A zs.length c)) r A c A2 c2 { b with zs := zs } :=
  ⟨(cellN W r 1 0 _ (by omega)).trans h.c0, cellS h.c1 _, (cellN W r 1 2 _ (by omega)).trans h.c2, (cellN W r 1 3 _ (by omega)).trans h.c3, (cellN W r 1 4 _ (by omega)).trans h.c4, fun j => by rw [World.frozen?_setCell]; exact h.fr j⟩
theorem BkAt.set2 (h : BkAt W r A1 c1 A2 c2 b) (A : Option Addr) (c : Nat) (ms : List Int) : BkAt (W.setCell ⟨r, 2, none⟩ (.slice A ms.length c)) r A1 c1 A c { b with ms := ms } :=
  ⟨(cellN W r 2 0 _ (by omega)).trans h.c0, (cellN W r 2 1 _ (by omega)).trans h.c1, cellS h.c2 _, (cellN W r 2 3 _ (by omega)).trans h.c3, (cellN W r 2 4 _ (by omega)).trans h.c4, fun j => by rw [World.frozen?_setCell]; exact h.fr j⟩
theorem BkAt.set3 (h : BkAt W r A1 c1 A2 c2 b) (x : Int) : BkAt (W.setCell ⟨r, 3, none⟩ (.int .i64 x)) r A1 c1 A2 c2 { b with sl := x } :=
  ⟨(cellN W r 3 0 _ (by omega)).trans h.c0, (cellN W r 3 1 _ (by omega)).trans h.c1, (cellN W r 3 2 _ (by omega)).trans h.c2, cellS h.c3 _, (cellN W r 3 4 _ (by omega)).trans h.c4, fun j => by rw [World.frozen?_setCell]; exact h.fr j⟩
theorem BkAt.set4 (h : BkAt W r A1 c1 A2 c2 b) (x : Int) : BkAt (W.setCell ⟨r, 4, none⟩ (.int .i64 x)) r A1 c1 A2 c2 { b with cu := x } :=
  ⟨(cellN W r 4 0 _ (by omega)).trans h.c0, (cellN W r 4 1 _ (by omega)).trans h.c1, (cellN W r 4 2 _ (by omega)).trans h.c2, (cellN W r 4 3 _ (by omega)).trans h.c3, cellS h.c4 _, fun j => by rw [World.frozen?_setCell]; exact h.fr j⟩
end
/-- A book stored over a box. -/
theorem BkAt.put {W : World} {r : Nat} {A1 A2 : Option Addr} {c1 c2 : Nat} {b0 : Bo} (h : BkAt W r A1 c1 A2 c2 b0) (b : Bo) {A1' A2' : Option Addr} {c1' c2' : Nat} :
    BkAt (((((W.setCell ⟨r, 0, none⟩ (.int .i64 b.q)).setCell ⟨r, 1, none⟩ (.slice A1' b.zs.length c1')).setCell ⟨r, 2, none⟩ (.slice A2' b.ms.length c2')).setCell ⟨r, 3, none⟩ (.int .i64 b.sl)).setCell ⟨r, 4, none⟩ (.int .i64 b.cu)) r A1' c1' A2' c2' b :=
  ((((h.set0 b.q).set1 A1' c1' b.zs).set2 A2' c2' b.ms).set3 b.sl).set4 b.cu
theorem grownBy_put (W : World) (r : Nat) (v0 v1 v2 v3 v4 : Value) : W.grownBy (((((W.setCell ⟨r, 0, none⟩ v0).setCell ⟨r, 1, none⟩ v1).setCell ⟨r, 2, none⟩ v2).setCell ⟨r, 3, none⟩ v3).setCell ⟨r, 4, none⟩ v4) (some r) :=
  ((((grownBy_one W r 0 v0).trans (grownBy_one _ r 1 v1)).trans (grownBy_one _ r 2 v2)).trans (grownBy_one _ r 3 v3)).trans (grownBy_one _ r 4 v4)
theorem BkO.off {W : World} {B : Nat} {A1 A2 : Option Addr} {c1 c2 : Nat} {b : Bo} (hO : BkO W B A1 c1 A2 c2 b) {r : Nat} (hr : r < B) : A1 ≠ some ⟨r, 0, none⟩ ∧ A2 ≠ some ⟨r, 0, none⟩ := by
  refine ⟨fun e => ?_, fun e => ?_⟩
  · rcases hO.z.form with ⟨e', _⟩ | ⟨g, e', hge, _⟩
    · rw [e'] at e; cases e
    · rw [e'] at e; injection e with e; injection e with e; omega
  · rcases hO.m.form with ⟨e', _⟩ | ⟨g, e', hge, _⟩
    · rw [e'] at e; cases e
    · rw [e'] at e; injection e with e; injection e with e; omega
/-- A book handed back in a box of the call's own. -/
theorem book_out {w W : World} {r B : Nat} {A1 A2 X1 X2 : Option Addr} {c1 c2 x1 x2 : Nat} {b b0 : Bo} (hX : BkAt W r X1 x1 X2 x2 b0) (hO : BkO W B A1 c1 A2 c2 b) (hr : r < B) (hw : w.heap.size ≤ r) (hb : Below w.heap.size w W) :
    BkAt (((((W.setCell ⟨r, 0, none⟩ (.int .i64 b.q)).setCell ⟨r, 1, none⟩ (.slice A1 b.zs.length c1)).setCell ⟨r, 2, none⟩ (.slice A2 b.ms.length c2)).setCell ⟨r, 3, none⟩ (.int .i64 b.sl)).setCell ⟨r, 4, none⟩ (.int .i64 b.cu)) r A1 c1 A2 c2 b ∧
    BkO (((((W.setCell ⟨r, 0, none⟩ (.int .i64 b.q)).setCell ⟨r, 1, none⟩ (.slice A1 b.zs.length c1)).setCell ⟨r, 2, none⟩ (.slice A2 b.ms.length c2)).setCell ⟨r, 3, none⟩ (.int .i64 b.sl)).setCell ⟨r, 4, none⟩ (.int .i64 b.cu)) w.heap.size A1 c1 A2 c2 b ∧
    Below w.heap.size w (((((W.setCell ⟨r, 0, none⟩ (.int .i64 b.q)).setCell ⟨r, 1, none⟩ (.slice A1 b.zs.length c1)).setCell ⟨r, 2, none⟩ (.slice A2 b.ms.length c2)).setCell ⟨r, 3, none⟩ (.int .i64 b.sl)).setCell ⟨r, 4, none⟩ (.int .i64 b.cu)) := by
  obtain ⟨n1, n2⟩ := hO.off hr
  exact ⟨hX.put b, (hO.far (grownBy_put W r _ _ _ _ _) n1 n2).mono (by omega), ((((hb.setCell hw _).setCell hw _).setCell hw _).setCell hw _).setCell hw _⟩
theorem infZo : Enc.Inf Try.prog 69 3 24 := by unfold Enc.Inf; kernel_rfl
end Go.Proofs.Ytdjdldcpaidmnaa
namespace Go.Proofs.Ytdjdldcpaidmnaa
open Go.RowKit Rec Bk
def ZPost (w : World) (zs : List Zo) (e : Ending) (w' : World) : Prop := ∃ A cap, e = .returned (.slice A zs.length cap) ∧ zoE.Row w' w.heap.size 69 A cap zs ∧ Below w.heap.size w w'
def NPost (w : World) (zs : List Int) (e : Ending) (w' : World) : Prop := ∃ A cap, e = .returned (.slice A zs.length cap) ∧ NRow w' w.heap.size A cap zs ∧ Below w.heap.size w w'
set_option maxRecDepth 100000 in
theorem zclone_any (w : World) (A : Option Addr) (cap : Nat) (zs : List Zo) (hI : zoE.In w A zs) (hN : A = none → cap = 0) (hl : zs.length ≤ 1000) :
    Calls Try.prog 70 #[.slice A zs.length cap] w (ZPost w zs) := by
  have hn := fun W => Lib.run_eql_slice_nil (P := Try.prog) W 56 69 A zs.length cap 0 0 Try.underlying56
  cases A with
  | none =>
    have hzs : zs = [] := by
      rcases hI with h | ⟨b, off, h, _⟩
      · exact h
      · cases h
    subst hzs
    obtain rfl := hN rfl
    have hn0 : ∀ W : World, (binOp .eql 56 (.slice none 0 0) (.slice none 0 0)).run Try.prog W = .ok (.bool true) W := fun W => Lib.run_eql_slice_nil (P := Try.prog) W 56 69 none 0 0 0 0 Try.underlying56
    clear hI hN hn
    go_enter Try.func70, Try.ntmps70
    go_wp2
    go_ret
    exact ⟨none, 0, rfl, Enc.Row.nil _ _ _, Below.refl _ _⟩
  | some ad =>
    have hnew : zoE.Row (w.alloc (.cells #[] 69)) w.heap.size 69 (some ⟨w.heap.size, 0, none⟩) 0 [] := World.ownsRow_made w #[] 0 (Nat.le_refl _) (by unfold maxLen; omega) rfl
    have hb : Below w.heap.size w (w.alloc (.cells #[] 69)) := (Below.refl _ _).alloc (Nat.le_refl _) _
    obtain ⟨A', cap', W', hrun, hrow, hgr, _⟩ := hnew.concat (P := Try.prog) (c2 := cap) Try.underlying56 infZo (by decide) (by decide) (hI.below hb) (by simp) (by omega) (by simp) 56
    have hb' : Below w.heap.size w W' := hb.grown hgr (by simp) (fun q hq => (World.ownsRow.lt hnew q hq).1)
    rw [List.nil_append] at hrow
    simp only [List.length_nil, Nat.zero_add] at hrun
    have hrunH := Lib.hid hrun
    have hrowH := Lib.hid hrow
    clear hrun hrow hI hN hnew hb hgr
    go_enter Try.func70, Try.ntmps70
    go_wp2_with (at_builtin; refine append_run_wp rfl _ _ _ rfl rfl rfl hrunH.out ?_)
    go_ret
    exact ⟨A', cap', rfl, hrowH.out, hb'⟩
theorem infoI4 : (Try.prog.info? 3).map (fun i => (i.zero, i.size, i.bytes)) = some (some (.int .i64 0), 1, 8) := by kernel_rfl
set_option maxRecDepth 100000 in
theorem nclone_any (w : World) (A : Option Addr) (cap : Nat) (zs : List Int) (hI : IntsIn w A zs) (hN : A = none → cap = 0) (hl : zs.length ≤ 1000) :
    Calls Try.prog 71 #[.slice A zs.length cap] w (NPost w zs) := by
  have hn := fun W => Lib.run_eql_slice_nil (P := Try.prog) W 26 3 A zs.length cap 0 0 Try.underlying26
  cases A with
  | none =>
    have hzs : zs = [] := by
      rcases hI with h | ⟨b, off, h, _⟩
      · exact h
      · cases h
    subst hzs
    obtain rfl := hN rfl
    have hn0 : ∀ W : World, (binOp .eql 26 (.slice none 0 0) (.slice none 0 0)).run Try.prog W = .ok (.bool true) W := fun W => Lib.run_eql_slice_nil (P := Try.prog) W 26 3 none 0 0 0 0 Try.underlying26
    clear hI hN hn
    go_enter Try.func71, Try.ntmps71
    go_wp2
    go_ret
    exact ⟨none, 0, rfl, NRow.nil _ _, Below.refl _ _⟩
  | some ad =>
    obtain ⟨i0, hi, hz0, hz1, hz2⟩ := info_parts infoI4
    have hnew : (w.alloc (.cells #[] 3)).ownsRow w.heap.size 3 1 (.slice (some ⟨w.heap.size, 0, none⟩) 0 0) 0 [] := World.ownsRow_made w #[] 0 (Nat.le_refl _) (by unfold maxLen; omega) rfl
    have hb : Below w.heap.size w (w.alloc (.cells #[] 3)) := (Below.refl _ _).alloc (Nat.le_refl _) _
    have hI2 := hI.below hb
    have hcells : ∀ j u, (zs.map (Value.int .i64))[j]? = some u → (w.alloc (.cells #[] 3)).cell? (ad.add j) = some u := fun j u hu => by
      rcases hI2 with h0 | ⟨b, off, he, _, hcc⟩
      · rw [h0] at hu; simp at hu
      · obtain rfl := Option.some.inj he
        rw [List.getElem?_map] at hu
        by_cases hj : j < zs.length
        · rw [List.getElem?_eq_getElem hj] at hu
          simp only [Option.map_some, Option.some.injEq] at hu
          rw [Go.WideShapes.add_plain, hcc j hj, hu]
        · rw [List.getElem?_eq_none (by omega)] at hu
          cases hu
    obtain ⟨v2, W', hrun, hown2, hgr2, _, _⟩ := run_append_own_at (P := Try.prog) (w.alloc (.cells #[] 3)) w.heap.size 26 26 3 i0 (.int .i64 0) 1 8 Try.underlying26 hi hz0 hz1 hz2 rfl (by decide) _ _ _ hnew ad zs.length cap (zs.map (Value.int .i64)) (by simp) hcells
      (by intro u hu; obtain ⟨p, _, rfl⟩ := List.mem_map.1 hu; rfl) (by unfold maxLen; omega) (by omega) (by simp)
    rw [Nat.zero_add, List.nil_append] at hown2
    have hb' : Below w.heap.size w W' := hb.grown hgr2 (by simp) (fun q hq => (hnew.lt q hq).1)
    obtain ⟨A', cap', rfl, hrow⟩ : ∃ A' cap', v2 = .slice A' zs.length cap' ∧ NRow W' w.heap.size A' cap' zs := by
      rcases hown2.2 with ⟨e, h0⟩ | ⟨g, cap, cur, e, hg, hgg, hnc, _⟩
      · refine ⟨none, 0, by rw [e, h0], ?_⟩
        have : zs = [] := List.eq_nil_of_length_eq_zero h0
        subst this
        exact NRow.nil _ _
      · exact ⟨_, cap, e, by unfold NRow; rw [← e]; exact hown2⟩
    have hrunH := Lib.hid hrun
    have hrowH := Lib.hid hrow
    clear hown2 hgr2 hcells hI2 hnew hb hi hz0 hz1 hz2 hrow
    clear hrun hI hN
    go_enter Try.func71, Try.ntmps71
    go_wp2_with (at_builtin; refine append_run_wp rfl _ _ _ rfl rfl rfl hrunH.out ?_)
    go_ret
    exact ⟨A', cap', rfl, hrowH.out, hb'⟩
end Go.Proofs.Ytdjdldcpaidmnaa
namespace Go.Proofs.Ytdjdldcpaidmnaa
open Go.RowKit Rec Bk
theorem clone_end {w W : World} {A1 A2 A1' A2' : Option Addr} {c1 c2 c1' c2' : Nat} {b : Bo} {B : Nat} (hB : BkAt W w.heap.size A1 c1 A2 c2 b) (hX : BkAt W (w.heap.size + 1) none 0 none 0 noB) (hO : BkO W B A1' c1' A2' c2' b) (hBB : w.heap.size + 1 < B) (hb : Below w.heap.size w W) :
    let W9 := (W.setCell ⟨w.heap.size, 1, none⟩ (.slice A1' b.zs.length c1')).setCell ⟨w.heap.size, 2, none⟩ (.slice A2' b.ms.length c2')
    BkAt W9 w.heap.size A1' c1' A2' c2' b ∧ BkAt W9 (w.heap.size + 1) none 0 none 0 noB ∧ BkO W9 B A1' c1' A2' c2' b ∧ Below w.heap.size w W9 := by
  have h1 := grownBy_one W w.heap.size 1 (.slice A1' b.zs.length c1')
  have h2 := grownBy_one (W.setCell ⟨w.heap.size, 1, none⟩ (.slice A1' b.zs.length c1')) w.heap.size 2 (.slice A2' b.ms.length c2')
  have hg := h1.trans h2
  have n1 : A1' ≠ some ⟨w.heap.size, 0, none⟩ := fun e => by
    rcases hO.z.form with ⟨e', _⟩ | ⟨g, e', hge, _⟩
    · rw [e'] at e; cases e
    · rw [e'] at e; injection e with e; injection e with e; omega
  have n2 : A2' ≠ some ⟨w.heap.size, 0, none⟩ := fun e => by
    rcases hO.m.form with ⟨e', _⟩ | ⟨g, e', hge, _⟩
    · rw [e'] at e; cases e
    · rw [e'] at e; injection e with e; injection e with e; omega
  exact ⟨(hB.set1 A1' c1' b.zs).set2 A2' c2' b.ms, hX.far hg (by simp), hO.far hg n1 n2, (hb.setCell (Nat.le_refl _) _).setCell (Nat.le_refl _) _⟩
theorem clone_mid {w W w1 w2 : World} {A1 A2 A1' A2' : Option Addr} {c1 c2 c1' c2' : Nat} {b : Bo} (hb : Below w.heap.size w W) (hzl : b.zs.length ≤ 64) (hml : b.ms.length ≤ 64) (hB : BkAt W w.heap.size A1 c1 A2 c2 b) (hX : BkAt W (w.heap.size + 1) none 0 none 0 noB)
    (hz1 : zoE.Row w1 W.heap.size 69 A1' c1' b.zs) (hb1 : Below W.heap.size W w1) (hm2 : NRow w2 w1.heap.size A2' c2' b.ms) (hb2 : Below w1.heap.size w1 w2) :
    BkAt w2 w.heap.size A1 c1 A2 c2 b ∧ BkAt w2 (w.heap.size + 1) none 0 none 0 noB ∧ BkO w2 W.heap.size A1' c1' A2' c2' b ∧ Below w.heap.size w w2 := by
  have hS := hb1.trans (hb2.mono hb1.size)
  refine ⟨hB.below hS, hX.below hS, ⟨hz1.below hb2, hm2.mono hb1.size, fun g e1 e2 => ?_, hzl, hml⟩, hb.trans (hS.mono hb.size)⟩
  rcases hz1.form with ⟨e, _⟩ | ⟨g1, e, _, hlt, _⟩
  · rw [e] at e1; cases e1
  · rcases hm2.form with ⟨e', _⟩ | ⟨g2, e', hge, _⟩
    · rw [e'] at e2; cases e2
    · rw [e] at e1
      rw [e'] at e2
      injection e1 with e1
      injection e1 with e1
      injection e2 with e2
      injection e2 with e2
      omega
def BPost (w : World) (b : Bo) (e : Ending) (w' : World) : Prop := ∃ A1 c1 A2 c2, e = .returned (.agg #[.int .i64 b.q, .slice A1 b.zs.length c1, .slice A2 b.ms.length c2, .int .i64 b.sl, .int .i64 b.cu]) ∧ BkO w' w.heap.size A1 c1 A2 c2 b ∧ Below w.heap.size w w'
set_option maxRecDepth 100000 in
set_option maxHeartbeats 2000000 in
theorem bclone_any (w : World) (A1 : Option Addr) (c1 : Nat) (A2 : Option Addr) (c2 : Nat) (b : Bo) (h : BkIn w A1 c1 A2 c2 b) :
    Calls Try.prog 51 #[.agg #[.int .i64 b.q, .slice A1 b.zs.length c1, .slice A2 b.ms.length c2, .int .i64 b.sl, .int .i64 b.cu]] w (BPost w b) := by
  have hz := Lib.hid (fun W (hb : Below w.heap.size w W) => zclone_any W A1 c1 b.zs (h.z.below hb) h.n1 (by have := h.zl; omega))
  have hm := Lib.hid (fun W (hb : Below w.heap.size w W) => nclone_any W A2 c2 b.ms (h.m.below hb) h.n2 (by have := h.ml; omega))
  have hzl := h.zl
  have hml := h.ml
  clear h
  go_enter Try.func51, Try.ntmps51
  go_wp2_with fail
  refine fresh_world (fun W => BkAt W w.heap.size A1 c1 A2 c2 b ∧ BkAt W (w.heap.size + 1) none 0 none 0 noB ∧ Below w.heap.size w W) ⟨(BkAt.new w A1 c1 A2 c2 b 58).below ((Below.refl _ _).alloc (Nat.le_refl _) _), ?_, ((Below.refl _ _).alloc (Nat.le_refl _) _).alloc (by simp) _⟩ ?_
  · have h1 := BkAt.new (w.alloc (.cells #[.int .i64 b.q, .slice A1 b.zs.length c1, .slice A2 b.ms.length c2, .int .i64 b.sl, .int .i64 b.cu] 58)) none 0 none 0 noB 58
    rw [World.size_alloc] at h1
    exact h1
  rintro W ⟨hB, hX, hb⟩
  have hsz := hb.size
  have hl0 := hX.lt
  have hf := Lib.hid (fun W' (hb' : Below W.heap.size W W') => (⟨(hb'.cell (p := ⟨w.heap.size, 1, none⟩) hB.lt).trans hB.c1, (hb'.cell (p := ⟨w.heap.size, 2, none⟩) hB.lt).trans hB.c2⟩ : W'.cell? ⟨w.heap.size, 1, none⟩ = some (.slice A1 b.zs.length c1) ∧ W'.cell? ⟨w.heap.size, 2, none⟩ = some (.slice A2 b.ms.length c2)))
  have hBH := Lib.hid hB
  have hXH := Lib.hid hX
  have hO := Lib.hid (fun w1 w2 A1' c1' A2' c2' (hS : Below W.heap.size W w1) (hz1 : zoE.Row w1 W.heap.size 69 A1' c1' b.zs) (hb1 : Below W.heap.size W w1) (hm2 : NRow w2 w1.heap.size A2' c2' b.ms) (hb2 : Below w1.heap.size w1 w2) => clone_mid hb hzl hml hB hX hz1 hb1 hm2 hb2)
  clear hB hX hzl hml
  refine region_anyC (fun i => decide (i < 7)) (fun W' => Below W.heap.size W W') (by kernel_rfl) ?_
  have hS : Below W.heap.size W W.drew := (Below.refl _ _).drew
  refine anyL_take 0 (v := ?_) rfl (by kernel_rfl) (fun _ _ _ h => h) (Or.inl ⟨by rfl, ?_⟩) hS ?_
  rotate_left
  focus (intro W' hW; go_simp; try with_reducible rfl)
  simp only [Act.put, List.setIfInBounds_toArray, List.set_cons_zero, List.set_cons_succ]
  refine anyL_take 1 (v := ?_) rfl (by kernel_rfl) (fun _ _ _ h => h) (Or.inl ⟨by rfl, ?_⟩) hS ?_
  rotate_left
  focus (intro W' hW; obtain ⟨f1, f2⟩ := hf.out W' hW; go_simp; try with_reducible rfl)
  simp only [Act.put, List.setIfInBounds_toArray, List.set_cons_zero, List.set_cons_succ]
  refine anyL_take 3 (v := ?_) rfl (by kernel_rfl) (fun _ _ _ h => h) (Or.inl ⟨by rfl, ?_⟩) hS ?_
  rotate_left
  focus (intro W' hW; go_simp; try with_reducible rfl)
  simp only [Act.put, List.setIfInBounds_toArray, List.set_cons_zero, List.set_cons_succ]
  refine anyL_take 4 (v := ?_) rfl (by kernel_rfl) (fun _ _ _ h => h) (Or.inl ⟨by rfl, ?_⟩) hS ?_
  rotate_left
  focus (intro W' hW; obtain ⟨f1, f2⟩ := hf.out W' hW; go_simp; try with_reducible rfl)
  simp only [Act.put, List.setIfInBounds_toArray, List.set_cons_zero, List.set_cons_succ]
  refine anyL_one 2 rfl (by kernel_rfl) (fun K hK => ?_)
  go_simp
  refine (hz.out _ (hb.trans (hS.mono hsz))).mono ?_
  rintro e' w1 ⟨A1', c1', rfl, hz1, hb1⟩
  have hS1 := hS.trans (hb1.mono hS.size)
  refine hK.out _ _ (fun _ => hS1) ?_
  clear hK K
  try simp only [Act.put, List.setIfInBounds_toArray, List.set_cons_zero, List.set_cons_succ]
  refine anyL_take 6 (v := ?_) rfl (by kernel_rfl) (fun _ _ _ h => h) (Or.inl ⟨by rfl, ?_⟩) hS1 ?_
  rotate_left
  focus (intro W' hW; go_simp; try with_reducible rfl)
  simp only [Act.put, List.setIfInBounds_toArray, List.set_cons_zero, List.set_cons_succ]
  refine anyL_one 5 rfl (by kernel_rfl) (fun K hK => ?_)
  go_simp
  refine (hm.out _ (hb.trans (hS1.mono hsz))).mono ?_
  rintro e' w2 ⟨A2', c2', rfl, hm2, hb2⟩
  have hS2 := hS1.trans (hb2.mono hS1.size)
  have hO2 := Lib.hid (hO.out w1 w2 A1' c1' A2' c2' hS1 hz1 hS1 hm2 hb2)
  obtain ⟨hk1, hk2, hk3⟩ := hO2.out
  have hB7H := Lib.hid (hk1.set1 A1' c1' b.zs)
  obtain ⟨b0, b1, b2, b3, b4, bf⟩ := hk1
  clear hk2 hk3
  refine hK.out _ _ (fun _ => hS2) ?_
  clear hK K
  try simp only [Act.put, List.setIfInBounds_toArray, List.set_cons_zero, List.set_cons_succ]
  refine anyL_one 7 rfl (by kernel_rfl) (fun K hK => ?_)
  go_simp
  refine hK.out _ _ (fun h => by cases h) ?_
  clear hK K
  try simp only [Act.put, List.setIfInBounds_toArray, List.set_cons_zero, List.set_cons_succ]
  refine anyL_one 8 rfl (by kernel_rfl) (fun K hK => ?_)
  go_simp
  refine hK.out _ _ (fun h => by cases h) ?_
  clear hK K
  try simp only [Act.put, List.setIfInBounds_toArray, List.set_cons_zero, List.set_cons_succ]
  obtain ⟨g0, g1, g2, g3, g4, gf⟩ := hB7H.out
  refine anyL_one 9 rfl (by kernel_rfl) (fun K hK => ?_)
  go_simp
  refine hK.out _ _ (fun h => by cases h) ?_
  clear hK K
  try simp only [Act.put, List.setIfInBounds_toArray, List.set_cons_zero, List.set_cons_succ]
  refine anyC_done (by kernel_rfl) ?_ _
  have hE := clone_end hO2.out.1 hO2.out.2.1 hO2.out.2.2.1 hl0 hO2.out.2.2.2
  have hEH := Lib.hid hE
  clear hE hO2 hO b0 b1 b2 b3 b4 bf g0 g1 g2 g3 g4 gf hB7H hz1 hb1 hm2 hb2
  refine fresh_K (fun W9 => BkAt W9 w.heap.size A1' c1' A2' c2' b ∧ BkAt W9 (w.heap.size + 1) none 0 none 0 noB ∧ BkO W9 W.heap.size A1' c1' A2' c2' b ∧ Below w.heap.size w W9) hEH.out ?_
  clear hEH
  rintro W9 ⟨hB9, hX9, hO9, hb9⟩
  have hXs := Lib.hid (book_out hX9 hO9 hl0 (by omega) hb9)
  obtain ⟨b0, b1, b2, b3, b4, bf⟩ := hB9
  obtain ⟨x0, x1, x2, x3, x4, xf⟩ := hX9
  clear hO9 hb9
  go_wp2
  refine fresh_post (fun W => BkAt W (w.heap.size + 1) A1' c1' A2' c2' b ∧ BkO W w.heap.size A1' c1' A2' c2' b ∧ Below w.heap.size w W) hXs.out ?_
  rintro W10 ⟨⟨y0, y1, y2, y3, y4, _⟩, hO10, hb10⟩
  refine bodyPost_ret (v := .agg #[.int .i64 b.q, .slice A1' b.zs.length c1', .slice A2' b.ms.length c2', .int .i64 b.sl, .int .i64 b.cu]) (by simp [results, Try.results51, go_sem, y0, y1, y2, y3, y4]) rfl ⟨A1', c1', A2', c2', rfl, hO10, hb10⟩
end Go.Proofs.Ytdjdldcpaidmnaa
namespace Go.Proofs.Ytdjdldcpaidmnaa
open Go.RowKit Rec Bk
theorem isIndex_any (n l : Int) (w : World) :
    Calls Try.prog 60 #[.int .i64 n, .int .i64 l] w fun e w' => e = .returned (.bool (decide (0 ≤ n ∧ n < l))) ∧ w = w' := by
  by_cases h1 : 0 ≤ n
  · by_cases h2 : n < l
    · have e : decide (0 ≤ n ∧ n < l) = true := decide_eq_true ⟨h1, h2⟩
      rw [e]; clear e
      go_enter Try.func60, Try.ntmps60
      go_wp2
      go_ret
      exact ⟨rfl, rfl⟩
    · have e : decide (0 ≤ n ∧ n < l) = false := decide_eq_false (fun h => h2 h.2)
      rw [e]; clear e
      go_enter Try.func60, Try.ntmps60
      go_wp2
      go_ret
      exact ⟨rfl, rfl⟩
  · have e : decide (0 ≤ n ∧ n < l) = false := decide_eq_false (fun h => h1 h.1)
    rw [e]; clear e
    go_enter Try.func60, Try.ntmps60
    go_wp2
    go_ret
    exact ⟨rfl, rfl⟩
end Go.Proofs.Ytdjdldcpaidmnaa
