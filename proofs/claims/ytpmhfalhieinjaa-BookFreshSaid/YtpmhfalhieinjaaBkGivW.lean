/- The world within given. -/
import Derived.Test.YtpmhfalhieinjaaBkGivM
namespace Go.Proofs.Ytpmhfalhieinjaa
open Go.RowKit Rec Bk

/-- A list that is done lies in no block of the two rows. -/
structure Fin (W : World) (Aa Ab : Option Addr) (l : LRow) : Prop where
  r : RecsAt W l.A l.rs
  o : ∀ g off, l.A = some ⟨g, off, none⟩ → g < W.heap.size ∧ Aa ≠ some ⟨g, 0, none⟩ ∧ Ab ≠ some ⟨g, 0, none⟩
theorem Fin.below {W W' : World} {Aa Ab : Option Addr} {l : LRow} (h : Fin W Aa Ab l) (hb : Below W.heap.size W W') : Fin W' Aa Ab l :=
  ⟨RecsAt.below h.r hb, fun g off e => ⟨Nat.lt_of_lt_of_le (h.o g off e).1 hb.size, (h.o g off e).2⟩⟩
/-- Another block has turned. -/
theorem Fin.far {W W' : World} {Aa Ab Aa' Ab' : Option Addr} {l : LRow} {o : Option Nat} (h : Fin W Aa Ab l) (hg : W.grownBy W' o) (ho : ∀ k, o = some k → Aa = some ⟨k, 0, none⟩ ∨ Ab = some ⟨k, 0, none⟩ ∨ W.heap.size ≤ k)
    (ha : Aa' = Aa ∨ Aa' = some ⟨W.heap.size, 0, none⟩) (hb : Ab' = Ab ∨ Ab' = some ⟨W.heap.size, 0, none⟩) : Fin W' Aa' Ab' l := by
  refine ⟨?_, fun g off e => ?_⟩
  · rcases h.r with h0 | ⟨b, off, e, hlt, hc⟩
    · exact .inl h0
    · obtain ⟨o1, o2, o3⟩ := h.o b off e
      refine .inr ⟨b, off, e, Nat.lt_of_lt_of_le hlt hg.size, fun i hi j hj => (World.cell?_of_block (a := ⟨b, _, none⟩) (hg.block b hlt (fun e' => ?_))).trans (hc i hi j hj)⟩
      rcases ho b e'.symm with h1 | h1 | h1
      · exact o2 h1
      · exact o3 h1
      · omega
  · obtain ⟨o1, o2, o3⟩ := h.o g off e
    refine ⟨Nat.lt_of_lt_of_le o1 hg.size, ?_, ?_⟩
    · rcases ha with rfl | rfl
      · exact o2
      · intro e2; injection e2 with e2; injection e2 with e2; omega
    · rcases hb with rfl | rfl
      · exact o3
      · intro e2; injection e2 with e2; injection e2 with e2; omega
structure GvO (w W : World) (Aa : Option Addr) (ca : Nat) (la : List LRow) (Ab : Option Addr) (cb : Nat) (lb : List LRow) : Prop where
  a : slE.Row W w.heap.size 46 Aa ca la
  b : slE.Row W w.heap.size 69 Ab cb lb
  d : ∀ g, Aa = some ⟨g, 0, none⟩ → Ab ≠ some ⟨g, 0, none⟩
  fa : ∀ l ∈ la, Fin W Aa Ab l
  fb : ∀ l ∈ lb, Fin W Aa Ab l
  bw : Below w.heap.size w W
section
variable {w W W' : World} {Aa : Option Addr} {ca : Nat} {la : List LRow} {Ab : Option Addr} {cb : Nat} {lb : List LRow}
theorem GvO.below (h : GvO w W Aa ca la Ab cb lb) (hb : Below W.heap.size W W') : GvO w W' Aa ca la Ab cb lb :=
  ⟨h.a.below hb, h.b.below hb, h.d, fun l hl => (h.fa l hl).below hb, fun l hl => (h.fb l hl).below hb, h.bw.trans (hb.mono h.bw.size)⟩
theorem GvO.start (w : World) : GvO w w none 0 [] none 0 [] :=
  ⟨Enc.Row.nil _ _ _, Enc.Row.nil _ _ _, (fun g e => by cases e), (fun l hl => by cases hl), (fun l hl => by cases hl), Below.refl _ _⟩
theorem lists_of {t : TypeId} {base cap : Nat} {A Aa' Ab' : Option Addr} {l : List LRow} (h : slE.Row W base t A cap l) (hf : ∀ x ∈ l, Fin W Aa' Ab' x) : ListsIn W A l := by
  rcases h.in_ with h0 | ⟨b, off, e, hlt, hc⟩
  · exact .inl h0
  · refine .inr ⟨b, off, e, hlt, fun i hi => ⟨?_, (hf _ (List.getElem_mem hi)).r⟩⟩
    have := hc i hi 0 (by decide)
    simpa [slE] using this
theorem GvO.outA (h : GvO w W Aa ca la Ab cb lb) : ListsIn W Aa la := lists_of h.a h.fa
theorem GvO.outB (h : GvO w W Aa ca la Ab cb lb) : ListsIn W Ab lb := lists_of h.b h.fb
/-- One list more to the program's row. -/
theorem GvO.pushA (h : GvO w W Aa ca la Ab cb lb) (x : LRow) (hx : Fin W Aa Ab x) (hl : la.length ≤ 1000) {m : Nat} (hm : W.cell? ⟨m, 0, none⟩ = some (.slice x.A x.rs.length x.cap)) :
    ∃ A' cap' W2, (Builtin.append_ #[26, 26] 26 #[.slice Aa la.length ca, .slice (some ⟨m, 0, none⟩) 1 1]).run Try.prog W = .ok (.slice A' (la.length + 1) cap') W2 ∧
      GvO w W2 A' cap' (la ++ [x]) Ab cb lb ∧ (∀ y, Fin W Aa Ab y → Fin W2 A' Ab y) ∧ W.heap.size ≤ W2.heap.size := by
  obtain ⟨A', cap', W2, hrun, hrow, hg, hA⟩ := h.a.append (P := Try.prog) Try.underlying26 infLs (by decide) (by decide) (m := m) (x := x) (by
    intro j hj
    have hj1 : j < 1 := hj
    obtain rfl : j = 0 := by omega
    exact hm) (by omega) h.bw.size 26
  have ho : ∀ k, (Value.slice Aa la.length ca).ownBlock = some k → Aa = some ⟨k, 0, none⟩ := fun k e => by
    rcases h.a.form with ⟨rfl, _⟩ | ⟨g, rfl, _⟩
    · simp [Value.ownBlock] at e
    · simp only [Value.ownBlock, Option.some.injEq] at e
      rw [e]
  have hk : ∀ y, Fin W Aa Ab y → Fin W2 A' Ab y := fun y hy => hy.far hg (fun k e => .inl (ho k e)) hA (.inl rfl)
  refine ⟨A', cap', W2, hrun, ⟨hrow, h.b.far hg (fun g e e' => h.d g (ho g e') e), fun g e e' => ?_, fun l hl => ?_, fun l hl => hk l (h.fb l hl), ?_⟩, hk, hg.size⟩
  · rcases hA with rfl | rfl
    · exact h.d g e e'
    · rcases h.b.form with ⟨e2, _⟩ | ⟨g2, e2, _, hl2, _⟩
      · rw [e2] at e'; cases e'
      · rw [e2] at e'
        injection e with e
        injection e with e
        injection e' with e'
        injection e' with e'
        omega
  · rcases List.mem_append.1 hl with hl | hl
    · exact hk l (h.fa l hl)
    · rw [List.mem_singleton.1 hl]; exact hk x hx
  · exact h.bw.trans (h.a.grown hg h.bw.size)
/-- One list more to the document's. -/
theorem GvO.pushB (h : GvO w W Aa ca la Ab cb lb) (x : LRow) (hx : Fin W Aa Ab x) (hl : lb.length ≤ 1000) {m : Nat} (hm : W.cell? ⟨m, 0, none⟩ = some (.slice x.A x.rs.length x.cap)) :
    ∃ A' cap' W2, (Builtin.append_ #[27, 27] 27 #[.slice Ab lb.length cb, .slice (some ⟨m, 0, none⟩) 1 1]).run Try.prog W = .ok (.slice A' (lb.length + 1) cap') W2 ∧
      GvO w W2 Aa ca la A' cap' (lb ++ [x]) ∧ (∀ y, Fin W Aa Ab y → Fin W2 Aa A' y) ∧ W.heap.size ≤ W2.heap.size := by
  obtain ⟨A', cap', W2, hrun, hrow, hg, hA⟩ := h.b.append (P := Try.prog) Try.underlying27 infRl (by decide) (by decide) (m := m) (x := x) (by
    intro j hj
    have hj1 : j < 1 := hj
    obtain rfl : j = 0 := by omega
    exact hm) (by omega) h.bw.size 27
  have ho : ∀ k, (Value.slice Ab lb.length cb).ownBlock = some k → Ab = some ⟨k, 0, none⟩ := fun k e => by
    rcases h.b.form with ⟨rfl, _⟩ | ⟨g, rfl, _⟩
    · simp [Value.ownBlock] at e
    · simp only [Value.ownBlock, Option.some.injEq] at e
      rw [e]
  have hk : ∀ y, Fin W Aa Ab y → Fin W2 Aa A' y := fun y hy => hy.far hg (fun k e => .inr (.inl (ho k e))) (.inl rfl) hA
  refine ⟨A', cap', W2, hrun, ⟨h.a.far hg (fun g e e' => h.d g e (ho g e')), hrow, fun g e e' => ?_, fun l hl => hk l (h.fa l hl), fun l hl => ?_, ?_⟩, hk, hg.size⟩
  · rcases hA with rfl | rfl
    · exact h.d g e e'
    · rcases h.a.form with ⟨e2, _⟩ | ⟨g2, e2, _, hl2, _⟩
      · rw [e2] at e; cases e
      · rw [e2] at e
        injection e with e
        injection e with e
        injection e' with e'
        injection e' with e'
        omega
  · rcases List.mem_append.1 hl with hl | hl
    · exact hk l (h.fb l hl)
    · rw [List.mem_singleton.1 hl]; exact hk x hx
  · exact h.bw.trans (h.b.grown hg h.bw.size)
end
end Go.Proofs.Ytpmhfalhieinjaa
