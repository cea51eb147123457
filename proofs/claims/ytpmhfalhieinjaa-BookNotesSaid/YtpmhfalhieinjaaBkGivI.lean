/- given: the pure part, how lists lie, the outer and the inner world. -/
import Derived.Test.YtpmhfalhieinjaaBkLists
import Derived.Test.YtpmhfalhieinjaaBkRP
import Derived.Test.YtpmhfalhieinjaaBkRRecs
namespace Go.Proofs.Ytpmhfalhieinjaa
open Go.RowKit Rec Bk

/-- A record as plain data. -/
structure PR where
  k : Int
  s : Int
  a : Int
  b : Int
  c : Int
  d : Int
instance : Inhabited PR := ⟨⟨0, 0, 0, 0, 0, 0⟩⟩
def prE : Enc PR := ⟨fun x => [.int .i64 x.k, .int .i64 x.s, .int .i64 x.a, .int .i64 x.b, .int .i64 x.c, .int .i64 x.d], 6, fun _ => rfl, fun x u hu => by
  simp only [List.mem_cons, List.not_mem_nil, or_false] at hu
  rcases hu with rfl | rfl | rfl | rfl | rfl | rfl <;> rfl⟩
/-- A list's place as an element of a list of lists. -/
def slE : Enc LRow := ⟨fun x => [.slice x.A x.rs.length x.cap], 1, fun _ => rfl, fun x u hu => by
  simp only [List.mem_cons, List.not_mem_nil, or_false] at hu
  rw [hu]; rfl⟩
theorem infLs : Enc.Inf Try.prog 46 1 24 := by unfold Enc.Inf; kernel_rfl
theorem infRl : Enc.Inf Try.prog 69 1 24 := by unfold Enc.Inf; kernel_rfl
theorem wf_of (n : Int) (h : 0 ≤ n ∧ n ≤ 70000) : WfI n := by
  unfold WfI
  exact WalkArith.wf_i64 (by omega)
def turnR (x : PR) : Rc := ⟨3 + x.k % 4, x.s % 1099511627776, x.a % 65536, x.b % 65536, x.c % 1099511627776, x.d % 65536, ⟨#[]⟩⟩
theorem turnR_ok (x : PR) : RcOk (turnR x) := by
  have h1 := Int.emod_nonneg x.k (show (4 : Int) ≠ 0 by decide)
  have h2 := Int.emod_lt_of_pos x.k (show (0 : Int) < 4 by decide)
  have h3 := Int.emod_nonneg x.s (show (1099511627776 : Int) ≠ 0 by decide)
  have h4 := Int.emod_lt_of_pos x.s (show (0 : Int) < 1099511627776 by decide)
  have h5 := Int.emod_nonneg x.a (show (65536 : Int) ≠ 0 by decide)
  have h6 := Int.emod_lt_of_pos x.a (show (0 : Int) < 65536 by decide)
  refine ⟨?_, ?_, ?_⟩
  · exact wf_of _ (by show 0 ≤ 3 + x.k % 4 ∧ 3 + x.k % 4 ≤ 70000; omega)
  · exact wf_of _ (by show 0 ≤ x.a % 65536 ∧ x.a % 65536 ≤ 70000; omega)
  · show 0 ≤ x.s % 1099511627776 ∧ x.s % 1099511627776 ≤ 4398046511104
    omega
theorem turnR_pos (x : PR) : 0 ≤ (turnR x).a ∧ 0 ≤ (turnR x).b ∧ 0 ≤ (turnR x).d :=
  ⟨Int.emod_nonneg x.a (by decide), Int.emod_nonneg x.b (by decide), Int.emod_nonneg x.d (by decide)⟩
/-- Where a list of plain records lies. -/
structure PRow where
  A : Option Addr
  cap : Nat
  xs : List PR
instance : Inhabited PRow := ⟨⟨none, 0, []⟩⟩
def PIn (W : World) (A : Option Addr) (ls : List PRow) : Prop :=
  ls = [] ∨ ∃ b off, A = some ⟨b, off, none⟩ ∧ b < W.heap.size ∧ ∀ (i : Nat) (h : i < ls.length), W.cell? ⟨b, off + i, none⟩ = some (.slice ls[i].A ls[i].xs.length ls[i].cap) ∧ prE.In W ls[i].A ls[i].xs
theorem PIn.below {W W' : World} {A : Option Addr} {ls : List PRow} (h : PIn W A ls) (hb : Below W.heap.size W W') : PIn W' A ls := by
  rcases h with h | ⟨b, off, rfl, hlt, hc⟩
  · exact .inl h
  · exact .inr ⟨b, off, rfl, Nat.lt_of_lt_of_le hlt hb.size, fun i hi => ⟨(hb.cell (p := ⟨b, off + i, none⟩) hlt).trans (hc i hi).1, (hc i hi).2.below hb⟩⟩
theorem PIn.at_ {W : World} {A : Option Addr} {ls : List PRow} (h : PIn W A ls) {i : Nat} (hi : i < ls.length) : ∃ b off, A = some ⟨b, off, none⟩ ∧ b < W.heap.size ∧ W.cell? ⟨b, off + i, none⟩ = some (.slice ls[i].A ls[i].xs.length ls[i].cap) ∧ prE.In W ls[i].A ls[i].xs := by
  rcases h with rfl | ⟨b, off, rfl, hlt, hc⟩
  · simp at hi
  · exact ⟨b, off, rfl, hlt, (hc i hi).1, (hc i hi).2⟩
theorem pr_at {W : World} {A : Option Addr} {xs : List PR} (h : prE.In W A xs) {i : Nat} (hi : i < xs.length) : ∃ b off, A = some ⟨b, off, none⟩ ∧ b < W.heap.size ∧ W.cell? ⟨b, off + i * 6, none⟩ = some (.int .i64 xs[i].k) ∧ W.cell? ⟨b, off + i * 6 + 1, none⟩ = some (.int .i64 xs[i].s) ∧ W.cell? ⟨b, off + i * 6 + 2, none⟩ = some (.int .i64 xs[i].a) ∧ W.cell? ⟨b, off + i * 6 + 3, none⟩ = some (.int .i64 xs[i].b) ∧ W.cell? ⟨b, off + i * 6 + 4, none⟩ = some (.int .i64 xs[i].c) ∧ W.cell? ⟨b, off + i * 6 + 5, none⟩ = some (.int .i64 xs[i].d) := by
  obtain ⟨b, off, e, hlt, h⟩ := h.at_ hi
  exact ⟨b, off, e, hlt, h 0 (by decide), h 1 (by decide), h 2 (by decide), h 3 (by decide), h 4 (by decide), h 5 (by decide)⟩
/-- What given makes of them. -/
def giv1 (xs : List PR) : List Rc := (xs.take 100).map turnR
def givL (ls : List PRow) : List (List Rc) := (ls.take 8).map (fun l => giv1 l.xs)
theorem giv1_len (xs : List PR) : (giv1 xs).length ≤ 100 := by unfold giv1; rw [List.length_map, List.length_take]; omega
theorem giv1_ok {xs : List PR} {x : Rc} (h : x ∈ giv1 xs) : RcOk x ∧ 0 ≤ x.a ∧ 0 ≤ x.b ∧ 0 ≤ x.d := by
  obtain ⟨p, _, rfl⟩ := List.mem_map.1 h
  exact ⟨turnR_ok p, turnR_pos p⟩
theorem flatL_rs (l : List LRow) : flatL l = (l.map LRow.rs).flatten := by unfold flatL; rw [List.flatMap_def]
theorem giv_ok {ls : List PRow} {la : List LRow} (h : la.map LRow.rs = givL ls) : ListsOk la ∧ PosL (flatL la) := by
  have hl : la.length ≤ 8 := by
    have := congrArg List.length h
    unfold givL at this
    rw [List.length_map, List.length_map, List.length_take] at this
    omega
  have hm : ∀ l ∈ la, ∃ p : PRow, l.rs = giv1 p.xs := fun l hlm => by
    have : l.rs ∈ la.map LRow.rs := List.mem_map.2 ⟨l, hlm, rfl⟩
    rw [h] at this
    obtain ⟨p, _, e⟩ := List.mem_map.1 this
    exact ⟨p, e.symm⟩
  refine ⟨⟨by omega, fun l hlm => ?_⟩, fun x hx => ?_⟩
  · obtain ⟨p, e⟩ := hm l hlm
    rw [e]
    exact ⟨by have := giv1_len p.xs; omega, fun x hx => (giv1_ok hx).1⟩
  · obtain ⟨l, hlm, hxl⟩ := List.mem_flatMap.1 hx
    obtain ⟨p, e⟩ := hm l hlm
    have hx' : x ∈ l.rs := hxl
    rw [e] at hx'
    exact (giv1_ok hx').2
end Go.Proofs.Ytpmhfalhieinjaa
namespace Go.Proofs.Ytpmhfalhieinjaa
open Go.RowKit Rec Bk

/-- A list that is done lies in no block of the two rows. -/
structure Fin (B : Nat) (W : World) (Aa Ab : Option Addr) (l : LRow) : Prop where
  r : RecsAt W l.A l.rs
  o : ∀ g off, l.A = some ⟨g, off, none⟩ → g < W.heap.size ∧ Aa ≠ some ⟨g, 0, none⟩ ∧ Ab ≠ some ⟨g, 0, none⟩ ∧ B ≤ g
theorem Fin.below {B : Nat} {W W' : World} {Aa Ab : Option Addr} {l : LRow} (h : Fin B W Aa Ab l) (hb : Below W.heap.size W W') : Fin B W' Aa Ab l :=
  ⟨RecsAt.below h.r hb, fun g off e => ⟨Nat.lt_of_lt_of_le (h.o g off e).1 hb.size, (h.o g off e).2⟩⟩
/-- Another block has turned. -/
theorem Fin.far {B : Nat} {W W' : World} {Aa Ab Aa' Ab' : Option Addr} {l : LRow} {o : Option Nat} (h : Fin B W Aa Ab l) (hg : W.grownBy W' o) (ho : ∀ k, o = some k → Aa = some ⟨k, 0, none⟩ ∨ Ab = some ⟨k, 0, none⟩ ∨ W.heap.size ≤ k)
    (ha : Aa' = Aa ∨ Aa' = some ⟨W.heap.size, 0, none⟩) (hb : Ab' = Ab ∨ Ab' = some ⟨W.heap.size, 0, none⟩) : Fin B W' Aa' Ab' l := by
  refine ⟨?_, fun g off e => ?_⟩
  · rcases h.r with h0 | ⟨b, off, e, hlt, hc⟩
    · exact .inl h0
    · obtain ⟨o1, o2, o3, _⟩ := h.o b off e
      refine .inr ⟨b, off, e, Nat.lt_of_lt_of_le hlt hg.size, fun i hi j hj => (World.cell?_of_block (a := ⟨b, _, none⟩) (hg.block b hlt (fun e' => ?_))).trans (hc i hi j hj)⟩
      rcases ho b e'.symm with h1 | h1 | h1
      · exact o2 h1
      · exact o3 h1
      · omega
  · obtain ⟨o1, o2, o3, o4⟩ := h.o g off e
    refine ⟨Nat.lt_of_lt_of_le o1 hg.size, ?_, ?_, o4⟩
    · rcases ha with rfl | rfl
      · exact o2
      · intro e2; injection e2 with e2; injection e2 with e2; omega
    · rcases hb with rfl | rfl
      · exact o3
      · intro e2; injection e2 with e2; injection e2 with e2; omega
structure GvO (w W : World) (Aa : Option Addr) (ca : Nat) (la : List LRow) (Ab : Option Addr) (cb : Nat) (lb : List LRow) : Prop where
  a : slE.Row W w.heap.size 46 Aa ca la
  b : slE.Row W w.heap.size 69 Ab cb lb
  d : ∀ g, Aa = some ⟨g, 0, none⟩ → Ab ≠ some ⟨g, 0, none⟩
  fa : ∀ l ∈ la, Fin w.heap.size W Aa Ab l
  fb : ∀ l ∈ lb, Fin w.heap.size W Aa Ab l
  bw : Below w.heap.size w W
section
variable {w W W' : World} {Aa : Option Addr} {ca : Nat} {la : List LRow} {Ab : Option Addr} {cb : Nat} {lb : List LRow}
theorem GvO.below (h : GvO w W Aa ca la Ab cb lb) (hb : Below W.heap.size W W') : GvO w W' Aa ca la Ab cb lb :=
  ⟨h.a.below hb, h.b.below hb, h.d, fun l hl => (h.fa l hl).below hb, fun l hl => (h.fb l hl).below hb, h.bw.trans (hb.mono h.bw.size)⟩
theorem GvO.start (w : World) : GvO w w none 0 [] none 0 [] :=
  ⟨Enc.Row.nil _ _ _, Enc.Row.nil _ _ _, (fun g e => by cases e), (fun l hl => by cases hl), (fun l hl => by cases hl), Below.refl _ _⟩
theorem lists_of {B : Nat} {t : TypeId} {base cap : Nat} {A Aa' Ab' : Option Addr} {l : List LRow} (h : slE.Row W base t A cap l) (hf : ∀ x ∈ l, Fin B W Aa' Ab' x) : ListsIn W A l := by
  rcases h.in_ with h0 | ⟨b, off, e, hlt, hc⟩
  · exact .inl h0
  · refine .inr ⟨b, off, e, hlt, fun i hi => ⟨?_, (hf _ (List.getElem_mem hi)).r⟩⟩
    have := hc i hi 0 (by decide)
    simpa [slE] using this
theorem GvO.outA (h : GvO w W Aa ca la Ab cb lb) : ListsIn W Aa la := lists_of h.a h.fa
theorem GvO.outB (h : GvO w W Aa ca la Ab cb lb) : ListsIn W Ab lb := lists_of h.b h.fb
/-- One list more to the program's row. -/
theorem GvO.pushA (h : GvO w W Aa ca la Ab cb lb) (x : LRow) (hx : Fin w.heap.size W Aa Ab x) (hl : la.length ≤ 1000) {m : Nat} (hm : W.cell? ⟨m, 0, none⟩ = some (.slice x.A x.rs.length x.cap)) :
    ∃ A' cap' W2, (Builtin.append_ #[26, 26] 26 #[.slice Aa la.length ca, .slice (some ⟨m, 0, none⟩) 1 1]).run Try.prog W = .ok (.slice A' (la.length + 1) cap') W2 ∧
      GvO w W2 A' cap' (la ++ [x]) Ab cb lb ∧ (∀ y, Fin w.heap.size W Aa Ab y → Fin w.heap.size W2 A' Ab y) ∧ W.heap.size ≤ W2.heap.size := by
  obtain ⟨A', cap', W2, hrun, hrow, hg, hA⟩ := h.a.append (P := Try.prog) Try.underlying26 infLs (by decide) (by decide) (m := m) (x := x) (by
    intro j hj
    have hj1 : j < 1 := hj
    obtain rfl : j = 0 := by omega
    exact hm) (by omega) h.bw.size 26
  have ho : ∀ k, (Value.slice Aa la.length ca).ownBlock = some k → Aa = some ⟨k, 0, none⟩ := fun k e => by
    rcases h.a.form with ⟨rfl, _⟩ | ⟨g, rfl, _⟩
    · simp [Value.ownBlock] at e
    · simp only [Value.ownBlock, Option.some.injEq] at e
      rw [e]
  have hk : ∀ y, Fin w.heap.size W Aa Ab y → Fin w.heap.size W2 A' Ab y := fun y hy => hy.far hg (fun k e => .inl (ho k e)) hA (.inl rfl)
  refine ⟨A', cap', W2, hrun, ⟨hrow, h.b.far hg (fun g e e' => h.d g (ho g e') e), fun g e e' => ?_, fun l hl => ?_, fun l hl => hk l (h.fb l hl), ?_⟩, hk, hg.size⟩
  · rcases hA with rfl | rfl
    · exact h.d g e e'
    · rcases h.b.form with ⟨e2, _⟩ | ⟨g2, e2, _, hl2, _⟩
      · rw [e2] at e'; cases e'
      · rw [e2] at e'
        injection e with e
        injection e with e
        injection e' with e'
        injection e' with e'
        omega
  · rcases List.mem_append.1 hl with hl | hl
    · exact hk l (h.fa l hl)
    · rw [List.mem_singleton.1 hl]; exact hk x hx
  · exact h.bw.trans (h.a.grown hg h.bw.size)
/-- One list more to the document's. -/
theorem GvO.pushB (h : GvO w W Aa ca la Ab cb lb) (x : LRow) (hx : Fin w.heap.size W Aa Ab x) (hl : lb.length ≤ 1000) {m : Nat} (hm : W.cell? ⟨m, 0, none⟩ = some (.slice x.A x.rs.length x.cap)) :
    ∃ A' cap' W2, (Builtin.append_ #[27, 27] 27 #[.slice Ab lb.length cb, .slice (some ⟨m, 0, none⟩) 1 1]).run Try.prog W = .ok (.slice A' (lb.length + 1) cap') W2 ∧
      GvO w W2 Aa ca la A' cap' (lb ++ [x]) ∧ (∀ y, Fin w.heap.size W Aa Ab y → Fin w.heap.size W2 Aa A' y) ∧ W.heap.size ≤ W2.heap.size := by
  obtain ⟨A', cap', W2, hrun, hrow, hg, hA⟩ := h.b.append (P := Try.prog) Try.underlying27 infRl (by decide) (by decide) (m := m) (x := x) (by
    intro j hj
    have hj1 : j < 1 := hj
    obtain rfl : j = 0 := by omega
    exact hm) (by omega) h.bw.size 27
  have ho : ∀ k, (Value.slice Ab lb.length cb).ownBlock = some k → Ab = some ⟨k, 0, none⟩ := fun k e => by
    rcases h.b.form with ⟨rfl, _⟩ | ⟨g, rfl, _⟩
    · simp [Value.ownBlock] at e
    · simp only [Value.ownBlock, Option.some.injEq] at e
      rw [e]
  have hk : ∀ y, Fin w.heap.size W Aa Ab y → Fin w.heap.size W2 Aa A' y := fun y hy => hy.far hg (fun k e => .inr (.inl (ho k e))) (.inl rfl) hA
  refine ⟨A', cap', W2, hrun, ⟨h.a.far hg (fun g e e' => h.d g e (ho g e')), hrow, fun g e e' => ?_, fun l hl => hk l (h.fa l hl), fun l hl => ?_, ?_⟩, hk, hg.size⟩
  · rcases hA with rfl | rfl
    · exact h.d g e e'
    · rcases h.a.form with ⟨e2, _⟩ | ⟨g2, e2, _, hl2, _⟩
      · rw [e2] at e; cases e
      · rw [e2] at e
        injection e with e
        injection e with e
        injection e' with e'
        injection e' with e'
        omega
  · rcases List.mem_append.1 hl with hl | hl
    · exact hk l (h.fb l hl)
    · rw [List.mem_singleton.1 hl]; exact hk x hx
  · exact h.bw.trans (h.b.grown hg h.bw.size)
end
end Go.Proofs.Ytpmhfalhieinjaa
namespace Go.Proofs.Ytpmhfalhieinjaa
open Go.RowKit Rec Bk

structure GvI (wo W : World) (Ax : Option Addr) (cx : Nat) (xs : List Rc) (Ay : Option Addr) (cy : Nat) (ys : List Rc) : Prop where
  x : RRow W wo.heap.size 53 Ax cx xs
  y : RRow W wo.heap.size 52 Ay cy ys
  d : ∀ g, Ax = some ⟨g, 0, none⟩ → Ay ≠ some ⟨g, 0, none⟩
  bo : Below wo.heap.size wo W
section
variable {wo W W' : World} {Ax : Option Addr} {cx : Nat} {xs : List Rc} {Ay : Option Addr} {cy : Nat} {ys : List Rc}
theorem GvI.below (h : GvI wo W Ax cx xs Ay cy ys) (hb : Below W.heap.size W W') : GvI wo W' Ax cx xs Ay cy ys :=
  ⟨h.x.below hb, h.y.below hb, h.d, h.bo.trans (hb.mono h.bo.size)⟩
theorem GvI.start (wo : World) : GvI wo wo none 0 [] none 0 [] :=
  ⟨RRow.nil _ _ _, RRow.nil _ _ _, (fun g e => by cases e), Below.refl _ _⟩
theorem GvI.pushX (h : GvI wo W Ax cx xs Ay cy ys) (r : Rc) (hl : xs.length ≤ 1000) :
    ∃ A' cap' W2, (Builtin.append_ #[46, 46] 46 #[.slice Ax xs.length cx, .slice (some ⟨W.heap.size, 0, none⟩) 1 1]).run Try.prog (W.alloc (.cells #[.int .i64 r.k, .int .i64 r.s, .int .i64 r.a, .int .i64 r.b, .int .i64 r.c, .int .i64 r.d, .string r.body] 53)) = .ok (.slice A' (xs.length + 1) cap') W2 ∧
      GvI wo W2 A' cap' (xs ++ [r]) Ay cy ys := by
  have h1 := h.below (W' := W.alloc (.cells #[.int .i64 r.k, .int .i64 r.s, .int .i64 r.a, .int .i64 r.b, .int .i64 r.c, .int .i64 r.d, .string r.body] 53)) ((Below.refl _ _).alloc (Nat.le_refl _) _)
  obtain ⟨A', cap', W2, hrun, hrow, hg, hA⟩ := h1.x.app (RcAt.new W r _) (by omega) h1.bo.size
  refine ⟨A', cap', W2, hrun, hrow, h1.y.far hg (fun g e e' => h.d g (h1.x.cell e').2 e), fun g e e' => ?_, h1.bo.trans (h1.x.grown hg h1.bo.size)⟩
  rcases hA with rfl | rfl
  · exact h.d g e e'
  · rcases h1.y.form with ⟨e2, _⟩ | ⟨g2, e2, _, hl2, _⟩
    · rw [e2] at e'; cases e'
    · rw [e2] at e'
      injection e with e
      injection e with e
      injection e' with e'
      injection e' with e'
      omega
theorem GvI.pushY (h : GvI wo W Ax cx xs Ay cy ys) (r : Rc) (hl : ys.length ≤ 1000) :
    ∃ A' cap' W2, (Builtin.append_ #[49, 49] 49 #[.slice Ay ys.length cy, .slice (some ⟨W.heap.size, 0, none⟩) 1 1]).run Try.prog (W.alloc (.cells #[.int .i64 r.k, .int .i64 r.s, .int .i64 r.a, .int .i64 r.b, .int .i64 r.c, .int .i64 r.d, .string r.body] 52)) = .ok (.slice A' (ys.length + 1) cap') W2 ∧
      GvI wo W2 Ax cx xs A' cap' (ys ++ [r]) := by
  have h1 := h.below (W' := W.alloc (.cells #[.int .i64 r.k, .int .i64 r.s, .int .i64 r.a, .int .i64 r.b, .int .i64 r.c, .int .i64 r.d, .string r.body] 52)) ((Below.refl _ _).alloc (Nat.le_refl _) _)
  obtain ⟨A', cap', W2, hrun, hrow, hg, hA⟩ := h1.y.app6 (RcAt.new W r _) (by omega) h1.bo.size
  refine ⟨A', cap', W2, hrun, h1.x.far hg (fun g e e' => h.d g e (h1.y.cell e').2), hrow, fun g e e' => ?_, h1.bo.trans (h1.y.grown hg h1.bo.size)⟩
  rcases hA with rfl | rfl
  · exact h.d g e e'
  · rcases h1.x.form with ⟨e2, _⟩ | ⟨g2, e2, _, hl2, _⟩
    · rw [e2] at e; cases e
    · rw [e2] at e
      injection e with e
      injection e with e
      injection e' with e'
      injection e' with e'
      omega
theorem RRow.at0 {base cap : Nat} {t : TypeId} {A : Option Addr} {rs : List Rc} (h : RRow W base t A cap rs) : RecsAt W A rs := by
  rcases h.recs with h0 | ⟨b, e, hlt, hc⟩
  · exact .inl h0
  · exact .inr ⟨b, 0, e, hlt, fun i hi j hj => by rw [Nat.zero_add]; exact hc i hi j hj⟩
/-- Both rows are done: they lie in no block of the outer rows. -/
theorem GvI.fins {w : World} {Aa Ab : Option Addr} {ca cb : Nat} {la lb : List LRow} (h : GvI wo W Ax cx xs Ay cy ys) (ho : GvO w wo Aa ca la Ab cb lb) : Fin w.heap.size W Aa Ab ⟨Ax, cx, xs⟩ ∧ Fin w.heap.size W Aa Ab ⟨Ay, cy, ys⟩ := by
  have hne : ∀ g, wo.heap.size ≤ g → Aa ≠ some ⟨g, 0, none⟩ ∧ Ab ≠ some ⟨g, 0, none⟩ := fun g hg => by
    refine ⟨fun e => ?_, fun e => ?_⟩
    · rcases ho.a.form with ⟨e2, _⟩ | ⟨g2, e2, _, hl2, _⟩
      · rw [e2] at e; cases e
      · rw [e2] at e; injection e with e; injection e with e; omega
    · rcases ho.b.form with ⟨e2, _⟩ | ⟨g2, e2, _, hl2, _⟩
      · rw [e2] at e; cases e
      · rw [e2] at e; injection e with e; injection e with e; omega
  refine ⟨⟨h.x.at0, fun g off e => ?_⟩, ⟨h.y.at0, fun g off e => ?_⟩⟩
  · have e : Ax = some ⟨g, off, none⟩ := e
    rcases h.x.form with ⟨e2, _⟩ | ⟨g2, e2, hb2, hl2, _⟩
    · rw [e2] at e; cases e
    · rw [e2] at e; injection e with e; injection e with e
      exact ⟨by omega, (hne g (by omega)).1, (hne g (by omega)).2, by have := ho.bw.size; omega⟩
  · have e : Ay = some ⟨g, off, none⟩ := e
    rcases h.y.form with ⟨e2, _⟩ | ⟨g2, e2, hb2, hl2, _⟩
    · rw [e2] at e; cases e
    · rw [e2] at e; injection e with e; injection e with e
      exact ⟨by omega, (hne g (by omega)).1, (hne g (by omega)).2, by have := ho.bw.size; omega⟩
end
end Go.Proofs.Ytpmhfalhieinjaa
