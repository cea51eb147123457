/- Lists of plain records turned to those that may be: the pure part, and how they lie. -/
import Derived.Test.YtpmhfalhieinjaaBkLists
import Derived.Test.YtpmhfalhieinjaaBkRP
import Derived.Test.YtpmhfalhieinjaaBkRRecs
namespace Go.Proofs.Ytpmhfalhieinjaa
open Go.RowKit Rec Bk

/-- A record as plain data. -/
structure PR where
  k : Int
  s : Int
  a : Int
  b : Int
  c : Int
  d : Int
instance : Inhabited PR := ⟨⟨0, 0, 0, 0, 0, 0⟩⟩
def prE : Enc PR := ⟨fun x => [.int .i64 x.k, .int .i64 x.s, .int .i64 x.a, .int .i64 x.b, .int .i64 x.c, .int .i64 x.d], 6, fun _ => rfl, fun x u hu => by
  simp only [List.mem_cons, List.not_mem_nil, or_false] at hu
  rcases hu with rfl | rfl | rfl | rfl | rfl | rfl <;> rfl⟩
/-- A list's place as an element of a list of lists. -/
def slE : Enc LRow := ⟨fun x => [.slice x.A x.rs.length x.cap], 1, fun _ => rfl, fun x u hu => by
  simp only [List.mem_cons, List.not_mem_nil, or_false] at hu
  rw [hu]; rfl⟩
theorem infLs : Enc.Inf Try.prog 46 1 24 := by unfold Enc.Inf; kernel_rfl
theorem infRl : Enc.Inf Try.prog 69 1 24 := by unfold Enc.Inf; kernel_rfl
theorem wf_of (n : Int) (h : 0 ≤ n ∧ n ≤ 70000) : WfI n := by
  unfold WfI
  exact WalkArith.wf_i64 (by omega)
def turnR (x : PR) : Rc := ⟨3 + x.k % 4, x.s % 1099511627776, x.a % 65536, x.b % 65536, x.c % 1099511627776, x.d % 65536, ⟨#[]⟩⟩
theorem turnR_ok (x : PR) : RcOk (turnR x) := by
  have h1 := Int.emod_nonneg x.k (show (4 : Int) ≠ 0 by decide)
  have h2 := Int.emod_lt_of_pos x.k (show (0 : Int) < 4 by decide)
  have h3 := Int.emod_nonneg x.s (show (1099511627776 : Int) ≠ 0 by decide)
  have h4 := Int.emod_lt_of_pos x.s (show (0 : Int) < 1099511627776 by decide)
  have h5 := Int.emod_nonneg x.a (show (65536 : Int) ≠ 0 by decide)
  have h6 := Int.emod_lt_of_pos x.a (show (0 : Int) < 65536 by decide)
  refine ⟨?_, ?_, ?_⟩
  · exact wf_of _ (by show 0 ≤ 3 + x.k % 4 ∧ 3 + x.k % 4 ≤ 70000; omega)
  · exact wf_of _ (by show 0 ≤ x.a % 65536 ∧ x.a % 65536 ≤ 70000; omega)
  · show 0 ≤ x.s % 1099511627776 ∧ x.s % 1099511627776 ≤ 4398046511104
    omega
theorem turnR_pos (x : PR) : 0 ≤ (turnR x).a ∧ 0 ≤ (turnR x).b ∧ 0 ≤ (turnR x).d :=
  ⟨Int.emod_nonneg x.a (by decide), Int.emod_nonneg x.b (by decide), Int.emod_nonneg x.d (by decide)⟩
/-- Where a list of plain records lies. -/
structure PRow where
  A : Option Addr
  cap : Nat
  xs : List PR
instance : Inhabited PRow := ⟨⟨none, 0, []⟩⟩
def PIn (W : World) (A : Option Addr) (ls : List PRow) : Prop :=
  ls = [] ∨ ∃ b off, A = some ⟨b, off, none⟩ ∧ b < W.heap.size ∧ ∀ (i : Nat) (h : i < ls.length), W.cell? ⟨b, off + i, none⟩ = some (.slice ls[i].A ls[i].xs.length ls[i].cap) ∧ prE.In W ls[i].A ls[i].xs
theorem PIn.below {W W' : World} {A : Option Addr} {ls : List PRow} (h : PIn W A ls) (hb : Below W.heap.size W W') : PIn W' A ls := by
  rcases h with h | ⟨b, off, rfl, hlt, hc⟩
  · exact .inl h
  · exact .inr ⟨b, off, rfl, Nat.lt_of_lt_of_le hlt hb.size, fun i hi => ⟨(hb.cell (p := ⟨b, off + i, none⟩) hlt).trans (hc i hi).1, (hc i hi).2.below hb⟩⟩
theorem PIn.at_ {W : World} {A : Option Addr} {ls : List PRow} (h : PIn W A ls) {i : Nat} (hi : i < ls.length) : ∃ b off, A = some ⟨b, off, none⟩ ∧ b < W.heap.size ∧ W.cell? ⟨b, off + i, none⟩ = some (.slice ls[i].A ls[i].xs.length ls[i].cap) ∧ prE.In W ls[i].A ls[i].xs := by
  rcases h with rfl | ⟨b, off, rfl, hlt, hc⟩
  · simp at hi
  · exact ⟨b, off, rfl, hlt, (hc i hi).1, (hc i hi).2⟩
theorem pr_at {W : World} {A : Option Addr} {xs : List PR} (h : prE.In W A xs) {i : Nat} (hi : i < xs.length) : ∃ b off, A = some ⟨b, off, none⟩ ∧ b < W.heap.size ∧ W.cell? ⟨b, off + i * 6, none⟩ = some (.int .i64 xs[i].k) ∧ W.cell? ⟨b, off + i * 6 + 1, none⟩ = some (.int .i64 xs[i].s) ∧ W.cell? ⟨b, off + i * 6 + 2, none⟩ = some (.int .i64 xs[i].a) ∧ W.cell? ⟨b, off + i * 6 + 3, none⟩ = some (.int .i64 xs[i].b) ∧ W.cell? ⟨b, off + i * 6 + 4, none⟩ = some (.int .i64 xs[i].c) ∧ W.cell? ⟨b, off + i * 6 + 5, none⟩ = some (.int .i64 xs[i].d) := by
  obtain ⟨b, off, e, hlt, h⟩ := h.at_ hi
  exact ⟨b, off, e, hlt, h 0 (by decide), h 1 (by decide), h 2 (by decide), h 3 (by decide), h 4 (by decide), h 5 (by decide)⟩
/-- What given makes of them. -/
def giv1 (xs : List PR) : List Rc := (xs.take 100).map turnR
def givL (ls : List PRow) : List (List Rc) := (ls.take 8).map (fun l => giv1 l.xs)
theorem giv1_len (xs : List PR) : (giv1 xs).length ≤ 100 := by unfold giv1; rw [List.length_map, List.length_take]; omega
theorem giv1_ok {xs : List PR} {x : Rc} (h : x ∈ giv1 xs) : RcOk x ∧ 0 ≤ x.a ∧ 0 ≤ x.b ∧ 0 ≤ x.d := by
  obtain ⟨p, _, rfl⟩ := List.mem_map.1 h
  exact ⟨turnR_ok p, turnR_pos p⟩
theorem flatL_rs (l : List LRow) : flatL l = (l.map LRow.rs).flatten := by unfold flatL; rw [List.flatMap_def]
theorem giv_ok {ls : List PRow} {la : List LRow} (h : la.map LRow.rs = givL ls) : ListsOk la ∧ PosL (flatL la) := by
  have hl : la.length ≤ 8 := by
    have := congrArg List.length h
    unfold givL at this
    rw [List.length_map, List.length_map, List.length_take] at this
    omega
  have hm : ∀ l ∈ la, ∃ p : PRow, l.rs = giv1 p.xs := fun l hlm => by
    have : l.rs ∈ la.map LRow.rs := List.mem_map.2 ⟨l, hlm, rfl⟩
    rw [h] at this
    obtain ⟨p, _, e⟩ := List.mem_map.1 this
    exact ⟨p, e.symm⟩
  refine ⟨⟨by omega, fun l hlm => ?_⟩, fun x hx => ?_⟩
  · obtain ⟨p, e⟩ := hm l hlm
    rw [e]
    exact ⟨by have := giv1_len p.xs; omega, fun x hx => (giv1_ok hx).1⟩
  · obtain ⟨l, hlm, hxl⟩ := List.mem_flatMap.1 hx
    obtain ⟨p, e⟩ := hm l hlm
    have hx' : x ∈ l.rs := hxl
    rw [e] at hx'
    exact (giv1_ok hx').2
end Go.Proofs.Ytpmhfalhieinjaa
