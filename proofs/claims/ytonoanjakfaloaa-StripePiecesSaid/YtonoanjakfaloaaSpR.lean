/- A stripe's row in a box of its own: loaded and stored whole. -/
import Derived.Test.YtonoanjakfaloaaSpA
import Derived.Laws.Rows
import Derived.Laws.Tables
namespace Go.Proofs.Ytonoanjakfaloaa
open Go.RowKit Sp

/-- A row in a box. -/
def SrAt (W : World) (g : Nat) (L : List ByteArray) (n : Int) : Prop := W.heap[g]? = some (.cells (cellsL L n).toArray 27 (0, 0)) ∧ L.length ≤ 15
theorem SrAt.lt {W : World} {g : Nat} {L : List ByteArray} {n : Int} (h : SrAt W g L n) : g < W.heap.size := (Array.getElem?_eq_some_iff.1 h.1).1
theorem SrAt.below {W W' : World} {g : Nat} {L : List ByteArray} {n : Int} (h : SrAt W g L n) (hb : Below W.heap.size W W') : SrAt W' g L n := ⟨(hb.block g h.lt).trans h.1, h.2⟩
theorem SrAt.other {W W' : World} {g : Nat} {L : List ByteArray} {n : Int} (h : SrAt W g L n) {x : Option Nat} (hg : W.grownBy W' x) (hne : x ≠ some g) : SrAt W' g L n :=
  ⟨(hg.block g h.lt (fun e => hne e.symm)).trans h.1, h.2⟩
theorem SrAt.new (W : World) {L : List ByteArray} {n : Int} (h : L.length ≤ 15) : SrAt (W.alloc (.cells (cellsL L n).toArray 27)) W.heap.size L n := ⟨heap_alloc_new W _, h⟩
theorem SrAt.zero (W : World) : SrAt (W.alloc (.cells #[.string ⟨#[]⟩, .string ⟨#[]⟩, .string ⟨#[]⟩, .string ⟨#[]⟩, .string ⟨#[]⟩, .string ⟨#[]⟩, .string ⟨#[]⟩, .string ⟨#[]⟩, .string ⟨#[]⟩, .string ⟨#[]⟩, .string ⟨#[]⟩, .string ⟨#[]⟩, .string ⟨#[]⟩, .string ⟨#[]⟩, .string ⟨#[]⟩, .int .i64 0, .int .i64 0] 27)) W.heap.size [] 0 := SrAt.new W (L := []) (n := 0) (by decide)
theorem SrAt.cell {W : World} {g : Nat} {L : List ByteArray} {n : Int} (h : SrAt W g L n) (j : Nat) : W.cell? ⟨g, j, none⟩ = (cellsL L n)[j]? := by
  rw [cell_of_row W g j _ _ _ h.1, List.getElem?_toArray]
theorem SrAt.cnt {W : World} {g : Nat} {L : List ByteArray} {n : Int} (h : SrAt W g L n) : W.cell? ⟨g, 15, none⟩ = some (.int .i64 (L.length : Int)) := (h.cell 15).trans (cells_cnt h.2)
theorem SrAt.size {W : World} {g : Nat} {L : List ByteArray} {n : Int} (h : SrAt W g L n) : W.cell? ⟨g, 16, none⟩ = some (.int .i64 n) := (h.cell 16).trans (cells_size h.2)
theorem SrAt.str {W : World} {g : Nat} {L : List ByteArray} {n : Int} (h : SrAt W g L n) {k : Nat} (hk : k < L.length) : W.cell? ⟨g, k, none⟩ = some (.string L[k]) := (h.cell k).trans (cells_str h.2 hk)
theorem SrAt.no {W : World} {g : Nat} {L : List ByteArray} {n : Int} (h : SrAt W g L n) {k : Nat} (hk : L.length ≤ k) (h15 : k < 15) : W.cell? ⟨g, k, none⟩ = some (.string ⟨#[]⟩) := (h.cell k).trans (cells_no h.2 hk h15)
theorem SrAt.free {W : World} {g : Nat} {L : List ByteArray} {n : Int} (h : SrAt W g L n) (j : Nat) : W.frozen? ⟨g, j, none⟩ = false := by simp [World.frozen?, h.1]
theorem SrAt.add {W : World} {g : Nat} {L : List ByteArray} {n : Int} (h : SrAt W g L n) (hl : L.length < 15) (s : ByteArray) (c : Int) (hc : c = (L.length : Int) + 1) :
    SrAt ((W.setCell ⟨g, L.length, none⟩ (.string s)).setCell ⟨g, 15, none⟩ (.int .i64 c)) g (L ++ [s]) n := by
  refine ⟨?_, by simp; omega⟩
  rw [setCell_eq_setRow W g _ _ _ _ _ h.1, setCell_eq_setRow _ g _ _ _ _ _ (setRow_heap W g _ _ _ _ h.1), setRow_setRow, setRow_heap W g _ _ _ _ h.1, cells_add hl s, hc]
  congr 2
  simp
theorem SrAt.far {W : World} {g c : Nat} {L : List ByteArray} {n : Int} (h : SrAt W g L n) (hne : c ≠ g) (j : Nat) (v : Value) : SrAt (W.setCell ⟨c, j, none⟩ v) g L n :=
  ⟨(Below.heap_setCell W ⟨c, j, none⟩ v g (fun e => hne e.symm)).trans h.1, h.2⟩
theorem sizeS : (Try.prog.info? 27).map (·.size) = some 17 := by kernel_rfl
theorem undS : ∃ fs, Try.prog.underlying 27 = some (.struct fs) := ⟨_, Try.underlying27⟩
theorem ones {L : List ByteArray} {n : Int} : (cellsL L n).toArray.all (·.oneCell') = true := by
  rw [Array.all_eq_true_iff_forall_mem]
  intro u hu
  unfold cellsL at hu
  simp only [List.mem_toArray, List.mem_append, List.mem_map, List.mem_replicate, List.mem_cons, List.not_mem_nil, or_false] at hu
  rcases hu with (⟨a, _, rfl⟩ | ⟨_, rfl⟩) | rfl | rfl <;> rfl
theorem lens {L : List ByteArray} {n : Int} (h : L.length ≤ 15) : (cellsL L n).toArray.size = 17 := by rw [List.size_toArray]; exact cellsL_len h
theorem wpList_loadS {ops : Array Oper} {rest : List Oper} {o : Oper} {a : Act} {w : World} {Q : Exit → Act → World → Prop} (hw : Region.wanted o (yielded ops a.tmps) = true) (x : Operand) (ho : o.op = .load 27 x)
    {g : Nat} {L : List ByteArray} {n : Int} (hg : SrAt w g L n) (hx : a.eval x = .pointer (some ⟨g, 0, none⟩)) (h : wpList Try.prog ops Q rest (a.put o.dst (rowV L n)) w) : wpList Try.prog ops Q (o :: rest) a w :=
  wpList_step fun K hK => by
    rw [if_pos hw]
    obtain ⟨fs, hu⟩ := undS
    exact wp_load_row 27 x ho g hx 27 _ (0, 0) _ hg.1 hu rfl (by rw [sizeS, lens hg.2]) (hK _ _ h)
theorem wpList_storeS {ops : Array Oper} {rest : List Oper} {o : Oper} {a : Act} {w : World} {Q : Exit → Act → World → Prop} (hw : Region.wanted o (yielded ops a.tmps) = true) (x y : Operand) (ho : o.op = .store 27 x y)
    {g : Nat} {L L' : List ByteArray} {n n' : Int} (hg : SrAt w g L n) (hx : a.eval x = .pointer (some ⟨g, 0, none⟩)) (hy : a.eval y = rowV L' n') (hL : L'.length ≤ 15)
    (h : ∀ w', SrAt w' g L' n' → w.grownBy w' (some g) → wpList Try.prog ops Q rest (a.put o.dst undef) w') : wpList Try.prog ops Q (o :: rest) a w :=
  wpList_step fun K hK => by
    rw [if_pos hw]
    refine wp_store_row 27 x y ho g _ hx hy 27 _ hg.1 (by rw [sizeS, lens hL]) (by rw [lens hg.2, lens hL]) ones (hK _ _ (h _ ⟨setRow_heap w g _ _ _ _ hg.1, hL⟩ ?_))
    refine ⟨rfl, rfl, rfl, by simp, fun k _ hk => ?_⟩
    show (w.heap.modify g _)[k]? = w.heap[k]?
    rw [Array.getElem?_modify, if_neg (by intro e; exact hk (by rw [e]))]
theorem results_S2 {fn : Func} {p q : Tmp} (h : fn.results = #[.cell p 27, .tmp q]) {tmps : Array Value} {w : World} {g : Nat} {L : List ByteArray} {n : Int} {v : Value} (hg : SrAt w g L n)
    (hp : tmps.getD p undef = .pointer (some ⟨g, 0, none⟩)) (hq : tmps.getD q undef = v) : (results fn tmps).run Try.prog w = .ok (.tuple #[rowV L n, v]) w := by
  obtain ⟨fs, hu⟩ := undS
  have h1 := run_loadVar_row w g 27 27 _ (0, 0) _ hg.1 hu rfl (by rw [sizeS, lens hg.2])
  have hp' : tmps[p]?.getD undef = .pointer (some ⟨g, 0, none⟩) := by simpa using hp
  have hq' : tmps[q]?.getD undef = v := by simpa using hq
  simp [results, h, hp', hq', asAddr, h1, rowV]
end Go.Proofs.Ytonoanjakfaloaa
