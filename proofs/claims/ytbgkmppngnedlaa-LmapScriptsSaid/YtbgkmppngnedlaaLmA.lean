/- A map in memory: New, Get, Seq, Add. -/
import Derived.Test.YtbgkmppngnedlaaLmO
import Derived.IntWalk
import Derived.LoopTactic
namespace Go.Proofs.Ytbgkmppngnedlaa
open Go.RowKit Go.Maps

/-- Nothing else than two blocks has turned. -/
structure But2 (w w' : World) (g m : Nat) : Prop where
  os : w'.os = w.os
  tape : w'.tape = w.tape
  output : w'.output = w.output
  size : w.heap.size ≤ w'.heap.size
  block : ∀ k, k < w.heap.size → k ≠ g → k ≠ m → w'.heap[k]? = w.heap[k]?
theorem But2.refl (w : World) (g m : Nat) : But2 w w g m := ⟨rfl, rfl, rfl, Nat.le_refl _, fun _ _ _ _ => rfl⟩
theorem But2.trans {w w' w'' : World} {g m : Nat} (h : But2 w w' g m) (k : But2 w' w'' g m) : But2 w w'' g m :=
  ⟨k.os.trans h.os, k.tape.trans h.tape, k.output.trans h.output, Nat.le_trans h.size k.size, fun j hj a b => (k.block j (Nat.lt_of_lt_of_le hj h.size) a b).trans (h.block j hj a b)⟩
theorem But2.of_below {w w' : World} {g m : Nat} (h : Below w.heap.size w w') : But2 w w' g m := ⟨h.os, h.tape, h.output, h.size, fun k hk _ _ => h.block k hk⟩
theorem But2.of_grown {w w' : World} {g m r : Nat} (h : w.grownBy w' (some r)) (hr : r = g ∨ r = m) : But2 w w' g m :=
  ⟨h.os, h.tape, h.output, h.size, fun k hk a b => h.block k hk (fun e => by injection e with e; rcases hr with e2 | e2 <;> omega)⟩
theorem But2.below {B : Nat} {w w' : World} {g m : Nat} (h : But2 w w' g m) (hg : B ≤ g) (hm : B ≤ m) (hB : B ≤ w.heap.size) : Below B w w' := ⟨h.os, h.tape, h.output, h.size, fun k hk => h.block k (Nat.lt_of_lt_of_le hk hB) (by omega) (by omega)⟩
/-- A map of lmap. -/
structure LmAt (W : World) (g mb n : Nat) (m : Lm) : Prop where
  c0 : W.cell? ⟨g, 0, none⟩ = some (.map (some mb))
  c1 : W.cell? ⟨g, 1, none⟩ = some (.int .i64 m.q)
  c2 : W.cell? ⟨g, 2, none⟩ = some (.bool m.b)
  z1 : W.frozen? ⟨g, 1, none⟩ = false
  z2 : W.frozen? ⟨g, 2, none⟩ = false
  mp : MapE W mb n m.f
  ne : g ≠ mb
theorem LmAt.lt {W : World} {g mb n : Nat} {m : Lm} (h : LmAt W g mb n m) : g < W.heap.size ∧ mb < W.heap.size := ⟨lt_of_cell h.c0, h.mp.lt⟩
theorem LmAt.below {W W' : World} {g mb n : Nat} {m : Lm} (h : LmAt W g mb n m) (hb : Below W.heap.size W W') : LmAt W' g mb n m :=
  ⟨(hb.cell h.lt.1).trans h.c0, (hb.cell h.lt.1).trans h.c1, (hb.cell h.lt.1).trans h.c2, (hb.frozen h.lt.1).trans h.z1, (hb.frozen h.lt.1).trans h.z2, h.mp.below hb, h.ne⟩
theorem LmAt.mono {W : World} {g mb n n' : Nat} {m : Lm} (h : LmAt W g mb n m) (hn : n ≤ n') : LmAt W g mb n' m := ⟨h.c0, h.c1, h.c2, h.z1, h.z2, h.mp.mono hn, h.ne⟩
/-- What else turned lies elsewhere. -/
theorem LmAt.far {W W' : World} {g mb n g' mb' : Nat} {m : Lm} (h : LmAt W g mb n m) (hb : But2 W W' g' mb') (h1 : g ≠ g') (h2 : g ≠ mb') (h3 : mb ≠ g') (h4 : mb ≠ mb') : LmAt W' g mb n m := by
  have e1 : W'.heap[g]? = W.heap[g]? := hb.block g h.lt.1 h1 h2
  have e2 : W'.heap[mb]? = W.heap[mb]? := hb.block mb h.lt.2 h3 h4
  have hc : ∀ o, W'.cell? ⟨g, o, none⟩ = W.cell? ⟨g, o, none⟩ := fun o => World.cell?_of_block (a := ⟨g, o, none⟩) e1
  have hf : ∀ o, W'.frozen? ⟨g, o, none⟩ = W.frozen? ⟨g, o, none⟩ := fun o => by simp [World.frozen?, e1]
  obtain ⟨D, ⟨es, clock, hbk, rest⟩, hD⟩ := h.mp
  exact ⟨(hc 0).trans h.c0, (hc 1).trans h.c1, (hc 2).trans h.c2, (hf 1).trans h.z1, (hf 2).trans h.z2, ⟨D, ⟨es, clock, e2.trans hbk, rest⟩, hD⟩, h.ne⟩
theorem row_but2 {α : Type} {E : Enc α} {W W' : World} {base cap : Nat} {t : TypeId} {A : Option Addr} {xs : List α} {g m : Nat} (h : E.Row W base t A cap xs) (hb : But2 W W' g m) (hne : ∀ r, A = some ⟨r, 0, none⟩ → r ≠ g ∧ r ≠ m) : E.Row W' base t A cap xs := by
  refine ⟨h.1, ?_⟩
  rcases h.2 with hn | ⟨r, cap', cur, hv, hg, hgg, rest⟩
  · exact .inl hn
  · have hA : A = some ⟨r, 0, none⟩ := by injection hv
    exact .inr ⟨r, cap', cur, hv, hg, by rw [hb.block r (Array.getElem?_eq_some_iff.1 hgg).1 (hne r hA).1 (hne r hA).2]; exact hgg, rest⟩
end Go.Proofs.Ytbgkmppngnedlaa
