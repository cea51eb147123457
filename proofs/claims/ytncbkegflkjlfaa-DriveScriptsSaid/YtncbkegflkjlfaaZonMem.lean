/- Zones in memory: what the blocks of a machine hold. -/
import Derived.Test.YtncbkegflkjlfaaBytes
import Derived.Test.YtncbkegflkjlfaaZonMath
import Derived.RangeFuncBox
import Derived.Maps.AppendAt
import Derived.Deep.AppendLies
namespace Go.Proofs.Ytncbkegflkjlfaa
open Go.RowKit Zon

/-- The cells of a row of zones. -/
def ZAt (w : World) (z : Nat) (zs : List Zn) : Prop := ∀ i (h : i < zs.length), w.cell? ⟨z, i * 2, none⟩ = some (.int .i64 zs[i].s) ∧ w.cell? ⟨z, i * 2 + 1, none⟩ = some (.int .i64 zs[i].l) ∧ w.frozen? ⟨z, i * 2, none⟩ = false ∧ w.frozen? ⟨z, i * 2 + 1, none⟩ = false
/-- A machine lies in block g, its zones in block z. -/
structure MAt (w : World) (g z : Nat) (m : Mc) : Prop where
  c0 : ∃ cap, w.cell? ⟨g, 0, none⟩ = some (.slice (some ⟨z, 0, none⟩) m.zs.length cap)
  c1 : w.cell? ⟨g, 1, none⟩ = some (.int .i64 m.b)
  c2 : w.cell? ⟨g, 2, none⟩ = some (.int .i64 m.o)
  c3 : w.cell? ⟨g, 3, none⟩ = some (.int .i64 m.a)
  ne : g ≠ z
  zl : z < w.heap.size
  za : ZAt w z m.zs

theorem MAt.gl {w : World} {g z : Nat} {m : Mc} (h : MAt w g z m) : g < w.heap.size := lt_of_cell h.c1
theorem ZAt.kept {w w' : World} {z : Nat} {zs : List Zn} {row : Option Nat} (h : ZAt w z zs) (hz : z < w.heap.size) (hg : w.grownBy w' row) (hr : row ≠ some z) : ZAt w' z zs := fun i hi => by
  have hb := hg.block z hz (Ne.symm hr)
  obtain ⟨h1, h2, h3, h4⟩ := h i hi
  exact ⟨(World.cell?_of_block (a := ⟨z, i * 2, none⟩) hb).trans h1, (World.cell?_of_block (a := ⟨z, i * 2 + 1, none⟩) hb).trans h2, (World.frozen?_of_block (a := ⟨z, i * 2, none⟩) hb).trans h3, (World.frozen?_of_block (a := ⟨z, i * 2 + 1, none⟩) hb).trans h4⟩
theorem MAt.kept {w w' : World} {g z : Nat} {m : Mc} {row : Option Nat} (h : MAt w g z m) (hg : w.grownBy w' row) (hz : row ≠ some z) (hg' : row ≠ some g) : MAt w' g z m := by
  have hb := hg.block g h.gl (Ne.symm hg')
  obtain ⟨⟨cap, c0⟩, c1, c2, c3, ne, zl, za⟩ := h
  exact ⟨⟨cap, (World.cell?_of_block (a := ⟨g, 0, none⟩) hb).trans c0⟩, (World.cell?_of_block (a := ⟨g, 1, none⟩) hb).trans c1, (World.cell?_of_block (a := ⟨g, 2, none⟩) hb).trans c2, (World.cell?_of_block (a := ⟨g, 3, none⟩) hb).trans c3, ne,
    Nat.lt_of_lt_of_le zl hg.size, za.kept zl hg hz⟩
theorem grown_of_below {w w' : World} (h : Below w.heap.size w w') (row : Option Nat) : w.grownBy w' row := ⟨h.os, h.tape, h.output, h.size, fun k hk _ => h.block k hk⟩
theorem MAt.below {w w' : World} {g z : Nat} {m : Mc} (h : MAt w g z m) (hb : Below w.heap.size w w') : MAt w' g z m := h.kept (grown_of_below hb none) (by simp) (by simp)
theorem grownBy_set (w : World) (a : Addr) (u : Value) : w.grownBy (w.setCell a u) (some a.block) :=
  ⟨rfl, rfl, rfl, by simp [World.setCell], fun k _ hk => Below.heap_setCell _ _ _ _ (fun e => hk (by rw [e]))⟩
/-- A store into a zone. -/
theorem MAt.set_s {w : World} {g z : Nat} {m : Mc} (h : MAt w g z m) {i : Nat} (hi : i < m.zs.length) (x : Int) : MAt (w.setCell ⟨z, i * 2, none⟩ (.int .i64 x)) g z (m.with (m.zs.set i ⟨x, (zAt m.zs i).l⟩)) := by
  have hb := (grownBy_set w ⟨z, i * 2, none⟩ (.int .i64 x)).block g h.gl (by simpa using h.ne)
  obtain ⟨⟨cap, c0⟩, c1, c2, c3, ne, zl, za⟩ := h
  refine ⟨⟨cap, ?_⟩, (World.cell?_of_block (a := ⟨g, 1, none⟩) hb).trans c1, (World.cell?_of_block (a := ⟨g, 2, none⟩) hb).trans c2, (World.cell?_of_block (a := ⟨g, 3, none⟩) hb).trans c3, ne, by simpa [World.setCell] using zl, ?_⟩
  · show _ = some (Value.slice _ (m.zs.set i _).length cap)
    rw [List.length_set]
    exact (World.cell?_of_block (a := ⟨g, 0, none⟩) hb).trans c0
  · intro j hj
    have hj' : j < m.zs.length := by simpa [Mc.with] using hj
    obtain ⟨h1, h2, h3, h4⟩ := za j hj'
    obtain ⟨k1, k2, k3, k4⟩ := za i hi
    simp only [World.frozen?_setCell]
    refine ⟨?_, ?_, h3, h4⟩
    · by_cases e : i = j
      · subst e
        rw [World.cell?_setCell_same' _ _ _ (by rw [k1]; rfl)]
        simp [Mc.with]
      · rw [World.cell?_setCell_other _ _ _ _ (by intro e'; injection e' with _ e'; omega), h1]
        simp [Mc.with, List.getElem_set_ne e]
    · rw [World.cell?_setCell_other _ _ _ _ (by intro e'; injection e' with _ e'; omega), h2]
      by_cases e : i = j
      · subst e
        simp [Mc.with, zAt_get hi]
      · simp [Mc.with, List.getElem_set_ne e]
theorem MAt.set_l {w : World} {g z : Nat} {m : Mc} (h : MAt w g z m) {i : Nat} (hi : i < m.zs.length) (x : Int) : MAt (w.setCell ⟨z, i * 2 + 1, none⟩ (.int .i64 x)) g z (m.with (m.zs.set i ⟨(zAt m.zs i).s, x⟩)) := by
  have hb := (grownBy_set w ⟨z, i * 2 + 1, none⟩ (.int .i64 x)).block g h.gl (by simpa using h.ne)
  obtain ⟨⟨cap, c0⟩, c1, c2, c3, ne, zl, za⟩ := h
  refine ⟨⟨cap, ?_⟩, (World.cell?_of_block (a := ⟨g, 1, none⟩) hb).trans c1, (World.cell?_of_block (a := ⟨g, 2, none⟩) hb).trans c2, (World.cell?_of_block (a := ⟨g, 3, none⟩) hb).trans c3, ne, by simpa [World.setCell] using zl, ?_⟩
  · show _ = some (Value.slice _ (m.zs.set i _).length cap)
    rw [List.length_set]
    exact (World.cell?_of_block (a := ⟨g, 0, none⟩) hb).trans c0
  · intro j hj
    have hj' : j < m.zs.length := by simpa [Mc.with] using hj
    obtain ⟨h1, h2, h3, h4⟩ := za j hj'
    obtain ⟨k1, k2, k3, k4⟩ := za i hi
    simp only [World.frozen?_setCell]
    refine ⟨?_, ?_, h3, h4⟩
    · rw [World.cell?_setCell_other _ _ _ _ (by intro e'; injection e' with _ e'; omega), h1]
      by_cases e : i = j
      · subst e
        simp [Mc.with, zAt_get hi]
      · simp [Mc.with, List.getElem_set_ne e]
    · by_cases e : i = j
      · subst e
        rw [World.cell?_setCell_same' _ _ _ (by rw [k2]; rfl)]
        simp [Mc.with]
      · rw [World.cell?_setCell_other _ _ _ _ (by intro e'; injection e' with _ e'; omega), h2]
        simp [Mc.with, List.getElem_set_ne e]

theorem bput {B : Nat} {a w : World} (h : Below B a w) {b : Nat} (hb : B ≤ b) {o : Nat} {v : Value} : Below B a (w.setCell ⟨b, o, none⟩ v) := h.setCell (by exact hb) v
/-- What a call of a machine's does to memory: its own zones alone may turn. -/
def Only (w w' : World) (z : Nat) : Prop := w.grownBy w' (some z)
theorem Only.refl (w : World) (z : Nat) : Only w w z := ⟨rfl, rfl, rfl, Nat.le_refl _, fun _ _ _ => rfl⟩
theorem Only.trans {a b c : World} {z : Nat} (h : Only a b z) (k : Only b c z) : Only a c z :=
  ⟨k.os.trans h.os, k.tape.trans h.tape, k.output.trans h.output, Nat.le_trans h.size k.size, fun i hi hn => (k.block i (Nat.lt_of_lt_of_le hi h.size) hn).trans (h.block i hi hn)⟩
theorem Only.of_below {w w' : World} (h : Below w.heap.size w w') (z : Nat) : Only w w' z := grown_of_below h _
theorem Only.alloc {a w : World} {z : Nat} (h : Only a w z) (o : Obj) : Only a (w.alloc o) z := h.trans (World.grownBy_alloc _ _ _)
theorem Only.set {a w : World} {z : Nat} (h : Only a w z) (o : Nat) (u : Value) : Only a (w.setCell ⟨z, o, none⟩ u) z := h.trans (grownBy_set w ⟨z, o, none⟩ u)
theorem Only.drew {a w : World} {z : Nat} (h : Only a w z) : Only a w.drew z := h.trans ⟨rfl, rfl, rfl, Nat.le_refl _, fun _ _ _ => rfl⟩
theorem Only.drewN {a w : World} {z : Nat} (h : Only a w z) (n : Nat) : Only a (w.drewN n) z := h.trans ⟨rfl, rfl, rfl, Nat.le_refl _, fun _ _ _ => rfl⟩
theorem Only.cell {w w' : World} {z : Nat} (h : Only w w' z) {b o : Nat} {v : Value} (hc : w.cell? ⟨b, o, none⟩ = some v) (hb : b ≠ z) : w'.cell? ⟨b, o, none⟩ = some v :=
  (World.cell?_of_block (a := ⟨b, o, none⟩) (h.block b (lt_of_cell hc) (by simpa using hb))).trans hc
theorem Only.below {w w' : World} {z : Nat} (h : Only w w' z) {B : Nat} (hB : B ≤ z) (hw : B ≤ w.heap.size) : Below B w w' := ⟨h.os, h.tape, h.output, h.size, fun k hk => h.block k (by omega) (by simp; omega)⟩
theorem Only.frozen {w w' : World} {z : Nat} (h : Only w w' z) {b o : Nat} (hlt : b < w.heap.size) (hb : b ≠ z) : w'.frozen? ⟨b, o, none⟩ = w.frozen? ⟨b, o, none⟩ :=
  World.frozen?_of_block (a := ⟨b, o, none⟩) (h.block b hlt (by simpa using hb))
theorem MAt.only {w w' : World} {g z z' : Nat} {m : Mc} (h : MAt w g z m) (hg : Only w w' z') (hz : z' ≠ z) (hg' : z' ≠ g) : MAt w' g z m := h.kept hg (by simpa using hz) (by simpa using hg')
end Go.Proofs.Ytncbkegflkjlfaa
