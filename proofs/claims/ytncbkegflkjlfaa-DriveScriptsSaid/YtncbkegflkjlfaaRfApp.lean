/- append of one block to a zone's blocks. -/
import Derived.Test.YtncbkegflkjlfaaRfDo
import Derived.Maps.AppendAt
namespace Go.Proofs.Ytncbkegflkjlfaa
open Go.RowKit Zon Drv

theorem infoStr : (Try.prog.info? 9).map (fun i => (i.zero, i.size, i.bytes)) = some (some (.string ByteArray.empty), 1, 16) := by kernel_rfl
theorem blk_append (W : World) (base : Nat) (ty : TypeId) (v : Value) (xs : List Value) (hown : W.ownsRow base 9 1 v xs.length xs) (m : Nat) (y : ByteArray) (hc : W.cell? ⟨m, 0, none⟩ = some (.string y)) (hl : xs.length ≤ 100000) (hb : base ≤ W.heap.size) :
    ∃ v' W', (Builtin.append_ #[89, 89] ty #[v, .slice (some ⟨m, 0, none⟩) 1 1]).run Try.prog W = .ok v' W' ∧ W'.ownsRow base 9 1 v' (xs ++ [Value.string y]).length (xs ++ [Value.string y]) ∧ W.grownBy W' v.ownBlock ∧ (v'.ownBlock = v.ownBlock ∨ v'.ownBlock = some W.heap.size) := by
  obtain ⟨i0, hi, hz0, hz1, hz2⟩ := info_parts infoStr
  obtain ⟨v', w', h1, h2, h3, _, h5⟩ := run_append_own_at (P := Try.prog) W base 89 ty 9 i0 (.string ByteArray.empty) 1 16 Try.underlying89 hi hz0 hz1 hz2 rfl (by decide) v xs.length xs hown ⟨m, 0, none⟩ 1 1 [.string y] (by simp)
    (fun j u hu => by
      match j, hu with
      | 0, hu =>
        simp only [List.getElem?_cons_zero, Option.some.injEq] at hu
        subst hu
        exact hc)
    (by intro u hu; rw [List.mem_singleton] at hu; subst hu; rfl) (by unfold maxLen; omega) (by omega) hb
  rw [show xs.length + 1 = (xs ++ [Value.string y]).length by simp] at h2
  exact ⟨v', w', h1, h2, h3, h5⟩
/-- A zone's bytes set. -/
def wrt (D : Dr) (i : Nat) (x : List UInt8) : Dr := { D with cs := D.cs.set i x }
theorem wrt_len (D : Dr) (i : Nat) (x : List UInt8) : (wrt D i x).cs.length = D.cs.length := List.length_set ..
theorem wrt_c {D : Dr} {i : Nat} (hi : i < D.cs.length) (x : List UInt8) : (wrt D i x).c i = x := at_set hi x []
theorem wrt_twice (D : Dr) (i : Nat) (x y : List UInt8) : { wrt D i x with cs := (wrt D i x).cs.set i y } = wrt D i y := by
  unfold wrt
  show Dr.mk D.m ((D.cs.set i x).set i y) D.ls D.dead = _
  rw [List.set_set]
theorem wrt_same {D : Dr} {i : Nat} (hi : i < D.cs.length) : wrt D i (D.c i) = D := by
  unfold wrt
  show Dr.mk D.m (D.cs.set i (D.c i)) D.ls D.dead = D
  rw [show D.c i = D.cs[i] from at_get hi [], List.set_getElem_self]
/-- A drive of the document's and the command's box, the drive's blocks and newer ones apart from the box. -/
structure RxS (w W : World) (F : Nat → Prop) (d : Nat) (D : Dr) (k zz a n : Int) : Prop where
  ex : ∃ B F', RLies W d B D ∧ RLies.In F' d B D.cs.length ∧ ∀ b, F' b → F b ∨ w.heap.size < b
  t : Turn w W F
  x : Bx w W w.heap.size k zz a n
theorem RxS.post {w W : World} {F : Nat → Prop} {d : Nat} {D : Dr} {k zz a n : Int} (h : RxS w W F d D k zz a n) : (∃ F', RAt W F' d D ∧ ∀ b, F' b → F b ∨ w.heap.size ≤ b) ∧ Turn w W F := by
  obtain ⟨⟨B, F', h1, h2, h3⟩, ht, _⟩ := h
  exact ⟨⟨F', ⟨B, h1, h2⟩, fun b hb => (h3 b hb).imp id Nat.le_of_lt⟩, ht⟩
end Go.Proofs.Ytncbkegflkjlfaa
