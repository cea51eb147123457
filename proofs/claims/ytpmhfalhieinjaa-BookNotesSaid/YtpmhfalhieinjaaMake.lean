/- Slices that a call makes: noughts. -/
import Derived.Test.YtpmhfalhieinjaaBytes
import Derived.Laws.MakeOwn
namespace Go.Proofs.Ytpmhfalhieinjaa
open Go.RowKit

theorem run_make_m {P : Program} (t e : TypeId) (i : TypeInfo) (z : Value) (ht : P.underlying t = some (.slice e)) (hi : P.info? e = some i) (hz : i.zero = some z)
    (kl kc : IntKind) (n c : Nat) (hnc : n ≤ c) (hbytes : i.bytes * c ≤ 281474976710656) (h63 : c ≤ 9223372036854775807) (w : World) :
    (Instr.makeSlice t (.int kl (n : Int)) (.int kc (c : Int))).run P w = .ok (.slice (some ⟨w.heap.size, 0, none⟩) n c) (w.alloc (.cells (madeCells z.cells (c * i.size)) e)) := by
  have hb : (i.bytes : Int) * (c : Int) ≤ 281474976710656 := by
    have h : ((i.bytes * c : Nat) : Int) ≤ 281474976710656 := by omega
    rwa [Int.natCast_mul] at h
  have hr := run_make (P := P) w t e i z ht hi hz kl kc n c (by omega) (by omega) hb (by omega)
  simp only [Int.toNat_natCast] at hr
  exact hr

theorem made_noughts (w : World) (e : TypeId) (v : Value) (k j : Nat) (hj : j < k) : (w.alloc (.cells (madeCells #[v] k) e)).cell? ⟨w.heap.size, j, none⟩ = some v := by
  rw [World.cell?_alloc_new, ← Array.getElem?_toList, toList_madeCells_one]
  simp [hj]
theorem made_free (w : World) (e : TypeId) (v : Value) (k j : Nat) : (w.alloc (.cells (madeCells #[v] k) e)).frozen? ⟨w.heap.size, j, none⟩ = false := by
  have := World.frozen?_alloc_mark w (madeCells #[v] k) e 0 0 j
  exact this.trans (by simp)
end Go.Proofs.Ytpmhfalhieinjaa
