/- Bytes that are turned. -/
import Derived.Test.YtbgkmppngnedlaaDoorOBase
import Derived.Test.YtbgkmppngnedlaaDoorOMath
namespace Go.Proofs.YtbgkmppngnedlaaDoor
open Go.RowKit Crc
theorem u8_xor_bytes (a b : UInt8) : bits .xor .u8 (a.toNat : Int) (b.toNat : Int) = ((a ^^^ b).toNat : Int) := by
  rw [u8_xor_nat _ _ a.toNat_lt b.toNat_lt, UInt8.toNat_xor]
/-- What stands in memory with k of the four bytes turned. -/
def Told (w wr : World) (g n B : Nat) (l bs : List UInt8) (p k : Nat) : Prop :=
  l.length = n ∧ bs.length = 4 ∧ B < g ∧ BytesAt wr g (upd l p (bs.take k)) ∧ (∀ j, j < n → wr.frozen? ⟨g, j, none⟩ = false) ∧ (∀ j, j < 4 → wr.cell? ⟨B, j, none⟩ = some (.int .u8 ((bs.getD j 0).toNat : Int))) ∧ Below w.heap.size w wr ∧ w.heap.size ≤ g
theorem Told.drew {w wr : World} {g n B : Nat} {l bs : List UInt8} {p k : Nat} (h : Told w wr g n B l bs p k) : Told w wr.drew g n B l bs p k :=
  ⟨h.1, h.2.1, h.2.2.1, h.2.2.2.1, h.2.2.2.2.1, h.2.2.2.2.2.1, h.2.2.2.2.2.2.1.drew, h.2.2.2.2.2.2.2⟩
theorem Told.step {w wr : World} {g n B : Nat} {l bs : List UInt8} {p k : Nat} (h : Told w wr g n B l bs p k) (hk : k < 4) (hp : p + k < n) (d : UInt8)
    (hd : d = (upd l p (bs.take k)).getD (p + k) 0 ^^^ bs.getD k 0) : Told w (wr.setCell ⟨g, p + k, none⟩ (.int .u8 (d.toNat : Int))) g n B l bs p (k + 1) := by
  obtain ⟨h1, h2, h3, h4, h5, h6, h7, h8⟩ := h
  refine ⟨h1, h2, h3, ?_, ?_, ?_, h7.setCell (by exact h8) _, h8⟩
  · rw [List.take_succ_eq_append_getElem (by omega), upd_snoc]
    have e : (bs.take k).length = k := by simp; omega
    have e2 : bs[k]'(by omega) = bs.getD k 0 := by simp [List.getD, show k < bs.length by omega]
    rw [e, e2, ← hd]
    exact h4.set (by rw [upd_length]; omega) d
  · intro j hj
    rw [World.frozen?_setCell]
    exact h5 j hj
  · intro j hj
    rw [World.cell?_setCell_other _ _ _ _ (by intro e; injection e with e; omega)]
    exact h6 j hj
theorem Told.at_ {w wr : World} {g n B : Nat} {l bs : List UInt8} {p k : Nat} (h : Told w wr g n B l bs p k) (hk : k < 4) (hp : p + k < n) :
    wr.cell? ⟨g, p + k, none⟩ = some (.int .u8 (((upd l p (bs.take k)).getD (p + k) 0).toNat : Int)) ∧ wr.frozen? ⟨g, p + k, none⟩ = false ∧ wr.cell? ⟨B, k, none⟩ = some (.int .u8 ((bs.getD k 0).toNat : Int)) := by
  obtain ⟨h1, h2, h3, h4, h5, h6, h7, h8⟩ := h
  refine ⟨?_, h5 _ hp, h6 k hk⟩
  have hl : p + k < (upd l p (bs.take k)).length := by rw [upd_length]; omega
  rw [h4 _ hl]
  simp [List.getD, hl]
end Go.Proofs.YtbgkmppngnedlaaDoor
