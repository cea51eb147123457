/- A row of blocks with their parity: plain facts on lists of texts, one of which is laid. -/
import Derived.Test.YtflkkmiehioejabDoorXorAdd
namespace Go.Proofs.YtflkkmiehioejabDoor
open Go.RowKit Xor

theorem xorAt_set : ∀ (L : List ByteArray) (j : Nat) (s : ByteArray) (i : Nat) (h : j < L.length), L[j].size = 0 → xorAt (L.set j s) i = xorAt L i ^^^ byteAt s i
  | q :: L, 0, s, i, _, h0 => by
    show byteAt s i ^^^ xorAt L i = (byteAt q i ^^^ xorAt L i) ^^^ byteAt s i
    have h0' : q.size = 0 := h0
    rw [byteAt_ge (s := q) (by omega), UInt8.zero_xor, UInt8.xor_comm]
  | q :: L, j + 1, s, i, h, h0 => by
    show byteAt q i ^^^ xorAt (L.set j s) i = (byteAt q i ^^^ xorAt L i) ^^^ byteAt s i
    rw [xorAt_set L j s i (by simpa using h) (by simpa using h0), UInt8.xor_assoc]
theorem longest_set : ∀ (L : List ByteArray) (j : Nat) (s : ByteArray) (h : j < L.length), L[j].size = 0 → longest (L.set j s) = max (longest L) s.size
  | q :: L, 0, s, _, h0 => by
    show max s.size (longest L) = max (max q.size (longest L)) s.size
    have h0' : q.size = 0 := h0
    omega
  | q :: L, j + 1, s, h, h0 => by
    show max q.size (longest (L.set j s)) = max (max q.size (longest L)) s.size
    rw [longest_set L j s (by simpa using h) (by simpa using h0)]; omega
theorem foldS_set (L : List ByteArray) (j : Nat) (s : ByteArray) (h : j < L.length) (h0 : L[j].size = 0) : foldS [foldS L, s] = foldS (L.set j s) := by
  refine text_ext (by rw [size_two, size_foldS, size_foldS, longest_set L j s h h0]) fun i _ => ?_
  rw [byteAt_foldS, byteAt_foldS, xorAt_two, byteAt_foldS, xorAt_set L j s i h h0]
theorem longest_all {L : List ByteArray} {n : Nat} (h0 : 0 < L.length) (h : ∀ p ∈ L, p.size = n) : longest L = n := by
  have h1 := longest_le (n := n) fun p hp => Nat.le_of_eq (h p hp)
  have h2 := longest_ge (List.getElem_mem h0)
  rw [h _ (List.getElem_mem h0)] at h2
  omega
theorem xorAt_take (L : List ByteArray) (k i : Nat) (h : k < L.length) : xorAt (L.take (k + 1)) i = xorAt (L.take k) i ^^^ byteAt L[k] i := by
  rw [List.take_succ_eq_append_getElem h, xorAt_snoc]
/-- The parity laid in its place: all of them together are noughts. -/
theorem laid_zero (L : List ByteArray) (j : Nat) (h : j < L.length) (h0 : L[j].size = 0) (i : Nat) : xorAt (L.set j (foldS L)) i = 0 := by
  rw [xorAt_set L j _ i h h0, byteAt_foldS, UInt8.xor_self]
/-- Those but one: they are that one's. -/
theorem others_fold {L O : List ByteArray} {l : Nat} (hl : l < L.length) (h64 : ∀ p ∈ L, p.size = 64) (hz : ∀ i, xorAt L i = 0) (hO : 0 < O.length) (hO64 : ∀ p ∈ O, p.size = 64) (hx : ∀ i, xorAt O i = xorAt L i ^^^ byteAt L[l] i) : foldS O = L[l] := by
  refine text_ext (by rw [size_foldS, longest_all hO hO64, h64 _ (List.getElem_mem hl)]) fun i _ => ?_
  rw [byteAt_foldS, hx, hz, UInt8.zero_xor]
end Go.Proofs.YtflkkmiehioejabDoor
