/- Texts made as long as the longest. -/
import Derived.Test.YtflkkmiehioejaaXorAdd
import Derived.Test.YtflkkmiehioejaaStrsOwn
import Derived.Test.YtflkkmiehioejaaMake
import Derived.Test.YtflkkmiehioejaaModIn
namespace Go.Proofs.Ytflkkmiehioejaa
open Go.RowKit Xor

/-- A text with so many noughts behind it. -/
def pad (p : ByteArray) (n : Nat) : ByteArray := p ++ ⟨(List.replicate (n - p.size) 0).toArray⟩
theorem size_pad {p : ByteArray} {n : Nat} (h : p.size ≤ n) : (pad p n).size = n := by
  unfold pad
  rw [ByteArray.size_append]
  have : (⟨(List.replicate (n - p.size) 0).toArray⟩ : ByteArray).size = n - p.size := by rw [ofList_size]; simp
  omega
theorem byteAt_append (p z : ByteArray) (i : Nat) : byteAt (p ++ z) i = if i < p.size then byteAt p i else byteAt z (i - p.size) := by
  unfold byteAt
  rw [ByteArray.data_append, Array.toList_append, List.getD_eq_getElem?_getD]
  have hs : p.data.toList.length = p.size := by rw [Array.length_toList]; rfl
  by_cases h : i < p.size
  · rw [if_pos h, List.getElem?_append_left (by omega), ← List.getD_eq_getElem?_getD]
  · rw [if_neg h, List.getElem?_append_right (by omega), hs, ← List.getD_eq_getElem?_getD]
theorem byteAt_noughts (m i : Nat) : byteAt (⟨(List.replicate m 0).toArray⟩ : ByteArray) i = 0 := by
  unfold byteAt
  show (List.replicate m (0 : UInt8)).getD i 0 = 0
  rw [List.getD_eq_getElem?_getD, List.getElem?_replicate]
  split <;> rfl
theorem byteAt_pad (p : ByteArray) (n i : Nat) : byteAt (pad p n) i = byteAt p i := by
  unfold pad
  rw [byteAt_append, byteAt_noughts]
  split
  · rfl
  · rw [byteAt_ge (by omega)]
def padL (ps : List ByteArray) (n : Nat) : List ByteArray := ps.map fun p => pad p n
theorem padL_take (ps : List ByteArray) (n k : Nat) (h : k < ps.length) : padL (ps.take k) n ++ [pad ps[k] n] = padL (ps.take (k + 1)) n := by
  unfold padL; rw [List.take_succ_eq_append_getElem h, List.map_append]; rfl
theorem longest_same {L : List ByteArray} {n : Nat} (h0 : 0 < L.length) (h : ∀ p ∈ L, p.size = n) : longest L = n := by
  have h1 := longest_le (n := n) fun p hp => Nat.le_of_eq (h p hp)
  have h2 := longest_ge (List.getElem_mem h0)
  rw [h _ (List.getElem_mem h0)] at h2
  omega
theorem size_padL {ps : List ByteArray} {n : Nat} (h : longest ps ≤ n) : ∀ p ∈ padL ps n, p.size = n := fun p hp => by
  obtain ⟨q, hq, rfl⟩ := List.mem_map.1 hp
  exact size_pad (Nat.le_trans (longest_ge hq) h)

/-- The texts but one, so far. -/
def Others (L O : List ByteArray) (l k n : Nat) : Prop := (∀ t, xorAt O t = xorAt (L.take k) t ^^^ (if l < k then byteAt (L.getD l ByteArray.empty) t else 0)) ∧ (∀ p ∈ O, p.size = n) ∧ O.length + (if l < k then 1 else 0) = k
theorem Others.start (L : List ByteArray) (l n : Nat) : Others L [] l 0 n := ⟨fun t => by rw [if_neg (by omega), UInt8.xor_zero]; rfl, by simp, by simp⟩
theorem xorAt_take' (L : List ByteArray) (k i : Nat) (h : k < L.length) : xorAt (L.take (k + 1)) i = xorAt (L.take k) i ^^^ byteAt L[k] i := by
  rw [List.take_succ_eq_append_getElem h, xorAt_snoc]
theorem Others.skip {L O : List ByteArray} {l n : Nat} (h : Others L O l l n) (hl : l < L.length) : Others L O l (l + 1) n := by
  obtain ⟨o1, o2, o3⟩ := h
  rw [if_neg (by omega)] at o3
  refine ⟨fun t => ?_, o2, by rw [if_pos (by omega)]; omega⟩
  have hgd : L.getD l ByteArray.empty = L[l] := by rw [List.getD_eq_getElem?_getD, List.getElem?_eq_getElem hl]; rfl
  rw [o1 t, xorAt_take' L l t hl, if_neg (by omega), if_pos (by omega), hgd, UInt8.xor_assoc, UInt8.xor_self]
theorem Others.more {L O : List ByteArray} {l k n : Nat} (h : Others L O l k n) (hk : k < L.length) (hne : k ≠ l) (hs : L[k].size = n) : Others L (O ++ [L[k]]) l (k + 1) n := by
  obtain ⟨o1, o2, o3⟩ := h
  refine ⟨fun t => ?_, fun p hp => ?_, ?_⟩
  · rw [xorAt_snoc, o1 t, xorAt_take' L k t hk, UInt8.xor_assoc, UInt8.xor_assoc]
    congr 1
    by_cases hc : l < k
    · rw [if_pos hc, if_pos (by omega), UInt8.xor_comm]
    · rw [if_neg hc, if_neg (by omega), UInt8.zero_xor, UInt8.xor_zero]
  · rcases List.mem_append.1 hp with hp | hp
    · exact o2 p hp
    · rw [List.mem_singleton.1 hp]; exact hs
  · rw [List.length_append, List.length_singleton]
    by_cases hc : l < k
    · rw [if_pos hc] at o3; rw [if_pos (by omega)]; omega
    · rw [if_neg hc] at o3; rw [if_neg (by omega)]; omega
theorem Others.tells {L O : List ByteArray} {l n : Nat} (h : Others L O l L.length n) (hl : l < L.length) (hL : ∀ p ∈ L, p.size = n) : foldS [foldS L, foldS O] = L[l] := by
  obtain ⟨o1, o2, o3⟩ := h
  have hgd : L.getD l ByteArray.empty = L[l] := by rw [List.getD_eq_getElem?_getD, List.getElem?_eq_getElem hl]; rfl
  have hO : longest O ≤ n := longest_le fun p hp => Nat.le_of_eq (o2 p hp)
  have hLn := longest_same (by omega) hL
  refine text_ext (by rw [size_two, size_foldS, size_foldS, hLn, hL _ (List.getElem_mem hl)]; omega) fun i _ => ?_
  rw [byteAt_foldS, xorAt_two, byteAt_foldS, byteAt_foldS, o1 i, List.take_length, if_pos hl, hgd, ← UInt8.xor_assoc, UInt8.xor_self, UInt8.zero_xor]
end Go.Proofs.Ytflkkmiehioejaa
