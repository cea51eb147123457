/- Records as plain data: their numbers, their blocks. -/
import Derived.Test.YtlignckncgceaabDoorCrcSumW
import Derived.Test.YtlignckncgceaabDoorNumMath
namespace Go.Proofs.YtlignckncgceaabDoor.Rec
open Crc Num

/-- A record: its kind, its number, four numbers, its body. -/
structure Rc where
  k : Int
  s : Int
  a : Int
  b : Int
  c : Int
  d : Int
  body : ByteArray
def nBlocks (k : Int) : Nat := if k < 1 ∨ 6 < k then 0 else if k = 4 then 2 else 1
def NumOk (r : Rc) : Prop := (1 ≤ r.k ∧ r.k ≤ 6) ∧ (0 ≤ r.s ∧ r.s ≤ 1099511627776) ∧ (0 ≤ r.a ∧ r.a ≤ 65535) ∧ (0 ≤ r.b ∧ r.b ≤ 65535) ∧ (0 ≤ r.c ∧ r.c ≤ 1099511627776) ∧ (0 ≤ r.d ∧ r.d ≤ 65535)
instance (r : Rc) : Decidable (NumOk r) := by unfold NumOk; infer_instance
def numOk (r : Rc) : Bool := decide (NumOk r)
def Good (r : Rc) : Prop := NumOk r ∧ r.body.size = (nBlocks r.k - 1) * 64
instance (r : Rc) : Decidable (Good r) := by unfold Good; infer_instance
def good (r : Rc) : Bool := decide (Good r)
theorem numOk_iff {r : Rc} : numOk r = true ↔ NumOk r := decide_eq_true_iff
theorem good_iff {r : Rc} : good r = true ↔ Good r := decide_eq_true_iff

def headL (r : Rc) : List UInt8 := [67, 66] ++ putL r.k.toNat 1 ++ putL r.s.toNat 6 ++ putL r.a.toNat 2 ++ putL r.b.toNat 2 ++ putL r.c.toNat 6 ++ putL r.d.toNat 2
def sumB (l : List UInt8) : List UInt8 := putL (sumW l).toNat 4
def encL (r : Rc) : List UInt8 := headL r ++ sumB (headL r ++ r.body.data.toList) ++ List.replicate 39 0 ++ r.body.data.toList
theorem headL_len (r : Rc) : (headL r).length = 21 := by unfold headL; simp [putL_length]
theorem sumB_len (l : List UInt8) : (sumB l).length = 4 := putL_length _ _
theorem nBlocks_pos {r : Rc} (h : NumOk r) : 1 ≤ nBlocks r.k ∧ nBlocks r.k ≤ 2 := by
  unfold nBlocks
  rw [if_neg (by have := h.1; omega)]
  split <;> omega
theorem body_len (b : ByteArray) : b.data.toList.length = b.size := Array.length_toList
theorem encL_len {r : Rc} (h : Good r) : (encL r).length = 64 * nBlocks r.k := by
  have := nBlocks_pos h.1
  unfold encL
  rw [List.length_append, List.length_append, List.length_append, headL_len, sumB_len, List.length_replicate, body_len, h.2]
  omega
def encS (r : Rc) : ByteArray := if good r = true then ⟨(encL r).toArray⟩ else ByteArray.empty
theorem encS_good {r : Rc} (h : Good r) : encS r = ⟨(encL r).toArray⟩ := if_pos (good_iff.2 h)
theorem encS_bad {r : Rc} (h : ¬ Good r) : encS r = ByteArray.empty := if_neg (by rw [good_iff]; exact h)
theorem encS_size {r : Rc} (h : Good r) : (encS r).size = 64 * nBlocks r.k := by
  rw [encS_good h]
  show (encL r).toArray.size = _
  rw [List.size_toArray]; exact encL_len h
theorem encS_ne {r : Rc} (h : Good r) : encS r ≠ ByteArray.empty := fun e => by
  have h1 := encS_size h
  have := nBlocks_pos h.1
  rw [e] at h1
  simp at h1
  omega
end Go.Proofs.YtlignckncgceaabDoor.Rec
