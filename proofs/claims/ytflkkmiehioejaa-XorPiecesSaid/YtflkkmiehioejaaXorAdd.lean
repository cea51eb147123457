/- What xor's Add does. -/
import Derived.Test.YtflkkmiehioejaaXorFold
namespace Go.Proofs.Ytflkkmiehioejaa
open Go.RowKit Xor

theorem size_fold_le {ps : List ByteArray} {n : Nat} (h : ∀ p ∈ ps, p.size ≤ n) : (foldS ps).size ≤ n := by rw [size_foldS]; exact longest_le h
theorem strs_two {W : World} {a b : ByteArray} (t : TypeId) : StrsIn (W.alloc (.cells #[.string a, .string b] t)) (some ⟨W.heap.size, 0, none⟩) [a, b] := .inr ⟨W.heap.size, 0, rfl, by simp, fun i hi => by
  match i, hi with
  | 0, _ => go_simp
  | 1, _ => go_simp⟩
theorem longest_two {a b : ByteArray} {n : Nat} (ha : a.size ≤ n) (hb : b.size ≤ n) : longest [a, b] ≤ n := longest_le fun p hp => by
  rcases List.mem_cons.1 hp with rfl | hp
  · exact ha
  · obtain rfl := List.mem_singleton.1 hp; exact hb

theorem xadd_any (a b : ByteArray) (w : World) (ha : a.size ≤ 65536) (hb : b.size ≤ 65536) :
    Calls Try.prog 16 #[.string a, .string b] w fun e w' => e = .returned (.string (foldS [a, b])) ∧ Below w.heap.size w w' := by
  have hf := fun W (h : StrsIn W (some ⟨w.heap.size, 0, none⟩) [a, b]) => (show Calls Try.prog 13 #[.slice (some ⟨w.heap.size, 0, none⟩) 2 2] W fun e w' => e = .returned (.string (foldS [a, b])) ∧ Below W.heap.size W w' from fold_any (some ⟨w.heap.size, 0, none⟩) 2 [a, b] W (by simp) (longest_two ha hb) h)
  have hf1 := Lib.hid (hf _ (strs_two (W := w) 9))
  clear hf
  go_enter Try.func16, Try.ntmps16
  go_wp2_with fail
  (with_reducible refine hf1.out.mono ?_)
  rintro e w1 ⟨rfl, hb1⟩
  go_wp2
  go_ret
  exact ⟨rfl, ((Below.refl _ _).alloc (Nat.le_refl _) _).trans (hb1.mono (by simp))⟩

theorem xorAt_two (a b : ByteArray) (i : Nat) : xorAt [a, b] i = byteAt a i ^^^ byteAt b i := by
  show byteAt a i ^^^ (byteAt b i ^^^ 0) = _
  rw [UInt8.xor_zero]
theorem size_two (a b : ByteArray) : (foldS [a, b]).size = max a.size b.size := by
  rw [size_foldS]
  show max a.size (max b.size 0) = _
  omega
theorem fold_comm (a b : ByteArray) : foldS [a, b] = foldS [b, a] := by
  refine text_ext (by rw [size_two, size_two]; omega) fun i _ => ?_
  rw [byteAt_foldS, byteAt_foldS, xorAt_two, xorAt_two, UInt8.xor_comm]
theorem emptyB_mk {s : ByteArray} (h : ∀ i, i < s.size → byteAt s i = 0) : emptyB s = true := decide_eq_true h
theorem self_empty (a : ByteArray) : emptyB (foldS [a, a]) = true := emptyB_mk fun i _ => by rw [byteAt_foldS, xorAt_two, UInt8.xor_self]

theorem foldS_snoc (ps : List ByteArray) (p : ByteArray) : foldS [foldS ps, p] = foldS (ps ++ [p]) := by
  refine text_ext (by rw [size_two, size_foldS, size_foldS, longest_snoc]) fun i _ => ?_
  rw [byteAt_foldS, byteAt_foldS, xorAt_two, byteAt_foldS, xorAt_snoc]
end Go.Proofs.Ytflkkmiehioejaa
