/- What the laws XorTwice and XorZeros do. -/
import Derived.Test.YtflkkmiehioejaaXorBase
namespace Go.Proofs.Ytflkkmiehioejaa
open Go.RowKit Xor

theorem twice_at (a b : ByteArray) (i : Nat) : byteAt (foldS [foldS [a, b], b]) i = byteAt a i := by
  rw [byteAt_foldS, xorAt_two, byteAt_foldS, xorAt_two, UInt8.xor_assoc, UInt8.xor_self, UInt8.xor_zero]
theorem byteAt_head (s : ByteArray) (k i : Nat) : byteAt (s.extract 0 k) i = if i < k then byteAt s i else 0 := by
  unfold byteAt
  rw [ByteArray.data_extract, Array.toList_extract, List.getD_eq_getElem?_getD, List.getD_eq_getElem?_getD]
  simp only [List.extract, List.drop_zero, Nat.sub_zero, List.getElem?_take]
  split <;> rfl
theorem size_extract_head (s : ByteArray) (k : Nat) (h : k ≤ s.size) : (s.extract 0 k).size = k := by rw [ByteArray.size_extract]; omega
theorem twice_head (a b : ByteArray) : (foldS [foldS [a, b], b]).extract 0 a.size = a := by
  have hs : (foldS [foldS [a, b], b]).size = max (max a.size b.size) b.size := by rw [size_two, size_two]
  refine text_ext (size_extract_head _ _ (by omega)) fun i hi => ?_
  rw [size_extract_head _ _ (by omega)] at hi
  rw [byteAt_head, if_pos hi, twice_at]
theorem twice_tail (a b : ByteArray) : emptyB ((foldS [foldS [a, b], b]).extract a.size (foldS [foldS [a, b], b]).size) = true :=
  emptyB_mk fun i _ => by rw [byteAt_extract, twice_at, byteAt_ge (by omega)]
set_option maxHeartbeats 1000000 in
theorem twice_law (a b : ByteArray) (w : World) (ha0 : a.size ≤ maxLen) (hb0 : b.size ≤ maxLen) :
    Calls Try.prog 7 #[.string a, .string b] w fun e w' => e = .returned (.bool true) ∧ Below w.heap.size w w' := by
  unfold maxLen at ha0 hb0
  by_cases ha : 3000 < a.size
  · go_enter Try.func7, Try.ntmps7
    go_wp2_with fail
    (with_reducible refine (speaks3 _).mono ?_)
    rintro e w1 ⟨rfl, hb1⟩
    have hB1 := hb1
    clear hb1
    go_wp2
    go_ret
    exact ⟨rfl, hB1⟩
  by_cases hb : 3000 < b.size
  · go_enter Try.func7, Try.ntmps7
    go_wp2_with fail
    (with_reducible refine (speaks3 _).mono ?_)
    rintro e w1 ⟨rfl, hb1⟩
    have hB1 := hb1
    clear hb1
    go_wp2
    go_ret
    exact ⟨rfl, hB1⟩
  have c1 := fun W => xadd_any a b W (by omega) (by omega)
  have c2 := fun W => xadd_any (foldS [a, b]) b W (by rw [size_two]; omega) (by omega)
  have c3 := fun W => xadd_any b a W (by omega) (by omega)
  rw [fold_comm b a] at c3
  have c4 := fun W => xadd_any a a W (by omega) (by omega)
  have hs : (foldS [foldS [a, b], b]).size = max (max a.size b.size) b.size := by rw [size_two, size_two]
  have c5 := fun W => empty_any ((foldS [foldS [a, b], b]).extract a.size (foldS [foldS [a, b], b]).size) W (by unfold maxLen; rw [ByteArray.size_extract]; omega)
  rw [twice_tail] at c5
  have c6 := fun W => empty_any (foldS [a, a]) W (by unfold maxLen; rw [size_two]; omega)
  rw [self_empty] at c6
  have hh := twice_head a b
  generalize foldS [foldS [a, b], b] = s at c2 hs c5 hh
  generalize foldS [a, b] = u at c1 c2 c3
  generalize foldS [a, a] = v at c4 c6
  have hsL : a.size ≤ s.size := by omega
  have c1H := Lib.hid c1
  have c2H := Lib.hid c2
  have c3H := Lib.hid c3
  have c4H := Lib.hid c4
  have c5H := Lib.hid c5
  have c6H := Lib.hid c6
  have hhH := Lib.hid hh
  clear c1 c2 c3 c4 c5 c6 hh
  rcases Nat.lt_or_ge a.size b.size with hx | hx
  · have hs2 : s.size = b.size := by omega
    have hsb : ((s.size : Int) == (b.size : Int)) = true := by rw [beq_iff_eq]; omega
    clear hs2 hs
    go_enter Try.func7, Try.ntmps7
    go_wp2_with fail
    (with_reducible refine (speaks3 _).mono ?_)
    rintro e w1 ⟨rfl, hb1⟩
    have hB1 := hb1
    clear hb1
    go_wp2_with fail
    (with_reducible refine (c1H.out _).mono ?_)
    rintro e w2 ⟨rfl, hb2⟩
    have hB2 := bmore hB1 hb2
    clear hB1 hb2
    go_wp2_with fail
    (with_reducible refine (c2H.out _).mono ?_)
    rintro e w3 ⟨rfl, hb3⟩
    have hB3 := bmore hB2 hb3
    clear hB2 hb3
    have hh := hhH.out
    go_wp2_with fail
    (with_reducible refine (c5H.out _).mono ?_)
    rintro e wq ⟨rfl, rfl⟩
    go_wp2_with fail
    (with_reducible refine (c1H.out _).mono ?_)
    rintro e w4 ⟨rfl, hb4⟩
    have hB4 := bmore hB3 hb4
    clear hB3 hb4
    go_wp2_with fail
    (with_reducible refine (c3H.out _).mono ?_)
    rintro e w5 ⟨rfl, hb5⟩
    have hB5 := bmore hB4 hb5
    clear hB4 hb5
    go_wp2_with fail
    (with_reducible refine (c4H.out _).mono ?_)
    rintro e w6 ⟨rfl, hb6⟩
    have hB6 := bmore hB5 hb6
    clear hB5 hb6
    go_wp2_with fail
    (with_reducible refine (c6H.out _).mono ?_)
    rintro e wq ⟨rfl, rfl⟩
    clear hh
    go_wp2
    go_ret
    exact ⟨by simp, hB6⟩
  · have hs2 : s.size = a.size := by omega
    have hsb : ((s.size : Int) == (a.size : Int)) = true := by rw [beq_iff_eq]; omega
    clear hs2 hs
    go_enter Try.func7, Try.ntmps7
    go_wp2_with fail
    (with_reducible refine (speaks3 _).mono ?_)
    rintro e w1 ⟨rfl, hb1⟩
    have hB1 := hb1
    clear hb1
    go_wp2_with fail
    (with_reducible refine (c1H.out _).mono ?_)
    rintro e w2 ⟨rfl, hb2⟩
    have hB2 := bmore hB1 hb2
    clear hB1 hb2
    go_wp2_with fail
    (with_reducible refine (c2H.out _).mono ?_)
    rintro e w3 ⟨rfl, hb3⟩
    have hB3 := bmore hB2 hb3
    clear hB2 hb3
    have hh := hhH.out
    go_wp2_with fail
    (with_reducible refine (c5H.out _).mono ?_)
    rintro e wq ⟨rfl, rfl⟩
    go_wp2_with fail
    (with_reducible refine (c1H.out _).mono ?_)
    rintro e w4 ⟨rfl, hb4⟩
    have hB4 := bmore hB3 hb4
    clear hB3 hb4
    go_wp2_with fail
    (with_reducible refine (c3H.out _).mono ?_)
    rintro e w5 ⟨rfl, hb5⟩
    have hB5 := bmore hB4 hb5
    clear hB4 hb5
    go_wp2_with fail
    (with_reducible refine (c4H.out _).mono ?_)
    rintro e w6 ⟨rfl, hb6⟩
    have hB6 := bmore hB5 hb6
    clear hB5 hb6
    go_wp2_with fail
    (with_reducible refine (c6H.out _).mono ?_)
    rintro e wq ⟨rfl, rfl⟩
    clear hh
    go_wp2
    go_ret
    exact ⟨by simp, hB6⟩
end Go.Proofs.Ytflkkmiehioejaa
