/- The document's numbers and sums. -/
import Derived.Test.YtbgkmppngnedlaaDoorOCrc
namespace Go.Proofs.YtbgkmppngnedlaaDoor
open Go.RowKit Num
theorem refput_bad (n k : Int) (w : World) (h : k < 1 ∨ 7 < k ∨ n < 0) :
    Calls Tryd.prog 19 #[.int .i64 n, .int .i64 k] w fun e w' => e = .returned (.string ByteArray.empty) ∧ w = w' := by
  by_cases h1 : k < 1
  · go_enter Tryd.func19, Tryd.ntmps19
    go_wp2
    go_ret
    exact ⟨rfl, rfl⟩
  by_cases h2 : 7 < k
  · go_enter Tryd.func19, Tryd.ntmps19
    go_wp2
    go_ret
    exact ⟨rfl, rfl⟩
  have h3 : n < 0 := by omega
  go_enter Tryd.func19, Tryd.ntmps19
  go_wp2
  go_ret
  exact ⟨rfl, rfl⟩
theorem digits_succ (n k : Nat) : n / 256 ^ (k + 1) = n / 256 ^ k / 256 := by rw [Nat.pow_succ, Nat.div_div_eq_div_mul]
theorem one_byte (N : Nat) (W : World) : ∃ t : ByteArray, t.data.toList = [UInt8.ofNat (N % 256)] ∧
    (convert 44 9 (.slice (some ⟨W.heap.size, 0, none⟩) 1 1)).run Tryd.prog (W.alloc (.cells #[.int .u8 ((N : Int) % 256)] 5)) = .ok (.string t) (W.alloc (.cells #[.int .u8 ((N : Int) % 256)] 5)) := by
  refine ⟨⟨[UInt8.ofNat (N % 256)].toArray⟩, rfl, back (g := W.heap.size) (n := 1) (cap := 1) (l := [UInt8.ofNat (N % 256)]) (fun j hj => ?_) rfl Tryd.underlying44 Tryd.underlying5 Tryd.underlying9⟩
  obtain rfl : j = 0 := by simpa using hj
  have h := World.cell?_alloc_mark W #[.int .u8 ((N : Int) % 256)] 5 (0, 0) 0
  refine h.trans ?_
  have e : ((UInt8.ofNat (N % 256)).toNat : Int) = (N : Int) % 256 := by rw [UInt8.toNat_ofNat']; omega
  show some (Value.int .u8 ((N : Int) % 256)) = some (.int .u8 ((UInt8.ofNat (N % 256)).toNat : Int))
  rw [e]
set_option maxHeartbeats 1000000 in
theorem refput_ok (n k : Nat) (w : World) (h1 : 1 ≤ k) (h7 : k ≤ 7) (hn : n ≤ 9223372036854775807) :
    Calls Tryd.prog 19 #[.int .i64 (n : Int), .int .i64 (k : Int)] w fun e w' => e = .returned (.string (putS n k)) ∧ Below w.heap.size w w' := by
  go_enter Tryd.func19, Tryd.ntmps19
  go_wp2
  go_loopw [0, 5, 6] (fun m r i wr => ∃ (j N : Nat) (t : ByteArray), j ≤ k ∧ i = .int .i64 (j : Int) ∧ m = .int .i64 (N : Int) ∧ Hid (N = n / 256 ^ j) ∧ N ≤ n ∧ r = .string t ∧ Hid (t.data.toList = putL n j) ∧ t.size ≤ 7 ∧ Below w.heap.size w wr) (fun _ _ i _ => k - (intOf i).toNat)
  case atStart => exact ⟨0, n, ByteArray.empty, by omega, rfl, rfl, Lib.hid (by simp), Nat.le_refl _, rfl, Lib.hid rfl, by decide, Below.refl _ _⟩
  case round =>
    obtain ⟨j, N, t, hj, rfl, rfl, hN, hNn, rfl, ht, ht7, hB⟩ := hrel
    by_cases hlt : j < k
    · obtain ⟨t1, ht1, hcb⟩ := one_byte N wr
      have hs1 : t1.size ≤ 1 := by
        have := congrArg List.length ht1
        rw [Array.length_toList] at this
        exact Nat.le_of_eq this
      have ht1H := Lib.hid ht1
      have htn : t.size ≤ j := by
        have := congrArg List.length ht.out
        rw [Array.length_toList, putL_length] at this
        exact Nat.le_of_eq this
      have hN2 := Lib.hid (digits_succ n j)
      clear ht1
      go_wp2
      go_roundw
      case rel =>
        refine ⟨j + 1, N / 256, t1 ++ t, by omega, by go_num, by go_num, Lib.hid (by rw [hN.out, hN2.out]), by omega, rfl, Lib.hid ?_, ?_, hB.alloc hB.size _⟩
        · rw [ByteArray.data_append, Array.toList_append, ht1H.out, ht.out, hN.out]; rfl
        · rw [ByteArray.size_append]; omega
      case measure => simp [intOf]; omega
    · obtain rfl : j = k := by omega
      have hp : 0 < 256 ^ j := Nat.pow_pos (by omega)
      by_cases hz : 0 < N
      · have e : putS n j = ByteArray.empty := by
          unfold putS
          rw [if_neg]
          rintro ⟨_, _, _, h⟩
          simp only [Int.toNat_natCast] at h
          rw [hN.out, Nat.div_eq_of_lt h] at hz
          omega
        have eH := Lib.hid e
        clear e
        go_wp2
        go_ret
        exact ⟨by rw [eH.out]; rfl, hB⟩
      · have e : putS n j = t := by
          unfold putS
          have h : n < 256 ^ j := by
            have h0 : n / 256 ^ j = 0 := by rw [← hN.out]; omega
            exact (Nat.div_eq_zero_iff_lt hp).1 h0
          rw [if_pos ⟨by omega, by omega, by omega, by simpa using h⟩]
          simp only [Int.toNat_natCast]
          rw [← ht.out]
        have eH := Lib.hid e
        clear e
        go_wp2
        go_ret
        exact ⟨by rw [eH.out]; rfl, hB⟩
theorem refput_any (n k : Int) (w : World) (hn : n ≤ 9223372036854775807) :
    Calls Tryd.prog 19 #[.int .i64 n, .int .i64 k] w fun e w' => e = .returned (.string (putS n k)) ∧ Below w.heap.size w w' := by
  by_cases h : k < 1 ∨ 7 < k ∨ n < 0
  · have e : putS n k = ByteArray.empty := by unfold putS; rw [if_neg (by omega)]
    rw [e]
    exact (refput_bad n k w h).mono fun _ _ ⟨h1, h2⟩ => ⟨h1, by rw [← h2]; exact Below.refl _ _⟩
  · obtain ⟨m, rfl⟩ := Int.eq_ofNat_of_zero_le (show 0 ≤ n by omega)
    obtain ⟨j, rfl⟩ := Int.eq_ofNat_of_zero_le (show 0 ≤ k by omega)
    exact refput_ok m j w (by omega) (by omega) (by omega)
end Go.Proofs.YtbgkmppngnedlaaDoor
namespace Go.Proofs.YtbgkmppngnedlaaDoor
open Go.RowKit Crc
theorem bit_form (y : UInt8) (j : Nat) (c : BitVec 32) :
    (((y.toNat : Int) % 4294967296 / 2 ^ j).tmod 2 != (c.toNat : Int) % 2) = (y.toNat / 2 ^ j % 2 != c.toNat % 2) := by
  have hy := y.toNat_lt
  have e1 : (y.toNat : Int) % 4294967296 / 2 ^ j = ((y.toNat / 2 ^ j : Nat) : Int) := by
    rw [Int.emod_eq_of_lt (by omega) (by omega)]; norm_cast
  rw [e1, Int.tmod_eq_emod_of_nonneg (Int.natCast_nonneg _)]
  generalize y.toNat / 2 ^ j = a
  generalize c.toNat = b
  rw [Bool.eq_iff_iff, bne_iff_ne, bne_iff_ne]
  omega
theorem bit_yes {r : BitVec 32} {y : UInt8} {j : Nat} (h : (((y.toNat : Int) % 4294967296 / 2 ^ j).tmod 2 != ((cj r (wd y) j).toNat : Int) % 2) = true) :
    bits .xor .u32 (((cj r (wd y) j).toNat : Int) / 2) 2197175160 = ((cj r (wd y) (j + 1)).toNat : Int) := by
  rw [bit_form, bne_iff_ne] at h
  have hc := (cj r (wd y) j).isLt
  rw [(cj_num r (wd y) j).2 (by rw [wd_toNat]; exact h), ← bits_xor_u32, BitVec.toNat_ofNat, Nat.mod_eq_of_lt (by omega)]
  rfl
theorem bit_no {r : BitVec 32} {y : UInt8} {j : Nat} (h : (((y.toNat : Int) % 4294967296 / 2 ^ j).tmod 2 != ((cj r (wd y) j).toNat : Int) % 2) = false) :
    (((cj r (wd y) j).toNat : Int) / 2) = ((cj r (wd y) (j + 1)).toNat : Int) := by
  rw [bit_form, bne_eq_false_iff_eq] at h
  rw [(cj_num r (wd y) j).1 (by rw [wd_toNat]; exact h)]
  rfl
set_option maxHeartbeats 400000 in
theorem ref_any (s : ByteArray) (w : World) (hs : s.size ≤ maxLen) :
    Calls Tryd.prog 20 #[.string s] w fun e w' => e = .returned (.int .u32 (sumI s.data.toList)) ∧ w = w' := by
  unfold maxLen at hs
  go_enter Tryd.func20, Tryd.ntmps20
  go_wp2
  go_loop [3, 4] (fun c i => ∃ k : Nat, k ≤ s.size ∧ i = .int .i64 k ∧ c = .int .u32 ((reg R0 (s.data.toList.take k)).toNat : Int)) (fun _ i => s.size - (intOf i).toNat)
  case atStart => exact ⟨0, Nat.zero_le _, rfl, rfl⟩
  case round =>
    obtain ⟨k, hk, rfl, rfl⟩ := hrel
    by_cases hlt : k < s.size
    · have hend : reg R0 (s.data.toList.take (k + 1)) = nx (reg R0 (s.data.toList.take k)) s[k] := by rw [take_snoc s k hlt, reg_snoc]
      have hendH := Lib.hid hend
      clear hend
      generalize reg R0 (s.data.toList.take k) = r0 at hendH ⊢
      go_wp2
      go_loop [3, 5] (fun c i => ∃ j : Nat, j ≤ 8 ∧ i = .int .i64 j ∧ c = .int .u32 ((cj r0 (wd s[k]) j).toNat : Int)) (fun _ i => 8 - (intOf i).toNat)
      case atStart => exact ⟨0, Nat.zero_le _, rfl, by rw [cj_zero]⟩
      case round =>
        obtain ⟨j, hj, rfl, rfl⟩ := hrel
        by_cases hlj : j < 8
        · go_wp2
          · go_round
            case rel => exact ⟨j + 1, by omega, by go_num, by rw [bit_yes ‹_›]⟩
            case measure => simp [intOf]; omega
          · go_round
            case rel => exact ⟨j + 1, by omega, by go_num, by rw [bit_no ‹_›]⟩
            case measure => simp [intOf]; omega
        · obtain rfl : j = 8 := by omega
          rw [cj_eight]
          go_wp2
          go_round
          case rel => exact ⟨k + 1, by omega, by go_num, by rw [hendH.out]⟩
          case measure => simp [intOf]; omega
    · obtain rfl : k = s.size := by omega
      rw [show s.data.toList.take s.size = s.data.toList from List.take_of_length_le (by simp)]
      have hfin := Lib.hid (sumI_eq s.data.toList)
      have hr := (reg R0 s.data.toList).isLt
      generalize reg R0 s.data.toList = r0 at hfin hr
      go_wp2
      go_ret
      exact ⟨ret_u32 (by rw [hfin.out]), rfl⟩
end Go.Proofs.YtbgkmppngnedlaaDoor
