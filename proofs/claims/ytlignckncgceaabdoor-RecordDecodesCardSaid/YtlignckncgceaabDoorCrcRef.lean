/- The document's checksum, bit by bit. -/
import Derived.Test.YtlignckncgceaabDoorCrcSumW
namespace Go.Proofs.YtlignckncgceaabDoor
open Go.RowKit Crc

theorem bit_form (y : UInt8) (j : Nat) (c : BitVec 32) :
    (((y.toNat : Int) % 4294967296 / 2 ^ j).tmod 2 != (c.toNat : Int) % 2) = (y.toNat / 2 ^ j % 2 != c.toNat % 2) := by
  have hy := y.toNat_lt
  have e1 : (y.toNat : Int) % 4294967296 / 2 ^ j = ((y.toNat / 2 ^ j : Nat) : Int) := by
    rw [Int.emod_eq_of_lt (by omega) (by omega)]; norm_cast
  rw [e1, Int.tmod_eq_emod_of_nonneg (Int.natCast_nonneg _)]
  generalize y.toNat / 2 ^ j = a
  generalize c.toNat = b
  rw [Bool.eq_iff_iff, bne_iff_ne, bne_iff_ne]
  omega
theorem bit_yes {r : BitVec 32} {y : UInt8} {j : Nat} (h : (((y.toNat : Int) % 4294967296 / 2 ^ j).tmod 2 != ((cj r (wd y) j).toNat : Int) % 2) = true) :
    bits .xor .u32 (((cj r (wd y) j).toNat : Int) / 2) 2197175160 = ((cj r (wd y) (j + 1)).toNat : Int) := by
  rw [bit_form, bne_iff_ne] at h
  have hc := (cj r (wd y) j).isLt
  rw [(cj_num r (wd y) j).2 (by rw [wd_toNat]; exact h), ← bits_xor_u32, BitVec.toNat_ofNat, Nat.mod_eq_of_lt (by omega)]
  rfl
theorem bit_no {r : BitVec 32} {y : UInt8} {j : Nat} (h : (((y.toNat : Int) % 4294967296 / 2 ^ j).tmod 2 != ((cj r (wd y) j).toNat : Int) % 2) = false) :
    (((cj r (wd y) j).toNat : Int) / 2) = ((cj r (wd y) (j + 1)).toNat : Int) := by
  rw [bit_form, bne_eq_false_iff_eq] at h
  rw [(cj_num r (wd y) j).1 (by rw [wd_toNat]; exact h)]
  rfl

set_option maxHeartbeats 400000 in
theorem ref_any (s : ByteArray) (w : World) (hs : s.size ≤ maxLen) :
    Calls Tryd.prog 30 #[.string s] w fun e w' => e = .returned (.int .u32 (sumI s.data.toList)) ∧ w = w' := by
  unfold maxLen at hs
  go_enter Tryd.func30, Tryd.ntmps30
  go_wp2
  go_loop [3, 4] (fun c i => ∃ k : Nat, k ≤ s.size ∧ i = .int .i64 k ∧ c = .int .u32 ((reg R0 (s.data.toList.take k)).toNat : Int)) (fun _ i => s.size - (intOf i).toNat)
  case atStart => exact ⟨0, Nat.zero_le _, rfl, rfl⟩
  case round =>
    obtain ⟨k, hk, rfl, rfl⟩ := hrel
    by_cases hlt : k < s.size
    · have hend : reg R0 (s.data.toList.take (k + 1)) = nx (reg R0 (s.data.toList.take k)) s[k] := by rw [take_snoc s k hlt, reg_snoc]
      have hendH := Lib.hid hend
      clear hend
      generalize reg R0 (s.data.toList.take k) = r0 at hendH ⊢
      go_wp2
      go_loop [3, 5] (fun c i => ∃ j : Nat, j ≤ 8 ∧ i = .int .i64 j ∧ c = .int .u32 ((cj r0 (wd s[k]) j).toNat : Int)) (fun _ i => 8 - (intOf i).toNat)
      case atStart => exact ⟨0, Nat.zero_le _, rfl, by rw [cj_zero]⟩
      case round =>
        obtain ⟨j, hj, rfl, rfl⟩ := hrel
        by_cases hlj : j < 8
        · go_wp2
          · go_round
            case rel => exact ⟨j + 1, by omega, by go_num, by rw [bit_yes ‹_›]⟩
            case measure => simp [intOf]; omega
          · go_round
            case rel => exact ⟨j + 1, by omega, by go_num, by rw [bit_no ‹_›]⟩
            case measure => simp [intOf]; omega
        · obtain rfl : j = 8 := by omega
          rw [cj_eight]
          go_wp2
          go_round
          case rel => exact ⟨k + 1, by omega, by go_num, by rw [hendH.out]⟩
          case measure => simp [intOf]; omega
    · obtain rfl : k = s.size := by omega
      rw [show s.data.toList.take s.size = s.data.toList from List.take_of_length_le (by simp)]
      have hfin := Lib.hid (sumI_eq s.data.toList)
      have hr := (reg R0 s.data.toList).isLt
      generalize reg R0 s.data.toList = r0 at hfin hr
      go_wp2
      go_ret
      exact ⟨ret_u32 (by rw [hfin.out]), rfl⟩
end Go.Proofs.YtlignckncgceaabDoor
