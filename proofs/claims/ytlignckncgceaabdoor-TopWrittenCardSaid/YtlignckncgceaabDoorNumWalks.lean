/- What else nums.Put and nums.Get do. -/
import Derived.Test.YtlignckncgceaabDoorNumPut
namespace Go.Proofs.YtlignckncgceaabDoor
open Go.RowKit Num

theorem put_bad (n k : Int) (w : World) (h : k < 1 ∨ 7 < k ∨ n < 0) :
    Calls Tryd.prog 25 #[.int .i64 n, .int .i64 k] w fun e w' => e = .returned (.string ByteArray.empty) ∧ w = w' := by
  by_cases h1 : k < 1
  · go_enter Tryd.func25, Tryd.ntmps25
    go_wp2
    go_ret
    exact ⟨rfl, rfl⟩
  by_cases h2 : 7 < k
  · go_enter Tryd.func25, Tryd.ntmps25
    go_wp2
    go_ret
    exact ⟨rfl, rfl⟩
  have h3 : n < 0 := by omega
  go_enter Tryd.func25, Tryd.ntmps25
  go_wp2
  go_ret
  exact ⟨rfl, rfl⟩

theorem put_great (n k : Nat) (w : World) (h1 : 1 ≤ k) (h7 : k ≤ 7) (hn : 256 ^ k ≤ n) :
    Calls Tryd.prog 25 #[.int .i64 (n : Int), .int .i64 (k : Int)] w fun e w' => e = .returned (.string ByteArray.empty) ∧ w = w' := by
  have hsh : ((n : Int) / 2 ^ (8 * k) == 0) = false := by
    rw [beq_eq_false_iff_ne]
    have h2 : 0 < 256 ^ k := Nat.pow_pos (by omega)
    have h3 : 1 ≤ n / 2 ^ (8 * k) := by rw [pow8]; exact (Nat.le_div_iff_mul_le h2).2 (by omega)
    have h4 : ((n / 2 ^ (8 * k) : Nat) : Int) = (n : Int) / 2 ^ (8 * k) := by simp
    omega
  have hsh2 : ((n : Int) / 2 ^ (8 * k) != 0) = true := by rw [bne, hsh]; rfl
  go_enter Tryd.func25, Tryd.ntmps25
  go_wp2
  go_ret
  exact ⟨rfl, rfl⟩

theorem take_snoc' (s : ByteArray) (k : Nat) (h : k < s.size) : s.data.toList.take (k + 1) = s.data.toList.take k ++ [s[k]] := by
  rw [List.take_succ_eq_append_getElem (by simpa using h)]; rfl

theorem ofInt_i64 (a : Nat) (ha : a < 9223372036854775808) : (BitVec.ofInt 64 (a : Int)).toNat = a := by
  rw [BitVec.ofInt_natCast, BitVec.toNat_ofNat]; exact Nat.mod_eq_of_lt (by omega)
theorem i64_or_nat (a b : Nat) (ha : a < 9223372036854775808) (hb : b < 9223372036854775808) : bits .or .i64 (a : Int) (b : Int) = ((a ||| b : Nat) : Int) := by
  have hx : a ||| b < 2 ^ 63 := Nat.or_lt_two_pow (by omega) (by omega)
  show IntKind.i64.wrap ((BitVec.ofInt 64 (a : Int) ||| BitVec.ofInt 64 (b : Int)).toNat : Int) = _
  rw [BitVec.toNat_or, ofInt_i64 a ha, ofInt_i64 b hb, IntKind.wrap_i64]
  omega
theorem or_byte (m : Nat) (b : UInt8) (hm : m < 281474976710656) : bits .or .i64 ((m : Int) * 256) (wrap64 (b.toNat : Int)) = ((m * 256 + b.toNat : Nat) : Int) := by
  have hb := b.toNat_lt
  rw [IntWalk.wrap64_in _ ⟨by omega, by omega⟩, show (m : Int) * 256 = ((m * 256 : Nat) : Int) by omega, i64_or_nat _ _ (by omega) (by omega), nat_join 8 _ _ (by omega) (by omega)]
theorem ret_get {a b : Int} (h : a = b) : Ending.returned (.tuple #[.int .i64 a, .bool true]) = .returned (.tuple #[.int .i64 b, .bool true]) := by rw [h]

set_option maxHeartbeats 400000 in
theorem get_ok (s : ByteArray) (w : World) (h1 : 1 ≤ s.size) (h7 : s.size ≤ 7) :
    Calls Tryd.prog 44 #[.string s] w fun e w' => e = .returned (.tuple #[.int .i64 ((numL s.data.toList : Nat) : Int), .bool true]) ∧ w = w' := by
  have hs1 : ¬ s = ByteArray.empty := by rintro rfl; exact absurd h1 (by decide)
  go_enter Tryd.func44, Tryd.ntmps44
  go_wp2
  go_loop [4, 16] (fun n i => ∃ j : Nat, j ≤ s.size ∧ i = .int .i64 (j : Int) ∧ n = .int .i64 ((numL (s.data.toList.take j) : Nat) : Int)) (fun _ i => s.size - (intOf i).toNat)
  case atStart => exact ⟨0, by omega, rfl, rfl⟩
  case round =>
    obtain ⟨j, hj, rfl, rfl⟩ := hrel
    by_cases hlt : j < s.size
    · have hnum := Lib.hid (numL_snoc (s.data.toList.take j) s[j])
      have hlt2 := numL_lt (s.data.toList.take j)
      have hlen : (s.data.toList.take j).length = j := by simp; omega
      rw [hlen] at hlt2
      have hp6 : 256 ^ j ≤ 281474976710656 := by
        have := Nat.pow_le_pow_right (n := 256) (by omega) (show j ≤ 6 by omega)
        simpa using this
      generalize numL (s.data.toList.take j) = m at hnum hlt2 ⊢
      clear hlen
      go_wp2
      go_round
      case rel => exact ⟨j + 1, by omega, by go_num, by rw [take_snoc' s j hlt, hnum.out, or_byte m _ (by omega)]⟩
      case measure => simp [intOf]; omega
    · obtain rfl : j = s.size := by omega
      rw [show s.data.toList.take s.size = s.data.toList from List.take_of_length_le (by simp)]
      go_wp2
      go_ret2
      exact ⟨rfl, rfl⟩

theorem get_bad (s : ByteArray) (w : World) (h : s.size = 0 ∨ 7 < s.size) (hs : s.size ≤ maxLen) :
    Calls Tryd.prog 44 #[.string s] w fun e w' => e = .returned (.tuple #[.int .i64 0, .bool false]) ∧ w = w' := by
  unfold maxLen at hs
  by_cases h0 : s.size = 0
  · obtain rfl : s = ByteArray.empty := by
      rcases s with ⟨⟨l⟩⟩
      obtain rfl : l = [] := by simpa [ByteArray.size] using h0
      rfl
    go_enter Tryd.func44, Tryd.ntmps44
    go_wp2
    go_ret2
    exact ⟨rfl, rfl⟩
  · have h7 : 7 < s.size := by omega
    have hs1 : ¬ s = ByteArray.empty := by rintro rfl; exact h0 rfl
    go_enter Tryd.func44, Tryd.ntmps44
    go_wp2
    go_ret2
    exact ⟨rfl, rfl⟩
end Go.Proofs.YtlignckncgceaabDoor
