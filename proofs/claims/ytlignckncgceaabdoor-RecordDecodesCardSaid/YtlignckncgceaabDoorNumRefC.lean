/- The document's own Put and Get, at every argument. -/
import Derived.Test.YtlignckncgceaabDoorNumAny
namespace Go.Proofs.YtlignckncgceaabDoor
open Go.RowKit Num

theorem refput_bad (n k : Int) (w : World) (h : k < 1 ∨ 7 < k ∨ n < 0) :
    Calls Tryd.prog 29 #[.int .i64 n, .int .i64 k] w fun e w' => e = .returned (.string ByteArray.empty) ∧ w = w' := by
  by_cases h1 : k < 1
  · go_enter Tryd.func29, Tryd.ntmps29
    go_wp2
    go_ret
    exact ⟨rfl, rfl⟩
  by_cases h2 : 7 < k
  · go_enter Tryd.func29, Tryd.ntmps29
    go_wp2
    go_ret
    exact ⟨rfl, rfl⟩
  have h3 : n < 0 := by omega
  go_enter Tryd.func29, Tryd.ntmps29
  go_wp2
  go_ret
  exact ⟨rfl, rfl⟩

theorem digits_succ (n k : Nat) : n / 256 ^ (k + 1) = n / 256 ^ k / 256 := by rw [Nat.pow_succ, Nat.div_div_eq_div_mul]

theorem one_byte (N : Nat) (W : World) : ∃ t : ByteArray, t.data.toList = [UInt8.ofNat (N % 256)] ∧
    (convert 49 9 (.slice (some ⟨W.heap.size, 0, none⟩) 1 1)).run Tryd.prog (W.alloc (.cells #[.int .u8 ((N : Int) % 256)] 5)) = .ok (.string t) (W.alloc (.cells #[.int .u8 ((N : Int) % 256)] 5)) := by
  refine ⟨⟨[UInt8.ofNat (N % 256)].toArray⟩, rfl, back (g := W.heap.size) (n := 1) (cap := 1) (l := [UInt8.ofNat (N % 256)]) (fun j hj => ?_) rfl Tryd.underlying49 Tryd.underlying5 Tryd.underlying9⟩
  obtain rfl : j = 0 := by simpa using hj
  have h := World.cell?_alloc_mark W #[.int .u8 ((N : Int) % 256)] 5 (0, 0) 0
  refine h.trans ?_
  have e : ((UInt8.ofNat (N % 256)).toNat : Int) = (N : Int) % 256 := by rw [UInt8.toNat_ofNat']; omega
  show some (Value.int .u8 ((N : Int) % 256)) = some (.int .u8 ((UInt8.ofNat (N % 256)).toNat : Int))
  rw [e]

set_option maxHeartbeats 1000000 in
theorem refput_ok (n k : Nat) (w : World) (h1 : 1 ≤ k) (h7 : k ≤ 7) (hn : n ≤ 9223372036854775807) :
    Calls Tryd.prog 29 #[.int .i64 (n : Int), .int .i64 (k : Int)] w fun e w' => e = .returned (.string (putS n k)) ∧ Below w.heap.size w w' := by
  go_enter Tryd.func29, Tryd.ntmps29
  go_wp2
  go_loopw [0, 5, 6] (fun m r i wr => ∃ (j N : Nat) (t : ByteArray), j ≤ k ∧ i = .int .i64 (j : Int) ∧ m = .int .i64 (N : Int) ∧ Hid (N = n / 256 ^ j) ∧ N ≤ n ∧ r = .string t ∧ Hid (t.data.toList = putL n j) ∧ t.size ≤ 7 ∧ Below w.heap.size w wr) (fun _ _ i _ => k - (intOf i).toNat)
  case atStart => exact ⟨0, n, ByteArray.empty, by omega, rfl, rfl, Lib.hid (by simp), Nat.le_refl _, rfl, Lib.hid rfl, by decide, Below.refl _ _⟩
  case round =>
    obtain ⟨j, N, t, hj, rfl, rfl, hN, hNn, rfl, ht, ht7, hB⟩ := hrel
    by_cases hlt : j < k
    · obtain ⟨t1, ht1, hcb⟩ := one_byte N wr
      have hs1 : t1.size ≤ 1 := by
        have := congrArg List.length ht1
        rw [Array.length_toList] at this
        exact Nat.le_of_eq this
      have ht1H := Lib.hid ht1
      have htn : t.size ≤ j := by
        have := congrArg List.length ht.out
        rw [Array.length_toList, putL_length] at this
        exact Nat.le_of_eq this
      have hN2 := Lib.hid (digits_succ n j)
      clear ht1
      go_wp2
      go_roundw
      case rel =>
        refine ⟨j + 1, N / 256, t1 ++ t, by omega, by go_num, by go_num, Lib.hid (by rw [hN.out, hN2.out]), by omega, rfl, Lib.hid ?_, ?_, hB.alloc hB.size _⟩
        · rw [ByteArray.data_append, Array.toList_append, ht1H.out, ht.out, hN.out]; rfl
        · rw [ByteArray.size_append]; omega
      case measure => simp [intOf]; omega
    · obtain rfl : j = k := by omega
      have hp : 0 < 256 ^ j := Nat.pow_pos (by omega)
      by_cases hz : 0 < N
      · have e : putS n j = ByteArray.empty := by
          unfold putS
          rw [if_neg]
          rintro ⟨_, _, _, h⟩
          simp only [Int.toNat_natCast] at h
          rw [hN.out, Nat.div_eq_of_lt h] at hz
          omega
        have eH := Lib.hid e
        clear e
        go_wp2
        go_ret
        exact ⟨by rw [eH.out]; rfl, hB⟩
      · have e : putS n j = t := by
          unfold putS
          have h : n < 256 ^ j := by
            have h0 : n / 256 ^ j = 0 := by rw [← hN.out]; omega
            exact (Nat.div_eq_zero_iff_lt hp).1 h0
          rw [if_pos ⟨by omega, by omega, by omega, by simpa using h⟩]
          simp only [Int.toNat_natCast]
          rw [← ht.out]
        have eH := Lib.hid e
        clear e
        go_wp2
        go_ret
        exact ⟨by rw [eH.out]; rfl, hB⟩

theorem refput_any (n k : Int) (w : World) (hn : n ≤ 9223372036854775807) :
    Calls Tryd.prog 29 #[.int .i64 n, .int .i64 k] w fun e w' => e = .returned (.string (putS n k)) ∧ Below w.heap.size w w' := by
  by_cases h : k < 1 ∨ 7 < k ∨ n < 0
  · have e : putS n k = ByteArray.empty := by unfold putS; rw [if_neg (by omega)]
    rw [e]
    exact (refput_bad n k w h).mono fun _ _ ⟨h1, h2⟩ => ⟨h1, by rw [← h2]; exact Below.refl _ _⟩
  · obtain ⟨m, rfl⟩ := Int.eq_ofNat_of_zero_le (show 0 ≤ n by omega)
    obtain ⟨j, rfl⟩ := Int.eq_ofNat_of_zero_le (show 0 ≤ k by omega)
    exact refput_ok m j w (by omega) (by omega) (by omega)

set_option maxHeartbeats 400000 in
theorem refget_ok (s : ByteArray) (w : World) (h1 : 1 ≤ s.size) (h7 : s.size ≤ 7) :
    Calls Tryd.prog 45 #[.string s] w fun e w' => e = .returned (.tuple #[.int .i64 ((numL s.data.toList : Nat) : Int), .bool true]) ∧ w = w' := by
  have hs1 : ¬ s = ByteArray.empty := by rintro rfl; exact absurd h1 (by decide)
  go_enter Tryd.func45, Tryd.ntmps45
  go_wp2
  go_loop [4, 5] (fun n i => ∃ j : Nat, j ≤ s.size ∧ i = .int .i64 (j : Int) ∧ n = .int .i64 ((numL (s.data.toList.take j) : Nat) : Int)) (fun _ i => s.size - (intOf i).toNat)
  case atStart => exact ⟨0, by omega, rfl, rfl⟩
  case round =>
    obtain ⟨j, hj, rfl, rfl⟩ := hrel
    by_cases hlt : j < s.size
    · have hnum := Lib.hid (numL_snoc (s.data.toList.take j) s[j])
      have hlt2 := numL_lt (s.data.toList.take j)
      have hlen : (s.data.toList.take j).length = j := by simp; omega
      rw [hlen] at hlt2
      have hp6 : 256 ^ j ≤ 281474976710656 := by
        have := Nat.pow_le_pow_right (n := 256) (by omega) (show j ≤ 6 by omega)
        simpa using this
      have hb := (s[j]).toNat_lt
      generalize numL (s.data.toList.take j) = m at hnum hlt2 ⊢
      clear hlen
      go_wp2
      go_round
      case rel => exact ⟨j + 1, by omega, by go_num, by rw [take_snoc' s j hlt, hnum.out]; go_num⟩
      case measure => simp [intOf]; omega
    · obtain rfl : j = s.size := by omega
      rw [show s.data.toList.take s.size = s.data.toList from List.take_of_length_le (by simp)]
      go_wp2
      go_ret2
      exact ⟨rfl, rfl⟩

theorem refget_bad (s : ByteArray) (w : World) (h : s.size = 0 ∨ 7 < s.size) (hs : s.size ≤ maxLen) :
    Calls Tryd.prog 45 #[.string s] w fun e w' => e = .returned (.tuple #[.int .i64 0, .bool false]) ∧ w = w' := by
  unfold maxLen at hs
  by_cases h0 : s.size = 0
  · obtain rfl : s = ByteArray.empty := by
      rcases s with ⟨⟨l⟩⟩
      obtain rfl : l = [] := by simpa [ByteArray.size] using h0
      rfl
    go_enter Tryd.func45, Tryd.ntmps45
    go_wp2
    go_ret2
    exact ⟨rfl, rfl⟩
  · have h7 : 7 < s.size := by omega
    have hs1 : ¬ s = ByteArray.empty := by rintro rfl; exact h0 rfl
    go_enter Tryd.func45, Tryd.ntmps45
    go_wp2
    go_ret2
    exact ⟨rfl, rfl⟩

theorem refget_any (s : ByteArray) (w : World) (hs : s.size ≤ maxLen) :
    Calls Tryd.prog 45 #[.string s] w fun e w' => e = .returned (.tuple #[.int .i64 (getN s), .bool (getB s)]) ∧ w = w' := by
  unfold getN getB
  by_cases h : 1 ≤ s.size ∧ s.size ≤ 7
  · rw [if_pos h, decide_eq_true h]
    exact refget_ok s w h.1 h.2
  · rw [if_neg h, decide_eq_false h]
    exact refget_bad s w (by omega) hs
end Go.Proofs.YtlignckncgceaabDoor
