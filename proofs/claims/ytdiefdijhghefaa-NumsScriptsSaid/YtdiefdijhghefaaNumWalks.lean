/- What nums.Put and nums.Get do. -/
import Derived.Test.YtdiefdijhghefaaBytes
import Derived.Test.YtdiefdijhghefaaNumMath
import Derived.Laws.MakeOwn
namespace Go.Proofs.Ytdiefdijhghefaa
open Go.RowKit Num

theorem run_make_rowN {P : Program} (t e : TypeId) (i : TypeInfo) (z : Value) (ht : P.underlying t = some (.slice e)) (hi : P.info? e = some i) (hz : i.zero = some z)
    (kl kc : IntKind) (n c : Nat) (hnc : n ≤ c) (hbytes : i.bytes * c ≤ 281474976710656) (h63 : c ≤ 9223372036854775807) (w : World) :
    (Instr.makeSlice t (.int kl (n : Int)) (.int kc (c : Int))).run P w = .ok (.slice (some ⟨w.heap.size, 0, none⟩) n c) (w.alloc (.cells (madeCells z.cells (c * i.size)) e)) := by
  have hb : (i.bytes : Int) * (c : Int) ≤ 281474976710656 := by
    have h : ((i.bytes * c : Nat) : Int) ≤ 281474976710656 := by omega
    rwa [Int.natCast_mul] at h
  have hr := run_make (P := P) w t e i z ht hi hz kl kc n c (by omega) (by omega) hb (by omega)
  simp only [Int.toNat_natCast] at hr
  exact hr

theorem infoByte : (Try.prog.info? 5).map (fun i => (i.zero, i.size, i.bytes)) = some (some (.int .u8 0), 1, 1) := by kernel_rfl

theorem made_bytes (w : World) (k : Nat) : BytesAt (w.alloc (.cells (madeCells #[.int .u8 0] k) 5)) w.heap.size (List.replicate k 0) := fun j hj => by
  rw [World.cell?_alloc_new, ← Array.getElem?_toList, toList_madeCells_one]
  simp at hj
  simp [hj]

theorem digit_int (n j : Nat) : (n : Int) / 2 ^ (8 * j) % 256 = ((UInt8.ofNat (n / 256 ^ j % 256)).toNat : Int) := by
  rw [byte_digit, ← pow8]
  simp

/-- What stands in memory with the lowest j bytes laid. -/
def Laid (w wr : World) (g n k j : Nat) : Prop := BytesAt wr g (fill n k j) ∧ (∀ i, i < k → wr.frozen? ⟨g, i, none⟩ = false) ∧ Below w.heap.size w wr ∧ w.heap.size ≤ g
theorem Laid.step {w wr : World} {g n k j : Nat} (h : Laid w wr g n k j) (hj : j < k) {d : Int} (hd : d = ((UInt8.ofNat (n / 256 ^ j % 256)).toNat : Int)) : Laid w (wr.setCell ⟨g, k - 1 - j, none⟩ (.int .u8 d)) g n k (j + 1) := by
  obtain ⟨h1, h2, h3, h4⟩ := h
  subst hd
  refine ⟨?_, ?_, h3.setCell (by exact h4) _, h4⟩
  · rw [← fill_step n k j hj]
    exact h1.set (by rw [fill_length _ _ _ (by omega)]; omega) _
  · intro i hi
    rw [World.frozen?_setCell]
    exact h2 i hi
theorem Laid.at_ {w wr : World} {g n k j : Nat} (h : Laid w wr g n k j) (hj : j < k) : (∃ u, wr.cell? ⟨g, k - 1 - j, none⟩ = some (.int .u8 u)) ∧ wr.frozen? ⟨g, k - 1 - j, none⟩ = false :=
  ⟨⟨_, h.1 (k - 1 - j) (by rw [fill_length _ _ _ (by omega)]; omega)⟩, h.2.1 _ (by omega)⟩

set_option maxHeartbeats 400000 in
theorem put_ok (n k : Nat) (w : World) (h1 : 1 ≤ k) (h7 : k ≤ 7) (hn : n < 256 ^ k) :
    Calls Try.prog 11 #[.int .i64 (n : Int), .int .i64 (k : Int)] w fun e w' => e = .returned (.string ⟨(putL n k).toArray⟩) ∧ Below w.heap.size w w' := by
  have hp7 := pow_le7 h7
  have hn56 : n < 72057594037927936 := by omega
  have hsh : (n : Int) / 2 ^ (8 * k) = 0 := by
    have : ((n / 2 ^ (8 * k) : Nat) : Int) = 0 := by rw [pow8, Nat.div_eq_of_lt hn]; rfl
    simpa using this
  obtain ⟨i0, hi, hz0, hz1, hz2⟩ := info_parts infoByte
  have hmk := fun W => run_make_rowN (P := Try.prog) 51 5 i0 (.int .u8 0) Try.underlying51 hi hz0 .i64 .i64 k k (Nat.le_refl _) (by rw [hz2]; omega) (by omega) W
  rw [hz1] at hmk
  clear hi hz0 hz1 hz2
  go_enter Try.func11, Try.ntmps11
  go_wp2
  refine fresh_world (fun wx => Laid w wx w.heap.size n k 0) ⟨by rw [fill_start]; exact made_bytes w k, fun i _ => ?_, (Below.refl _ _).alloc (Nat.le_refl _) _, Nat.le_refl _⟩ ?_
  · have := World.frozen?_alloc_mark w (madeCells #[.int .u8 0] k) 5 0 0 i
    exact this.trans (by simp)
  intro W2 hL
  generalize hg : w.heap.size = g at hL ⊢
  have hgH := Lib.hid hg
  clear hg hmk hsh
  go_loopw [27] (fun i wr => ∃ j : Nat, j ≤ k ∧ i = .int .i64 (j : Int) ∧ Laid w wr g n k j) (fun i _ => k - (intOf i).toNat)
  case atStart => exact ⟨0, by omega, rfl, hL⟩
  case round =>
    clear hL
    obtain ⟨j, hj, rfl, hL⟩ := hrel
    by_cases hlt : j < k
    · obtain ⟨⟨u, hc⟩, hf⟩ := hL.at_ hlt
      have hLH := Lib.hid hL
      clear hL
      have hi1 : ((k : Int) - 1 - (j : Int)).toNat = k - 1 - j := by omega
      go_wp2
      go_roundw
      case rel => exact ⟨j + 1, by omega, by go_num, hLH.out.step hlt (digit_int n j)⟩
      case measure => simp [intOf]; omega
    · obtain rfl : j = k := by omega
      have hB := hL.1
      have hW := hL.2.2.1
      rw [fill_end] at hB
      have hcb : (convert 51 9 (.slice (some ⟨g, 0, none⟩) j j)).run Try.prog wr = .ok (.string ⟨(putL n j).toArray⟩) wr :=
        back hB (putL_length n j) Try.underlying51 Try.underlying5 Try.underlying9
      clear hL hB
      go_wp2
      go_ret
      exact ⟨rfl, hW⟩

theorem put_bad (n k : Int) (w : World) (h : k < 1 ∨ 7 < k ∨ n < 0) :
    Calls Try.prog 11 #[.int .i64 n, .int .i64 k] w fun e w' => e = .returned (.string ByteArray.empty) ∧ w = w' := by
  by_cases h1 : k < 1
  · go_enter Try.func11, Try.ntmps11
    go_wp2
    go_ret
    exact ⟨rfl, rfl⟩
  by_cases h2 : 7 < k
  · go_enter Try.func11, Try.ntmps11
    go_wp2
    go_ret
    exact ⟨rfl, rfl⟩
  have h3 : n < 0 := by omega
  go_enter Try.func11, Try.ntmps11
  go_wp2
  go_ret
  exact ⟨rfl, rfl⟩

theorem put_great (n k : Nat) (w : World) (h1 : 1 ≤ k) (h7 : k ≤ 7) (hn : 256 ^ k ≤ n) :
    Calls Try.prog 11 #[.int .i64 (n : Int), .int .i64 (k : Int)] w fun e w' => e = .returned (.string ByteArray.empty) ∧ w = w' := by
  have hsh : ((n : Int) / 2 ^ (8 * k) == 0) = false := by
    rw [beq_eq_false_iff_ne]
    have h2 : 0 < 256 ^ k := Nat.pow_pos (by omega)
    have h3 : 1 ≤ n / 2 ^ (8 * k) := by rw [pow8]; exact (Nat.le_div_iff_mul_le h2).2 (by omega)
    have h4 : ((n / 2 ^ (8 * k) : Nat) : Int) = (n : Int) / 2 ^ (8 * k) := by simp
    omega
  have hsh2 : ((n : Int) / 2 ^ (8 * k) != 0) = true := by rw [bne, hsh]; rfl
  go_enter Try.func11, Try.ntmps11
  go_wp2
  go_ret
  exact ⟨rfl, rfl⟩

theorem take_snoc' (s : ByteArray) (k : Nat) (h : k < s.size) : s.data.toList.take (k + 1) = s.data.toList.take k ++ [s[k]] := by
  rw [List.take_succ_eq_append_getElem (by simpa using h)]; rfl

theorem ofInt_i64 (a : Nat) (ha : a < 9223372036854775808) : (BitVec.ofInt 64 (a : Int)).toNat = a := by
  rw [BitVec.ofInt_natCast, BitVec.toNat_ofNat]; exact Nat.mod_eq_of_lt (by omega)
theorem i64_or_nat (a b : Nat) (ha : a < 9223372036854775808) (hb : b < 9223372036854775808) : bits .or .i64 (a : Int) (b : Int) = ((a ||| b : Nat) : Int) := by
  have hx : a ||| b < 2 ^ 63 := Nat.or_lt_two_pow (by omega) (by omega)
  show IntKind.i64.wrap ((BitVec.ofInt 64 (a : Int) ||| BitVec.ofInt 64 (b : Int)).toNat : Int) = _
  rw [BitVec.toNat_or, ofInt_i64 a ha, ofInt_i64 b hb, IntKind.wrap_i64]
  omega
theorem or_byte (m : Nat) (b : UInt8) (hm : m < 281474976710656) : bits .or .i64 ((m : Int) * 256) (wrap64 (b.toNat : Int)) = ((m * 256 + b.toNat : Nat) : Int) := by
  have hb := b.toNat_lt
  rw [IntWalk.wrap64_in _ ⟨by omega, by omega⟩, show (m : Int) * 256 = ((m * 256 : Nat) : Int) by omega, i64_or_nat _ _ (by omega) (by omega), nat_join 8 _ _ (by omega) (by omega)]
theorem ret_get {a b : Int} (h : a = b) : Ending.returned (.tuple #[.int .i64 a, .bool true]) = .returned (.tuple #[.int .i64 b, .bool true]) := by rw [h]

set_option maxHeartbeats 400000 in
theorem get_ok (s : ByteArray) (w : World) (h1 : 1 ≤ s.size) (h7 : s.size ≤ 7) :
    Calls Try.prog 13 #[.string s] w fun e w' => e = .returned (.tuple #[.int .i64 ((numL s.data.toList : Nat) : Int), .bool true]) ∧ w = w' := by
  have hs1 : ¬ s = ByteArray.empty := by rintro rfl; exact absurd h1 (by decide)
  go_enter Try.func13, Try.ntmps13
  go_wp2
  go_loop [4, 16] (fun n i => ∃ j : Nat, j ≤ s.size ∧ i = .int .i64 (j : Int) ∧ n = .int .i64 ((numL (s.data.toList.take j) : Nat) : Int)) (fun _ i => s.size - (intOf i).toNat)
  case atStart => exact ⟨0, by omega, rfl, rfl⟩
  case round =>
    obtain ⟨j, hj, rfl, rfl⟩ := hrel
    by_cases hlt : j < s.size
    · have hnum := Lib.hid (numL_snoc (s.data.toList.take j) s[j])
      have hlt2 := numL_lt (s.data.toList.take j)
      have hlen : (s.data.toList.take j).length = j := by simp; omega
      rw [hlen] at hlt2
      have hp6 : 256 ^ j ≤ 281474976710656 := by
        have := Nat.pow_le_pow_right (n := 256) (by omega) (show j ≤ 6 by omega)
        simpa using this
      generalize numL (s.data.toList.take j) = m at hnum hlt2 ⊢
      clear hlen
      go_wp2
      go_round
      case rel => exact ⟨j + 1, by omega, by go_num, by rw [take_snoc' s j hlt, hnum.out, or_byte m _ (by omega)]⟩
      case measure => simp [intOf]; omega
    · obtain rfl : j = s.size := by omega
      rw [show s.data.toList.take s.size = s.data.toList from List.take_of_length_le (by simp)]
      go_wp2
      go_ret2
      exact ⟨rfl, rfl⟩

theorem get_bad (s : ByteArray) (w : World) (h : s.size = 0 ∨ 7 < s.size) (hs : s.size ≤ maxLen) :
    Calls Try.prog 13 #[.string s] w fun e w' => e = .returned (.tuple #[.int .i64 0, .bool false]) ∧ w = w' := by
  unfold maxLen at hs
  by_cases h0 : s.size = 0
  · obtain rfl : s = ByteArray.empty := by
      rcases s with ⟨⟨l⟩⟩
      obtain rfl : l = [] := by simpa [ByteArray.size] using h0
      rfl
    go_enter Try.func13, Try.ntmps13
    go_wp2
    go_ret2
    exact ⟨rfl, rfl⟩
  · have h7 : 7 < s.size := by omega
    have hs1 : ¬ s = ByteArray.empty := by rintro rfl; exact h0 rfl
    go_enter Try.func13, Try.ntmps13
    go_wp2
    go_ret2
    exact ⟨rfl, rfl⟩
end Go.Proofs.Ytdiefdijhghefaa
