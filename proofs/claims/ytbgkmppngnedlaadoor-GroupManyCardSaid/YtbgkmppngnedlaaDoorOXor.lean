/- What xor does. -/
import Derived.Test.YtbgkmppngnedlaaDoorOBase
import Derived.Test.YtbgkmppngnedlaaDoorOMath
namespace Go.Proofs.YtbgkmppngnedlaaDoor
open Go.RowKit Xor
theorem ret_u64 {a b : Int} (h : a = b) : Ending.returned (.int .u64 a) = .returned (.int .u64 b) := by rw [h]
theorem pow256 (j : Nat) (hj : j < 8) : 256 ^ j = 2 ^ (8 * j) ∧ 256 * 256 ^ j ≤ 18446744073709551616 := by
  refine ⟨by rw [Nat.pow_mul], ?_⟩
  have := Nat.pow_le_pow_right (n := 256) (by omega) (show j + 1 ≤ 8 by omega)
  rw [Nat.pow_succ] at this
  omega
theorem word_join (x j : Nat) (b : UInt8) (hj : j < 8) (hx : x < 256 ^ j) : bits .or .u64 (x : Int) (IntKind.u64.wrap (IntKind.u64.wrap (b.toNat : Int) * 2 ^ (8 * j))) = ((x + b.toNat * 256 ^ j : Nat) : Int) := by
  have hb := b.toNat_lt
  obtain ⟨hp, hpl⟩ := pow256 j hj
  have h0 : IntKind.u64.wrap (b.toNat : Int) = ((b.toNat : Nat) : Int) := by rw [IntKind.wrap_u64]; omega
  have h2 : b.toNat * 256 ^ j ≤ 255 * 256 ^ j := Nat.mul_le_mul_right _ (by omega)
  have h1 : IntKind.u64.wrap ((b.toNat : Int) * 2 ^ (8 * j)) = ((b.toNat * 256 ^ j : Nat) : Int) := by
    have e : ((b.toNat : Int) * 2 ^ (8 * j)) = ((b.toNat * 256 ^ j : Nat) : Int) := by rw [hp]; simp
    rw [e, IntKind.wrap_u64]; omega
  rw [h0, h1, u64_or_nat _ _ (by omega) (by omega)]
  congr 1
  have h3 := Nat.two_pow_add_eq_or_of_lt (i := 8 * j) (b := x) (by rw [← hp]; exact hx) b.toNat
  rw [← hp, Nat.mul_comm] at h3
  rw [Nat.or_comm, ← h3, Nat.add_comm]
/-- Are all bytes 00? -/
def emptyB (s : ByteArray) : Bool := decide (∀ i, i < s.size → byteAt s i = 0)
set_option maxHeartbeats 400000 in
theorem empty_any (s : ByteArray) (w : World) (hs : s.size ≤ maxLen) :
    Calls Tryd.prog 31 #[.string s] w fun e w' => e = .returned (.bool (emptyB s)) ∧ w = w' := by
  unfold maxLen at hs
  go_enter Tryd.func31, Tryd.ntmps31
  go_wp2_with fail
  go_loop [6] (fun i => ∃ j : Nat, j ≤ s.size ∧ i = .int .i64 (j : Int) ∧ ∀ i, i < j → byteAt s i = 0) (fun i => s.size - (intOf i).toNat)
  case atStart => exact ⟨0, Nat.zero_le _, rfl, fun i h => absurd h (Nat.not_lt_zero i)⟩
  case round =>
    obtain ⟨j, hj, rfl, hall⟩ := hrel
    have hallH := Lib.hid hall
    clear hall
    by_cases hlt : j < s.size
    · have hb := byteAt_lt hlt
      have hbH := Lib.hid hb
      clear hb
      by_cases h0 : s[j] = 0
      · have hz : ((s[j].toNat : Int) == 0) = true := by rw [h0]; rfl
        have hz2 : (s[j].toNat : Int) = 0 := by rw [h0]; rfl
        have h0H := Lib.hid h0
        clear h0
        go_wp2
        go_round
        case rel => exact ⟨j + 1, by omega, by go_num, fun i hi => by
          rcases Nat.lt_succ_iff_lt_or_eq.1 hi with h | h
          · exact hallH.out i h
          · rw [h, hbH.out]; exact h0H.out⟩
        case measure => simp [intOf]; omega
      · have hz : ((s[j].toNat : Int) == 0) = false := by
          rw [beq_eq_false_iff_ne]
          intro h
          exact h0 (UInt8.toNat_inj.1 (by have : s[j].toNat = 0 := by omega
                                          rw [this]; rfl))
        have hz2 : ¬ (s[j].toNat : Int) = 0 := by simpa using hz
        have e : emptyB s = false := decide_eq_false (fun h => h0 (by rw [← hbH.out]; exact h j hlt))
        have eH := Lib.hid e
        clear h0 e
        go_wp2
        go_ret
        exact ⟨by rw [eH.out]; rfl, rfl⟩
    · obtain rfl : j = s.size := by omega
      have e : emptyB s = true := decide_eq_true hallH.out
      have eH := Lib.hid e
      clear e
      go_wp2
      go_ret
      exact ⟨by rw [eH.out]; rfl, rfl⟩
theorem infoB : (Tryd.prog.info? 5).map (fun i => (i.zero, i.size, i.bytes)) = some (some (.int .u8 0), 1, 1) := by kernel_rfl
end Go.Proofs.YtbgkmppngnedlaaDoor
namespace Go.Proofs.YtbgkmppngnedlaaDoor
open Go.RowKit Xor
/-- So many noughts. -/
def zeroS (n : Int) : ByteArray := if n < 0 ∨ 65536 < n then ByteArray.empty else textOf (fun _ => 0) n.toNat
set_option maxHeartbeats 400000 in
theorem zero_any (n : Int) (w : World) :
    Calls Tryd.prog 17 #[.int .i64 n] w fun e w' => e = .returned (.string (zeroS n)) ∧ Below w.heap.size w w' := by
  unfold zeroS
  by_cases h1 : n < 0
  · rw [if_pos (.inl h1)]
    go_enter Tryd.func17, Tryd.ntmps17
    go_wp2
    go_ret
    exact ⟨rfl, Below.refl _ _⟩
  by_cases h2 : 65536 < n
  · rw [if_pos (.inr h2)]
    go_enter Tryd.func17, Tryd.ntmps17
    go_wp2
    go_ret
    exact ⟨rfl, Below.refl _ _⟩
  rw [if_neg (by omega)]
  obtain ⟨m, rfl⟩ := Int.eq_ofNat_of_zero_le (show 0 ≤ n by omega)
  have hm : m ≤ 65536 := by omega
  rw [show ((m : Nat) : Int).toNat = m by omega]
  obtain ⟨i0, hi, hz0, hz1, hz2⟩ := info_parts infoB
  have hmk := fun W => run_make_m (P := Tryd.prog) 44 5 i0 (.int .u8 0) Tryd.underlying44 hi hz0 .i64 .i64 m m (Nat.le_refl _) (by rw [hz2]; omega) (by omega) W
  rw [hz1] at hmk
  have hB : BytesAt (w.alloc (.cells (madeCells #[.int .u8 0] m) 5)) w.heap.size ((List.range m).map fun _ => 0) := fun j hj => by
    have h := made_noughts w 5 (.int .u8 0) m j (by simpa using hj)
    rw [h, List.getElem_map]; rfl
  have hcb := back hB (show ((List.range m).map fun _ => (0 : UInt8)).length = m by simp) (cap := m) Tryd.underlying44 Tryd.underlying5 Tryd.underlying9
  clear hi hz0 hz1 hz2 hB
  go_enter Tryd.func17, Tryd.ntmps17
  go_wp2
  go_ret
  exact ⟨rfl, (Below.refl _ _).alloc (Nat.le_refl _) _⟩
end Go.Proofs.YtbgkmppngnedlaaDoor
