/- What xor does. -/
import Derived.Test.YtbgkmppngnedlabDoorOBase
import Derived.Test.YtbgkmppngnedlabDoorOMath
namespace Go.Proofs.YtbgkmppngnedlabDoor
open Go.RowKit Xor
theorem ret_u64 {a b : Int} (h : a = b) : Ending.returned (.int .u64 a) = .returned (.int .u64 b) := by rw [h]
theorem pow256 (j : Nat) (hj : j < 8) : 256 ^ j = 2 ^ (8 * j) ∧ 256 * 256 ^ j ≤ 18446744073709551616 := by
  refine ⟨by rw [Nat.pow_mul], ?_⟩
  have := Nat.pow_le_pow_right (n := 256) (by omega) (show j + 1 ≤ 8 by omega)
  rw [Nat.pow_succ] at this
  omega
theorem word_join (x j : Nat) (b : UInt8) (hj : j < 8) (hx : x < 256 ^ j) : bits .or .u64 (x : Int) (IntKind.u64.wrap (IntKind.u64.wrap (b.toNat : Int) * 2 ^ (8 * j))) = ((x + b.toNat * 256 ^ j : Nat) : Int) := by
  have hb := b.toNat_lt
  obtain ⟨hp, hpl⟩ := pow256 j hj
  have h0 : IntKind.u64.wrap (b.toNat : Int) = ((b.toNat : Nat) : Int) := by rw [IntKind.wrap_u64]; omega
  have h2 : b.toNat * 256 ^ j ≤ 255 * 256 ^ j := Nat.mul_le_mul_right _ (by omega)
  have h1 : IntKind.u64.wrap ((b.toNat : Int) * 2 ^ (8 * j)) = ((b.toNat * 256 ^ j : Nat) : Int) := by
    have e : ((b.toNat : Int) * 2 ^ (8 * j)) = ((b.toNat * 256 ^ j : Nat) : Int) := by rw [hp]; simp
    rw [e, IntKind.wrap_u64]; omega
  rw [h0, h1, u64_or_nat _ _ (by omega) (by omega)]
  congr 1
  have h3 := Nat.two_pow_add_eq_or_of_lt (i := 8 * j) (b := x) (by rw [← hp]; exact hx) b.toNat
  rw [← hp, Nat.mul_comm] at h3
  rw [Nat.or_comm, ← h3, Nat.add_comm]
/-- Are all bytes 00? -/
def emptyB (s : ByteArray) : Bool := decide (∀ i, i < s.size → byteAt s i = 0)
theorem infoB : (Tryd.prog.info? 5).map (fun i => (i.zero, i.size, i.bytes)) = some (some (.int .u8 0), 1, 1) := by kernel_rfl
end Go.Proofs.YtbgkmppngnedlabDoor
namespace Go.Proofs.YtbgkmppngnedlabDoor
open Go.RowKit Xor
/-- So many noughts. -/
def zeroS (n : Int) : ByteArray := if n < 0 ∨ 65536 < n then ByteArray.empty else textOf (fun _ => 0) n.toNat
set_option maxHeartbeats 400000 in
theorem zero_any (n : Int) (w : World) :
    Calls Tryd.prog 27 #[.int .i64 n] w fun e w' => e = .returned (.string (zeroS n)) ∧ Below w.heap.size w w' := by
  unfold zeroS
  by_cases h1 : n < 0
  · rw [if_pos (.inl h1)]
    go_enter Tryd.func27, Tryd.ntmps27
    go_wp2
    go_ret
    exact ⟨rfl, Below.refl _ _⟩
  by_cases h2 : 65536 < n
  · rw [if_pos (.inr h2)]
    go_enter Tryd.func27, Tryd.ntmps27
    go_wp2
    go_ret
    exact ⟨rfl, Below.refl _ _⟩
  rw [if_neg (by omega)]
  obtain ⟨m, rfl⟩ := Int.eq_ofNat_of_zero_le (show 0 ≤ n by omega)
  have hm : m ≤ 65536 := by omega
  rw [show ((m : Nat) : Int).toNat = m by omega]
  obtain ⟨i0, hi, hz0, hz1, hz2⟩ := info_parts infoB
  have hmk := fun W => run_make_m (P := Tryd.prog) 43 5 i0 (.int .u8 0) Tryd.underlying43 hi hz0 .i64 .i64 m m (Nat.le_refl _) (by rw [hz2]; omega) (by omega) W
  rw [hz1] at hmk
  have hB : BytesAt (w.alloc (.cells (madeCells #[.int .u8 0] m) 5)) w.heap.size ((List.range m).map fun _ => 0) := fun j hj => by
    have h := made_noughts w 5 (.int .u8 0) m j (by simpa using hj)
    rw [h, List.getElem_map]; rfl
  have hcb := back hB (show ((List.range m).map fun _ => (0 : UInt8)).length = m by simp) (cap := m) Tryd.underlying43 Tryd.underlying5 Tryd.underlying9
  clear hi hz0 hz1 hz2 hB
  go_enter Tryd.func27, Tryd.ntmps27
  go_wp2
  go_ret
  exact ⟨rfl, (Below.refl _ _).alloc (Nat.le_refl _) _⟩
end Go.Proofs.YtbgkmppngnedlabDoor
