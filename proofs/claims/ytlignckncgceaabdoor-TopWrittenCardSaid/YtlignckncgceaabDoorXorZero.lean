/- What xor's Zero does. -/
import Derived.Test.YtlignckncgceaabDoorXorWalks
namespace Go.Proofs.YtlignckncgceaabDoor
open Go.RowKit Xor

/-- So many noughts. -/
def zeroS (n : Int) : ByteArray := if n < 0 ∨ 65536 < n then ByteArray.empty else textOf (fun _ => 0) n.toNat
set_option maxHeartbeats 400000 in
theorem zero_any (n : Int) (w : World) :
    Calls Tryd.prog 26 #[.int .i64 n] w fun e w' => e = .returned (.string (zeroS n)) ∧ Below w.heap.size w w' := by
  unfold zeroS
  by_cases h1 : n < 0
  · rw [if_pos (.inl h1)]
    go_enter Tryd.func26, Tryd.ntmps26
    go_wp2
    go_ret
    exact ⟨rfl, Below.refl _ _⟩
  by_cases h2 : 65536 < n
  · rw [if_pos (.inr h2)]
    go_enter Tryd.func26, Tryd.ntmps26
    go_wp2
    go_ret
    exact ⟨rfl, Below.refl _ _⟩
  rw [if_neg (by omega)]
  obtain ⟨m, rfl⟩ := Int.eq_ofNat_of_zero_le (show 0 ≤ n by omega)
  have hm : m ≤ 65536 := by omega
  rw [show ((m : Nat) : Int).toNat = m by omega]
  obtain ⟨i0, hi, hz0, hz1, hz2⟩ := info_parts infoB
  have hmk := fun W => run_make_m (P := Tryd.prog) 49 5 i0 (.int .u8 0) Tryd.underlying49 hi hz0 .i64 .i64 m m (Nat.le_refl _) (by rw [hz2]; omega) (by omega) W
  rw [hz1] at hmk
  have hB : BytesAt (w.alloc (.cells (madeCells #[.int .u8 0] m) 5)) w.heap.size ((List.range m).map fun _ => 0) := fun j hj => by
    have h := made_noughts w 5 (.int .u8 0) m j (by simpa using hj)
    rw [h, List.getElem_map]; rfl
  have hcb := back hB (show ((List.range m).map fun _ => (0 : UInt8)).length = m by simp) (cap := m) Tryd.underlying49 Tryd.underlying5 Tryd.underlying9
  clear hi hz0 hz1 hz2 hB
  go_enter Tryd.func26, Tryd.ntmps26
  go_wp2
  go_ret
  exact ⟨rfl, (Below.refl _ _).alloc (Nat.le_refl _) _⟩
end Go.Proofs.YtlignckncgceaabDoor
