/- What speaks and block of stripe's laws do. -/
import Derived.Test.YtonoanjakfaloaaSpAdd
import Derived.Test.YtonoanjakfaloaaSpN1
import Derived.Test.YtonoanjakfaloaaSpRes
import Derived.Test.YtonoanjakfaloaaSpPie
namespace Go.Proofs.Ytonoanjakfaloaa
open Go.RowKit Sp Xor

/-- Sixty-four bytes 00. -/
def zs64 : ByteArray := ⟨(List.replicate 64 (0 : UInt8)).toArray⟩
theorem zs64_size : zs64.size = 64 := by decide +kernel
theorem mk64 : ∀ W : World, (Instr.makeSlice 91 (.int .i64 64) (.int .i64 64)).run Try.prog W = .ok (.slice (some ⟨W.heap.size, 0, none⟩) 64 64) (W.alloc (.cells (madeCells #[.int .u8 0] 64) 5)) := by
  obtain ⟨i0, hi, hz0, hz1, hz2⟩ := info_parts infoB
  have hmk := fun W => run_make_m (P := Try.prog) 91 5 i0 (.int .u8 0) Try.underlying91 hi hz0 .i64 .i64 64 64 (Nat.le_refl _) (by rw [hz2]; omega) (by omega) W
  rw [hz1] at hmk
  exact hmk
theorem made64 (w : World) : (convert 91 9 (.slice (some ⟨w.heap.size, 0, none⟩) 64 64)).run Try.prog (w.alloc (.cells (madeCells #[.int .u8 0] 64) 5)) = .ok (.string zs64) (w.alloc (.cells (madeCells #[.int .u8 0] 64) 5)) := by
  have hB : BytesAt (w.alloc (.cells (madeCells #[.int .u8 0] 64) 5)) w.heap.size (List.replicate 64 0) := fun j hj => by
    rw [made_noughts w 5 (.int .u8 0) 64 j (by simpa using hj), List.getElem_replicate]; rfl
  exact back hB (by simp) (cap := 64) Try.underlying91 Try.underlying5 Try.underlying9
/-- A text cut or filled up, as the laws' block. -/
def blkS (s : ByteArray) (wrong : Bool) : ByteArray := if wrong = true then s.extract 0 (min s.size 200) else (s ++ zs64).extract 0 64
theorem blkS_size (s : ByteArray) : (blkS s false).size = 64 := by
  show ((s ++ zs64).extract 0 64).size = 64
  rw [ByteArray.size_extract, ByteArray.size_append, zs64_size]
  omega
set_option maxHeartbeats 1000000 in
theorem block_any11 (s : ByteArray) (wrong : Bool) (w : World) (hs : s.size ≤ 140737488351232) :
    Calls Try.prog 16 #[.string s, .bool wrong] w fun e w' => e = .returned (.string (blkS s wrong)) ∧ Below w.heap.size w w' := by
  cases wrong
  · have h0 := mk64
    have h1 := made64 w
    have h2 : (s ++ zs64).size = s.size + 64 := by rw [ByteArray.size_append, zs64_size]
    have h3 := zs64_size
    have e : blkS s false = (s ++ zs64).extract 0 64 := rfl
    rw [e]
    obtain ⟨z, hz⟩ : ∃ z, z = zs64 := ⟨_, rfl⟩
    rw [← hz] at h1 h2 h3 ⊢
    clear e hz
    go_enter Try.func16, Try.ntmps16
    go_wp2
    go_ret
    exact ⟨rfl, (Below.refl _ _).alloc (Nat.le_refl _) _⟩
  · have e : blkS s true = s.extract 0 (min s.size 200) := rfl
    rw [e]
    obtain ⟨m, hm⟩ : ∃ m, min s.size 200 = m := ⟨_, rfl⟩
    have h1 : min (s.size : Int) 200 = (m : Int) := by omega
    have h2 : (m : Int) ≤ (s.size : Int) := by omega
    rw [hm]
    clear e hm
    go_enter Try.func16, Try.ntmps16
    go_wp2
    go_ret
    exact ⟨rfl, Below.refl _ _⟩
end Go.Proofs.Ytonoanjakfaloaa
