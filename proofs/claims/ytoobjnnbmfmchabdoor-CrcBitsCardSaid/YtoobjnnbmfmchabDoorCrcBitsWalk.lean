/- What the law CrcBits does: two turned bits, each taken by its contract. -/
import Derived.Test.YtoobjnnbmfmchabDoorCrcWalks
namespace Go.Proofs.YtoobjnnbmfmchabDoor
open Go.RowKit Crc

theorem turn_bit (m a : Nat) (w : World) (hT : Tab w) (hm : m < 2 ^ 12) (ha : a < 2 ^ 5) :
    Calls Tryd.prog 12 #[.int .i64 ((m : Int) + (a : Int) / 8), .int .u8 (2 ^ (a % 8) % 256)] w fun e w' => e = .returned (.int .u32 (turnI (m + a / 8) (bitOf a))) ∧ w = w' := by
  have h := turn_any (m + a / 8) (bitOf a) w hT (by omega)
  rw [bitOf_toNat] at h
  have e1 : ((m + a / 8 : Nat) : Int) = (m : Int) + (a : Int) / 8 := by omega
  have e2 : ((2 ^ (a % 8) : Nat) : Int) = 2 ^ (a % 8) % 256 := by
    have : ∀ i : Fin 8, ((2 ^ i.1 : Nat) : Int) = 2 ^ i.1 % 256 := by decide
    exact this ⟨a % 8, Nat.mod_lt _ (by omega)⟩
  rw [e1, e2] at h
  exact h

set_option maxHeartbeats 400000 in
theorem bits_any (n x y : Int) (w : World) (hT : Tab w) :
    Calls Tryd.prog 7 #[.int .i64 n, .int .i64 x, .int .i64 y] w fun e w' => e = .returned (.bool true) ∧ Below w.heap.size w w' := by
  obtain ⟨m, hm, hmask0⟩ := mask_nat n 12 4095 rfl (by omega)
  have hmask : bits .and .i64 n 4095 = (m : Int) := hmask0
  obtain ⟨a, ha, hmaska0⟩ := mask_nat x 5 31 rfl (by omega)
  have hmaska : bits .and .i64 x 31 = (a : Int) := hmaska0
  obtain ⟨b, hb, hmaskb0⟩ := mask_nat y 5 31 rfl (by omega)
  have hmaskb : bits .and .i64 y 31 = (b : Int) := hmaskb0
  clear hmask0 hmaska0 hmaskb0
  have tA := fun w hT => turn_bit m a w hT hm ha
  have tB := fun w hT => turn_bit m b w hT hm hb
  have hX : (turnI (m + a / 8) (bitOf a) != 0) = true := by
    rw [bne_iff_ne]; intro h; exact bitOf_ne a ((turnI_zero_iff _ _).1 h)
  obtain ⟨z, hXY, hab⟩ : ∃ z : Bool, (turnI (m + a / 8) (bitOf a) == turnI (m + b / 8) (bitOf b)) = z ∧ ((a : Int) == (b : Int)) = z := by
    refine ⟨decide (a = b), ?_, ?_⟩
    · rw [Bool.eq_iff_iff, beq_iff_eq, decide_eq_true_iff, ← bits_apart m a b ha hb]
      unfold turnI turnW
      constructor
      · intro h; exact BitVec.eq_of_toNat_eq (by omega)
      · intro h; rw [h]
    · rw [Bool.eq_iff_iff, beq_iff_eq, decide_eq_true_iff]; omega
  generalize turnI (m + a / 8) (bitOf a) = X at tA hX hXY
  generalize turnI (m + b / 8) (bitOf b) = Y at tB hXY
  have hTH := Lib.hid hT
  have tAH := Lib.hid tA
  have tBH := Lib.hid tB
  clear hT tA tB
  go_enter Tryd.func7, Tryd.ntmps7
  go_wp2_with (go_at_call 9; refine (speaks_any _ hTH.out).mono ?_; rintro e w1 ⟨rfl, hb⟩; have hT1 := Lib.hid (hTH.out.below hb))
  refine (tAH.out _ hT1.out).mono ?_
  rintro e w' ⟨rfl, rfl⟩
  go_wp2_with fail
  refine (tBH.out _ hT1.out).mono ?_
  rintro e w' ⟨rfl, rfl⟩
  go_wp2_with fail
  go_ret
  exact ⟨by simp, by assumption⟩
end Go.Proofs.YtoobjnnbmfmchabDoor
