/- What every law of the whole asks first: a number and its sum. -/
import Derived.Test.YtflkkmiehioejabDoorCrcSumW
import Derived.Test.YtflkkmiehioejabDoorNumPut
namespace Go.Proofs.YtflkkmiehioejabDoor
open Go.RowKit Crc Num

theorem sums_sum : sumI (flat [⟨#[49, 50, 51, 52, 53, 54, 55, 56, 57]⟩]) = 3808858755 := by decide +kernel

set_option maxHeartbeats 400000 in
theorem sums_top (w : World) (hT : Tab w) :
    Calls Tryd.prog 16 #[] w fun e w' => e = .returned (.bool true) ∧ Below w.heap.size w w' := by
  have hp := put_ok 258 2 w (by omega) (by omega) (by decide)
  have e1 : putL 258 2 = [1, 2] := by decide
  rw [e1] at hp
  have hpH := Lib.hid hp
  have hTA : ∀ wx, Below w.heap.size w wx → Tab wx := fun wx h => hT.below h
  have hTH := Lib.hid hTA
  clear hp e1 hT hTA
  go_enter Tryd.func16, Tryd.ntmps16
  go_wp2_with (go_at_call 23; refine hpH.out.mono ?_; rintro e w1 ⟨rfl, hb⟩)
  have hb2 := hb.alloc hb.size (.cells #[.string ⟨#[49, 50, 51, 52, 53, 54, 55, 56, 57]⟩] 9)
  have hS := sum_one ⟨#[49, 50, 51, 52, 53, 54, 55, 56, 57]⟩ w1.heap.size _ (hTH.out _ hb2) (by decide) (by go_simp)
  have e2 : sumI (⟨#[49, 50, 51, 52, 53, 54, 55, 56, 57]⟩ : ByteArray).data.toList = 3808858755 := sums_sum
  rw [e2] at hS
  refine hS.mono ?_
  rintro e w2 ⟨rfl, rfl⟩
  clear hS e2
  go_wp2
  go_ret
  exact ⟨rfl, hb2⟩

end Go.Proofs.YtflkkmiehioejabDoor
