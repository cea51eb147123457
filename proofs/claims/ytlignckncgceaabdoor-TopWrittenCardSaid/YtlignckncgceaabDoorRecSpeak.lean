/- That the record's package speaks. -/
import Derived.Test.YtlignckncgceaabDoorRecDecode
import Derived.Test.YtlignckncgceaabDoorRecWhole
import Derived.Test.YtlignckncgceaabDoorRecEq
namespace Go.Proofs.YtlignckncgceaabDoor
open Go.RowKit Rec Crc Num

def rc0 : Rc := ⟨3, 7, 1, 0, 9, 0, ⟨#[]⟩⟩
theorem rc0_good : Rec.Good rc0 := ⟨by unfold NumOk rc0; decide, rfl⟩
set_option maxRecDepth 100000 in
set_option maxHeartbeats 2000000 in
theorem speaks6 (w : World) (hT : Tab w) :
    Calls Tryd.prog 9 #[] w fun e w' => e = .returned (.bool true) ∧ Below w.heap.size w w' := by
  have hE : ∀ W, Tab W → Calls Tryd.prog 11 #[.agg #[.int .i64 3, .int .i64 7, .int .i64 1, .int .i64 0, .int .i64 9, .int .i64 0, .string ⟨#[]⟩]] W fun e w' => e = .returned (.tuple #[.string (encS rc0), .int .i64 0]) ∧ Below W.heap.size W w' := fun W h => by
    have h1 := encode_good rc0 W rc0_good h
    rw [← encS_good rc0_good] at h1
    exact h1
  have ht : TextOf (encS rc0) (encL rc0) := by rw [encS_good rc0_good]; rfl
  have hsz : (encS rc0).size = 64 := encS_size rc0_good
  have hcut : ((encS rc0).extract 0 3).toList = [67, 66, 3] := by
    rw [ByteArray.toList_eq]
    exact cut_of (A := []) (B := [67, 66, 3]) (C := (encL rc0).drop 3) (by
      rw [List.nil_append, show ([67, 66, 3] : List UInt8) = (encL rc0).take 3 from rfl, List.take_append_drop]; exact ht) rfl rfl
  have hdec : dec (encS rc0) = (rc0, 1, 0) := dec_enc rc0_good [] (by rw [List.append_nil]; exact ht)
  have hD : ∀ W, Tab W → Calls Tryd.prog 14 #[.string (encS rc0)] W fun e w' => e = .returned (.tuple #[.agg #[.int .i64 3, .int .i64 7, .int .i64 1, .int .i64 0, .int .i64 9, .int .i64 0, .string ⟨#[]⟩], .int .i64 1, .int .i64 0]) ∧ Below W.heap.size W w' := fun W h => by
    have h1 := decode_any (encS rc0) W (by unfold maxLen; omega) h
    rw [hdec] at h1
    exact h1
  have heq : ∀ W, (binOp .eql 29 (.agg #[.int .i64 3, .int .i64 7, .int .i64 1, .int .i64 0, .int .i64 9, .int .i64 0, .string ⟨#[]⟩]) (.agg #[.int .i64 3, .int .i64 7, .int .i64 1, .int .i64 0, .int .i64 9, .int .i64 0, .string ⟨#[]⟩])).run Tryd.prog W = .ok (.bool true) W := fun W => by
    have h1 := (rec_eql W rc0 rc0).1
    rw [eqR_self] at h1
    exact h1
  clear hdec ht
  generalize encS rc0 = t at hE hD hsz hcut
  have hEH := Lib.hid hE
  have hDH := Lib.hid hD
  have hTA := Lib.hid (fun W (h : Below w.heap.size w W) => hT.below h)
  have q1 : 3 ≤ t.size := by omega
  have q2 : (3 : Int) ≤ (t.size : Int) := by omega
  have q3 : (t.size : Int) = 64 := by omega
  clear hE hD hT hsz
  go_enter Tryd.func9, Tryd.ntmps9
  go_wp2_with (first | (go_at_call 11; refine (hEH.out _ (hTA.out _ (Below.refl _ _))).mono ?_; rintro e w1 ⟨rfl, hb1⟩) | (go_at_call 14; refine (hDH.out _ (hTA.out _ hb1)).mono ?_; rintro e w2 ⟨rfl, hb2⟩))
  go_ret
  exact ⟨rfl, (hb1.trans (hb2.mono hb1.size)).alloc (by have := hb1.size; have := hb2.size; omega) _⟩
end Go.Proofs.YtlignckncgceaabDoor
