/- That a record goes into a zone. -/
import Derived.Test.YtlignckncgceaabDoorTopPl8
import Derived.Test.YtlignckncgceaabDoorTopWM
namespace Go.Proofs.YtlignckncgceaabDoor
open Go.RowKit Rec Crc Num Zon

def rc6 : Rc := ⟨6, 1, 0, 0, 0, 0, ⟨#[]⟩⟩
theorem rc6_good : Rec.Good rc6 := ⟨by unfold NumOk rc6; decide, rfl⟩
set_option maxRecDepth 100000 in
set_option maxHeartbeats 4000000 in
theorem goes_any (w : World) (hT : Tab w) :
    Calls Tryd.prog 18 #[] w fun e w' => e = .returned (.bool true) ∧ Below w.heap.size w w' := by
  have hE : ∀ W, Tab W → Calls Tryd.prog 11 #[.agg #[.int .i64 6, .int .i64 1, .int .i64 0, .int .i64 0, .int .i64 0, .int .i64 0, .string ⟨#[]⟩]] W fun e w' => e = .returned (.tuple #[.string (encS rc6), .int .i64 0]) ∧ Below W.heap.size W w' := fun W h => by
    have h1 := encode_good rc6 W rc6_good h
    rw [← encS_good rc6_good] at h1
    exact h1
  have hsz : (encS rc6).size = 64 := encS_size rc6_good
  have hNew := Lib.hid (fun W => new_good 1 4 1 1 W (by unfold newOk; decide))
  have hDo := Lib.hid (fun g z W (h : MAt W g z (newM 1 4 1 1)) => do_any g z (newM 1 4 1 1) 2 0 0 1 W h (newM_ok (by unfold newOk; decide)) (by decide))
  have hb4 := Lib.hid (fun W => blocks_any 4 W)
  rw [show ((nBlocks 4 : Nat) : Int) = 2 from rfl] at hb4
  have hdo : doM (newM 1 4 1 1) 2 0 0 1 = (0, 0, [zst 4 1]) := by rw [mw_new]; exact mw_fits (by decide) (by decide) (by decide)
  rw [hdo] at hDo
  clear hdo
  have hTA := Lib.hid (fun W (h : Below w.heap.size w W) => hT.below h)
  have hEH := Lib.hid hE
  generalize encS rc6 = t at hE hEH hsz
  have q3 : (t.size : Int) = 64 := by omega
  have q4 : (64 : Int).tdiv 64 = 1 := rfl
  have q5 : IntKind.i64.wrap 1 = 1 := by decide +kernel
  clear hE hT hsz
  go_enter Tryd.func18, Tryd.ntmps18
  go_wp2_with (first | (go_at_call 19; (with_reducible refine (hNew.out _).mono ?_); rintro e w1 ⟨g, z, rfl, hM, hz, hg, hb1⟩) | (go_at_call 11; with_reducible refine (hEH.out _ (hTA.out _ hb1)).mono ?_; rintro e w2 ⟨rfl, hb2⟩) | (go_at_call 21; (with_reducible refine (hDo.out _ _ _ (hM.below hb2)).mono ?_); rintro e w3 ⟨rfl, hM3, hO3⟩; have hB3 := (hb1.trans (hb2.mono hb1.size)).trans (hO3.below hz (Nat.le_trans hb1.size hb2.size))) | (go_at_call 33; with_reducible refine (places_any _ (hTA.out _ hB3)).mono ?_; rintro e w5 ⟨rfl, hb5⟩) | (go_at_call 13; with_reducible refine (hb4.out _).mono ?_; rintro e w6 ⟨rfl, rfl⟩))
  go_ret
  exact ⟨rfl, hB3.trans (hb5.mono hB3.size)⟩
end Go.Proofs.YtlignckncgceaabDoor
