/- That a record goes into a zone. -/
import Derived.Test.YtncbkegflkjlfaaDoorAGeo
import Derived.Test.YtncbkegflkjlfaaDoorAEnc
import Derived.Test.YtncbkegflkjlfaaDoorAZd
namespace Go.Proofs.YtncbkegflkjlfaaDoor
open Go.RowKit Rec Crc Num Zon

def zst (b L : Int) : Zn := ⟨if L = 0 then 0 else if L = b then 4 else 1, L⟩
def Mw (b L : Int) : Mc := ⟨[zst b L], b, 1, 1⟩
theorem mw_new (b : Int) : newM 1 b 1 1 = Mw b 0 := rfl
theorem mw_ok {b L : Int} (h1 : 1 ≤ b) (h2 : b ≤ 4096) (h0 : 0 ≤ L) (hL : L ≤ b) : (Mw b L).Ok := by
  refine ⟨by show 1 ≤ [zst b L].length; simp, by show [zst b L].length ≤ 64; simp, h1, h2, by show (1 : Int) ≤ 1; omega, by show (1 : Int) ≤ 1; omega, by show (1 : Int) ≤ ([zst b L].length : Int); simp, fun z hz => ?_⟩
  obtain rfl : z = zst b L := by simpa [Mw] using hz
  unfold zOk zst
  dsimp only
  by_cases e0 : L = 0
  · simp [e0]; show 0 ≤ b; omega
  · by_cases eb : L = b
    · simp [eb]
      have : b ≠ 0 := by omega
      simp [this]
      show 0 ≤ b ∧ b ≤ b
      omega
    · simp [e0, eb]
      show 0 ≤ L ∧ L ≤ b ∧ 1 ≤ L
      omega
theorem mw_fits {b L n : Int} (h0 : 0 ≤ L) (hn : 1 ≤ n) (hL : L + n ≤ b) : doM (Mw b L) 2 0 0 n = (L, 0, [zst b (L + n)]) := by
  have hz : zAt (Mw b L).zs 0 = zst b L := rfl
  have hb : hasB (Mw b L) 0 = true := by unfold hasB Mw; simp
  have hw1 : withinB 0 n (Mw b L).b = true := by unfold withinB Mw; simp; omega
  have hs : ¬ (zst b L).s = 4 := by unfold zst; dsimp only; by_cases e : L = 0 <;> simp [e]; omega
  have hw2 : withinB (zst b L).l n (Mw b L).b = true := by unfold withinB Mw zst; simp; omega
  unfold doM
  rw [if_neg (by omega), if_neg (by rw [hb]; simp)]
  show app (Mw b L) 0 n = _
  unfold app
  rw [if_neg (by rw [hw1]; simp), hz, if_neg hs, if_neg (by rw [hw2]; simp)]
  have had : admit (Mw b L) 0 = (0, [zst b L]) := by
    unfold admit
    rw [hz]
    by_cases e : L = 0
    · subst e
      have e1 : openB (zst b 0).s = false := by unfold zst openB; simp
      have e2 : nAct (Mw b 0).zs = 0 := by unfold nAct Mw zst actB openB; simp
      have e3 : nOpen (Mw b 0).zs = 0 := by unfold nOpen Mw zst openB; simp
      rw [if_neg (by rw [e1]; simp), if_neg (by rw [e2]; show ¬ (_ ∧ (1 : Int) ≤ ((0 : Nat) : Int)); omega), if_pos (by rw [e3]; show ((0 : Nat) : Int) < 1; omega)]
      rfl
    · have e1 : openB (zst b L).s = true := by unfold zst openB; simp [e, show L ≠ b by omega]
      rw [if_pos e1]
      rfl
  unfold ext
  rw [had]
  dsimp only
  rw [if_pos rfl]
  have hx : extZ (Mw b L).b n (zst b L) = zst b (L + n) := by
    unfold extZ zst Mw
    dsimp only
    congr 1
    have e0 : ¬ L + n = 0 := by omega
    rw [if_neg e0]
    by_cases eb : L + n = b
    · rw [if_pos eb, if_pos eb]
    · rw [if_neg eb, if_neg eb]
      by_cases e : L = 0
      · simp [e]
      · simp [e, show ¬ L = b by omega]
  show ((zst b L).l, (0 : Int), [zst b L].set 0 (extZ (Mw b L).b n (zAt [zst b L] 0))) = _
  rw [show zAt [zst b L] 0 = zst b L from rfl, hx]
  rfl
def rc6 : Rc := ⟨6, 1, 0, 0, 0, 0, ⟨#[]⟩⟩
theorem rc6_good : Rec.Good rc6 := ⟨by unfold NumOk rc6; decide, rfl⟩
set_option maxRecDepth 100000 in
set_option maxHeartbeats 4000000 in
theorem goes_any (w : World) (hT : Tab w) :
    Calls Tryd.prog 18 #[] w fun e w' => e = .returned (.bool true) ∧ Below w.heap.size w w' := by
  have hE : ∀ W, Tab W → Calls Tryd.prog 32 #[.agg #[.int .i64 6, .int .i64 1, .int .i64 0, .int .i64 0, .int .i64 0, .int .i64 0, .string ⟨#[]⟩]] W fun e w' => e = .returned (.tuple #[.string (encS rc6), .int .i64 0]) ∧ Below W.heap.size W w' := fun W h => by
    have h1 := encode_good rc6 W rc6_good h
    rw [← encS_good rc6_good] at h1
    exact h1
  have hsz : (encS rc6).size = 64 := encS_size rc6_good
  have hNew := Lib.hid (fun W => new_good 1 4 1 1 W (by unfold newOk; decide))
  have hDo := Lib.hid (fun g z W (h : MAt W g z (newM 1 4 1 1)) => do_any g z (newM 1 4 1 1) 2 0 0 1 W h (newM_ok (by unfold newOk; decide)) (by decide))
  have hb4 := Lib.hid (fun W => blocks_any 4 W)
  rw [show ((nBlocks 4 : Nat) : Int) = 2 from rfl] at hb4
  have hdo : doM (newM 1 4 1 1) 2 0 0 1 = (0, 0, [zst 4 1]) := by rw [mw_new]; exact mw_fits (by decide) (by decide) (by decide)
  rw [hdo] at hDo
  clear hdo
  have hTA := Lib.hid (fun W (h : Below w.heap.size w W) => hT.below h)
  have hEH := Lib.hid hE
  generalize encS rc6 = t at hE hEH hsz
  have q3 : (t.size : Int) = 64 := by omega
  have q4 : (64 : Int).tdiv 64 = 1 := rfl
  have q5 : IntKind.i64.wrap 1 = 1 := by decide +kernel
  clear hE hT hsz
  go_enter Tryd.func18, Tryd.ntmps18
  go_wp2_with (first | (go_at_call 31; (with_reducible refine (hNew.out _).mono ?_); rintro e w1 ⟨g, z, rfl, hM, hz, hg, hb1⟩) | (go_at_call 32; with_reducible refine (hEH.out _ (hTA.out _ hb1)).mono ?_; rintro e w2 ⟨rfl, hb2⟩) | (go_at_call 33; (with_reducible refine (hDo.out _ _ _ (hM.below hb2)).mono ?_); rintro e w3 ⟨rfl, hM3, hO3⟩; have hB3 := (hb1.trans (hb2.mono hb1.size)).trans (hO3.below hz (Nat.le_trans hb1.size hb2.size))) | (go_at_call 34; with_reducible refine (places_any _ (hTA.out _ hB3)).mono ?_; rintro e w5 ⟨rfl, hb5⟩) | (go_at_call 35; with_reducible refine (hb4.out _).mono ?_; rintro e w6 ⟨rfl, rfl⟩))
  go_ret
  exact ⟨rfl, hB3.trans (hb5.mono hB3.size)⟩
end Go.Proofs.YtncbkegflkjlfaaDoor
