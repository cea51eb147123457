/- What the law RigCuts does. -/
import Derived.Test.YtncbkegflkjlfaaRigCtM
import Derived.Lib.MinMax
namespace Go.Proofs.Ytncbkegflkjlfaa
open Go.RowKit Zon Drv

set_option maxRecDepth 100000 in
set_option maxHeartbeats 4000000 in
theorem rigcuts_law (x z : Int) (w : World) :
    Calls Try.prog 8 #[.int .i64 x, .int .i64 z] w fun e w' => e = .returned (.bool true) ∧ Below w.heap.size w w' := by
  obtain ⟨a, ha, hma0⟩ := mask_nat2 x 6 63 rfl (by omega)
  obtain ⟨b, hb, hmb0⟩ := mask_nat2 z 5 31 rfl (by omega)
  have hma : bits .and .i64 x 63 = (a : Int) := hma0
  have hmb : bits .and .i64 z 31 = (b : Int) := hmb0
  have ha' : a < 64 := ha
  have hb' : b < 32 := hb
  clear ha hb hma0 hmb0
  obtain ⟨i0, hi, hz0, hz1, hz2⟩ := info_parts infoU8
  have hmk0 := fun W => run_make_m (P := Try.prog) 68 5 i0 (.int .u8 0) Try.underlying68 hi hz0 .i64 .i64 64 64 (Nat.le_refl _) (by rw [hz2]; omega) (by omega) W
  rw [hz1] at hmk0
  have hmk : ∀ W : World, (Instr.makeSlice 68 (.int .i64 64) (.int .i64 64)).run Try.prog W = .ok (.slice (some ⟨W.heap.size, 0, none⟩) 64 64) (W.alloc (.cells (madeCells #[.int .u8 0] 64) 5)) := hmk0
  clear hi hz0 hz1 hz2 hmk0
  have hcb := fun W => zeros_text W 64
  have hXs : (zeroB 64).size = 64 := zeroB_size 64
  generalize zeroB 64 = X at hcb hXs
  have h0 := Lib.hid (fun W => rnew_any 3 5 64 1 1 3 W (by decide) (by decide) (by decide))
  unfold RNew at h0
  have hXH := Lib.hid hXs
  clear hXs
  go_enter Try.func8, Try.ntmps8
  go_wp2_with fail
  refine (speaks8 _).mono ?_
  rintro e w1 ⟨rfl, hB1⟩
  go_wp2_with fail
  refine (h0.out _).mono ?_
  rintro e w2 ⟨K, r, d, rfl, hR1⟩
  clear hma hmb h0
  go_wp2_with fail
  have hal : Below w2.heap.size w2 (w2.alloc (.cells #[.int .i64 1048576] 3)) := (Below.refl _ _).alloc (Nat.le_refl _) _
  have hcut := Lib.hid (rcut_any (a : Int) (hR1.grow hal) (some ⟨w2.heap.size, 0, none⟩) 1 [1048576] (.inr ⟨w2.heap.size, 0, rfl, by simp, fun i hi => by
    have hi' : i < 1 := hi
    obtain rfl : i = 0 := by omega
    go_simp⟩) (fun h => by cases h) (by simp) (by simp [Rng]))
  refine hcut.out.mono ?_
  rintro e w3 ⟨rfl, K2, _, hR2, _⟩
  have hBH := Lib.hid hB1
  clear hR1 hB1 hal hcut
  obtain ⟨N, hN⟩ : ∃ N : Nat, N = max a 1 := ⟨_, rfl⟩
  have hN1 : 1 ≤ N := by omega
  have hN2 : N < 64 := by omega
  have hNm : max (a : Int) 1 = (N : Int) := by omega
  rw [hNm] at hR2
  have hO := Rct.new hR2 hN1
  have hNmH := Lib.hid hNm
  clear hR2 hNm hN
  go_wp2_with fail
  go_loopw [8, 9] (fun dn i wr => ∃ (k q : Nat), k ≤ 1 + b ∧ i = .int .i64 (k : Int) ∧ dn = .int .i64 (q : Int) ∧ q ≤ k ∧ Hid (q = min k (N - 1)) ∧ Rct w1 wr r d N k) (fun _ i _ => 1 + b - (intOf i).toNat)
  case atStart => exact ⟨0, 0, by omega, rfl, rfl, Nat.le_refl _, Lib.hid (by omega), hO.grow ((Below.refl _ _).alloc (Nat.le_refl _) _)⟩
  case round =>
    clear hO hmk hcb
    obtain ⟨k, q, hk, rfl, rfl, hqk, hq, hR⟩ := hrel
    by_cases hlt : k < 1 + b
    · have hlt' : (k : Int) < 1 + (b : Int) := by omega
      have hm3 : (k : Int) % 3 = ((k % 3 : Nat) : Int) := by omega
      have hj : k % 3 < 3 := Nat.mod_lt _ (by decide)
      generalize k % 3 = j at hm3 hj
      by_cases hc : k + 1 < N
      · have hdo := Lib.hid (rct_ok hXH.out hR hc hN2 j hj)
        unfold RctPost at hdo
        have hq2 : q + 1 = min (k + 1) (N - 1) := by have := hq.out; omega
        have hq2H := Lib.hid hq2
        clear hR hc hq2
        go_wp2_with fail
        refine hdo.out.mono ?_
        rintro e w4 ⟨t, y, rfl, hR4⟩
        clear hdo
        go_wp2_with fail
        go_roundw
        case rel => exact ⟨k + 1, q + 1, by omega, by go_num, by go_num, by omega, hq2H, hR4⟩
        case measure => simp [intOf]; omega
      · have hdo := Lib.hid (rct_no (X := X) hR (by omega) j hj)
        unfold RctPost at hdo
        have hq2 : q = min (k + 1) (N - 1) := by have := hq.out; omega
        have hq2H := Lib.hid hq2
        have hNk : N ≤ k + 1 := by omega
        clear hR hc hq2
        go_wp2_with fail
        refine hdo.out.mono ?_
        rintro e w4 ⟨t, y, rfl, hR4⟩
        have hof := Lib.hid (rct_off hR4)
        rw [decide_eq_true hNk] at hof
        clear hdo
        go_wp2_with fail
        refine hof.out.mono ?_
        rintro e w5 ⟨rfl, rfl⟩
        clear hof
        go_wp2_with fail
        go_roundw
        case rel => exact ⟨k + 1, q, by omega, by go_num, rfl, by omega, hq2H, hR4⟩
        case measure => simp [intOf]; omega
    · obtain rfl : k = 1 + b := by omega
      have hct := Lib.hid (rct_count hR hN1)
      have hof := Lib.hid (rct_off hR)
      rw [← hq.out] at hct
      have hbR := Lib.hid hR.below
      have hmin : min (1 + (b : Int)) ((N : Int) - 1) = (q : Int) := by have := hq.out; omega
      have hmx := hNmH.out
      have hlt' : ¬ (((1 + b : Nat) : Int) < 1 + (b : Int)) := by omega
      clear hR
      by_cases hc : N ≤ 1 + b
      · rw [decide_eq_true hc] at hof
        have hc' : (N : Int) ≤ 1 + (b : Int) := by omega
        have hd' : decide ((N : Int) ≤ 1 + (b : Int)) = true := decide_eq_true hc'
        go_wp2_with fail
        refine hct.out.mono ?_
        rintro e w5 ⟨rfl, rfl⟩
        go_wp2_with fail
        refine hof.out.mono ?_
        rintro e w5 ⟨rfl, rfl⟩
        go_wp2_with fail
        go_ret
        exact ⟨rfl, hBH.out.trans (hbR.out.mono hBH.out.size)⟩
      · rw [decide_eq_false hc] at hof
        have hc' : ¬ (N : Int) ≤ 1 + (b : Int) := by omega
        have hd' : decide ((N : Int) ≤ 1 + (b : Int)) = false := decide_eq_false hc'
        go_wp2_with fail
        refine hct.out.mono ?_
        rintro e w5 ⟨rfl, rfl⟩
        go_wp2_with fail
        refine hof.out.mono ?_
        rintro e w5 ⟨rfl, rfl⟩
        go_wp2_with fail
        go_ret
        exact ⟨rfl, hBH.out.trans (hbR.out.mono hBH.out.size)⟩
end Go.Proofs.Ytncbkegflkjlfaa
