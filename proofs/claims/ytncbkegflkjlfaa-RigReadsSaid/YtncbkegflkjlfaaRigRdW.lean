/- What the law RigReads does. -/
import Derived.Test.YtncbkegflkjlfaaRigRdM
namespace Go.Proofs.Ytncbkegflkjlfaa
open Go.RowKit Zon Drv

set_option maxRecDepth 100000 in
set_option maxHeartbeats 4000000 in
theorem rigreads_law (x z : Int) (w : World) :
    Calls Try.prog 10 #[.int .i64 x, .int .i64 z] w fun e w' => e = .returned (.bool true) ∧ Below w.heap.size w w' := by
  obtain ⟨a, ha, hma0⟩ := mask_nat2 x 4 15 rfl (by omega)
  obtain ⟨b, hb, hmb0⟩ := mask_nat2 z 5 31 rfl (by omega)
  have hma : bits .and .i64 x 15 = (a : Int) := hma0
  have hmb : bits .and .i64 z 31 = (b : Int) := hmb0
  have ha' : a < 16 := ha
  have hb' : b < 32 := hb
  clear ha hb hma0 hmb0
  obtain ⟨i0, hi, hz0, hz1, hz2⟩ := info_parts infoU8
  have hmk0 := fun W => run_make_m (P := Try.prog) 68 5 i0 (.int .u8 0) Try.underlying68 hi hz0 .i64 .i64 64 64 (Nat.le_refl _) (by rw [hz2]; omega) (by omega) W
  rw [hz1] at hmk0
  have hmk : ∀ W : World, (Instr.makeSlice 68 (.int .i64 64) (.int .i64 64)).run Try.prog W = .ok (.slice (some ⟨W.heap.size, 0, none⟩) 64 64) (W.alloc (.cells (madeCells #[.int .u8 0] 64) 5)) := hmk0
  clear hi hz0 hz1 hz2 hmk0
  have hcb := fun W => zeros_text W 64
  have hXs : (zeroB 64).size = 64 := zeroB_size 64
  generalize zeroB 64 = X at hcb hXs
  have h0 := Lib.hid (fun W => rnew_any 3 5 32 1 1 2 W (by decide) (by decide) (by decide))
  unfold RNew at h0
  have hXH := Lib.hid hXs
  clear hXs
  go_enter Try.func10, Try.ntmps10
  go_wp2_with fail
  refine (speaks8 _).mono ?_
  rintro e w1 ⟨rfl, hB1⟩
  go_wp2_with fail
  refine (h0.out _).mono ?_
  rintro e w2 ⟨K, r, d, rfl, hR1⟩
  clear hma hmb h0
  go_wp2_with fail
  refine (rcut_any ((a : Int) + 2) (hR1.grow ((Below.refl _ _).alloc (Nat.le_refl _) _)) none 0 [] (.inl rfl) (fun _ => rfl) (by simp) (by simp)).mono ?_
  rintro e w3 ⟨rfl, K2, _, hR2, _⟩
  have hBH := Lib.hid hB1
  clear hR1 hmk hcb hB1
  rw [show max ((a : Int) + 2) 1 = (a : Int) + 2 by omega] at hR2
  have hO : R1 32 w1 w3 K2 r d 0 (rdS a 0) := by
    have h := R1.new 32 hR2 (by decide)
    have e : rdS a 0 = ⟨32, 0, (a : Int) + 2, false, []⟩ := by show Rs.mk 32 ((0 : Nat) : Int) ((a : Int) + 2 - ((0 : Nat) : Int)) false [] = _; congr 1
    rw [e]
    exact h
  clear hR2
  go_wp2_with fail
  go_loopw [8] (fun i wr => ∃ (k : Nat) (K : Nat → Prop), k ≤ a + 1 ∧ i = .int .i64 (k : Int) ∧ R1 32 w1 wr K r d k (rdS a k)) (fun i _ => a + 1 - (intOf i).toNat)
  case atStart => exact ⟨0, _, by omega, rfl, hO⟩
  case round =>
    clear hO
    obtain ⟨k, K3, hk, rfl, hR⟩ := hrel
    by_cases hlt : k ≤ a
    · have hw := Lib.hid (rd_write hXH.out hR hlt ha')
      unfold R1Post at hw
      clear hR
      go_wp2_with fail
      refine hw.out.mono ?_
      rintro e w4 ⟨t, y, K4, rfl, hR4⟩
      clear hw
      go_wp2_with fail
      go_loopw [12] (fun j wr => ∃ (m : Nat) (K : Nat → Prop), m ≤ b ∧ j = .int .i64 (m : Int) ∧ R1 32 w1 wr K r d (k + 1) (rdS a (k + 1))) (fun j _ => b - (intOf j).toNat)
      case atStart => exact ⟨0, _, by omega, rfl, hR4⟩
      case round =>
        clear hR4
        obtain ⟨m, K5, hm, rfl, hR⟩ := hrel
        by_cases hlt2 : m < b
        · have hw := Lib.hid (rd_read hR hlt ha')
          unfold R1Post at hw
          clear hR
          go_wp2_with fail
          refine hw.out.mono ?_
          rintro e w6 ⟨t6, y6, K6, rfl, hR6⟩
          clear hw
          go_wp2_with fail
          go_roundw
          case rel => exact ⟨m + 1, K6, by omega, by go_num, hR6⟩
          case measure => simp [intOf]; omega
        · go_wp2_with fail
          go_roundw
          case rel => exact ⟨k + 1, K5, by omega, by go_num, hR⟩
          case measure => simp [intOf]; omega
    · obtain rfl : k = a + 1 := by omega
      have hc1 := Lib.hid (r1_count hR)
      have hfl := Lib.hid (r1_cutflush hR (by decide) rfl (show (a : Int) + 2 - ((a + 1 : Nat) : Int) = 1 by omega))
      have ec : (rdS a (a + 1)).cnt = (a : Int) + 1 := by show ((a + 1 : Nat) : Int) = _; omega
      have eo : ({ rdS a (a + 1) with off := true, due := 0, ks := [] } : Rs) = ⟨32, (a : Int) + 1, 0, true, []⟩ := by rw [← ec]; rfl
      rw [eo] at hfl
      rw [ec] at hc1
      clear hR ec eo
      go_wp2_with fail
      refine hc1.out.mono ?_
      rintro e w4 ⟨rfl, rfl⟩
      go_wp2_with fail
      refine hfl.out.mono ?_
      rintro e w5 ⟨rfl, D5, hR5⟩
      have ho := Lib.hid (roff_any hR5)
      have hc := Lib.hid (rcount2_any hR5)
      have hb5 := Lib.hid hR5.fam.b
      clear hR5 hfl hc1
      go_wp2_with fail
      refine ho.out.mono ?_
      rintro e w6 ⟨rfl, rfl⟩
      go_wp2_with fail
      refine hc.out.mono ?_
      rintro e w6 ⟨rfl, rfl⟩
      go_wp2_with fail
      go_ret
      exact ⟨rfl, hBH.out.trans (hb5.out.mono hBH.out.size)⟩
end Go.Proofs.Ytncbkegflkjlfaa
