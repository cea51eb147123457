/- What the law MlogTorn does: the walk. -/
import Derived.Test.YtpmhfalhieinjaaGreatDoorMlgU2
import Derived.Test.YtpmhfalhieinjaaGreatDoorMDw
namespace Go.Proofs.YtpmhfalhieinjaaGreatDoor
open Go.RowKit Zon Drv Rec Crc

set_option maxRecDepth 100000 in
set_option maxHeartbeats 8000000 in
theorem torn_law (x0 x1 : Int) (w : World) (hT : Tab w) : Calls Tryz.prog 5 #[.int .i64 x0, .int .i64 x1] w fun e w' => e = .returned (.bool true) ∧ Below w.heap.size w w' := by
  obtain ⟨n, hn, hmn0⟩ := mask_nat2 x0 2 3 rfl (by omega)
  obtain ⟨kp, hkp, hmk0⟩ := mask_nat2 x1 1 1 rfl (by omega)
  have hmn : bits .and .i64 x0 3 = (n : Int) := hmn0
  have hmk : bits .and .i64 x1 1 = (kp : Int) := hmk0
  have hn4 : n < 4 := hn
  have hk2 : kp < 2 := hkp
  clear hn hkp hmn0 hmk0
  have hsp := Lib.hid (speaks9 w hT)
  have hmd := Lib.hid (fun W => made_any 1 24 (by decide) (by omega) (by omega) W)
  have hTH := Lib.hid hT
  obtain ⟨i0, hi, hz0, hz1, hz2⟩ := info_parts infoU8
  have hms0 := fun W => run_make_m (P := Tryz.prog) 45 5 i0 (.int .u8 0) Tryz.underlying45 hi hz0 .i64 .i64 64 64 (Nat.le_refl _) (by rw [hz2]; omega) (by omega) W
  rw [hz1] at hms0
  have hms : ∀ W : World, (Instr.makeSlice 45 (.int .i64 64) (.int .i64 64)).run Tryz.prog W = .ok (.slice (some ⟨W.heap.size, 0, none⟩) 64 64) (W.alloc (.cells (madeCells #[.int .u8 0] 64) 5)) := hms0
  clear hi hz0 hz1 hz2 hms0 hT
  have hcb := fun W => zeros_text W 64
  have hpR : parR = ⟨4, 0, 0, 0, 0, 0, zeroB 64⟩ := rfl
  have hpk : nBlocks parR.k = 2 := rfl
  have hpo := parR_ok
  obtain ⟨Z, hZ⟩ : ∃ Z, Z = zeroB 64 := ⟨_, rfl⟩
  rw [← hZ] at hcb hpR
  obtain ⟨P, hP⟩ : ∃ P, P = parR := ⟨_, rfl⟩
  rw [← hP] at hpR hpk hpo
  have hpRH := Lib.hid hpR
  have hpkH := Lib.hid hpk
  have hpoH := Lib.hid hpo
  clear hZ hP hpR hpk hpo
  have hap0 : okM (tornR 0) = true := tornR_ok (by omega)
  have hap0H := Lib.hid hap0
  clear hap0
  go_enter Tryz.func5, Tryz.ntmps5
  go_wp2_with fail
  refine hsp.out.mono ?_
  rintro e w1 ⟨rfl, hb1⟩
  have hb1H := Lib.hid hb1
  have hT1 := Lib.hid (hTH.out.below hb1)
  clear hb1 hsp
  go_wp2_with fail
  refine (hmd.out _).mono ?_
  rintro e w2 ⟨K, r, d, v, rfl, hR⟩
  have hfo := Lib.hid (tr_format hT1.out hR)
  clear hR hmd
  go_wp2_with fail
  refine hfo.out.mono ?_
  rintro e w3 ⟨p, rfl, hS⟩
  have hSH := Lib.hid hS
  clear hS hfo hmn
  go_wp2_with fail
  go_loopw [9] (fun iv wr => ∃ (j : Nat), j ≤ n ∧ iv = .int .i64 (j : Int) ∧ TrS w1 wr r d p (tornL j) 2 (4 + j)) (fun i _ => n - (intOf i).toNat)
  case atStart => exact ⟨0, by omega, rfl, hSH.out⟩
  case round =>
    clear hSH
    obtain ⟨j, hj, rfl, hS⟩ := hrel
    have hSH := Lib.hid hS
    clear hS
    by_cases hlt : j < n
    case pos =>
      have g1 : (j : Int) < (n : Int) := by omega
      have hjw : IntKind.i64.wrap ((j : Int) + 1) = (j : Int) + 1 := IntWalk.i64_in _ (by omega)
      have hap := Lib.hid (tr_append hSH.out hT1.out (by omega) (x := tornR j) (tornR_ok (by omega)) (by rw [tornL_blk]; show (1 : Int) + ((2 + j : Nat) : Int) ≤ 24; omega))
      rw [← tornL_succ] at hap
      unfold tornR at hap
      dsimp only at hap
      clear hSH hms hcb
      go_wp2_with fail
      refine hap.out.mono ?_
      rintro e w5 ⟨rfl, hS5⟩
      have hS5H := Lib.hid hS5
      clear hS5 hap
      go_wp2_with fail
      go_roundw
      case rel => exact ⟨j + 1, by omega, by go_num, by have h := hS5H.out; rw [show (4 : Int) + ((j + 1 : Nat) : Int) = 4 + (j : Int) + 1 by omega]; exact h⟩
      case measure => simp only [intOf]; omega
    case neg =>
      obtain rfl : j = n := by omega
      have g1 : ¬ (j : Int) < (j : Int) := by omega
      have hfl := Lib.hid (tr_flush hSH.out (by omega))
      rw [tornL_blk] at hfl
      clear hSH hlt hj
      go_wp2_with fail
      clear g1
      refine hfl.out.mono ?_
      rintro e w5 ⟨rfl, hS5⟩
      have hS5H := Lib.hid hS5
      have hap := Lib.hid (fun V (hV : Below w5.heap.size w5 V) => tr_append (hS5H.out.grown hV) hT1.out (by omega) (x := P) hpoH.out (by rw [tornL_blk, hpkH.out]; omega))
      rw [hpRH.out] at hap
      dsimp only at hap
      clear hS5 hfl
      go_wp2_with fail
      refine (hap.out _ ((Below.refl _ _).alloc (Nat.le_refl _) _)).mono ?_
      rintro e w6 ⟨rfl, hS6⟩
      rw [← hpRH.out] at hS6
      have hS6H := Lib.hid hS6
      clear hS6 hap hS5H hms hcb
      have hbl := Lib.hid (show blk (tornL j ++ [P]) = j + 2 by rw [blk_append, tornL_blk]; show j + (nBlocks P.k + 0) = _; rw [hpkH.out])
      have hcr := Lib.hid (tr_crash (W' := w6.alloc (.cells #[.int .i64 (kp : Int)] 3)) (b := w6.heap.size) hS6H.out kp (by omega) (by rw [hbl.out]; omega) ((Below.refl _ _).alloc (Nat.le_refl _) _) (Nat.le_refl _) (.inr ⟨_, 0, rfl, by simp, fun i hi => by
        have hi1 : i < 1 := hi
        obtain rfl : i = 0 := by omega
        simp [World.cell?_alloc_new]⟩))
      have hblt : 2 + j + kp = 2 + blk (tornL j) + kp := by rw [tornL_blk]
      rw [hblt] at hcr
      clear hblt hS6H
      go_wp2_with fail
      refine hcr.out.mono ?_
      rintro e w7 ⟨rfl, hS7⟩
      have hop := Lib.hid (tf_open hS7 hT1.out (by omega) (tornL_ok (by omega)) hpoH.out hpkH.out (by omega))
      clear hS7 hcr hbl
      rw [tornL_len] at hop
      go_wp2_with fail
      refine hop.out.mono ?_
      rintro e w8 ⟨p2, A, cap, rfl, hS8⟩
      have hS8H := Lib.hid hS8
      clear hS8 hop
      have hww : IntKind.i64.wrap (22 - (j : Int)) = 22 - (j : Int) := IntWalk.i64_in _ (by omega)
      have hww2 : IntKind.i64.wrap (22 - (j : Int) - 1) = 22 - (j : Int) - 1 := IntWalk.i64_in _ (by omega)
      have hkc : kp = 0 ∨ kp = 1 := by omega
      rcases hkc with rfl | rfl
      · obtain ⟨la, hW⟩ := hS8H.out.whole' (tornL_ok (by omega)) hpoH.out (by rw [tornL_blk]; omega)
        have hap := Lib.hid (tr_append hW hT1.out (by omega) (x := tornR 0) hap0H.out (by rw [tornL_blk]; show (1 : Int) + ((2 + j : Nat) : Int) ≤ 24; omega))
        unfold tornR at hap
        dsimp only at hap
        clear hW hS8H
        go_wp2_with fail
        refine hap.out.mono ?_
        rintro e w9 ⟨rfl, hS9⟩
        have hle := Lib.hid (tr_left hS9)
        rw [blk_append, tornL_blk] at hle
        have hval : (22 : Int) - ((j + blk [(⟨3, ((0 : Nat) : Int), 0, 0, 0, 0, ⟨#[]⟩⟩ : Rc)] : Nat) : Int) = 22 - (j : Int) - 1 := by
          show (22 : Int) - ((j + 1 : Nat) : Int) = _; omega
        rw [hval] at hle
        have hfin := Lib.hid (hb1H.out.trans (hS9.b.mono hb1H.out.size))
        clear hS9 hap hval
        go_wp2_with fail
        refine hle.out.mono ?_
        rintro e w10 ⟨rfl, q, rfl⟩
        go_wp2_with fail
        go_ret
        exact ⟨rfl, below_drewN hfin.out _⟩
      · have hap := Lib.hid (tf_append hS8H.out hT1.out (by omega) (by rw [tornL_blk]; omega) (x := tornR 0) hap0H.out)
        have hap2 := Lib.hid (fun V n c (h : TgS w1 V r d p2 n c) (h1 : c ≤ 1000) (h2 : n ≤ 20) => tg_append h hT1.out h1 h2 (x := tornR 0) hap0H.out rfl)
        unfold tornR at hap hap2
        dsimp only at hap hap2
        clear hS8H
        go_wp2_with fail
        refine hap.out.mono ?_
        rintro e w9 ⟨rfl, hS9⟩
        have hle := Lib.hid (tf_left hS9 (by rw [tornL_blk]; omega))
        have hro := Lib.hid (fun q => tf_roll (hS9.grown (below_drewN (Below.refl w9.heap.size w9) q)) hT1.out (by omega) (tornL_ok (by omega)) hpoH.out hpkH.out (by rw [tornL_blk]; omega) (by rw [tornL_len]; omega) cap)
        rw [tornL_len, tornL_blk] at hro
        clear hS9 hap
        go_wp2_with fail
        refine hle.out.mono ?_
        rintro e w10 ⟨rfl, q, rfl⟩
        go_wp2_with fail
        refine (hro.out q).mono ?_
        rintro e w11 ⟨rfl, hS11⟩
        have hap3 := Lib.hid (hap2.out _ _ _ hS11 (by omega) (by omega))
        clear hS11 hro hle hap2
        go_wp2_with fail
        refine hap3.out.mono ?_
        rintro e w12 ⟨rfl, hb12⟩
        have hfin := Lib.hid (hb1H.out.trans (hb12.mono hb1H.out.size))
        clear hb12 hap3
        go_wp2_with fail
        go_ret
        exact ⟨rfl, hfin.out⟩
end Go.Proofs.YtpmhfalhieinjaaGreatDoor
