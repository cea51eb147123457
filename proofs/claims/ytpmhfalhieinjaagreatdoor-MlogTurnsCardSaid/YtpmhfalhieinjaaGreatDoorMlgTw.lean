/- What the law MlogTurns does. -/
import Derived.Test.YtpmhfalhieinjaaGreatDoorMlgTu
namespace Go.Proofs.YtpmhfalhieinjaaGreatDoor
open Go.RowKit Zon Drv Rec Crc

/-- The records of a round in the making. -/
structure TiS (wo W : World) (A : Option Addr) (cap : Nat) (m : Nat) : Prop where
  row : RRow W wo.heap.size 38 A cap (turnL m)
  b : Below wo.heap.size wo W
theorem TiS.push {wo W : World} {A : Option Addr} {cap m : Nat} (h : TiS wo W A cap m) (hm : m ≤ 100) :
    ∃ A' cap' W2, (Builtin.append_ #[27, 27] 27 #[.slice A m cap, .slice (some ⟨W.heap.size, 0, none⟩) 1 1]).run Tryz.prog (W.alloc (.cells #[.int .i64 3, .int .i64 0, .int .i64 (m : Int), .int .i64 0, .int .i64 0, .int .i64 0, .string ⟨#[]⟩] 38)) = .ok (.slice A' (m + 1) cap') W2 ∧ TiS wo W2 A' cap' (m + 1) := by
  have hb := (h.b.alloc h.b.size (.cells #[.int .i64 3, .int .i64 0, .int .i64 (m : Int), .int .i64 0, .int .i64 0, .int .i64 0, .string ⟨#[]⟩] 38))
  have hrow := h.row.alloc (.cells #[.int .i64 3, .int .i64 0, .int .i64 (m : Int), .int .i64 0, .int .i64 0, .int .i64 0, .string ⟨#[]⟩] 38)
  have hrc := RcAt.new W (turnR m) 38
  obtain ⟨A', cap', W2, hrun, hrow2, hg, _⟩ := hrow.append hrc (by rw [turnL_len]; omega) hb.size
  rw [turnL_len] at hrun
  refine ⟨A', cap', W2, hrun, ?_, ?_⟩
  · rw [turnL_succ]; exact hrow2
  · exact hb.trans (hrow.grown hg hb.size)
set_option maxRecDepth 100000 in
set_option maxHeartbeats 8000000 in
theorem turns_law (A : Option Addr) (cap : Nat) (zs : List Int) (w : World) (hT : Tab w) (hI : IntsIn w A zs) (hl : zs.length ≤ maxLen) :
    Calls Tryz.prog 4 #[.slice A zs.length cap] w fun e w' => e = .returned (.bool true) ∧ Below w.heap.size w w' := by
  unfold maxLen at hl
  have hsp := Lib.hid (speaks9 w hT)
  have hmd := Lib.hid (fun W => made_any 1 24 (by decide) (by omega) (by omega) W)
  have hTH := Lib.hid hT
  have hIH := Lib.hid (fun W (hb : Below w.heap.size w W) => hI.below hb)
  clear hT hI
  go_enter Tryz.func4, Tryz.ntmps4
  go_wp2_with fail
  refine hsp.out.mono ?_
  rintro e w1 ⟨rfl, hb1⟩
  have hb1H := Lib.hid hb1
  have hT1 := Lib.hid (hTH.out.below hb1)
  clear hb1 hsp
  go_wp2_with fail
  refine (hmd.out _).mono ?_
  rintro e w2 ⟨K, r, d, v, rfl, hR⟩
  have hfo := Lib.hid (tn_format hT1.out hR)
  clear hR hmd
  go_wp2_with fail
  refine hfo.out.mono ?_
  rintro e w3 ⟨p, rfl, hS⟩
  have hSH := Lib.hid hS
  clear hS hfo
  go_wp2_with fail
  go_loopw [7, 8] (fun wv iv wr => ∃ (k : Nat) (want u : Int), k ≤ zs.length ∧ k ≤ 30 ∧ wv = .int .i64 want ∧ iv = .int .i64 (k : Int) ∧ TnS w1 wr r d p k want u) (fun _ i _ => 30 - (intOf i).toNat)
  case atStart => exact ⟨0, 1, 2, by omega, by omega, rfl, rfl, hSH.out⟩
  case round =>
    clear hSH
    obtain ⟨k, want, u, hk, hk2, rfl, rfl, hS⟩ := hrel
    have hSH := Lib.hid hS
    have hw1 := hS.w1
    clear hS
    by_cases hrun : k < zs.length ∧ k < 30
    case pos =>
      obtain ⟨hlt, hlt2⟩ := hrun
      have g1 : (k : Int) < (zs.length : Int) := by omega
      have g2 : (k : Int) < 30 := by omega
      have g3 : decide ((k : Int) < (zs.length : Int)) = true := decide_eq_true g1
      have g4 : decide ((k : Int) < 30) = true := decide_eq_true g2
      have hkw : IntKind.i64.wrap ((k : Int) + 1) = (k : Int) + 1 := IntWalk.i64_in _ (by omega)
      obtain ⟨m, hm, hmask0⟩ := mask_nat2 zs[k] 5 31 rfl (by omega)
      have hmask : bits .and .i64 zs[k] 31 = (m : Int) := hmask0
      have hm32 : m < 32 := hm
      obtain ⟨wo, rfl⟩ : ∃ wo, wo = wr := ⟨_, rfl⟩
      have hcell := Lib.hid (fun W (hb : Below w1.heap.size w1 W) => (show ∃ b off, A = some ⟨b, off, none⟩ ∧ W.cell? ⟨b, off + k, none⟩ = some (.int .i64 zs[k]) from by
        rcases hIH.out W (hb1H.out.trans (hb.mono hb1H.out.size)) with h0 | ⟨b, off, e, _, hc⟩
        · rw [h0] at hlt; simp at hlt
        · exact ⟨b, off, e, hc k hlt⟩))
      obtain ⟨ab, aoff, rfl, -⟩ := hcell.out _ hSH.out.b
      generalize zs[k] = zk at hmask hcell
      clear hmask0 hm
      go_wp2_with fail
      go_loopw [9, 10] (fun xv jv wr => ∃ (j : Nat) (A2 : Option Addr) (c2 : Nat), j ≤ m ∧ xv = .slice A2 j c2 ∧ jv = .int .i64 (j : Int) ∧ TiS wo wr A2 c2 j) (fun _ j _ => m - (intOf j).toNat)
      case atStart => exact ⟨0, none, 0, by omega, rfl, rfl, RRow.nil _ _ _, Below.refl _ _⟩
      case round =>
        obtain ⟨j, A2, c2, hj, rfl, rfl, hti⟩ := hrel
        have htH := Lib.hid hti
        have hbw := hSH.out.b.trans (hti.b.mono hSH.out.b.size)
        obtain ⟨_, _, e1, hcl⟩ := hcell.out _ hbw
        injection e1 with e1
        injection e1 with e1 e2
        subst e1
        subst e2
        clear hti hbw
        by_cases hjm : j < m
        · have j1 : (j : Int) < (m : Int) := by omega
          have hjw : IntKind.i64.wrap ((j : Int) + 1) = (j : Int) + 1 := IntWalk.i64_in _ (by omega)
          obtain ⟨A', c', W2, hrn, hnx⟩ := htH.out.push (by omega)
          have hrnH := Lib.hid hrn
          have hnxH := Lib.hid hnx
          clear hrn hnx htH
          go_wp2_with (at_builtin; refine append_run_wp (by first | rfl | (simp [Region.wanted, yielded])) (.tmp 51) (.tmp 54) 27 rfl rfl rfl hrnH.out ?_; clear hrnH)
          go_roundw
          case rel => exact ⟨j + 1, A', c', by omega, rfl, by go_num, hnxH.out⟩
          case measure => simp only [intOf]; omega
        · obtain rfl : j = m := by omega
          have j1 : ¬ (j : Int) < (j : Int) := by omega
          have hS2 := Lib.hid (hSH.out.grown htH.out.b)
          have hrec := htH.out.row.recs
          have hok := turnL_ok (m := j) (by omega)
          have hbk := turnL_blk j
          have hln := turnL_len j
          have hww : IntKind.i64.wrap (want + 1) = want + 1 := IntWalk.i64_in _ (by omega)
          by_cases h22 : j ≤ 22
          · have hro := Lib.hid (tn_roll (cap := c2) hS2.out hT1.out (by omega) hok hbk (by omega) hrec)
            rw [hln] at hro
            have d1 : decide ((j : Int) ≤ 22) = true := decide_eq_true (by omega)
            have d2 : (j : Int) ≤ 22 := by omega
            have hsub : IntKind.i64.wrap (22 - (j : Int)) = 22 - (j : Int) := IntWalk.i64_in _ (by omega)
            clear hrec hok hbk hln htH hSH hS2
            go_wp2_with fail
            refine hro.out.mono ?_
            rintro e w5 ⟨rfl, hS5⟩
            have hle := Lib.hid (tn_left hS5)
            have hwh := Lib.hid (fun q => tn_where (hS5.grown (below_drewN (Below.refl w5.heap.size w5) q)))
            have hS5H := Lib.hid hS5
            have hleq : (24 : Int) - ((j : Int) + 2) = 22 - (j : Int) := by omega
            rw [hleq] at hle
            have hww2 : IntKind.i64.wrap (want + 1 + 1) = want + 1 + 1 := IntWalk.i64_in _ (by omega)
            have hand : bits .and .i64 (want + 1 + 1) 1 = (want + 1 + 1) % 2 := and_mask2 (want + 1 + 1) 1 1 rfl (by omega)
            clear hS5 hro hleq
            go_wp2_with fail
            refine hle.out.mono ?_
            rintro e w6 ⟨rfl, q, rfl⟩
            go_wp2_with fail
            refine (hwh.out q).mono ?_
            rintro e w7 ⟨rfl, hb7⟩
            have hS7 := Lib.hid ((hS5H.out.grown (below_drewN (Below.refl w5.heap.size w5) q)).grown hb7)
            clear hb7 hwh hle hS5H
            go_wp2_with fail
            go_roundw
            case rel => exact ⟨k + 1, want + 1, (j : Int) + 2, by omega, by omega, by go_num, by go_num, hS7.out⟩
            case measure => simp only [intOf]; omega
          · have hro := Lib.hid (tn_full (cap := c2) hS2.out hT1.out (by omega) hok hbk (by omega) (by omega) hrec)
            rw [hln] at hro
            have d1 : decide ((j : Int) ≤ 22) = false := decide_eq_false (by omega)
            have d2 : ¬ (j : Int) ≤ 22 := by omega
            have hand : bits .and .i64 (want + 1) 1 = (want + 1) % 2 := and_mask2 (want + 1) 1 1 rfl (by omega)
            clear hrec hok hbk hln htH hSH hS2
            go_wp2_with fail
            refine hro.out.mono ?_
            rintro e w5 ⟨rfl, hS5⟩
            have hwh := Lib.hid (tn_where hS5)
            have hS5H := Lib.hid hS5
            clear hS5 hro
            go_wp2_with fail
            refine hwh.out.mono ?_
            rintro e w7 ⟨rfl, hb7⟩
            have hS7 := Lib.hid (hS5H.out.grown hb7)
            clear hb7 hwh hS5H
            go_wp2_with fail
            go_roundw
            case rel => exact ⟨k + 1, want, u, by omega, by omega, rfl, by go_num, hS7.out⟩
            case measure => simp only [intOf]; omega
    case neg =>
      have hop := Lib.hid (tn_open hSH.out hT1.out (by omega))
      have hww : IntKind.i64.wrap (want + 1) = want + 1 := IntWalk.i64_in _ (by omega)
      have hand : bits .and .i64 (want + 1) 1 = (want + 1) % 2 := and_mask2 (want + 1) 1 1 rfl (by omega)
      have hg : ¬ (k : Int) < (zs.length : Int) ∨ ((k : Int) < (zs.length : Int) ∧ ¬ (k : Int) < 30) := by
        by_cases h1 : k < zs.length
        · exact .inr ⟨by omega, by omega⟩
        · exact .inl (by omega)
      clear hSH hrun
      rcases hg with h1 | ⟨h1, h2⟩
      · have h1d : decide ((k : Int) < (zs.length : Int)) = false := decide_eq_false h1
        go_wp2_with fail
        refine hop.out.mono ?_
        rintro e w5 ⟨p2, A5, n5, c5, rfl, hSa, hSb⟩
        have hwh := Lib.hid (tn_where hSb)
        have hSaH := Lib.hid hSa
        have hSbH := Lib.hid hSb
        clear hSa hSb hop
        go_wp2_with fail
        refine hwh.out.mono ?_
        rintro e w6 ⟨rfl, hb6⟩
        have hSa6 := Lib.hid (hSaH.out.grown hb6)
        have hl2 := Lib.hid (tn_left (hSbH.out.grown hb6))
        have hl1 := Lib.hid (fun q => tn_left (hSa6.out.grown (below_drewN (Below.refl w6.heap.size w6) q)))
        clear hb6 hwh hSaH hSbH
        go_wp2_with fail
        refine hl2.out.mono ?_
        rintro e w7 ⟨rfl, q, rfl⟩
        go_wp2_with fail
        refine (hl1.out q).mono ?_
        rintro e w8 ⟨rfl, q2, rfl⟩
        have hfin := Lib.hid (hb1H.out.trans (hSa6.out.b.mono hb1H.out.size))
        clear hl1 hl2 hSa6
        go_wp2_with fail
        go_ret
        exact ⟨rfl, below_drewN hfin.out _⟩
      · have h1d : decide ((k : Int) < (zs.length : Int)) = true := decide_eq_true h1
        have h2d : decide ((k : Int) < 30) = false := decide_eq_false h2
        go_wp2_with fail
        refine hop.out.mono ?_
        rintro e w5 ⟨p2, A5, n5, c5, rfl, hSa, hSb⟩
        have hwh := Lib.hid (tn_where hSb)
        have hSaH := Lib.hid hSa
        have hSbH := Lib.hid hSb
        clear hSa hSb hop
        go_wp2_with fail
        refine hwh.out.mono ?_
        rintro e w6 ⟨rfl, hb6⟩
        have hSa6 := Lib.hid (hSaH.out.grown hb6)
        have hl2 := Lib.hid (tn_left (hSbH.out.grown hb6))
        have hl1 := Lib.hid (fun q => tn_left (hSa6.out.grown (below_drewN (Below.refl w6.heap.size w6) q)))
        clear hb6 hwh hSaH hSbH
        go_wp2_with fail
        refine hl2.out.mono ?_
        rintro e w7 ⟨rfl, q, rfl⟩
        go_wp2_with fail
        refine (hl1.out q).mono ?_
        rintro e w8 ⟨rfl, q2, rfl⟩
        have hfin := Lib.hid (hb1H.out.trans (hSa6.out.b.mono hb1H.out.size))
        clear hl1 hl2 hSa6
        go_wp2_with fail
        go_ret
        exact ⟨rfl, below_drewN hfin.out _⟩
end Go.Proofs.YtpmhfalhieinjaaGreatDoor
