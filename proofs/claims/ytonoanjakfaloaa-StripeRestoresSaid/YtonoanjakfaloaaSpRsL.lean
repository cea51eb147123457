/- StripeRestores' walk. -/
import Derived.Test.YtonoanjakfaloaaSpRow
import Derived.Test.YtonoanjakfaloaaSpRRs
import Derived.Deep.QuietTactic
namespace Go.Proofs.Ytonoanjakfaloaa
open Go.RowKit Sp Xor

/-- The texts that go in: one of them perhaps of another length. -/
def inL (wb : Bool) (ps : List ByteArray) : List ByteArray := ps.mapIdx fun i s => blkS s (wb && decide (i = 1))
theorem inL_len {wb : Bool} {ps : List ByteArray} : (inL wb ps).length = ps.length := by unfold inL; simp
theorem inL_more {wb : Bool} {ps : List ByteArray} {i : Nat} (h : i < ps.length) : (inL wb ps).take (i + 1) = (inL wb ps).take i ++ [blkS ps[i] (wb && decide (i = 1))] := by
  rw [List.take_succ_eq_append_getElem (by rw [inL_len]; exact h)]
  unfold inL
  rw [List.getElem_mapIdx]
theorem blkS_le {s : ByteArray} {v : Bool} (h : s.size ≤ 140737488351232) : (blkS s v).size ≤ maxLen := by
  cases v
  · rw [blkS_size]; decide
  · show (s.extract 0 (min s.size 200)).size ≤ _
    rw [ByteArray.size_extract]
    unfold maxLen
    omega
theorem inL_le {wb : Bool} {ps : List ByteArray} (h : ∀ q ∈ ps, q.size ≤ 140737488351232) : ∀ q ∈ inL wb ps, q.size ≤ maxLen := fun q hq => by
  unfold inL at hq
  obtain ⟨i, hi, rfl⟩ := List.mem_mapIdx.1 hq
  exact blkS_le (h _ (List.getElem_mem hi))
set_option maxRecDepth 100000 in
set_option maxHeartbeats 4000000 in
theorem rest_law (s : ByteArray) (A0 : Option Addr) (cap0 : Nat) (ps : List ByteArray) (x0 x1 : Int) (w : World) (hS : StrsIn w A0 ps) (hz : ∀ q ∈ ps, q.size ≤ 140737488351232) (hs : s.size ≤ 140737488351232) :
    Calls Try.prog 5 #[.string s, .slice A0 ps.length cap0, .agg #[.int .i64 x0, .int .i64 x1]] w fun e w' => e = .returned (.bool true) ∧ Below w.heap.size w w' := by
  have cs := Lib.hid speaks11
  have hm := and_mask2 x1 2 3 (by decide) (by decide)
  have hm1 : bits .and .i64 x1 3 = x1 % 4 := hm
  obtain ⟨wb, hwb⟩ : ∃ wb, (x1 % 4 == 1) = wb := ⟨_, rfl⟩
  have hSH := Lib.hid (fun W (h : Below w.heap.size w W) => hS.below h)
  have hzH := Lib.hid hz
  have hsH := Lib.hid hs
  clear hm hS hz hs
  go_enter Try.func5, Try.ntmps5
  go_wp2_with fail
  go_quiet (fail)
  have hb0 : Below w.heap.size w ((w.alloc (.cells #[.int .i64 x0, .int .i64 x1] 40)).drewN nq) := below_drewN ((Below.refl _ _).alloc (Nat.le_refl _) _) nq
  go_upto_region 2 with fail
  refine fresh_world (fun W => Below w.heap.size w W) hb0 ?_
  clear hb0 hm1
  rintro W1 hB1
  go_wp2_with fail
  (with_reducible refine (cs.out _).mono ?_)
  rintro e w1 ⟨rfl, hb1⟩
  have hB := Lib.hid (hB1.trans (hb1.mono hB1.size))
  clear hB1 hb1 cs hwb
  by_cases h40 : 40 < ps.length
  · have g1 : (40 : Int) < (ps.length : Int) := by omega
    clear h40
    go_wp2
    go_ret
    exact ⟨rfl, hB.out⟩
  have g1 : ¬ (40 : Int) < (ps.length : Int) := by omega
  go_wp2_with fail
  go_loopw [9, 10] (fun s9 s10 wr => ∃ (i : Nat) (A : Option Addr) (cap : Nat), i ≤ ps.length ∧ s10 = .int .i64 (i : Int) ∧ s9 = .slice A i cap ∧ Row wr w.heap.size A cap ((inL wb ps).take i) ∧ Below w.heap.size w wr) (fun _ s _ => ps.length - (intOf s).toNat)
  case atStart => exact ⟨0, none, 0, Nat.zero_le _, rfl, rfl, by rw [List.take_zero]; exact Row.nil _ _, hB.out⟩
  case round =>
    clear hB
    obtain ⟨i, A, cap, hi, rfl, rfl, hR, hB⟩ := hrel
    have htl : ((inL wb ps).take i).length = i := by rw [List.length_take, inL_len]; omega
    by_cases hlt : i < ps.length
    case pos =>
      have g3 : (i : Int) < (ps.length : Int) := by omega
      have hmo := inL_more (wb := wb) hlt
      obtain ⟨b, off, rfl, hbl, hcl⟩ := (hSH.out _ hB).at_ hlt
      have hq := hzH.out ps[i] (List.getElem_mem hlt)
      have hw1 : IntKind.i64.wrap ((i : Int) + 1) = (i : Int) + 1 := IntWalk.i64_in _ (by omega)
      have hi1 : ((i : Int) == 1) = decide (i = 1) := by rw [Bool.eq_iff_iff]; simp; omega
      have hbk := Lib.hid (fun W => block_any11 ps[i] (wb && decide (i = 1)) W hq)
      have hap := Lib.hid (fun W (hb : Below wr.heap.size wr W) (t : ByteArray) => row_app (hR.below hb) (by rw [htl]; omega) (Nat.le_trans hB.size hb.size) t)
      rw [htl] at hap
      have hBH := Lib.hid hB
      have hmoH := Lib.hid hmo
      generalize ps[i] = q at hbk hmoH hcl
      clear hR hB hmo hq htl
      cases wb
      case false =>
        have hbk2 := hbk.out
        rw [Bool.false_and] at hbk2
        have hmo2 := hmoH.out
        rw [Bool.false_and] at hmo2
        have hmo2H := Lib.hid hmo2
        have hbkH := Lib.hid hbk2
        clear hbk hmoH hbk2 hmo2 hi1
        go_wp2_with fail
        (with_reducible refine (hbkH.out _).mono ?_)
        rintro e v1 ⟨rfl, hb1⟩
        obtain ⟨A', cap', W', hrun, hR', hB', -, -⟩ := hap.out v1 hb1 (blkS q false)
        have hF : Row W' w.heap.size A' cap' ((inL false ps).take (i + 1)) ∧ Below w.heap.size w W' := ⟨by rw [hmo2H.out]; exact hR', (hBH.out.trans (hb1.mono hBH.out.size)).trans hB'⟩
        have hFH := Lib.hid hF
        have hrunH := Lib.hid hrun
        clear hrun hF hR' hB' hb1 hap
        go_wp2_with (at_builtin; refine append_run_wp rfl _ _ _ rfl rfl rfl hrunH.out ?_)
        go_roundw
        case rel => exact ⟨i + 1, A', cap', by omega, by go_num, by first | rfl | simp, hFH.out⟩
        case measure => simp [intOf]; omega
      case true =>
        have hbk2 := hbk.out
        rw [Bool.true_and] at hbk2
        have hmo2 := hmoH.out
        rw [Bool.true_and] at hmo2
        obtain ⟨vb, hvb⟩ : ∃ vb, decide (i = 1) = vb := ⟨_, rfl⟩
        rw [hvb] at hi1 hbk2 hmo2
        have hmo2H := Lib.hid hmo2
        have hbkH := Lib.hid hbk2
        clear hbk hmoH hbk2 hmo2 hvb
        go_wp2_with fail
        (with_reducible refine (hbkH.out _).mono ?_)
        rintro e v1 ⟨rfl, hb1⟩
        obtain ⟨A', cap', W', hrun, hR', hB', -, -⟩ := hap.out v1 hb1 (blkS q vb)
        have hF : Row W' w.heap.size A' cap' ((inL true ps).take (i + 1)) ∧ Below w.heap.size w W' := ⟨by rw [hmo2H.out]; exact hR', (hBH.out.trans (hb1.mono hBH.out.size)).trans hB'⟩
        have hFH := Lib.hid hF
        have hrunH := Lib.hid hrun
        clear hrun hF hR' hB' hb1 hap
        go_wp2_with (at_builtin; refine append_run_wp rfl _ _ _ rfl rfl rfl hrunH.out ?_)
        go_roundw
        case rel => exact ⟨i + 1, A', cap', by omega, by go_num, by first | rfl | simp, hFH.out⟩
        case measure => simp [intOf]; omega
    case neg =>
      have e : i = ps.length := by omega
      subst e
      rw [List.take_of_length_le (by rw [inL_len]; exact Nat.le_refl _)] at hR htl
      have hpb := Lib.hid (fun W => block_any11 s (wb && decide (ps.length = 1)) W hsH.out)
      have hi1 : ((ps.length : Int) == 1) = decide (ps.length = 1) := by rw [Bool.eq_iff_iff]; simp; omega
      have hpl := blkS_le (v := wb && decide (ps.length = 1)) hsH.out
      obtain ⟨P, hP⟩ : ∃ P, blkS s (wb && decide (ps.length = 1)) = P := ⟨_, rfl⟩
      rw [hP] at hpb hpl
      have hcp := Lib.hid (fun W (hb : Below wr.heap.size wr W) => row_copy (hR.below hb) (by rw [htl]; omega))
      rw [htl] at hcp
      have hRs := Lib.hid (fun W A' cap' (h : StrsIn W A' (inL wb ps)) (hc : (inL wb ps).length ≤ cap' ∧ cap' ≤ maxLen) => restore_any P A' cap' (inL wb ps) x0 W h hc.1 hc.2 (by rw [htl]; omega) (inL_le hzH.out) hpl)
      have hRr := Lib.hid (fun W A' cap' (h : StrsIn W A' (inL wb ps)) => rrestore_any P A' cap' (inL wb ps) x0 W h (by rw [htl]; omega) (inL_le hzH.out))
      generalize resV P (inL wb ps) x0 = rv at hRs hRr
      generalize resE P (inL wb ps) x0 = re at hRs hRr
      rw [htl] at hRs hRr
      have hBH := Lib.hid hB
      generalize hI : inL wb ps = L at hcp hRs hRr htl
      have htL := Lib.hid htl
      clear hR hB hpl htl hlt hi hP hI hsH hSH hzH
      cases wb
      case false =>
        have hpb2 := hpb.out
        rw [Bool.false_and] at hpb2
        have hpbH := Lib.hid hpb2
        clear hpb hpb2 hi1
        go_wp2_with fail
        (with_reducible refine (hpbH.out _).mono ?_)
        rintro e v1 ⟨rfl, hb1⟩
        obtain ⟨A', cap', W', hrun, hR1, hR2, hB'⟩ := hcp.out v1 hb1
        have hrunH := Lib.hid hrun
        have hR1H := Lib.hid hR1
        have hR2H := Lib.hid hR2
        have hB2 := Lib.hid ((hBH.out.trans (hb1.mono hBH.out.size)).trans (hB'.mono (by have := hBH.out.size; have := hb1.size; omega)))
        clear hrun hR1 hR2 hB' hb1 hcp
        go_wp2_with (at_builtin; refine append_run_wp rfl _ _ _ rfl rfl rfl hrunH.out ?_)
        (with_reducible refine (hRs.out _ _ _ hR1H.out.strs (by have := hR1H.out.caps; rw [htL.out] at this; exact this)).mono ?_)
        rintro e v2 ⟨rfl, hb2⟩
        go_wp2_with fail
        (with_reducible refine (hRr.out _ _ _ (hR2H.out.strs.below hb2)).mono ?_)
        rintro e v3 ⟨rfl, hb3⟩
        have hF := Lib.hid (hB2.out.trans ((hb2.trans (hb3.mono hb2.size)).mono hB2.out.size))
        clear hb2 hb3
        go_wp2
        go_ret
        exact ⟨rfl, hF.out⟩
      case true =>
        have hpb2 := hpb.out
        rw [Bool.true_and] at hpb2
        obtain ⟨vb, hvb⟩ : ∃ vb, decide (ps.length = 1) = vb := ⟨_, rfl⟩
        rw [hvb] at hi1 hpb2
        have hpbH := Lib.hid hpb2
        clear hpb hpb2 hvb
        go_wp2_with fail
        (with_reducible refine (hpbH.out _).mono ?_)
        rintro e v1 ⟨rfl, hb1⟩
        obtain ⟨A', cap', W', hrun, hR1, hR2, hB'⟩ := hcp.out v1 hb1
        have hrunH := Lib.hid hrun
        have hR1H := Lib.hid hR1
        have hR2H := Lib.hid hR2
        have hB2 := Lib.hid ((hBH.out.trans (hb1.mono hBH.out.size)).trans (hB'.mono (by have := hBH.out.size; have := hb1.size; omega)))
        clear hrun hR1 hR2 hB' hb1 hcp
        go_wp2_with (at_builtin; refine append_run_wp rfl _ _ _ rfl rfl rfl hrunH.out ?_)
        (with_reducible refine (hRs.out _ _ _ hR1H.out.strs (by have := hR1H.out.caps; rw [htL.out] at this; exact this)).mono ?_)
        rintro e v2 ⟨rfl, hb2⟩
        go_wp2_with fail
        (with_reducible refine (hRr.out _ _ _ (hR2H.out.strs.below hb2)).mono ?_)
        rintro e v3 ⟨rfl, hb3⟩
        have hF := Lib.hid (hB2.out.trans ((hb2.trans (hb3.mono hb2.size)).mono hB2.out.size))
        clear hb2 hb3
        go_wp2
        go_ret
        exact ⟨rfl, hF.out⟩
end Go.Proofs.Ytonoanjakfaloaa
