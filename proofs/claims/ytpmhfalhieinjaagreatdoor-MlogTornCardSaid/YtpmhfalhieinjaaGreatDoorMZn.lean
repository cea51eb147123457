/- No new machine; a loss of power. -/
import Derived.Test.YtpmhfalhieinjaaGreatDoorMZd
import Derived.Test.YtpmhfalhieinjaaGreatDoorMBase
import Derived.Laws.OwnMore
import Derived.OwnWalk
import Derived.Test.YtpmhfalhieinjaaGreatDoorMZw
import Derived.Test.YtpmhfalhieinjaaGreatDoorMZm
namespace Go.Proofs.YtpmhfalhieinjaaGreatDoor
open Go.RowKit Zon
theorem new_bad (z b o a : Int) (w : World) (h : newOk z b o a = false) :
    Calls Tryz.prog 101 #[.int .i64 z, .int .i64 b, .int .i64 o, .int .i64 a] w fun e w' => e = .returned (.tuple #[.pointer none, .int .i64 1]) ∧ w = w' := by
  have h' : ¬ (1 ≤ z ∧ z ≤ 64 ∧ 1 ≤ b ∧ b ≤ 4096 ∧ 1 ≤ o ∧ o ≤ a ∧ a ≤ z) := of_decide_eq_false h
  clear h
  by_cases h1 : z < 1
  · clear h'
    go_enter Tryz.func101, Tryz.ntmps101
    go_wp2
    go_ret2
    exact ⟨rfl, rfl⟩
  by_cases h2 : 64 < z
  · clear h'
    go_enter Tryz.func101, Tryz.ntmps101
    go_wp2
    go_ret2
    exact ⟨rfl, rfl⟩
  by_cases h3 : b < 1
  · clear h'
    go_enter Tryz.func101, Tryz.ntmps101
    go_wp2
    go_ret2
    exact ⟨rfl, rfl⟩
  by_cases h4 : 4096 < b
  · clear h'
    go_enter Tryz.func101, Tryz.ntmps101
    go_wp2
    go_ret2
    exact ⟨rfl, rfl⟩
  by_cases h5 : o < 1
  · clear h'
    go_enter Tryz.func101, Tryz.ntmps101
    go_wp2
    go_ret2
    exact ⟨rfl, rfl⟩
  by_cases h6 : a < o
  · clear h'
    go_enter Tryz.func101, Tryz.ntmps101
    go_wp2
    go_ret2
    exact ⟨rfl, rfl⟩
  · have h7 : z < a := by omega
    clear h'
    go_enter Tryz.func101, Tryz.ntmps101
    go_wp2
    go_ret2
    exact ⟨rfl, rfl⟩
theorem rnew_bad (z b o a : Int) (w : World) (h : newOk z b o a = false) :
    Calls Tryz.prog 90 #[.int .i64 z, .int .i64 b, .int .i64 o, .int .i64 a] w fun e w' => e = .returned (.pointer none) ∧ w = w' := by
  have h' : ¬ (1 ≤ z ∧ z ≤ 64 ∧ 1 ≤ b ∧ b ≤ 4096 ∧ 1 ≤ o ∧ o ≤ a ∧ a ≤ z) := of_decide_eq_false h
  clear h
  by_cases h1 : z < 1
  · clear h'
    go_enter Tryz.func90, Tryz.ntmps90
    go_wp2
    go_ret
    exact ⟨rfl, rfl⟩
  by_cases h2 : 64 < z
  · clear h'
    go_enter Tryz.func90, Tryz.ntmps90
    go_wp2
    go_ret
    exact ⟨rfl, rfl⟩
  by_cases h3 : b < 1
  · clear h'
    go_enter Tryz.func90, Tryz.ntmps90
    go_wp2
    go_ret
    exact ⟨rfl, rfl⟩
  by_cases h4 : 4096 < b
  · clear h'
    go_enter Tryz.func90, Tryz.ntmps90
    go_wp2
    go_ret
    exact ⟨rfl, rfl⟩
  by_cases h5 : o < 1
  · clear h'
    go_enter Tryz.func90, Tryz.ntmps90
    go_wp2
    go_ret
    exact ⟨rfl, rfl⟩
  by_cases h6 : a < o
  · clear h'
    go_enter Tryz.func90, Tryz.ntmps90
    go_wp2
    go_ret
    exact ⟨rfl, rfl⟩
  · have h7 : z < a := by omega
    clear h'
    go_enter Tryz.func90, Tryz.ntmps90
    go_wp2
    go_ret
    exact ⟨rfl, rfl⟩
theorem infoRZ : (Tryz.prog.info? 236).map (fun i => (i.zero, i.size, i.bytes)) = some (some (.agg #[.int .i64 0, .int .i64 0]), 2, 16) := by kernel_rfl
theorem rnew_good (z b o a : Int) (w : World) (h : newOk z b o a = true) :
    Calls Tryz.prog 90 #[.int .i64 z, .int .i64 b, .int .i64 o, .int .i64 a] w (NewPost1 w z b o a) := by
  obtain ⟨h1, h2, h3, h4, h5, h6, h7⟩ := Zon.newOk_iff.1 h
  obtain ⟨n, rfl⟩ := Int.eq_ofNat_of_zero_le (show 0 ≤ z by omega)
  obtain ⟨i0, hi, hz0, hz1, hz2⟩ := info_parts infoRZ
  have hmk := fun W => run_make_m (P := Tryz.prog) 186 236 i0 (.agg #[.int .i64 0, .int .i64 0]) Tryz.underlying186 hi hz0 .i64 .i64 n n (Nat.le_refl _) (by rw [hz2]; omega) (by omega) W
  rw [hz1] at hmk
  clear hi hz0 hz1 hz2 h
  go_enter Tryz.func90, Tryz.ntmps90
  go_wp2
  go_ret
  exact ⟨_, _, rfl, mnew_made w n b o a _ _⟩
end Go.Proofs.YtpmhfalhieinjaaGreatDoor
namespace Go.Proofs.YtpmhfalhieinjaaGreatDoor
open Go.RowKit Zon
theorem IntsIn.only {w w' : World} {z : Nat} {A : Option Addr} {zs : List Int} (h : IntsIn w A zs) (hz : zs ≠ [] → ∀ b off, A = some ⟨b, off, none⟩ → b ≠ z) (ho : Only w w' z) : IntsIn w' A zs := by
  by_cases h0 : zs = []
  · exact .inl h0
  · rcases h with h | ⟨b, off, rfl, hlt, hc⟩
    · exact .inl h
    · exact .inr ⟨b, off, rfl, Nat.lt_of_lt_of_le hlt ho.size, fun i hi => ho.cell (hc i hi) (hz h0 b off rfl)⟩
set_option maxHeartbeats 4000000 in
theorem lost_any (g z : Nat) (m : Mc) (A : Option Addr) (cap : Nat) (ls : List Int) (w : World) (hM : MAt w g z m) (hok : m.Ok) (hI : IntsIn w A ls) (hA : ls ≠ [] → ∀ b off, A = some ⟨b, off, none⟩ → b ≠ z) (hl : ls.length ≤ maxLen) :
    Calls Tryz.prog 118 #[.pointer (some ⟨g, 0, none⟩), .slice A ls.length cap] w fun e w' => e = .returned (.tuple #[]) ∧ MAt w' g z (m.with (lost m ls)) ∧ Only w w' z := by
  have hz2 := hok.z2
  unfold maxLen at hl
  have hIH := Lib.hid (fun W (ho : Only w W z) => hI.only hA ho)
  clear hI
  have hAH := Lib.hid hA
  clear hA
  have hMH := Lib.hid hM
  obtain ⟨⟨mcap, c0⟩, _, _, _, hne, hzl, _⟩ := hM
  go_enter Tryz.func118, Tryz.ntmps118
  go_wp2
  go_loopw [13] (fun i wr => ∃ k : Nat, k ≤ m.zs.length ∧ i = .int .i64 (k : Int) ∧ MAt wr g z (m.with (lostTo ls m.zs k)) ∧ Only w wr z) (fun i _ => m.zs.length - (intOf i).toNat)
  case atStart => exact ⟨0, by omega, rfl, hMH.out, Only.refl _ _⟩
  case round =>
    obtain ⟨k, hk, rfl, hM, ho⟩ := hrel
    have hc0 := ho.cell c0 hne
    have hzw := hM.zl
    by_cases hlt : k < m.zs.length
    · have hlen : k < (lostTo ls m.zs k).length := by rw [lostTo_len]; exact hlt
      obtain ⟨k1, k2, k3, k4⟩ := hM.cellsW hlen
      rw [lostTo_at ls m.zs k hlt] at k1 k2
      have hst := lostTo_step ls m.zs k hlt
      have hsh := fun W y (h : MAt W g z (m.with ((lostTo ls m.zs k).set k y))) => shut_any g z (m.with ((lostTo ls m.zs k).set k y)) k W h (by simpa [Mc.with] using hlen)
      have hbo := fun W (h : MAt W g z (m.with (lostTo ls m.zs k))) => h.both (i := k) hlen
      have hns : (lostTo ls m.zs k).set k (zAt m.zs k) = lostTo ls m.zs k := by
        have := set_zAt (lostTo ls m.zs k) k
        rwa [lostTo_at ls m.zs k hlt] at this
      generalize hy : zAt m.zs k = y at k1 k2 hst hns
      have hac := Lib.hid (fun W => isActive_any y.s y.l W)
      have hnsH := Lib.hid hns
      have hstH := Lib.hid hst
      have hshH := Lib.hid hsh
      have hboH := Lib.hid hbo
      have hMwH := Lib.hid hM
      have hoH := Lib.hid ho
      clear hy hst hsh hM ho hbo hns c0
      unfold lostZ at hstH
      have hplain : ¬ (k < ls.length ∧ 0 ≤ ls.getD k 0 ∧ ls.getD k 0 < y.l) → ∃ q : Bool, (∀ W, Calls Tryz.prog 130 #[.agg #[.int .i64 y.s, .int .i64 y.l]] W fun e w' => e = .returned (.bool q) ∧ Below W.heap.size W w') ∧ (q = true → (lostTo ls m.zs k).set k (shutZ y) = lostTo ls m.zs (k + 1)) ∧ (q = false → lostTo ls m.zs k = lostTo ls m.zs (k + 1)) := fun h => by
        refine ⟨actB y.s, hac.out, fun hq => ?_, fun hq => ?_⟩
        · have h5 := hstH.out
          rw [if_neg h, if_pos hq] at h5
          exact h5
        · have h5 := hstH.out
          rw [if_neg h, if_neg (by simp [hq])] at h5
          rw [← h5]; exact hnsH.out.symm
      have hfull : (k < ls.length ∧ 0 ≤ ls.getD k 0 ∧ ls.getD k 0 < y.l) → (lostTo ls m.zs k).set k (shutZ ⟨3, ls.getD k 0⟩) = lostTo ls m.zs (k + 1) := fun h => by
        have h5 := hstH.out
        rw [if_pos h] at h5
        exact h5
      have hplainH := Lib.hid hplain
      have hfullH := Lib.hid hfull
      clear hplain hfull hstH hac
      by_cases h1 : k < ls.length
      · obtain ⟨b, off, rfl, hltb, hcl⟩ := (hIH.out wr hoH.out).at_ h1
        have hgd : ls.getD k 0 = ls[k] := by simp [List.getD, h1]
        rw [hgd] at hplainH hfullH
        generalize ls[k] = x at hcl hplainH hfullH hgd
        clear hgd
        by_cases h2 : 0 ≤ x
        · by_cases h3 : x < y.l
          · have hend := Lib.hid (hfullH.out ⟨h1, h2, h3⟩)
            have hac := Lib.hid (fun W => (show Calls Tryz.prog 130 #[.agg #[.int .i64 3, .int .i64 x]] W fun e w' => e = .returned (.bool true) ∧ Below W.heap.size W w' from isActive_any 3 x W))
            clear hplainH hfullH
            go_wp2
            go_quiet (fail)
            go_wp2_with fail
            have hM2 := hboH.out _ (hMwH.out.drewN nq) 3 x
            have ho2 := ((hoH.out.drewN nq).set (k * 2) (.int .i64 3)).set (k * 2 + 1) (.int .i64 x)
            refine (hac.out _).mono ?_
            rintro e w5 ⟨rfl, hb5⟩
            have hM5 := hM2.below hb5
            have ho5 := ho2.trans (Only.of_below hb5 z)
            go_wp2_with (go_at_call 131; refine (hshH.out _ _ hM5).mono ?_; rintro e w6 ⟨rfl, hM6, ho6⟩)
            have e6 : ((m.with ((lostTo ls m.zs k).set k ⟨3, x⟩)).with ((m.with ((lostTo ls m.zs k).set k ⟨3, x⟩)).zs.set k (shutZ (zAt (m.with ((lostTo ls m.zs k).set k ⟨3, x⟩)).zs k)))) = m.with (lostTo ls m.zs (k + 1)) := by
              rw [← hend.out]
              show m.with (((lostTo ls m.zs k).set k ⟨3, x⟩).set k (shutZ (zAt ((lostTo ls m.zs k).set k ⟨3, x⟩) k))) = _
              rw [zAt_set_same hlen, List.set_set]
            rw [e6] at hM6
            go_roundw
            case rel => exact ⟨k + 1, by omega, by go_num, hM6, ho5.trans ho6⟩
            case measure => simp [intOf]; omega
          · have h3' : decide (x < y.l) = false := by simpa using h3
            obtain ⟨q, hac, hq1, hq2⟩ := hplainH.out (fun h => h3 h.2.2)
            have hacH := Lib.hid hac
            clear hac hplainH hfullH
            cases q with
            | true =>
              have hend := Lib.hid (hq1 rfl)
              clear hq1 hq2
              go_wp2
              go_quiet (fail)
              go_wp2_with fail
              refine (hacH.out _).mono ?_
              rintro e w5 ⟨rfl, hb5⟩
              have hM5 := (hMwH.out.drewN nq).below hb5
              have ho5 := (hoH.out.drewN nq).trans (Only.of_below hb5 z)
              have e0 : lostTo ls m.zs k = (lostTo ls m.zs k).set k y := hnsH.out.symm
              rw [e0] at hM5
              have hsh2 := Lib.hid (hshH.out _ _ hM5)
              have e0H := Lib.hid e0
              clear e0
              go_wp2_with (go_at_call 131; refine hsh2.out.mono ?_; rintro e w6 ⟨rfl, hM6, ho6⟩)
              have e6 : ((m.with ((lostTo ls m.zs k).set k y)).with ((m.with ((lostTo ls m.zs k).set k y)).zs.set k (shutZ (zAt (m.with ((lostTo ls m.zs k).set k y)).zs k)))) = m.with (lostTo ls m.zs (k + 1)) := by
                rw [← hend.out]
                show m.with (((lostTo ls m.zs k).set k y).set k (shutZ (zAt ((lostTo ls m.zs k).set k y) k))) = _
                rw [zAt_set_same hlen, List.set_set]
              rw [e6] at hM6
              go_roundw
              case rel => exact ⟨k + 1, by omega, by go_num, hM6, ho5.trans ho6⟩
              case measure => simp [intOf]; omega
            | false =>
              have hend := Lib.hid (hq2 rfl)
              clear hq1 hq2
              go_wp2
              go_quiet (fail)
              go_wp2_with (go_at_call 130; refine (hacH.out _).mono ?_; rintro e w5 ⟨rfl, hb5⟩)
              go_roundw
              case rel => exact ⟨k + 1, by omega, by go_num, by rw [← hend.out]; exact (hMwH.out.drewN nq).below hb5, (hoH.out.drewN nq).trans (Only.of_below hb5 z)⟩
              case measure => simp [intOf]; omega
        · have h2' : decide (0 ≤ x) = false := by simpa using h2
          obtain ⟨q, hac, hq1, hq2⟩ := hplainH.out (fun h => h2 h.2.1)
          have hacH := Lib.hid hac
          clear hac hplainH hfullH
          cases q with
          | true =>
            have hend := Lib.hid (hq1 rfl)
            clear hq1 hq2
            go_wp2
            go_quiet (fail)
            go_wp2_with fail
            refine (hacH.out _).mono ?_
            rintro e w5 ⟨rfl, hb5⟩
            have hM5 := (hMwH.out.drewN nq).below hb5
            have ho5 := (hoH.out.drewN nq).trans (Only.of_below hb5 z)
            have e0 : lostTo ls m.zs k = (lostTo ls m.zs k).set k y := hnsH.out.symm
            rw [e0] at hM5
            have hsh2 := Lib.hid (hshH.out _ _ hM5)
            have e0H := Lib.hid e0
            clear e0
            go_wp2_with (go_at_call 131; refine hsh2.out.mono ?_; rintro e w6 ⟨rfl, hM6, ho6⟩)
            have e6 : ((m.with ((lostTo ls m.zs k).set k y)).with ((m.with ((lostTo ls m.zs k).set k y)).zs.set k (shutZ (zAt (m.with ((lostTo ls m.zs k).set k y)).zs k)))) = m.with (lostTo ls m.zs (k + 1)) := by
              rw [← hend.out]
              show m.with (((lostTo ls m.zs k).set k y).set k (shutZ (zAt ((lostTo ls m.zs k).set k y) k))) = _
              rw [zAt_set_same hlen, List.set_set]
            rw [e6] at hM6
            go_roundw
            case rel => exact ⟨k + 1, by omega, by go_num, hM6, ho5.trans ho6⟩
            case measure => simp [intOf]; omega
          | false =>
            have hend := Lib.hid (hq2 rfl)
            clear hq1 hq2
            go_wp2
            go_quiet (fail)
            go_wp2_with (go_at_call 130; refine (hacH.out _).mono ?_; rintro e w5 ⟨rfl, hb5⟩)
            go_roundw
            case rel => exact ⟨k + 1, by omega, by go_num, by rw [← hend.out]; exact (hMwH.out.drewN nq).below hb5, (hoH.out.drewN nq).trans (Only.of_below hb5 z)⟩
            case measure => simp [intOf]; omega
      · have h1' : decide (k < ls.length) = false := by simpa using h1
        obtain ⟨q, hac, hq1, hq2⟩ := hplainH.out (fun h => h1 h.1)
        have hacH := Lib.hid hac
        clear hac hplainH hfullH
        cases q with
        | true =>
          have hend := Lib.hid (hq1 rfl)
          clear hq1 hq2
          go_wp2
          go_quiet (fail)
          go_wp2_with fail
          refine (hacH.out _).mono ?_
          rintro e w5 ⟨rfl, hb5⟩
          have hM5 := (hMwH.out.drewN nq).below hb5
          have ho5 := (hoH.out.drewN nq).trans (Only.of_below hb5 z)
          have e0 : lostTo ls m.zs k = (lostTo ls m.zs k).set k y := hnsH.out.symm
          rw [e0] at hM5
          have hsh2 := Lib.hid (hshH.out _ _ hM5)
          have e0H := Lib.hid e0
          clear e0
          go_wp2_with (go_at_call 131; refine hsh2.out.mono ?_; rintro e w6 ⟨rfl, hM6, ho6⟩)
          have e6 : ((m.with ((lostTo ls m.zs k).set k y)).with ((m.with ((lostTo ls m.zs k).set k y)).zs.set k (shutZ (zAt (m.with ((lostTo ls m.zs k).set k y)).zs k)))) = m.with (lostTo ls m.zs (k + 1)) := by
            rw [← hend.out]
            show m.with (((lostTo ls m.zs k).set k y).set k (shutZ (zAt ((lostTo ls m.zs k).set k y) k))) = _
            rw [zAt_set_same hlen, List.set_set]
          rw [e6] at hM6
          go_roundw
          case rel => exact ⟨k + 1, by omega, by go_num, hM6, ho5.trans ho6⟩
          case measure => simp [intOf]; omega
        | false =>
          have hend := Lib.hid (hq2 rfl)
          clear hq1 hq2
          go_wp2
          go_quiet (fail)
          go_wp2_with (go_at_call 130; refine (hacH.out _).mono ?_; rintro e w5 ⟨rfl, hb5⟩)
          go_roundw
          case rel => exact ⟨k + 1, by omega, by go_num, by rw [← hend.out]; exact (hMwH.out.drewN nq).below hb5, (hoH.out.drewN nq).trans (Only.of_below hb5 z)⟩
          case measure => simp [intOf]; omega
    · obtain rfl : k = m.zs.length := by omega
      rw [lostTo_all] at hM
      go_wp2
      go_end0
      exact ⟨rfl, hM, ho⟩
end Go.Proofs.YtpmhfalhieinjaaGreatDoor
namespace Go.Proofs.YtpmhfalhieinjaaGreatDoor
open Go.RowKit
theorem zone_eql (w : World) (s l s' l' : Int) : (binOp .eql 118 (.agg #[.int .i64 s, .int .i64 l]) (.agg #[.int .i64 s', .int .i64 l'])).run Tryz.prog w = .ok (.bool (s == s' && l == l')) w ∧
    (binOp .neq 118 (.agg #[.int .i64 s, .int .i64 l]) (.agg #[.int .i64 s', .int .i64 l'])).run Tryz.prog w = .ok (.bool (!(s == s' && l == l'))) w := by
  obtain ⟨f0, f1, hl, h0, h1⟩ := struct_two (P := Tryz.prog) (t := 118) (k0 := (3, 0, true)) (k1 := (3, 1, true)) (by kernel_rfl)
  refine eql_of (by kernel_rfl) (by kernel_rfl) ?_
  rw [hl, eqF_cons h0 (a := .int .i64 s) (b := .int .i64 s') (by kernel_rfl) (by kernel_rfl) (run_equalIn_int _ 9998 _ _ .i64 _ _ Tryz.underlying3),
    eqF_cons h1 (a := .int .i64 l) (b := .int .i64 l') (by kernel_rfl) (by kernel_rfl) (run_equalIn_int _ 9998 _ _ .i64 _ _ Tryz.underlying3), eqF_nil]
  cases h2 : (s == s') <;> cases h3 : (l == l') <;> rfl
end Go.Proofs.YtpmhfalhieinjaaGreatDoor
