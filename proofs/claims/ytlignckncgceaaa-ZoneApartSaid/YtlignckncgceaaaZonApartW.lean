/- What the law ZoneApart does. -/
import Derived.Test.YtlignckncgceaaaZonLimW
namespace Go.Proofs.Ytlignckncgceaaa
open Go.RowKit Zon

/-- The zones behind a row of commands. -/
def runM (m : Mc) : List Cm → Mc
  | [] => m
  | c :: cs => runM (m.with (doM m c.k c.z c.a c.n).2.2) cs
def stepM (m : Mc) (c : Cm) : Mc := m.with (doM m c.k c.z c.a c.n).2.2
theorem runM_snoc (c : Cm) : ∀ (cs : List Cm) (m : Mc), runM m (cs ++ [c]) = stepM (runM m cs) c
  | [], _ => rfl
  | _ :: cs, _ => runM_snoc c cs _
theorem runM_take {m : Mc} {cs : List Cm} {k : Nat} (h : k < cs.length) : runM m (cs.take (k + 1)) = stepM (runM m (cs.take k)) cs[k] := by
  rw [List.take_succ_eq_append_getElem h, runM_snoc]
theorem runM_ok : ∀ (cs : List Cm) {m : Mc}, m.Ok → (runM m cs).Ok
  | [], _, h => h
  | _ :: cs, _, h => runM_ok cs (doM_ok h _ _ _ _)
theorem stepM_len (m : Mc) (c : Cm) : (stepM m c).zs.length = m.zs.length := doM_len _ _ _ _ _
theorem runM_len : ∀ (cs : List Cm) (m : Mc), (runM m cs).zs.length = m.zs.length
  | [], _ => rfl
  | _ :: cs, _ => (runM_len cs _).trans (doM_len _ _ _ _ _)
theorem step_any (g z : Nat) (m : Mc) (c : Cm) (w : World) (hM : MAt w g z m) (hok : m.Ok) (hc : CmOk c) :
    Calls Try.prog 13 #[.pointer (some ⟨g, 0, none⟩), .agg #[.int .i64 c.k, .int .i64 c.z, .int .i64 c.a, .int .i64 c.n]] w fun e w' => ∃ x y, e = .returned (.tuple #[.int .i64 x, .int .i64 y]) ∧ MAt w' g z (stepM m c) ∧ Only w w' z :=
  (do_any g z m c.k c.z c.a c.n w hM hok hc.2).mono fun _ _ ⟨h1, h2, h3⟩ => ⟨_, _, h1, h2, h3⟩
/-- Where the blocks lie. -/
structure Places (X g z ga za gb zb : Nat) : Prop where
  a1 : X < g
  a2 : X < z
  a3 : g < ga
  a4 : g < za
  a5 : z < ga
  a6 : z < za
  a7 : ga < gb
  a8 : ga < zb
  a9 : za < gb
  a10 : za < zb

set_option maxRecDepth 100000 in
set_option maxHeartbeats 8000000 in
theorem apart_law (x0 x1 x2 x3 : Int) (A A2 : Option Addr) (cap cap2 : Nat) (cs ds : List Cm) (w : World) (hI : CmdsIn w A cs) (hC : ∀ c ∈ cs, CmOk c) (hl : cs.length ≤ maxLen) (hI2 : CmdsIn w A2 ds) (hC2 : ∀ c ∈ ds, CmOk c) (hl2 : ds.length ≤ maxLen) :
    Calls Try.prog 7 #[.agg #[.int .i64 x0, .int .i64 x1, .int .i64 x2, .int .i64 x3], .slice A cs.length cap, .slice A2 ds.length cap2] w fun e w' => e = .returned (.bool true) ∧ Below w.heap.size w w' := by
  unfold maxLen at hl hl2
  have hIH := Lib.hid hI
  have hCH := Lib.hid hC
  have hI2H := Lib.hid hI2
  have hC2H := Lib.hid hC2
  clear hI hC hI2 hC2
  have hX0 := Lib.hid (ArrAt.new w x0 x1 x2 x3 22)
  cases hok : newOk x0 x1 x2 x3 with
  | false =>
    have hnew := Lib.hid (fun W => new_bad x0 x1 x2 x3 W hok)
    clear hok
    go_enter Try.func7, Try.ntmps7
    go_wp2_with fail
    refine (speaks5 _).mono ?_
    rintro e w1 ⟨rfl, hb1⟩
    have hB1 := ((Below.refl w.heap.size w).alloc (Nat.le_refl _) (.cells #[.int .i64 x0, .int .i64 x1, .int .i64 x2, .int .i64 x3] 22)).trans (hb1.mono (by simp))
    obtain ⟨c0, c1, c2, c3⟩ := hX0.out.below hb1
    clear hb1
    go_wp2_with fail
    refine (hnew.out _).mono ?_
    rintro e w2 ⟨rfl, rfl⟩
    clear c0 c1 c2 c3
    go_wp2_with fail
    go_ret
    exact ⟨rfl, hB1⟩
  | true =>
    have hnew := Lib.hid (fun W => new_good x0 x1 x2 x3 W hok)
    have hokH := Lib.hid hok
    have hx0 := (Zon.newOk_iff.1 hok).1
    have hx1 := (Zon.newOk_iff.1 hok).2.1
    clear hok
    go_enter Try.func7, Try.ntmps7
    go_wp2_with fail
    refine (speaks5 _).mono ?_
    rintro e w1 ⟨rfl, hb1⟩
    have hB1 := ((Below.refl w.heap.size w).alloc (Nat.le_refl _) (.cells #[.int .i64 x0, .int .i64 x1, .int .i64 x2, .int .i64 x3] 22)).trans (hb1.mono (by simp))
    have hX1 := hX0.out.below hb1
    have hX1H := Lib.hid hX1
    have hs1 := hb1.size
    simp at hs1
    obtain ⟨c0, c1, c2, c3⟩ := hX1
    clear hb1 hX0
    go_wp2_with fail
    refine (hnew.out _).mono ?_
    rintro e w2 ⟨g, z, rfl, hM2, hzy, hgy, hb2⟩
    have hX2 := hX1H.out.below hb2
    have hB2 := hB1.trans (hb2.mono hB1.size)
    have hwz : w.heap.size < z := by omega
    have hwg : w.heap.size < g := by omega
    clear c0 c1 c2 c3 hB1 hb2 hnew hzy hgy hX1H hs1
    go_wp2_with fail
    generalize hXe : w.heap.size = X at hX2 hwz hwg hB2 ⊢
    have hXeH := Lib.hid hXe
    clear hXe
    have hXz : X ≠ z := by omega
    go_loopw [9] (fun i wr => ∃ (k : Nat) (m : Mc), k ≤ cs.length ∧ k ≤ 60 ∧ i = .int .i64 (k : Int) ∧ MAt wr g z m ∧ m.Ok ∧ m.zs.length = x0.toNat ∧ Below X w wr ∧ ArrAt wr X x0 x1 x2 x3) (fun i _ => cs.length - (intOf i).toNat)
    case atStart => exact ⟨0, newM x0 x1 x2 x3, by omega, by omega, rfl, hM2, newM_ok hokH.out, by show (List.replicate _ _).length = _; rw [List.length_replicate], hB2, hX2⟩
    case round =>
      clear hM2 hB2 hX2
      obtain ⟨k, m, hk, hk2, rfl, hM, hok, hlen, hB, hX⟩ := hrel
      have hlenH := Lib.hid hlen
      have hokmH := Lib.hid hok
      clear hlen hok
      by_cases hrun : k < cs.length ∧ k < 60
      · obtain ⟨hlt, hlt2⟩ := hrun
        obtain ⟨b, off, rfl, hltb, a0, a1, a2, a3⟩ := hIH.out.at_ hlt
        have hcok := Lib.hid (hCH.out _ (List.getElem_mem hlt))
        rw [hXeH.out] at hltb
        obtain ⟨c, hce⟩ : ∃ c, cs[k] = c := ⟨_, rfl⟩
        rw [hce] at a0 a1 a2 a3 hcok
        have hceH := Lib.hid hce
        clear hce
        have a0 := (hB.cell (p := ⟨b, off + k * 4, none⟩) hltb).trans a0
        have a1 := (hB.cell (p := ⟨b, off + k * 4 + 1, none⟩) hltb).trans a1
        have a2 := (hB.cell (p := ⟨b, off + k * 4 + 2, none⟩) hltb).trans a2
        have a3 := (hB.cell (p := ⟨b, off + k * 4 + 3, none⟩) hltb).trans a3
        have hst := Lib.hid (step_any g z m c wr hM hokmH.out hcok.out)
        go_wp2_with fail
        refine hst.out.mono ?_
        rintro e w3 ⟨dx, dy, rfl, hM3, ho3⟩
        have hB3 := hB.trans (ho3.below (by omega) (by have := hB.size; have := hXeH.out; omega))
        clear a0 a1 a2 a3 hst
        go_wp2_with fail
        go_roundw
        case rel => exact ⟨k + 1, stepM m c, by omega, by omega, by go_num, hM3, doM_ok hokmH.out _ _ _ _, (stepM_len m c).trans hlenH.out, hB3, hX.only ho3 hXz⟩
        case measure => simp [intOf]; omega
      · have hways : (¬ k < cs.length) ∨ (k < cs.length ∧ decide ((k : Int) < 60) = false) := by
          by_cases h : k < cs.length
          · right; exact ⟨h, by simp; omega⟩
          · left; exact h
        have hXH := Lib.hid hX
        clear hrun hX
        rcases hways with h | ⟨h, h'⟩
        all_goals
          go_wp2_with fail
          have hcl := Lib.hid (fun W (hM : MAt W g z m) => clone_any g z m W hM hokmH.out.z1 hokmH.out.z2)
          refine (hcl.out _ hM).mono ?_
          rintro e wa ⟨ga, za, rfl, hMa, hza, hga, hba⟩
          have hBa := hB.trans (hba.mono (by have := hB.size; have := hXeH.out; omega))
          have hMm := hM.below hba
          have hXa := hXH.out.below hba
          have q1 := hM.gl
          have q2 := hM.zl
          have q3 := hMa.gl
          have q4 := hMa.zl
          clear h hM hB hba
          go_wp2_with fail
          refine (hcl.out _ hMm).mono ?_
          rintro e wb ⟨gb, zb, rfl, hMb, hzb, hgb, hbb⟩
          have hBb := hBa.trans (hbb.mono (by have := hBa.size; have := hXeH.out; omega))
          have hMm2 := hMm.below hbb
          have hMa2 := hMa.below hbb
          have hXb := hXa.below hbb
          have hP : Places X g z ga za gb zb := ⟨by omega, by omega, by omega, by omega, by omega, by omega, by omega, by omega, by omega, by omega⟩
          have hPH := Lib.hid hP
          clear hcl hBa hMm hMa hXa hbb q1 q2 q3 q4 hza hga hzb hgb hP
          go_wp2_with fail
          go_loopw [12] (fun i wr => ∃ (k : Nat), k ≤ ds.length ∧ k ≤ 60 ∧ i = .int .i64 (k : Int) ∧ MAt wr g z (runM m (ds.take k)) ∧ MAt wr ga za m ∧ MAt wr gb zb m ∧ Below X w wr ∧ ArrAt wr X x0 x1 x2 x3) (fun i _ => ds.length - (intOf i).toNat)
          case atStart => exact ⟨0, by omega, by omega, rfl, hMm2, hMa2, hMb, hBb, hXb⟩
          case round =>
            clear hMm2 hMa2 hMb hBb hXb
            obtain ⟨k, hk, hk2, rfl, hM, hMa, hMb, hB, hX⟩ := hrel
            obtain ⟨p1, p2, p3, p4, p5, p6, p7, p8, p9, p10⟩ := hPH.out
            by_cases hrun : k < ds.length ∧ k < 60
            · obtain ⟨hlt, hlt2⟩ := hrun
              obtain ⟨b, off, rfl, hltb, a0, a1, a2, a3⟩ := hI2H.out.at_ hlt
              have hcok := Lib.hid (hC2H.out _ (List.getElem_mem hlt))
              rw [hXeH.out] at hltb
              obtain ⟨c, hce⟩ : ∃ c, ds[k] = c := ⟨_, rfl⟩
              rw [hce] at a0 a1 a2 a3 hcok
              have hceH := Lib.hid hce
              clear hce
              have a0 := (hB.cell (p := ⟨b, off + k * 4, none⟩) hltb).trans a0
              have a1 := (hB.cell (p := ⟨b, off + k * 4 + 1, none⟩) hltb).trans a1
              have a2 := (hB.cell (p := ⟨b, off + k * 4 + 2, none⟩) hltb).trans a2
              have a3 := (hB.cell (p := ⟨b, off + k * 4 + 3, none⟩) hltb).trans a3
              have hst := Lib.hid (step_any g z (runM m (ds.take k)) c wr hM (runM_ok (ds.take k) hokmH.out) hcok.out)
              go_wp2_with fail
              refine hst.out.mono ?_
              rintro e w3 ⟨dx, dy, rfl, hM3, ho3⟩
              have hB3 := hB.trans (ho3.below (by omega) (by have := hB.size; have := hXeH.out; omega))
              clear a0 a1 a2 a3 hst
              go_wp2_with fail
              have hMa3 := hMa.only ho3 (by omega) (by omega)
              have hMb3 := hMb.only ho3 (by omega) (by omega)
              go_roundw
              case rel => exact ⟨k + 1, by omega, by omega, by go_num, by rw [runM_take hlt, hceH.out]; exact hM3, hMa3, hMb3, hB3, hX.only ho3 hXz⟩
              case measure => simp [intOf]; omega
            · have hways : (¬ k < ds.length) ∨ (k < ds.length ∧ decide ((k : Int) < 60) = false) := by
                by_cases h : k < ds.length
                · right; exact ⟨h, by simp; omega⟩
                · left; exact h
              obtain ⟨K, hK⟩ : ∃ K, k = K := ⟨_, rfl⟩
              have hKe : Hid (K = min ds.length 60) := Lib.hid (by omega)
              rw [hK] at hM
              clear hrun hK
              have hXH2 := Lib.hid hX
              clear hX
              rcases hways with h | ⟨h, h'⟩
              all_goals
                go_wp2_with fail
                go_loopw [13] (fun i wr => ∃ (k : Nat), k ≤ ds.length ∧ k ≤ 60 ∧ i = .int .i64 (k : Int) ∧ MAt wr g z (runM m (ds.take K)) ∧ MAt wr ga za (runM m (ds.take k)) ∧ MAt wr gb zb m ∧ Below X w wr ∧ ArrAt wr X x0 x1 x2 x3) (fun i _ => ds.length - (intOf i).toNat)
                case atStart => exact ⟨0, by omega, by omega, rfl, hM, hMa, hMb, hB, hXH2.out⟩
                case round =>
                  clear hM hMa hMb hB hXH2 h
                  obtain ⟨k, hk, hk2, rfl, hMm, hM, hMb, hB, hX⟩ := hrel
                  have hXza : X ≠ za := by omega
                  by_cases hrun : k < ds.length ∧ k < 60
                  · obtain ⟨hlt, hlt2⟩ := hrun
                    obtain ⟨b, off, rfl, hltb, a0, a1, a2, a3⟩ := hI2H.out.at_ hlt
                    have hcok := Lib.hid (hC2H.out _ (List.getElem_mem hlt))
                    rw [hXeH.out] at hltb
                    obtain ⟨c, hce⟩ : ∃ c, ds[k] = c := ⟨_, rfl⟩
                    rw [hce] at a0 a1 a2 a3 hcok
                    have hceH := Lib.hid hce
                    clear hce
                    have a0 := (hB.cell (p := ⟨b, off + k * 4, none⟩) hltb).trans a0
                    have a1 := (hB.cell (p := ⟨b, off + k * 4 + 1, none⟩) hltb).trans a1
                    have a2 := (hB.cell (p := ⟨b, off + k * 4 + 2, none⟩) hltb).trans a2
                    have a3 := (hB.cell (p := ⟨b, off + k * 4 + 3, none⟩) hltb).trans a3
                    have hst := Lib.hid (step_any ga za (runM m (ds.take k)) c wr hM (runM_ok (ds.take k) hokmH.out) hcok.out)
                    go_wp2_with fail
                    refine hst.out.mono ?_
                    rintro e w3 ⟨dx, dy, rfl, hM3, ho3⟩
                    have hB3 := hB.trans (ho3.below (by omega) (by have := hB.size; have := hXeH.out; omega))
                    clear a0 a1 a2 a3 hst
                    go_wp2_with fail
                    have hMm3 := hMm.only ho3 (by omega) (by omega)
                    have hMb3 := hMb.only ho3 (by omega) (by omega)
                    go_roundw
                    case rel => exact ⟨k + 1, by omega, by omega, by go_num, hMm3, by rw [runM_take hlt, hceH.out]; exact hM3, hMb3, hB3, hX.only ho3 hXza⟩
                    case measure => simp [intOf]; omega
                  · have hways : (¬ k < ds.length) ∨ (k < ds.length ∧ decide ((k : Int) < 60) = false) := by
                      by_cases h : k < ds.length
                      · right; exact ⟨h, by simp; omega⟩
                      · left; exact h
                    have hKk : Hid (k = K) := Lib.hid (by have := hKe.out; omega)
                    rw [hKk.out] at hM
                    have hmok := Lib.hid (runM_ok (ds.take K) hokmH.out)
                    have hmlen := Lib.hid ((runM_len (ds.take K) m).trans hlenH.out)
                    generalize runM m (ds.take K) = m2 at hMm hM hmok hmlen
                    clear hrun
                    have hXH2 := Lib.hid hX
                    clear hX
                    rcases hways with h | ⟨h, h'⟩
                    all_goals
                      have hdc := Lib.hid (fun W (hM : MAt W gb zb m) => do_kind gb zb m 0 0 0 0 W hM (.inl (by omega)))
                      have hBc := hB.alloc (by have := hB.size; have := hXeH.out; omega) (.cells #[.int .i64 0, .int .i64 0, .int .i64 0, .int .i64 0] 36)
                      have hal := fun (W : World) => (Below.refl W.heap.size W).alloc (Nat.le_refl _) (.cells #[.int .i64 0, .int .i64 0, .int .i64 0, .int .i64 0] 36)
                      have hMc := hM.below (hal wr)
                      have hMmc := hMm.below (hal wr)
                      have hMbc := hMb.below (hal wr)
                      have hXc := hXH2.out.below (hal wr)
                      clear hal
                      go_wp2_with fail
                      clear h
                      refine (hdc.out _ hMbc).mono ?_
                      rintro e w4 ⟨rfl, hM4b, ho4⟩
                      have hB4 := hBc.trans (ho4.below (by omega) (by have := hBc.size; have := hXeH.out; omega))
                      have hM4 := hMc.only ho4 (by omega) (by omega)
                      have hMm4 := hMmc.only ho4 (by omega) (by omega)
                      have hX4 := hXc.only ho4 (by omega)
                      clear hdc hBc hMc hMmc hMbc hXc ho4 hM4b hM hMm hMb hB hXH2
                      go_wp2_with fail
                      go_loopw [17] (fun i wr => ∃ (j : Nat), j ≤ x0.toNat ∧ i = .int .i64 (j : Int) ∧ MAt wr g z m2 ∧ MAt wr ga za m2 ∧ Below X w wr ∧ ArrAt wr X x0 x1 x2 x3) (fun i _ => x0.toNat - (intOf i).toNat)
                      case atStart => exact ⟨0, by omega, rfl, hMm4, hM4, hB4, hX4⟩
                      case round =>
                        clear hMm4 hM4 hB4 hX4
                        obtain ⟨j, hj, rfl, hMm, hM, hB, hX⟩ := hrel
                        have hXH3 := Lib.hid hX
                        obtain ⟨c0, c1, c2, c3⟩ := hX
                        by_cases hjx : j < x0.toNat
                        · have hjx2 : (j : Int) < x0 := by omega
                          have g1 := fun W (hM : MAt W g z m2) => get_any g z m2 (j : Int) W hM
                          have g2 := fun W (hM : MAt W ga za m2) => get_any ga za m2 (j : Int) W hM
                          have hp := (getM_in (m := m2) (i := j) (by have := hmlen.out; omega)).2
                          rw [hp] at g1 g2
                          generalize getM m2 (j : Int) = y at g1 g2
                          have g1H := Lib.hid g1
                          have g2H := Lib.hid g2
                          have hzz := fun W => (zone_eql W y.s y.l y.s y.l).2
                          simp only [beq_self_eq_true, Bool.and_self, Bool.not_true] at hzz
                          clear g1 g2 hp
                          go_wp2_with fail
                          refine (g1H.out _ hMm).mono ?_
                          rintro e w5 ⟨rfl, hb5⟩
                          have hal := fun (W : World) => (Below.refl W.heap.size W).alloc (Nat.le_refl _) (.cells #[.int .i64 y.s, .int .i64 y.l] 47)
                          have hbb5 : Below wr.heap.size wr (w5.alloc (.cells #[.int .i64 y.s, .int .i64 y.l] 47)) := hb5.alloc hb5.size _
                          have hs5 := hb5.size
                          clear c0 c1 c2 c3
                          have hM5 := hM.below hbb5
                          go_wp2_with fail
                          refine (g2H.out _ hM5).mono ?_
                          rintro e w6 ⟨rfl, hb6⟩
                          have hbb6 : Below wr.heap.size wr w6 := hbb5.trans (hb6.mono (by simp; omega))
                          have u0 := (hb6.cell (p := ⟨w5.heap.size, 0, none⟩) (by simp)).trans (show _ = some (Value.int .i64 y.s) by go_simp)
                          have u1 := (hb6.cell (p := ⟨w5.heap.size, 1, none⟩) (by simp)).trans (show _ = some (Value.int .i64 y.l) by go_simp)
                          have hu := lt_of_cell u0
                          have hs6 := hbb6.size
                          have hbb7 : Below wr.heap.size wr (w6.alloc (.cells #[.int .i64 y.s, .int .i64 y.l] 47)) := hbb6.alloc hs6 _
                          go_wp2_with fail
                          go_roundw
                          case rel => exact ⟨j + 1, by omega, by go_num, hMm.below hbb7, hM.below hbb7, hB.trans (hbb7.mono (by have := hB.size; have := hXeH.out; omega)), hXH3.out.below hbb7⟩
                          case measure => simp [intOf]; omega
                        · have hjx2 : ¬ (j : Int) < x0 := by omega
                          have t1 := Lib.hid (fun W (hM : MAt W g z m2) => counts_any g z m2 W hM hmok.out.z2)
                          have t2 := Lib.hid (fun W (hM : MAt W ga za m2) => counts_any ga za m2 W hM hmok.out.z2)
                          generalize nOpen m2.zs = no at t1 t2
                          generalize nAct m2.zs = na at t1 t2
                          go_wp2_with fail
                          refine (t1.out _ hMm).mono ?_
                          rintro e w5 ⟨rfl, hb5⟩
                          have hM5 := hM.below hb5
                          clear c0 c1 c2 c3
                          go_wp2_with fail
                          refine (t2.out _ hM5).mono ?_
                          rintro e w6 ⟨rfl, hb6⟩
                          have hB6 := hB.trans ((hb5.trans (hb6.mono hb5.size)).mono (by have := hB.size; have := hXeH.out; omega))
                          go_wp2_with fail
                          go_ret
                          exact ⟨rfl, by rw [hXeH.out]; exact hB6⟩
end Go.Proofs.Ytlignckncgceaaa
