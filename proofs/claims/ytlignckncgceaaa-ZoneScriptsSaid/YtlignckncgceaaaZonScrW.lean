/- What the law ZoneScripts does. -/
import Derived.Test.YtlignckncgceaaaZonLimW
import Derived.Test.YtlignckncgceaaaZonRLost
import Derived.Test.YtlignckncgceaaaZonRDoA
import Derived.Test.YtlignckncgceaaaRowsIn
namespace Go.Proofs.Ytlignckncgceaaa
open Go.RowKit Zon

theorem with_self (m : Mc) : m.with m.zs = m := rfl

set_option maxRecDepth 100000 in
set_option maxHeartbeats 8000000 in
theorem zscripts_law (x0 x1 x2 x3 : Int) (A A2 : Option Addr) (cap cap2 : Nat) (cs : List Cm) (rs : List IRow) (w : World) (hI : CmdsIn w A cs) (hC : ∀ c ∈ cs, CmOk c) (hl : cs.length ≤ maxLen) (hR : RowsIn w A2 rs) (hl2 : rs.length ≤ maxLen) :
    Calls Try.prog 3 #[.agg #[.int .i64 x0, .int .i64 x1, .int .i64 x2, .int .i64 x3], .slice A cs.length cap, .slice A2 rs.length cap2] w fun e w' => e = .returned (.bool true) ∧ Below w.heap.size w w' := by
  unfold maxLen at hl hl2
  have hIH := Lib.hid hI
  have hCH := Lib.hid hC
  have hRH := Lib.hid hR
  clear hI hC hR
  have hX0 := Lib.hid (ArrAt.new w x0 x1 x2 x3 22)
  cases hok : newOk x0 x1 x2 x3 with
  | false =>
    have hnew := Lib.hid (fun W => new_bad x0 x1 x2 x3 W hok)
    have hrnew := Lib.hid (fun W => rnew_bad x0 x1 x2 x3 W hok)
    clear hok
    go_enter Try.func3, Try.ntmps3
    go_wp2_with fail
    refine (speaks5 _).mono ?_
    rintro e w1 ⟨rfl, hb1⟩
    have hB1 := ((Below.refl w.heap.size w).alloc (Nat.le_refl _) (.cells #[.int .i64 x0, .int .i64 x1, .int .i64 x2, .int .i64 x3] 22)).trans (hb1.mono (by simp))
    obtain ⟨c0, c1, c2, c3⟩ := hX0.out.below hb1
    clear hb1
    go_wp2_with fail
    refine (hnew.out _).mono ?_
    rintro e w2 ⟨rfl, rfl⟩
    go_wp2_with fail
    refine (hrnew.out _).mono ?_
    rintro e w2 ⟨rfl, rfl⟩
    clear c0 c1 c2 c3
    go_wp2_with fail
    go_ret
    exact ⟨rfl, hB1⟩
  | true =>
    have hnew := Lib.hid (fun W => new_good x0 x1 x2 x3 W hok)
    have hrnew := Lib.hid (fun W => rnew_good x0 x1 x2 x3 W hok)
    have hokH := Lib.hid hok
    clear hok
    go_enter Try.func3, Try.ntmps3
    go_wp2_with fail
    refine (speaks5 _).mono ?_
    rintro e w1 ⟨rfl, hb1⟩
    have hB1 := ((Below.refl w.heap.size w).alloc (Nat.le_refl _) (.cells #[.int .i64 x0, .int .i64 x1, .int .i64 x2, .int .i64 x3] 22)).trans (hb1.mono (by simp))
    have hX1 := hX0.out.below hb1
    have hX1H := Lib.hid hX1
    have hs1 := hb1.size
    simp at hs1
    obtain ⟨c0, c1, c2, c3⟩ := hX1
    clear hb1 hX0
    go_wp2_with fail
    refine (hnew.out _).mono ?_
    rintro e w2 ⟨g, z, rfl, hM2, hzy, hgy, hb2⟩
    have hX2 := hX1H.out.below hb2
    have hX2H := Lib.hid hX2
    have hB2 := hB1.trans (hb2.mono hB1.size)
    have hwz : w.heap.size < z := by omega
    have hwg : w.heap.size < g := by omega
    clear c0 c1 c2 c3 hB1 hb2 hnew hzy hgy hX1H hs1
    obtain ⟨c0, c1, c2, c3⟩ := hX2
    go_wp2_with fail
    refine (hrnew.out _).mono ?_
    rintro e w3 ⟨gr, zr, rfl, hM3r, hzy, hgy, hb3⟩
    have hM3 := hM2.below hb3
    have hB3 := hB2.trans (hb3.mono hB2.size)
    have q1 := hM2.gl
    have q2 := hM2.zl
    have p1 : g < gr := by omega
    have p2 : g < zr := by omega
    have p3 : z < gr := by omega
    have p4 : z < zr := by omega
    clear c0 c1 c2 c3 hB2 hb3 hrnew hzy hgy hX2H hM2 q1 q2
    go_wp2_with fail
    generalize hXe : w.heap.size = X at hwz hwg hB3 ⊢
    have hXeH := Lib.hid hXe
    clear hXe
    go_loopw [10] (fun i wr => ∃ (k : Nat) (m : Mc), k ≤ cs.length ∧ k ≤ 200 ∧ i = .int .i64 (k : Int) ∧ MAt wr g z m ∧ MAt wr gr zr m ∧ m.Ok ∧ Below X w wr) (fun i _ => cs.length - (intOf i).toNat)
    case atStart => exact ⟨0, newM x0 x1 x2 x3, by omega, by omega, rfl, hM3, hM3r, newM_ok hokH.out, hB3⟩
    case round =>
      clear hM3 hM3r hB3
      obtain ⟨k, m, hk, hk2, rfl, hM, hMr, hok, hB⟩ := hrel
      have hokmH := Lib.hid hok
      by_cases hrun : k < cs.length ∧ k < 200
      · obtain ⟨hlt, hlt2⟩ := hrun
        obtain ⟨b, off, rfl, hltb, a0, a1, a2, a3⟩ := hIH.out.at_ hlt
        have hcok := hCH.out _ (List.getElem_mem hlt)
        rw [hXeH.out] at hltb
        generalize cs[k] = c at a0 a1 a2 a3 hcok
        obtain ⟨kk, zz, aa, nn⟩ := c
        have haa : aa ≤ 9223372036854775807 := hcok.2
        simp only at a0 a1 a2 a3
        have hok' := doM_ok hok kk zz aa nn
        have d0 := fun g z W (hM : MAt W g z m) => do_any g z m kk zz aa nn W hM hok haa
        have r0 := fun g z W (hM : MAt W g z m) => rdo_any g z m kk zz aa nn W hM hok
        have hcl := Lib.hid (clone_any g z m wr hM hok.z1 hok.z2)
        have href := doM_refused m kk zz aa nn
        have href' : (doM m kk zz aa nn).2.1 = 0 ∨ m.with (doM m kk zz aa nn).2.2 = m := by
          rcases href with h | h
          · exact .inl h
          · right; rw [h]; exact with_self m
        unfold CmdPost at d0 r0
        generalize (doM m kk zz aa nn).2.1 = ev at d0 r0 href'
        generalize (doM m kk zz aa nn).1 = dv at d0 r0
        generalize m.with (doM m kk zz aa nn).2.2 = m' at d0 r0 href' hok'
        have hsame := Lib.hid (fun g1 z1 g2 z2 W (h1 : MAt W g1 z1 m') (h2 : MAt W g2 z2 m') => same_any g1 z1 g2 z2 m' W h1 h2 hok'.z2)
        have hok'H := Lib.hid hok'
        have d0H := Lib.hid d0
        have r0H := Lib.hid r0
        have hrefH := Lib.hid href'
        have hcells : ∀ W, Below X w W → W.cell? ⟨b, off + k * 4, none⟩ = some (.int .i64 kk) ∧ W.cell? ⟨b, off + k * 4 + 1, none⟩ = some (.int .i64 zz) ∧ W.cell? ⟨b, off + k * 4 + 2, none⟩ = some (.int .i64 aa) ∧ W.cell? ⟨b, off + k * 4 + 3, none⟩ = some (.int .i64 nn) := fun W h =>
          ⟨(h.cell (p := ⟨b, _, none⟩) hltb).trans a0, (h.cell (p := ⟨b, _, none⟩) hltb).trans a1, (h.cell (p := ⟨b, _, none⟩) hltb).trans a2, (h.cell (p := ⟨b, _, none⟩) hltb).trans a3⟩
        have hcH := Lib.hid hcells
        have q1 := hM.gl
        have q2 := hM.zl
        have q3 := hMr.gl
        have q4 := hMr.zl
        clear d0 r0 href href' hcells a0 a1 a2 a3 hcok hok hok' haa
        go_wp2_with fail
        refine hcl.out.mono ?_
        rintro e w4 ⟨gt, zt, rfl, hMt, hzt, hgt, hb4⟩
        have hM4 := hM.below hb4
        have hMr4 := hMr.below hb4
        have hB4 := hB.trans (hb4.mono (by have := hB.size; have := hXeH.out; omega))
        have t1 : z < zt := by omega
        have t2 : z < gt := by omega
        have t3 : zr < zt := by omega
        have t4 : zr < gt := by omega
        have t5 : g < zt := by omega
        have t6 : gr < zt := by omega
        clear hcl hM hMr hB hb4 hzt hgt q1 q2 q3 q4
        obtain ⟨a0, a1, a2, a3⟩ := hcH.out _ hB4
        go_wp2_with fail
        refine (d0H.out g z _ hM4).mono ?_
        rintro e w5 ⟨rfl, hM5, ho5⟩
        have hMr5 := hMr4.only ho5 (by omega) (by omega)
        have hMt5 := hMt.only ho5 (by omega) (by omega)
        have hB5 := hB4.trans (ho5.below (by omega) (by have := hB4.size; have := hXeH.out; omega))
        clear a0 a1 a2 a3 hM4 hMr4 hMt hB4 ho5
        obtain ⟨a0, a1, a2, a3⟩ := hcH.out _ hB5
        go_wp2_with fail
        refine (r0H.out gr zr _ hMr5).mono ?_
        rintro e w6 ⟨rfl, hMr6, ho6⟩
        have hM6 := hM5.only ho6 (by omega) (by omega)
        have hMt6 := hMt5.only ho6 (by omega) (by omega)
        have hB6 := hB5.trans (ho6.below (by omega) (by have := hB5.size; have := hXeH.out; omega))
        clear a0 a1 a2 a3 hM5 hMr5 hMt5 hB5 ho6
        go_wp2_with fail
        refine (hsame.out g z gr zr _ hM6 hMr6).mono ?_
        rintro e w7 ⟨rfl, hb7⟩
        have hM7 := hM6.below hb7
        have hMr7 := hMr6.below hb7
        have hMt7 := hMt6.below hb7
        have hB7 := hB6.trans (hb7.mono (by have := hB6.size; have := hXeH.out; omega))
        clear hM6 hMr6 hMt6 hB6 hb7
        have hmod : ((k : Int) % 7 == 6) = decide (k % 7 = 6) := by
          rw [Bool.eq_iff_iff]; simp; omega
        have hquo : ((k : Int) / 7) = ((k / 7 : Nat) : Int) := by omega
        by_cases he : ev = 0
        · have he' : (ev != 0) = false := by simp [he]
          clear he hrefH hMt7
          clear hsame d0H r0H hcH
          by_cases h7 : k % 7 = 6
          · rw [decide_eq_true h7] at hmod
            have h7H := Lib.hid h7
            clear h7
            by_cases hq : k / 7 < rs.length
            · have hq' : decide ((k : Int) / 7 < (rs.length : Int)) = true := decide_eq_true (by omega)
              obtain ⟨rb, roff, rfl, hltr, rc, hrow⟩ := hRH.out.at_ hq
              rw [hXeH.out] at hltr
              obtain ⟨row, hre⟩ : ∃ row, rs[k / 7] = row := ⟨_, rfl⟩
              rw [hre] at rc hrow
              obtain ⟨Ar, capr, ls⟩ := row
              obtain ⟨hIr, hlr, hnr⟩ := hrow
              simp only at rc hIr hlr hnr
              have hrA : ls ≠ [] → ∀ b off, Ar = some ⟨b, off, none⟩ → b < X := fun h0 b off e => by
                rcases hIr with h | ⟨b', off', e', hlt', _⟩
                · exact absurd h h0
                · rw [e] at e'
                  injection e' with e'
                  injection e' with e1 _
                  have := hXeH.out
                  omega
              have hIw := fun W (h : Below X w W) => hIr.below (h.mono (Nat.le_of_eq hXeH.out))
              have rcw := fun W (h : Below X w W) => (h.cell (p := ⟨rb, roff + k / 7, none⟩) hltr).trans rc
              have rcwH := Lib.hid rcw
              have hIwH := Lib.hid hIw
              have hrAH := Lib.hid hrA
              obtain ⟨Ac, capc, wc, hrun, hIc, hbc, hAc⟩ := copy_ints w7 Ar capr ls (hIw _ hB7) hnr hlr
              have hMc := hM7.below hbc
              have hMrc := hMr7.below hbc
              have hBc := hB7.trans (hbc.mono (by have := hB7.size; have := hXeH.out; omega))
              have hzl := hM7.zl
              have hzlr := hMr7.zl
              have hlo := Lib.hid (lost_any g z m' Ac capc ls wc hMc hok'H.out hIc (fun h0 b off e => by have := hAc h0 b off e; omega) (by unfold maxLen; omega))
              have hlo2 := Lib.hid (fun W (hMr : MAt W gr zr m') (hB : Below X w W) => rlost_any gr zr m' Ar capr ls W hMr hok'H.out (hIwH.out W hB) (fun h0 b off e => by have := hrAH.out h0 b off e; omega) (by unfold maxLen; omega))
              have hsame2 := Lib.hid (fun W (h1 : MAt W g z (m'.with (lost m' ls))) (h2 : MAt W gr zr (m'.with (lost m' ls))) => same_any g z gr zr (m'.with (lost m' ls)) W h1 h2 (lost_ok hok'H.out ls).z2)
              have hokl := Lib.hid (lost_ok hok'H.out ls)
              generalize m'.with (lost m' ls) = ml at hlo hlo2 hsame2 hokl
              have hrunH := Lib.hid hrun
              have rcx := rcw _ hB7
              have hrlt := lt_of_cell rcx
              have hqn : ((k : Int) / 7).toNat = k / 7 := by omega
              have hq0 : 0 ≤ (k : Int) / 7 := by omega
              clear rcw hIw hrA hrun hAc hIc hIr rc hre hnr hquo
              go_wp2_with (at_builtin; refine append_run_wp rfl _ _ _ rfl rfl rfl hrunH.out ?_)
              refine hlo.out.mono ?_
              rintro e wd ⟨rfl, hMd, hod⟩
              have hMrd := hMrc.only hod (by omega) (by omega)
              have hBd := hBc.trans (hod.below (by omega) (by have := hBc.size; have := hXeH.out; omega))
              have rcx := rcwH.out _ hBd
              clear hrlt hMc hMrc hBc hod hbc
              have hrlt := lt_of_cell rcx
              go_wp2_with fail
              refine (hlo2.out _ hMrd hBd).mono ?_
              rintro e we ⟨rfl, hMre, hoe⟩
              have hMe := hMd.only hoe (by omega) (by omega)
              have hBe := hBd.trans (hoe.below (by omega) (by have := hBd.size; have := hXeH.out; omega))
              clear hMd hMrd hBd hoe rcx hrlt
              go_wp2_with fail
              refine (hsame2.out _ hMe hMre).mono ?_
              rintro e wf ⟨rfl, hbf⟩
              have hMf := hMe.below hbf
              have hMrf := hMre.below hbf
              have hBf := hBe.trans (hbf.mono (by have := hBe.size; have := hXeH.out; omega))
              go_wp2_with fail
              go_roundw
              case rel => exact ⟨k + 1, ml, by omega, by omega, by go_num, hMf, hMrf, hokl.out, hBf⟩
              case measure => simp [intOf]; omega
            · have hq' : decide ((k : Int) / 7 < (rs.length : Int)) = false := decide_eq_false (by omega)
              clear hquo
              go_wp2_with fail
              go_roundw
              case rel => exact ⟨k + 1, m', by omega, by omega, by go_num, hM7, hMr7, hok'H.out, hB7⟩
              case measure => simp [intOf]; omega
          · rw [decide_eq_false h7] at hmod
            have h7H := Lib.hid h7
            clear h7 hquo
            go_wp2_with fail
            go_roundw
            case rel => exact ⟨k + 1, m', by omega, by omega, by go_num, hM7, hMr7, hok'H.out, hB7⟩
            case measure => simp [intOf]; omega
        · have he' : (ev != 0) = true := by simp [he]
          obtain rfl := (hrefH.out.resolve_left he).symm
          clear he hrefH
          obtain ⟨a0, a1, a2, a3⟩ := hcH.out _ hB7
          go_wp2_with fail
          refine (d0H.out gt zt _ hMt7).mono ?_
          rintro e w8 ⟨rfl, hMt8, ho8⟩
          have hM8 := hM7.only ho8 (by omega) (by omega)
          have hMr8 := hMr7.only ho8 (by omega) (by omega)
          have hB8 := hB7.trans (ho8.below (by omega) (by have := hB7.size; have := hXeH.out; omega))
          clear a0 a1 a2 a3 hM7 hMr7 hMt7 hB7 ho8
          go_wp2_with fail
          refine (hsame.out gt zt gr zr _ hMt8 hMr8).mono ?_
          rintro e w9 ⟨rfl, hb9⟩
          have hM9 := hM8.below hb9
          have hMr9 := hMr8.below hb9
          have hB9 := hB8.trans (hb9.mono (by have := hB8.size; have := hXeH.out; omega))
          clear hM8 hMr8 hMt8 hB8 hb9
          clear hsame d0H r0H hcH
          by_cases h7 : k % 7 = 6
          · rw [decide_eq_true h7] at hmod
            have h7H := Lib.hid h7
            clear h7
            by_cases hq : k / 7 < rs.length
            · have hq' : decide ((k : Int) / 7 < (rs.length : Int)) = true := decide_eq_true (by omega)
              obtain ⟨rb, roff, rfl, hltr, rc, hrow⟩ := hRH.out.at_ hq
              rw [hXeH.out] at hltr
              obtain ⟨row, hre⟩ : ∃ row, rs[k / 7] = row := ⟨_, rfl⟩
              rw [hre] at rc hrow
              obtain ⟨Ar, capr, ls⟩ := row
              obtain ⟨hIr, hlr, hnr⟩ := hrow
              simp only at rc hIr hlr hnr
              have hrA : ls ≠ [] → ∀ b off, Ar = some ⟨b, off, none⟩ → b < X := fun h0 b off e => by
                rcases hIr with h | ⟨b', off', e', hlt', _⟩
                · exact absurd h h0
                · rw [e] at e'
                  injection e' with e'
                  injection e' with e1 _
                  have := hXeH.out
                  omega
              have hIw := fun W (h : Below X w W) => hIr.below (h.mono (Nat.le_of_eq hXeH.out))
              have rcw := fun W (h : Below X w W) => (h.cell (p := ⟨rb, roff + k / 7, none⟩) hltr).trans rc
              have rcwH := Lib.hid rcw
              have hIwH := Lib.hid hIw
              have hrAH := Lib.hid hrA
              obtain ⟨Ac, capc, wc, hrun, hIc, hbc, hAc⟩ := copy_ints w9 Ar capr ls (hIw _ hB9) hnr hlr
              have hMc := hM9.below hbc
              have hMrc := hMr9.below hbc
              have hBc := hB9.trans (hbc.mono (by have := hB9.size; have := hXeH.out; omega))
              have hzl := hM9.zl
              have hzlr := hMr9.zl
              have hlo := Lib.hid (lost_any g z m Ac capc ls wc hMc hok'H.out hIc (fun h0 b off e => by have := hAc h0 b off e; omega) (by unfold maxLen; omega))
              have hlo2 := Lib.hid (fun W (hMr : MAt W gr zr m) (hB : Below X w W) => rlost_any gr zr m Ar capr ls W hMr hok'H.out (hIwH.out W hB) (fun h0 b off e => by have := hrAH.out h0 b off e; omega) (by unfold maxLen; omega))
              have hsame2 := Lib.hid (fun W (h1 : MAt W g z (m.with (lost m ls))) (h2 : MAt W gr zr (m.with (lost m ls))) => same_any g z gr zr (m.with (lost m ls)) W h1 h2 (lost_ok hok'H.out ls).z2)
              have hokl := Lib.hid (lost_ok hok'H.out ls)
              generalize m.with (lost m ls) = ml at hlo hlo2 hsame2 hokl
              have hrunH := Lib.hid hrun
              have rcx := rcw _ hB9
              have hrlt := lt_of_cell rcx
              have hqn : ((k : Int) / 7).toNat = k / 7 := by omega
              have hq0 : 0 ≤ (k : Int) / 7 := by omega
              clear rcw hIw hrA hrun hAc hIc hIr rc hre hnr hquo
              go_wp2_with (at_builtin; refine append_run_wp rfl _ _ _ rfl rfl rfl hrunH.out ?_)
              refine hlo.out.mono ?_
              rintro e wd ⟨rfl, hMd, hod⟩
              have hMrd := hMrc.only hod (by omega) (by omega)
              have hBd := hBc.trans (hod.below (by omega) (by have := hBc.size; have := hXeH.out; omega))
              have rcx := rcwH.out _ hBd
              clear hrlt hMc hMrc hBc hod hbc
              have hrlt := lt_of_cell rcx
              go_wp2_with fail
              refine (hlo2.out _ hMrd hBd).mono ?_
              rintro e we ⟨rfl, hMre, hoe⟩
              have hMe := hMd.only hoe (by omega) (by omega)
              have hBe := hBd.trans (hoe.below (by omega) (by have := hBd.size; have := hXeH.out; omega))
              clear hMd hMrd hBd hoe rcx hrlt
              go_wp2_with fail
              refine (hsame2.out _ hMe hMre).mono ?_
              rintro e wf ⟨rfl, hbf⟩
              have hMf := hMe.below hbf
              have hMrf := hMre.below hbf
              have hBf := hBe.trans (hbf.mono (by have := hBe.size; have := hXeH.out; omega))
              go_wp2_with fail
              go_roundw
              case rel => exact ⟨k + 1, ml, by omega, by omega, by go_num, hMf, hMrf, hokl.out, hBf⟩
              case measure => simp [intOf]; omega
            · have hq' : decide ((k : Int) / 7 < (rs.length : Int)) = false := decide_eq_false (by omega)
              clear hquo
              go_wp2_with fail
              go_roundw
              case rel => exact ⟨k + 1, m, by omega, by omega, by go_num, hM9, hMr9, hok'H.out, hB9⟩
              case measure => simp [intOf]; omega
          · rw [decide_eq_false h7] at hmod
            have h7H := Lib.hid h7
            clear h7 hquo
            go_wp2_with fail
            go_roundw
            case rel => exact ⟨k + 1, m, by omega, by omega, by go_num, hM9, hMr9, hok'H.out, hB9⟩
            case measure => simp [intOf]; omega
      · have hways : (¬ k < cs.length) ∨ (k < cs.length ∧ decide ((k : Int) < 200) = false) := by
          by_cases h : k < cs.length
          · right; exact ⟨h, by simp; omega⟩
          · left; exact h
        clear hrun hM hMr hok
        rcases hways with h | ⟨h, h'⟩
        all_goals
          go_wp2_with fail
          go_ret
          exact ⟨rfl, by rw [hXeH.out]; exact hB⟩
end Go.Proofs.Ytlignckncgceaaa
