/- What DeleteFunc does with records of which some are marks. -/
import Derived.Test.YtpmhfalhieinjaaGreatDoorMlgD2
namespace Go.Proofs.YtpmhfalhieinjaaGreatDoor
open Go.RowKit Rec

def DelPost (W : World) (base : Nat) (A : Option Addr) (rs : List Rc) (e : Ending) (w' : World) : Prop := ∃ cap', e = .returned (.slice A (nomk rs).length cap') ∧ RecsIn w' A (nomk rs) ∧ Below base W w' ∧ KeptBut W w' A
set_option maxRecDepth 100000 in
set_option maxHeartbeats 4000000 in
theorem rdel_any (W : World) (A : Option Addr) (cap base : Nat) (rs : List Rc) (hR : RRow W base 38 A cap rs) (hl : rs.length ≤ 1000000) (hb : base ≤ W.heap.size) :
    Calls Tryz.prog 64 #[.slice A rs.length cap, .func (.func 65) #[] #[]] W (DelPost W base A rs) := by
  have h1 := Lib.hid (rindexmk_any W A cap rs hR.recs hl)
  have eg : ∀ args w, (callFunc 65 args).run Tryz.prog w = .ok (.enter 65 args) w := enters_of Tryz.func65 (by kernel_rfl) rfl
  have hRH := Lib.hid hR
  have hbH := Lib.hid hb
  clear hR hb
  go_enter Tryz.func64, Tryz.ntmps64
  go_wp2_with fail
  refine h1.out.mono ?_
  rintro e w1 ⟨i, rfl, hi, hB1⟩
  rcases hi with ⟨rfl, ha⟩ | ⟨k, rfl, hk, ha, hno⟩
  · have hfin : DelPost W base A rs (.returned (.slice A rs.length cap)) w1 := by
      refine ⟨cap, ?_, ?_, hB1.mono hbH.out, KeptBut.of hB1 A⟩
      · rw [nomk_none ha]
      · rw [nomk_none ha]; exact hRH.out.recs.below hB1
    have hfH := Lib.hid hfin
    clear ha hB1 hfin h1
    go_wp2_with fail
    go_ret
    exact hfH.out
  · have hS := Lib.hid (DelS.start hRH.out.row hk ha hno hbH.out hB1)
    have hk1 : ¬ (k : Int) = -1 := by omega
    have hk2 : ((k : Int) == -1) = false := beq_false_of_ne hk1
    have hkw : IntKind.i64.wrap ((k : Int) + 1) = (k : Int) + 1 := IntWalk.i64_in _ (by omega)
    clear ha hno hB1 h1 hRH
    go_wp2_with fail
    clear hk1 hk2 hkw
    go_loopw [5, 6] (fun i j wr => ∃ a b : Nat, i = .int .i64 (a : Int) ∧ j = .int .i64 (b : Int) ∧ a < b ∧ b ≤ rs.length ∧ DelS W wr base A cap rs a b) (fun _ j _ => rs.length - (intOf j).toNat)
    case atStart => exact ⟨k, k + 1, rfl, by go_num, by omega, by omega, hS.out⟩
    case round =>
      clear hS hk
      obtain ⟨i, j, rfl, rfl, hij, hj, hD⟩ := hrel
      have hDH := Lib.hid hD
      clear hD
      by_cases hlt : j < rs.length
      case pos =>
        have g1 : (j : Int) < (rs.length : Int) := by omega
        obtain ⟨g, rfl, hgl, hgb, hrd, hwr, hfz⟩ := hDH.out.read hlt
        have s0 : wr.cell? ⟨g, j * 7, none⟩ = some (.int .i64 rs[j].k) := hrd 0 (by omega)
        have s1 : wr.cell? ⟨g, j * 7 + 1, none⟩ = some (.int .i64 rs[j].s) := hrd 1 (by omega)
        have s2 : wr.cell? ⟨g, j * 7 + 2, none⟩ = some (.int .i64 rs[j].a) := hrd 2 (by omega)
        have s3 : wr.cell? ⟨g, j * 7 + 3, none⟩ = some (.int .i64 rs[j].b) := hrd 3 (by omega)
        have s4 : wr.cell? ⟨g, j * 7 + 4, none⟩ = some (.int .i64 rs[j].c) := hrd 4 (by omega)
        have s5 : wr.cell? ⟨g, j * 7 + 5, none⟩ = some (.int .i64 rs[j].d) := hrd 5 (by omega)
        have s6 : wr.cell? ⟨g, j * 7 + 6, none⟩ = some (.string rs[j].body) := hrd 6 (by omega)
        have hsk := Lib.hid (fun W' (h : DelS W W' base (some ⟨g, 0, none⟩) cap rs i j) => h.skip hlt)
        have hpt := Lib.hid (fun W' (h : DelS W W' base (some ⟨g, 0, none⟩) cap rs i j) => h.put hgb hlt)
        have hgH := Lib.hid hgl
        have hrdd := Lib.hid (fun W' (h : DelS W W' base (some ⟨g, 0, none⟩) cap rs i j) => h.read hlt)
        clear hrd hwr hfz hgl
        obtain ⟨x, hx⟩ : ∃ x, x = rs[j] := ⟨_, rfl⟩
        rw [← hx] at s0 s1 s2 s3 s4 s5 s6 hsk hpt hrdd
        clear hx
        have hbx := Lib.hid (hDH.out.below ((Below.refl wr.heap.size wr).alloc (Nat.le_refl _) (.cells #[.int .i64 x.k, .int .i64 x.s, .int .i64 x.a, .int .i64 x.b, .int .i64 x.c, .int .i64 x.d, .string x.body] 38)))
        have hrx := Lib.hid (RcAt.new wr x 38)
        have hlo := Lib.hid hgH.out
        clear hDH hgH
        go_upto_region 8 with fail
        refine fresh_world (fun W' => DelS W W' base (some ⟨g, 0, none⟩) cap rs i j ∧ RcAt W' wr.heap.size x) ⟨hbx.out, hrx.out⟩ ?_
        clear hbx hrx s0 s1 s2 s3 s4 s5 s6
        have hgX : g < wr.heap.size := hlo.out
        generalize wr.heap.size = X at hgX
        rintro W1 ⟨hE1, hx1⟩
        have hE1H := Lib.hid hE1
        have hx1H := Lib.hid hx1
        obtain ⟨s0, s1, s2, s3, s4, s5, s6⟩ := hx1
        have hm := Lib.hid (mark_is x W1)
        clear hE1 hlo
        obtain ⟨v, hv⟩ : ∃ v, v = isMk x := ⟨_, rfl⟩
        rw [← hv] at hm hsk hpt
        clear hv
        have hjw : IntKind.i64.wrap ((j : Int) + 1) = (j : Int) + 1 := IntWalk.i64_in _ (by omega)
        cases v with
        | true =>
          go_wp2_with (go_at_fn 65; refine hm.out.mono ?_; rintro e w2 ⟨rfl, hb2⟩)
          go_roundw
          case rel => exact ⟨i, j + 1, rfl, by go_num, by omega, by omega, (hsk.out _ (hE1H.out.below hb2) trivial)⟩
          case measure => simp only [intOf]; omega
        | false =>
          have hiw : IntKind.i64.wrap ((i : Int) + 1) = (i : Int) + 1 := IntWalk.i64_in _ (by omega)
          have hi1 : (i : Int) < (rs.length : Int) := by omega
          go_upto_region 9 with (go_at_fn 65; refine hm.out.mono ?_; rintro e w2 ⟨rfl, hb2⟩)
          have hD2 := hE1H.out.below hb2
          have hx2 := hx1H.out.below hb2
          obtain ⟨_, e1, -, -, -, hwr, hfz⟩ := hrdd.out _ hD2
          injection e1 with e1
          injection e1 with e1
          subst e1
          obtain ⟨v0, r0'⟩ := hwr 0 (by omega)
          have r0 : w2.cell? ⟨g, i * 7, none⟩ = some v0 := r0'
          clear r0'
          obtain ⟨v1, r1⟩ := hwr 1 (by omega)
          obtain ⟨v2, r2⟩ := hwr 2 (by omega)
          obtain ⟨v3, r3⟩ := hwr 3 (by omega)
          obtain ⟨v4, r4⟩ := hwr 4 (by omega)
          obtain ⟨v5, r5⟩ := hwr 5 (by omega)
          obtain ⟨v6, r6⟩ := hwr 6 (by omega)
          have z0 := hfz (i * 7)
          have z1 := hfz (i * 7 + 1)
          have z2 := hfz (i * 7 + 2)
          have z3 := hfz (i * 7 + 3)
          have z4 := hfz (i * 7 + 4)
          have z5 := hfz (i * 7 + 5)
          have z6 := hfz (i * 7 + 6)
          have hP := hpt.out _ hD2 trivial
          have hPH : Hid (DelS W (((((((w2.setCell ⟨g, i * 7, none⟩ (.int .i64 x.k)).setCell ⟨g, i * 7 + 1, none⟩ (.int .i64 x.s)).setCell ⟨g, i * 7 + 2, none⟩ (.int .i64 x.a)).setCell ⟨g, i * 7 + 3, none⟩ (.int .i64 x.b)).setCell ⟨g, i * 7 + 4, none⟩ (.int .i64 x.c)).setCell ⟨g, i * 7 + 5, none⟩ (.int .i64 x.d)).setCell ⟨g, i * 7 + 6, none⟩ (.string x.body)) base (some ⟨g, 0, none⟩) cap rs (i + 1) (j + 1)) := Lib.hid hP
          obtain ⟨t0, t1, t2, t3, t4, t5, t6⟩ := hx2
          clear s0 s1 s2 s3 s4 s5 s6 hwr hfz hP hD2 hb2 hm hpt hsk hrdd hE1H hx1H
          go_wp2_with fail
          go_roundw
          case rel => exact ⟨i + 1, j + 1, by go_num, by go_num, by omega, by omega, hPH.out⟩
          case measure => simp only [intOf]; omega
      case neg =>
        obtain rfl : j = rs.length := by omega
        have g1 : ¬ (rs.length : Int) < (rs.length : Int) := by omega
        obtain ⟨g, rfl, hgb⟩ := hDH.out.form
        obtain ⟨hin, hil, hnc, W', hrun, hrec, hbw, hkp⟩ := hDH.out.done hgb
        have hfin := Lib.hid (⟨cap, by rw [hil], hrec, hbw, hkp⟩ : DelPost W base (some ⟨g, 0, none⟩) rs (.returned (.slice (some ⟨g, 0, none⟩) i cap)) W')
        have q1 : ¬ cap = i := by omega
        have q2 : i ≤ rs.length := by omega
        have q3 : (i : Int) ≤ (rs.length : Int) := by omega
        have q4 : (rs.length : Int) ≤ (cap : Int) := by omega
        have q5 : (i : Int) ≤ (cap : Int) := by omega
        have q6 : i ≤ cap := by omega
        clear hDH hrec hbw hkp hil hij hj hlt
        go_wp2_with fail
        go_ret
        exact hfin.out
end Go.Proofs.YtpmhfalhieinjaaGreatDoor
