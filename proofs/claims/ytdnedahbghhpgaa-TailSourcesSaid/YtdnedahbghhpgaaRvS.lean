/- By what a block is told: what the document's Source does. -/
import Derived.Test.YtdnedahbghhpgaaRvH
namespace Go.Proofs.Ytdnedahbghhpgaa
open Go.RowKit Tl Pl Md

theorem src_nums {wd f q b : Nat} {D : Int} (hD : D = (wd : Int) + 1) (hw : 2 ≤ wd) (hw15 : wd ≤ 15) (hb : b ≤ 3840) (hf : b / wd = f) (hq : b % wd = q) :
    IntKind.i64.wrap (D - 1) = (wd : Int) ∧ wrap64 (D - 1) = (wd : Int) ∧ IntKind.i64.wrap ((f : Int) * (wd : Int)) = ((f * wd : Nat) : Int) ∧ wrap64 ((f : Int) * (wd : Int)) = ((f * wd : Nat) : Int) ∧ IntKind.i64.wrap ((b : Int) - ((f * wd : Nat) : Int)) = (q : Int) ∧ wrap64 ((b : Int) - ((f * wd : Nat) : Int)) = (q : Int) ∧ f * wd + q = b ∧ q < wd := by
  have d := Nat.div_add_mod b wd
  have l := Nat.mod_lt b (show 0 < wd by omega)
  rw [hf, hq, Nat.mul_comm] at d
  rw [hq] at l
  have e : (f : Int) * (wd : Int) = ((f * wd : Nat) : Int) := (Int.natCast_mul f wd).symm
  rw [e]
  generalize f * wd = p at d
  refine ⟨?_, ?_, IntWalk.i64_in _ (by omega), IntWalk.wrap64_in _ (by omega), ?_, ?_, d, l⟩
  · rw [IntWalk.i64_in _ (by omega)]; omega
  · rw [IntWalk.wrap64_in _ (by omega)]; omega
  · rw [IntWalk.i64_in _ (by omega)]; omega
  · rw [IntWalk.wrap64_in _ (by omega)]; omega
def srcT (v : Vw) (D : Int) (z f wd q sv : Nat) (ns : List (Int × Int)) (m : Int) : Int × Int :=
  if hasB v (f : Int) (sv : Int) = true then (1, 0)
  else if (sv : Int) ≠ m then (0, 0)
  else if (reach v D (z : Int) (f : Int) : Int) = (wd : Int) ∧ hasB v (f : Int) (par wd z f) = true then (2, 0)
  else if lastI (noteP v D (z : Int) (f : Int) (q : Int)) ns < 0 then (0, 0)
  else (3, lastI (noteP v D (z : Int) (f : Int) (q : Int)) ns)
def RsPost (w : World) (p : Int × Int) (e : Ending) (w' : World) : Prop := e = .returned (.tuple #[.int .i64 p.1, .int .i64 p.2]) ∧ Below w.heap.size w w'
set_option maxRecDepth 100000 in
set_option maxHeartbeats 4000000 in
theorem rsource_any (D Z B O A zone : Int) (A1 : Option Addr) (ca : Nat) (ls : List Int) (m : Int) (Bn : Option Addr) (cb : Nat) (ns : List (Int × Int)) (block : Int) (w : World) (hI : IntsIn w A1 ls) (hP : ntE.In w Bn ns) (hl : ls.length ≤ 1000000) (hnl : ns.length ≤ 1000000) :
    Calls Try.prog 16 #[.agg #[.int .i64 D, .int .i64 Z, .int .i64 B, .int .i64 O, .int .i64 A], .int .i64 zone, .agg #[.slice A1 ls.length ca, .int .i64 m, .slice Bn ns.length cb], .int .i64 block] w (RsPost w (srcV D Z B O A zone ⟨ls, m, ns⟩ block)) := by
  have hN := Lib.hid (CnB.new w D Z B O A A1 ls.length ca m Bn ns.length cb)
  have hIH := Lib.hid (fun W (hb : Below w.heap.size w W) => hI.below hb)
  have hPH := Lib.hid (fun W (hb : Below w.heap.size w W) => hP.below hb)
  have hca := Lib.hid (fun W (hb : Below w.heap.size w W) => rcan_any D Z B O A A1 ca ls m Bn ns.length cb W (hIH.out W hb) hl)
  have hpl := Lib.hid (fun bl W => refplace_any D Z B O A zone bl W)
  have hha := Lib.hid (fun (s : Nat) (hs : s < ls.length) row W (hb : Below w.heap.size w W) => rhas_any A1 ca ls m ns Bn ns.length cb s row W (hIH.out W hb) hs)
  have hokE : okB D B ⟨ls, m, ns⟩ = okB D B ⟨ls, m, []⟩ := rfl
  obtain ⟨nl, hnlE⟩ : ∃ n, ls.length = n := ⟨_, rfl⟩
  obtain ⟨nn, hnnE⟩ : ∃ n, ns.length = n := ⟨_, rfl⟩
  rw [hnlE] at hN hca hl hha
  rw [hnnE] at hN hca hnl hha
  rw [hnlE, hnnE]
  have hnlH := Lib.hid hnlE
  have hnnH := Lib.hid hnnE
  clear hI hP hnlE hnnE
  have hno : (goodB D Z B O A && okB D B ⟨ls, m, []⟩) = false ∨ plB D Z B O A zone block = false → srcV D Z B O A zone ⟨ls, m, ns⟩ block = (0, 0) := by
    intro h
    refine src_no ?_
    rcases h with h | h
    · rw [Bool.and_eq_false_iff] at h
      rcases h with h | h
      · left
        cases hp : plB D Z B O A zone block with
        | false => rfl
        | true => rw [goodB_iff.2 (plB_true hp).1] at h; cases h
      · exact .inr (hokE.trans h)
    · exact .inl h
  cases hcb : (goodB D Z B O A && okB D B ⟨ls, m, []⟩) with
  | false =>
    rw [hno (.inl hcb)]
    rw [hcb] at hca
    have hp1 := Lib.hid (hpl.out block)
    clear hpl hno hcb
    generalize plB D Z B O A zone block = pb at hp1
    generalize plR D Z B O A zone block = pr at hp1
    generalize plD D Z B O A zone block = pd at hp1
    go_enter Try.func16, Try.ntmps16
    go_upto_region 1 with fail
    refine fresh_world (fun W => CnB w W D Z B O A A1 nl ca m Bn nn cb) hN.out ?_
    clear hN
    rintro W1 h1
    obtain ⟨g0, g1, g2, g3, g4, _⟩ := h1.g
    have h1H := Lib.hid h1
    clear h1
    go_wp2_with fail
    (with_reducible refine (hp1.out _).mono ?_)
    rintro e w1 ⟨rfl, hb1⟩
    have h2 := h1H.out.below hb1
    clear h1H hb1 g0 g1 g2 g3 g4 hp1
    obtain ⟨g0, g1, g2, g3, g4, _⟩ := h2.g
    have c0 := h2.c0
    have c1 := h2.c1
    have c2 := h2.c2
    have hc1 := Lib.hid (hca.out w1 h2.b)
    have h2H := Lib.hid h2
    clear h2 hca
    go_wp2_with fail
    (with_reducible refine hc1.out.mono ?_)
    rintro e w3 ⟨rfl, hb3⟩
    have h3H := Lib.hid (h2H.out.below hb3)
    clear hc1 h2H hb3 g0 g1 g2 g3 g4 c0 c1 c2
    go_wp2_with fail
    go_ret2
    exact ⟨rfl, h3H.out.b⟩
  | true =>
    rw [hcb] at hca
    rw [Bool.and_eq_true] at hcb
    have hok : okB D B ⟨ls, m, ns⟩ = true := hokE.trans hcb.2
    cases hpb : plB D Z B O A zone block with
    | false =>
      rw [hno (.inr hpb)]
      have hp1 := Lib.hid (hpl.out block)
      rw [hpb] at hp1
      clear hpl hno hcb hok
      generalize plR D Z B O A zone block = pr at hp1
      generalize plD D Z B O A zone block = pd at hp1
      go_enter Try.func16, Try.ntmps16
      go_upto_region 1 with fail
      refine fresh_world (fun W => CnB w W D Z B O A A1 nl ca m Bn nn cb) hN.out ?_
      clear hN
      rintro W1 h1
      obtain ⟨g0, g1, g2, g3, g4, _⟩ := h1.g
      have h1H := Lib.hid h1
      clear h1
      go_wp2_with fail
      (with_reducible refine (hp1.out _).mono ?_)
      rintro e w1 ⟨rfl, hb1⟩
      have h2 := h1H.out.below hb1
      clear h1H hb1 g0 g1 g2 g3 g4 hp1
      obtain ⟨g0, g1, g2, g3, g4, _⟩ := h2.g
      have c0 := h2.c0
      have c1 := h2.c1
      have c2 := h2.c2
      have hc1 := Lib.hid (hca.out w1 h2.b)
      have h2H := Lib.hid h2
      clear h2 hca
      go_wp2_with fail
      (with_reducible refine hc1.out.mono ?_)
      rintro e w3 ⟨rfl, hb3⟩
      have h3H := Lib.hid (h2H.out.below hb3)
      clear hc1 h2H hb3 g0 g1 g2 g3 g4 c0 c1 c2
      go_wp2_with fail
      go_ret2
      exact ⟨rfl, h3H.out.b⟩
    | true =>
      rw [src_yes hpb hok]
      obtain ⟨hg, z1, z2, b1, b2⟩ := plB_true hpb
      obtain ⟨z, rfl⟩ := Int.eq_ofNat_of_zero_le z1
      obtain ⟨b, rfl⟩ := Int.eq_ofNat_of_zero_le b1
      obtain ⟨wd, hD⟩ : ∃ wd : Nat, D = (wd : Int) + 1 := ⟨(D - 1).toNat, by have := hg.1; omega⟩
      have hw2 : 2 ≤ wd := by have := hg.1; omega
      have hw15 : wd ≤ 15 := by have := hg.2.1; omega
      have hV := capV_bd D Z B O A
      rw [capV_good hg] at hV
      have hb9 : b ≤ 3840 := by omega
      have hp1 := Lib.hid (hpl.out (b : Int))
      obtain ⟨pl1, pl2⟩ := place_dat hD hg z2 b2
      rw [hpb, pl1, pl2] at hp1
      have hinr := Lib.hid (fun (k : Nat) (hk : k < wd) (W : World) => (by
        have hkb : (((b / wd) * wd + k : Nat) : Int) < (D - 1) * B := by
          have r1 := row_bd hg.1 b1 b2
          have e1 : (b : Int) / (D - 1) = ((b / wd : Nat) : Int) := by rw [hD, show (wd : Int) + 1 - 1 = (wd : Int) by omega]; rfl
          rw [e1] at r1
          have h5 : ((b / wd : Nat) : Int) + 1 ≤ B := by omega
          have h6 : (((b / wd + 1) * wd : Nat) : Int) ≤ B * (wd : Int) := by
            rw [Int.natCast_mul]
            exact Int.mul_le_mul_of_nonneg_right (by omega) (by omega)
          have h7 : (b / wd + 1) * wd = (b / wd) * wd + wd := Nat.succ_mul _ _
          rw [hD, show (wd : Int) + 1 - 1 = (wd : Int) by omega, Int.mul_comm]
          rw [h7] at h6
          omega
        have h1 := hpl.out (((b / wd) * wd + k : Nat) : Int) W
        obtain ⟨e1, e2⟩ := place_dat hD hg z2 hkb
        obtain ⟨e3, e4⟩ := base_div (q := b / wd) (show 0 < wd by omega) hk
        rw [e1, e2, plB_mk hg z1 z2 (Int.natCast_nonneg _) hkb, e3] at h1
        unfold sl at h1
        rw [e3, e4] at h1
        exact h1 : Calls Try.prog 46 #[.agg #[.int .i64 D, .int .i64 Z, .int .i64 B, .int .i64 O, .int .i64 A], .int .i64 (z : Int), .int .i64 (((b / wd) * wd + k : Nat) : Int)] W fun e w' => e = .returned (.tuple #[.int .i64 ((b / wd : Nat) : Int), .int .i64 (slotK ((wd : Int) + 1) (z : Int) ((b / wd : Nat) : Int) k), .bool true]) ∧ Below W.heap.size W w'))
      have hsrc := src_sl (z := z) (b := b) hD ⟨ls, m, ns⟩
      have hlD : nl = wd + 1 := by
        have := (of_decide_eq_true hok).1
        have e : ((ls.length : Nat) : Int) = D := this
        have := hnlH.out
        omega
      obtain ⟨f, hf⟩ : ∃ f, b / wd = f := ⟨_, rfl⟩
      obtain ⟨q, hq⟩ : ∃ q, b % wd = q := ⟨_, rfl⟩
      have hf9 : f ≤ 3840 := by have := Nat.div_le_self b wd; omega
      have hnumH := Lib.hid (src_nums hD hw2 hw15 hb9 hf hq)
      have hqw : q < wd := by rw [← hq]; exact Nat.mod_lt b (by omega)
      have hsle : sl wd z b = slotK ((wd : Int) + 1) (z : Int) (f : Int) q := by unfold sl; rw [hf, hq]
      rw [hf] at hp1 hinr hsrc
      rw [hq] at hsrc
      obtain ⟨hsb0, hsb1⟩ := sl_bd wd z b
      obtain ⟨sv, hsv⟩ := Int.eq_ofNat_of_zero_le hsb0
      rw [hsv] at hp1 hsb1 hsle hsrc
      have hsrc2 : srcIn D (z : Int) ⟨ls, m, ns⟩ (b : Int) = srcT ⟨ls, m, ns⟩ D z f wd q sv ns m := hsrc
      rw [hsrc2]
      have hall := fun hmm => all_iff (v := ⟨ls, m, ns⟩) (wd := wd) (z := z) (rw := f) (idx := q) (by omega) hqw hmm
      have huse := fun hmm n c => note_use (v := ⟨ls, m, ns⟩) (wd := wd) (z := z) (rw := f) (idx := q) hqw hmm n (c := c)
      have hnot := fun hmm n => note_no (v := ⟨ls, m, ns⟩) (wd := wd) (z := z) (rw := f) (idx := q) hqw hmm n
      rw [← hD] at hall huse hnot hsle
      have hsleH := Lib.hid hsle
      have hallH := Lib.hid hall
      have huseH := Lib.hid huse
      have hnotH := Lib.hid hnot
      have hDH := Lib.hid hD
      have hlDH := Lib.hid hlD
      have hsv9 : sv < wd + 1 := by omega
      clear hpl hno hcb hok hg z1 z2 b1 b2 hD hV pl1 pl2 hsrc hsrc2 hf hq hsv hsb0 hsb1 hsle hall huse hnot hlD hpb hokE
      obtain ⟨v0, hv0⟩ : ∃ v0 : Vw, v0 = ⟨ls, m, ns⟩ := ⟨_, rfl⟩
      have hvm : v0.m = m := by rw [hv0]
      rw [← hv0] at hha hallH huseH hnotH ⊢
      rw [hvm] at hallH huseH hnotH
      obtain ⟨res, hres⟩ : ∃ res, srcT v0 D z f wd q sv ns m = res := ⟨_, rfl⟩
      rw [hres]
      unfold srcT at hres
      have hresH := Lib.hid hres
      have hh1 := Lib.hid (fun W hb => hha.out sv (by have := hlDH.out; omega) (f : Int) W hb)
      have hp1' := hp1
      have hmm : Hid ((sv : Int) = m → slotK D (z : Int) (f : Int) q = m) := Lib.hid (fun h => hsleH.out.symm.trans h)
      clear hv0 hvm hp1' hsleH hres
      go_enter Try.func16, Try.ntmps16
      go_upto_region 1 with fail
      refine fresh_world (fun W => CnB w W D Z B O A A1 nl ca m Bn nn cb) hN.out ?_
      clear hN
      rintro W1 h1
      obtain ⟨g0, g1, g2, g3, g4, _⟩ := h1.g
      have h1H := Lib.hid h1
      clear h1
      go_wp2_with fail
      (with_reducible refine (hp1.out _).mono ?_)
      rintro e w1 ⟨rfl, hb1⟩
      have h2 := h1H.out.below hb1
      clear h1H hb1 g0 g1 g2 g3 g4 hp1
      obtain ⟨g0, g1, g2, g3, g4, _⟩ := h2.g
      have c0 := h2.c0
      have c1 := h2.c1
      have c2 := h2.c2
      have hc1 := Lib.hid (hca.out w1 h2.b)
      have h2H := Lib.hid h2
      clear h2 hca
      go_wp2_with fail
      (with_reducible refine hc1.out.mono ?_)
      rintro e w3 ⟨rfl, hb3⟩
      have h3H := Lib.hid (h2H.out.below hb3)
      clear hc1 h2H hb3 g0 g1 g2 g3 g4 c0 c1 c2
      have hc4 := hh1.out w3 h3H.out.b
      have hc4H := Lib.hid hc4
      clear hc4 hh1
      cases hB1 : hasB v0 (f : Int) (sv : Int) with
      | true =>
        rw [hB1] at hc4H
        rw [if_pos hB1] at hresH
        obtain ⟨g0, g1, g2, g3, g4, _⟩ := h3H.out.g
        have c0 := h3H.out.c0
        have c1 := h3H.out.c1
        have c2 := h3H.out.c2
        go_wp2_with fail
        (with_reducible refine hc4H.out.mono ?_)
        rintro e w4 ⟨rfl, hb4⟩
        have hF := Lib.hid (bmore h3H.out.b hb4)
        clear h3H hb4 hc4H g0 g1 g2 g3 g4 c0 c1 c2
        go_wp2_with fail
        go_ret2
        exact ⟨by rw [← hresH.out]; rfl, hF.out⟩
      | false =>
        rw [hB1] at hc4H
        rw [if_neg (by rw [hB1]; decide)] at hresH
        obtain ⟨g0, g1, g2, g3, g4, _⟩ := h3H.out.g
        have c0 := h3H.out.c0
        have c1 := h3H.out.c1
        have c2 := h3H.out.c2
        go_wp2_with fail
        (with_reducible refine hc4H.out.mono ?_)
        rintro e w4 ⟨rfl, hb4⟩
        have h4 := h3H.out.below hb4
        clear h3H hb4 hc4H g0 g1 g2 g3 g4 c0 c1 c2
        obtain ⟨g0, g1, g2, g3, g4, _⟩ := h4.g
        have c0 := h4.c0
        have c1 := h4.c1
        have c2 := h4.c2
        by_cases hms : (sv : Int) = m
        case neg =>
          have e1 : ((sv : Int) != m) = true := by simp [hms]
          rw [if_pos hms] at hresH
          have hF := Lib.hid h4.b
          clear h4
          go_wp2_with fail
          go_ret2
          exact ⟨by rw [← hresH.out]; rfl, hF.out⟩
        case pos =>
          have e1 : ((sv : Int) != m) = false := by simp [hms]
          rw [if_neg (fun h => h hms)] at hresH
          have hslm := hmm.out hms
          have hmsH := Lib.hid hms
          have hslmH := Lib.hid hslm
          have h4H := Lib.hid h4
          have hA2 := Lib.hid (hallH.out hslm)
          clear hms hslm hmm hB1 h4 hallH
          go_wp2_with fail
          clear g0 g1 g2 g3 g4 c0 c1 c2 e1
          go_loopw [13, 14] (fun a ii wr => ∃ (i : Nat) (al : Bool), ii = .int .i64 (i : Int) ∧ a = .bool al ∧ i ≤ wd + 1 ∧ Hid (al = true ↔ ∀ s : Nat, s < i → (s : Int) ≠ m → hasB v0 (f : Int) (s : Int) = true) ∧ Hid (CnB w wr D Z B O A A1 nl ca m Bn nn cb)) (fun _ ii _ => wd + 1 - (intOf ii).toNat)
          case atStart => exact ⟨0, true, rfl, rfl, Nat.zero_le _, Lib.hid ⟨fun _ s hs => absurd hs (Nat.not_lt_zero _), fun _ => rfl⟩, h4H⟩
          case round =>
            obtain ⟨i, al, rfl, rfl, hi, hal, hB⟩ := hrel
            clear h4H
            obtain ⟨g0, g1, g2, g3, g4, _⟩ := hB.out.g
            have c0 := hB.out.c0
            have c1 := hB.out.c1
            have c2 := hB.out.c2
            by_cases hlt : i < wd + 1
            case pos =>
              have hx : (i : Int) < D := by have := hDH.out; omega
              have iw : IntKind.i64.wrap ((i : Int) + 1) = (i : Int) + 1 := IntWalk.i64_in _ (by omega)
              by_cases hne : i = sv
              · have e2 : ((i : Int) != (sv : Int)) = false := by simp [hne]
                have hal2 : Hid (al = true ↔ ∀ s : Nat, s < i + 1 → (s : Int) ≠ m → hasB v0 (f : Int) (s : Int) = true) := Lib.hid (by
                  rw [hal.out]
                  constructor
                  · intro h s hs hsm
                    refine h s ?_ hsm
                    have := hmsH.out
                    omega
                  · intro h s hs hsm
                    exact h s (by omega) hsm)
                clear hal hne
                go_wp2_with fail
                go_roundw
                case rel => exact ⟨i + 1, al, by go_num, rfl, hlt, hal2, hB⟩
                case measure => simp only [intOf]; omega
              · have e2 : ((i : Int) != (sv : Int)) = true := by
                  rw [bne_iff_ne]; omega
                have hc5 := hha.out i (by have := hlDH.out; omega) (f : Int) wr hB.out.b
                have hBI := Lib.hid (fun W (hb : Below wr.heap.size wr W) => hB.out.below hb)
                obtain ⟨hv, hhv⟩ : ∃ x, hasB v0 (f : Int) (i : Int) = x := ⟨_, rfl⟩
                rw [hhv] at hc5
                have hal2 : Hid ((al && hv) = true ↔ ∀ s : Nat, s < i + 1 → (s : Int) ≠ m → hasB v0 (f : Int) (s : Int) = true) := Lib.hid (by
                  rw [Bool.and_eq_true, hal.out]
                  constructor
                  · rintro ⟨h, h2⟩ s hs hsm
                    by_cases e : s = i
                    · rw [e, hhv]; exact h2
                    · exact h s (by omega) hsm
                  · intro h
                    refine ⟨fun s hs hsm => h s (by omega) hsm, ?_⟩
                    rw [← hhv]
                    refine h i (by omega) ?_
                    have := hmsH.out
                    omega)
                have hc5H := Lib.hid hc5
                clear hal hne hc5 hhv
                cases hv with
                | true =>
                  rw [Bool.and_true] at hal2
                  go_wp2_with fail
                  (with_reducible refine hc5H.out.mono ?_)
                  rintro e w5 ⟨rfl, hb5⟩
                  have hB5 := Lib.hid (hBI.out _ hb5)
                  clear hB hBI hb5 hc5H g0 g1 g2 g3 g4 c0 c1 c2
                  go_wp2_with fail
                  go_roundw
                  case rel => exact ⟨i + 1, al, by go_num, rfl, hlt, hal2, hB5⟩
                  case measure => simp only [intOf]; omega
                | false =>
                  rw [Bool.and_false] at hal2
                  go_wp2_with fail
                  (with_reducible refine hc5H.out.mono ?_)
                  rintro e w5 ⟨rfl, hb5⟩
                  have hB5 := Lib.hid (hBI.out _ hb5)
                  clear hB hBI hb5 hc5H g0 g1 g2 g3 g4 c0 c1 c2
                  go_wp2_with fail
                  go_roundw
                  case rel => exact ⟨i + 1, false, by go_num, rfl, hlt, hal2, hB5⟩
                  case measure => simp only [intOf]; omega
            case neg =>
              have hx : ¬ (i : Int) < D := by have := hDH.out; omega
              have hal3 : Hid (al = true ↔ ((reach v0 D (z : Int) (f : Int) : Int) = (wd : Int) ∧ hasB v0 (f : Int) (par wd z f) = true)) := Lib.hid (by
                rw [hal.out, ← hA2.out, show i = wd + 1 by omega])
              have hB4 := hB
              clear hal hi hlt hB hA2
              cases al with
              | true =>
                have hyes := hal3.out.1 rfl
                rw [if_pos hyes] at hresH
                have hF := Lib.hid hB4.out.b
                clear hyes hal3 hB4
                go_wp2_with fail
                go_ret2
                exact ⟨by rw [← hresH.out]; rfl, hF.out⟩
              | false =>
                rw [if_neg (fun h => by
                  have := hal3.out.2 h
                  cases this)] at hresH
                clear hal3
                obtain ⟨p, hp⟩ : ∃ p, f * wd = p := ⟨_, rfl⟩
                have hin2 := Lib.hid (fun k (hk : k < wd) W => (by
                  have := hinr.out k hk W
                  rw [hp, Int.natCast_add] at this
                  exact this : Calls Try.prog 46 #[.agg #[.int .i64 D, .int .i64 Z, .int .i64 B, .int .i64 O, .int .i64 A], .int .i64 (z : Int), .int .i64 ((p : Int) + (k : Int))] W fun e w' => e = .returned (.tuple #[.int .i64 (f : Int), .int .i64 (slotK ((wd : Int) + 1) (z : Int) (f : Int) k), .bool true]) ∧ Below W.heap.size W w'))
                rw [hp] at hnumH
                clear hinr hp
                obtain ⟨u1, u2, u3, u4, _, _, _, _⟩ := hnumH.out
                obtain ⟨P, hP⟩ : ∃ P : Int × Int → Bool, noteP v0 D (z : Int) (f : Int) (q : Int) = P := ⟨_, rfl⟩
                have huse2 := Lib.hid (huseH.out hslmH.out)
                have hnot2 := Lib.hid (hnotH.out hslmH.out)
                rw [hP] at huse2 hnot2 hresH
                clear huseH hnotH hP
                go_wp2_with fail
                clear u1 u2 u3 u4 g0 g1 g2 g3 g4 c0 c1 c2
                go_loopw [16, 17] (fun bb ii wr => ∃ (i : Nat) (be : Int), ii = .int .i64 (i : Int) ∧ bb = .int .i64 be ∧ i ≤ nn ∧ Hid (be = lastI P (ns.take i)) ∧ Hid (CnB w wr D Z B O A A1 nl ca m Bn nn cb)) (fun _ ii _ => nn - (intOf ii).toNat)
                case atStart => exact ⟨0, -1, rfl, rfl, Nat.zero_le _, Lib.hid rfl, hB4⟩
                case round =>
                  obtain ⟨i2, be, rfl, rfl, hi2, hbe, hB⟩ := hrel
                  clear hB4
                  obtain ⟨wo, hwo⟩ : ∃ wo, wo = wr := ⟨_, rfl⟩
                  rw [← hwo] at hB ⊢
                  clear hwo
                  obtain ⟨g0, g1, g2, g3, g4, _⟩ := hB.out.g
                  have c0 := hB.out.c0
                  have c1 := hB.out.c1
                  have c2 := hB.out.c2
                  by_cases hlt2 : i2 < nn
                  case neg =>
                    have hx2 : ¬ (i2 : Int) < (nn : Int) := by omega
                    have hbe2 : be = lastI P ns := by rw [hbe.out, List.take_of_length_le (by rw [hnnH.out]; omega)]
                    rw [← hbe2] at hresH
                    have hF := Lib.hid hB.out.b
                    clear hB hbe hbe2
                    by_cases hbn : be < 0
                    · rw [if_pos hbn] at hresH
                      have hbn2 : ¬ (0 : Int) ≤ be := by omega
                      go_wp2_with fail
                      go_ret2
                      exact ⟨by rw [← hresH.out]; rfl, hF.out⟩
                    · rw [if_neg hbn] at hresH
                      have hbn2 : (0 : Int) ≤ be := by omega
                      go_wp2_with fail
                      go_ret2
                      exact ⟨by rw [← hresH.out]; rfl, hF.out⟩
                  case pos =>
                    have hx2 : (i2 : Int) < (nn : Int) := by omega
                    have iw2 : IntKind.i64.wrap ((i2 : Int) + 1) = (i2 : Int) + 1 := IntWalk.i64_in _ (by omega)
                    have hlt3 : i2 < ns.length := by rw [hnnH.out]; exact hlt2
                    obtain ⟨bb, ob, rfl, hblt, hcell⟩ := (hPH.out wo hB.out.b).at_ hlt3
                    have x0 := hcell 0 (by decide)
                    have x1 := hcell 1 (by decide)
                    have e2 : ntE.k = 2 := rfl
                    rw [e2] at x0 x1
                    rw [Nat.add_zero] at x0
                    have hst : lastI P (ns.take (i2 + 1)) = if P ns[i2] = true then (i2 : Int) else be := by
                      rw [List.take_succ_eq_append_getElem hlt3, lastI_snoc, List.length_take, Nat.min_eq_left (by omega), hbe.out]
                    obtain ⟨⟨n1, n2⟩, hxn⟩ : ∃ x, ns[i2] = x := ⟨_, rfl⟩
                    rw [hxn] at x0 x1 hst
                    change _ = some (Value.int .i64 n1) at x0
                    change _ = some (Value.int .i64 n2) at x1
                    have hstH := Lib.hid hst
                    have hm2 : nn - (i2 + 1) < nn - i2 := by omega
                    have hcn := Lib.hid (hB.out.below ((Below.refl wo.heap.size wo).alloc (Nat.le_refl _) (.cells #[.int .i64 n1, .int .i64 n2] 106)))
                    have hbn := Lib.hid (World.alloc_heap_new wo (.cells #[.int .i64 n1, .int .i64 n2] 106))
                    have huN := Lib.hid (huse2.out (n1, n2))
                    have hnN := Lib.hid (hnot2.out (n1, n2))
                    clear hcell hst hxn hbe hB hblt
                    go_upto_region 22 with fail
                    generalize wo.heap.size = bx at hbn ⊢
                    refine fresh_world (fun W => CnB w W D Z B O A A1 nl ca m (some ⟨bb, ob, none⟩) nn cb ∧ W.heap[bx]? = some (.cells #[.int .i64 n1, .int .i64 n2] 106 (0, 0))) ⟨hcn.out, hbn.out⟩ ?_
                    clear hcn hbn x0 x1 g0 g1 g2 g3 g4 c0 c1 c2
                    rintro w6 ⟨h6, hx6⟩
                    have hcB := Lib.hid (fun W (hb : Below w6.heap.size w6 W) => h6.below hb)
                    have hxB := Lib.hid (fun W (hb : Below w6.heap.size w6 W) => (hb.block _ (Array.getElem?_eq_some_iff.1 hx6).1).trans hx6)
                    obtain ⟨g0, g1, g2, g3, g4, _⟩ := h6.g
                    have c0 := h6.c0
                    have c1 := h6.c1
                    have c2 := h6.c2
                    have y0 : w6.cell? ⟨bx, 0, none⟩ = some (.int .i64 n1) := cell_of_row w6 _ 0 _ _ _ hx6
                    have y1 : w6.cell? ⟨bx, 1, none⟩ = some (.int .i64 n2) := cell_of_row w6 _ 1 _ _ _ hx6
                    have h6H := Lib.hid h6
                    clear h6 hx6
                    by_cases k1 : n1 = (f : Int)
                    case neg =>
                      have e1 : (n1 != (f : Int)) = true := by simp [k1]
                      have hP0 := hnN.out (.inl k1)
                      have hfin : Hid (be = lastI P (ns.take (i2 + 1))) := Lib.hid (by rw [hstH.out, hP0, if_neg (by decide)])
                      clear hP0 hstH huN hnN k1
                      obtain ⟨u1, u2, u3, u4, u5, u6, _, _⟩ := hnumH.out
                      go_wp2_with fail
                      clear u1 u2 u3 u4 u5 u6
                      go_roundw
                      case rel => exact ⟨i2 + 1, be, by go_num, rfl, hlt2, hfin, h6H⟩
                      case measure => simp only [intOf]; omega
                    have e1 : (n1 != (f : Int)) = false := by simp [k1]
                    by_cases k2 : n2 ≤ (q : Int)
                    · have hP0 := hnN.out (.inr (.inl k2))
                      have hfin : Hid (be = lastI P (ns.take (i2 + 1))) := Lib.hid (by rw [hstH.out, hP0, if_neg (by decide)])
                      clear hP0 hstH huN hnN k1
                      obtain ⟨u1, u2, u3, u4, u5, u6, _, _⟩ := hnumH.out
                      go_wp2_with fail
                      clear u1 u2 u3 u4 u5 u6
                      go_roundw
                      case rel => exact ⟨i2 + 1, be, by go_num, rfl, hlt2, hfin, h6H⟩
                      case measure => simp only [intOf]; omega
                    have d2 : decide (n2 ≤ (q : Int)) = false := decide_eq_false k2
                    by_cases k3 : (wd : Int) < n2
                    · have hP0 := hnN.out (.inr (.inr k3))
                      have hfin : Hid (be = lastI P (ns.take (i2 + 1))) := Lib.hid (by rw [hstH.out, hP0, if_neg (by decide)])
                      clear hP0 hstH huN hnN k1
                      obtain ⟨u1, u2, u3, u4, u5, u6, _, _⟩ := hnumH.out
                      go_wp2_with fail
                      clear u1 u2 u3 u4 u5 u6
                      go_roundw
                      case rel => exact ⟨i2 + 1, be, by go_num, rfl, hlt2, hfin, h6H⟩
                      case measure => simp only [intOf]; omega
                    have d3 : decide ((wd : Int) < n2) = false := decide_eq_false k3
                    obtain ⟨c, rfl⟩ : ∃ c : Nat, n2 = (c : Int) := ⟨n2.toNat, by omega⟩
                    have hcw : c ≤ wd := by omega
                    have hqc : q < c := by omega
                    have hPc := Lib.hid (huN.out (c := c) k1 rfl hqc hcw)
                    clear huN hnN
                    have hpb9 : p + q = b := hnumH.out.2.2.2.2.2.2.1
                    have wA : IntKind.i64.wrap ((p : Int) + (c : Int)) = (p : Int) + (c : Int) := IntWalk.i64_in _ (by omega)
                    have wA2 : wrap64 ((p : Int) + (c : Int)) = (p : Int) + (c : Int) := IntWalk.wrap64_in _ (by omega)
                    have wAH := Lib.hid (And.intro wA wA2)
                    have hpbH := Lib.hid hpb9
                    subst k1
                    clear wA wA2 hpb9
                    obtain ⟨u1, u2, u3, u4, u5, u6, _, _⟩ := hnumH.out
                    go_wp2_with fail
                    clear u1 u2 u3 u4 u5 u6 g0 g1 g2 g3 g4 c0 c1 c2 y0 y1 d2 d3 e1
                    go_loopw [19, 20] (fun gg vv wr => ∃ (k : Nat) (gb : Bool), vv = .int .i64 ((p : Int) + (k : Int)) ∧ gg = .bool gb ∧ k ≤ c ∧ Hid (gb = true ↔ ∀ j, j < k → gd v0 wd z f q j = true) ∧ Hid (CnB w wr D Z B O A A1 nl ca m (some ⟨bb, ob, none⟩) nn cb ∧ wr.heap[bx]? = some (.cells #[.int .i64 (f : Int), .int .i64 (c : Int)] 106 (0, 0)))) (fun _ vv _ => p + c - (intOf vv).toNat)
                    case atStart => exact ⟨0, true, by simp, rfl, Nat.zero_le _, Lib.hid ⟨fun _ j hj => absurd hj (Nat.not_lt_zero _), fun _ => rfl⟩, Lib.hid ⟨h6H.out, hxB.out _ (Below.refl _ _)⟩⟩
                    case round =>
                      obtain ⟨k, gb, rfl, rfl, hk, hgb, hB⟩ := hrel
                      clear hcB hxB h6H
                      obtain ⟨g0, g1, g2, g3, g4, _⟩ := hB.out.1.g
                      have c0 := hB.out.1.c0
                      have c1 := hB.out.1.c1
                      have c2 := hB.out.1.c2
                      have y0 : wr.cell? ⟨bx, 0, none⟩ = some (.int .i64 (f : Int)) := cell_of_row wr _ 0 _ _ _ hB.out.2
                      have y1 : wr.cell? ⟨bx, 1, none⟩ = some (.int .i64 (c : Int)) := cell_of_row wr _ 1 _ _ _ hB.out.2
                      by_cases hkc : k < c
                      case neg =>
                        have hx3 : ¬ (k : Int) < (c : Int) := by omega
                        have hgb2 : Hid (gb = true ↔ P ((f : Int), (c : Int)) = true) := Lib.hid (by rw [hgb.out, hPc.out, show k = c by omega])
                        have hB9 := Lib.hid hB.out.1
                        obtain ⟨wA, wA2⟩ := wAH.out
                        clear hgb hB hPc
                        cases gb with
                        | true =>
                          have hfin : Hid ((i2 : Int) = lastI P (ns.take (i2 + 1))) := Lib.hid (by rw [hstH.out, if_pos (hgb2.out.1 rfl)])
                          clear hgb2 hstH
                          go_wp2_with fail
                          clear wA wA2
                          go_roundw
                          case rel => exact ⟨i2 + 1, (i2 : Int), by go_num, rfl, hlt2, hfin, hB9⟩
                          case measure => simp only [intOf]; omega
                        | false =>
                          have hfin : Hid (be = lastI P (ns.take (i2 + 1))) := Lib.hid (by
                            rw [hstH.out, if_neg]
                            intro h
                            have := hgb2.out.2 h
                            cases this)
                          clear hgb2 hstH
                          go_wp2_with fail
                          clear wA wA2
                          go_roundw
                          case rel => exact ⟨i2 + 1, be, by go_num, rfl, hlt2, hfin, hB9⟩
                          case measure => simp only [intOf]; omega
                      case pos =>
                        have hx3 : (k : Int) < (c : Int) := by omega
                        have hpk : IntKind.i64.wrap ((p : Int) + (k : Int) + 1) = (p : Int) + (k : Int) + 1 := IntWalk.i64_in _ (by have := hpbH.out; omega)
                        have hpk2 : wrap64 ((p : Int) + (k : Int) + 1) = (p : Int) + (k : Int) + 1 := IntWalk.wrap64_in _ (by have := hpbH.out; omega)
                        have hpkH := Lib.hid (And.intro hpk hpk2)
                        have hpc := hin2.out k (by omega) wr
                        obtain ⟨t0, t1⟩ := slotK_bd (D := (wd : Int) + 1) (zone := (z : Int)) (row := (f : Int)) (by omega) k
                        obtain ⟨s, hs⟩ := Int.eq_ofNat_of_zero_le t0
                        have hgde : gd v0 wd z f q k = (decide (k = q) || hasB v0 (f : Int) (s : Int)) := by unfold gd; rw [hs]
                        rw [hs] at hpc t1
                        have hs9 : s < nl := by have := hlDH.out; omega
                        have hgds := Lib.hid hgde
                        have hBI := Lib.hid (fun W (hb : Below wr.heap.size wr W) => (⟨hB.out.1.below hb, (hb.block _ (Array.getElem?_eq_some_iff.1 hB.out.2).1).trans hB.out.2⟩ : CnB w W D Z B O A A1 nl ca m (some ⟨bb, ob, none⟩) nn cb ∧ W.heap[bx]? = some (.cells #[.int .i64 (f : Int), .int .i64 (c : Int)] 106 (0, 0))))
                        have hpcH := Lib.hid hpc
                        obtain ⟨wA, wA2⟩ := wAH.out
                        clear hpc hgde hs t0 t1 hpk hpk2 hB
                        go_wp2_with fail
                        (with_reducible refine hpcH.out.mono ?_)
                        rintro e w8 ⟨rfl, hb8⟩
                        have hB8 := hBI.out _ hb8
                        clear hb8 hpcH hBI wA wA2 g0 g1 g2 g3 g4 c0 c1 c2 y0 y1
                        obtain ⟨g0, g1, g2, g3, g4, _⟩ := hB8.1.g
                        have c0 := hB8.1.c0
                        have c1 := hB8.1.c1
                        have c2 := hB8.1.c2
                        have hB8H := Lib.hid hB8
                        clear hB8
                        by_cases hkq : k = q
                        · have e5 : ((p : Int) + (k : Int) != (b : Int)) = false := by
                            rw [bne_eq_false_iff_eq]
                            have := hpbH.out
                            omega
                          have hgb2 : Hid (gb = true ↔ ∀ j, j < k + 1 → gd v0 wd z f q j = true) := Lib.hid (by
                            rw [hgb.out]
                            constructor
                            · intro h j hj
                              by_cases e : j = k
                              · rw [e, hgds.out, decide_eq_true hkq]; rfl
                              · exact h j (by omega)
                            · intro h j hj
                              exact h j (by omega))
                          obtain ⟨wB, wB2⟩ := hpkH.out
                          clear hgb hgds hkq
                          go_wp2_with fail
                          clear wB wB2
                          go_roundw
                          case rel => exact ⟨k + 1, gb, by rw [Int.natCast_add, ← Int.add_assoc]; rfl, rfl, hkc, hgb2, hB8H⟩
                          case measure => simp only [intOf]; omega
                        · have e5 : ((p : Int) + (k : Int) != (b : Int)) = true := by
                            rw [bne_iff_ne]
                            have := hpbH.out
                            omega
                          have hc9 := hha.out s hs9 (f : Int) w8 hB8H.out.1.b
                          obtain ⟨hv, hhv⟩ : ∃ x, hasB v0 (f : Int) (s : Int) = x := ⟨_, rfl⟩
                          rw [hhv] at hc9 hgds
                          have hgb2 : Hid ((gb && hv) = true ↔ ∀ j, j < k + 1 → gd v0 wd z f q j = true) := Lib.hid (by
                            have hgk : gd v0 wd z f q k = hv := by rw [hgds.out, decide_eq_false hkq, Bool.false_or]
                            rw [Bool.and_eq_true, hgb.out]
                            constructor
                            · rintro ⟨h, h2⟩ j hj
                              by_cases e : j = k
                              · rw [e, hgk]; exact h2
                              · exact h j (by omega)
                            · intro h
                              exact ⟨fun j hj => h j (by omega), by rw [← hgk]; exact h k (by omega)⟩)
                          have hc9H := Lib.hid hc9
                          have hBI := Lib.hid (fun W (hb : Below w8.heap.size w8 W) => (⟨hB8H.out.1.below hb, (hb.block _ (Array.getElem?_eq_some_iff.1 hB8H.out.2).1).trans hB8H.out.2⟩ : CnB w W D Z B O A A1 nl ca m (some ⟨bb, ob, none⟩) nn cb ∧ W.heap[bx]? = some (.cells #[.int .i64 (f : Int), .int .i64 (c : Int)] 106 (0, 0))))
                          obtain ⟨wB, wB2⟩ := hpkH.out
                          clear hgb hgds hhv hc9 hB8H hkq
                          cases hv with
                          | true =>
                            rw [Bool.and_true] at hgb2
                            go_wp2_with fail
                            (with_reducible refine hc9H.out.mono ?_)
                            rintro e w9 ⟨rfl, hb9'⟩
                            have hB9 := Lib.hid (hBI.out _ hb9')
                            clear hb9' hc9H hBI g0 g1 g2 g3 g4 c0 c1 c2
                            go_wp2_with fail
                            clear wB wB2
                            go_roundw
                            case rel => exact ⟨k + 1, gb, by rw [Int.natCast_add, ← Int.add_assoc]; rfl, rfl, hkc, hgb2, hB9⟩
                            case measure => simp only [intOf]; omega
                          | false =>
                            rw [Bool.and_false] at hgb2
                            go_wp2_with fail
                            (with_reducible refine hc9H.out.mono ?_)
                            rintro e w9 ⟨rfl, hb9'⟩
                            have hB9 := Lib.hid (hBI.out _ hb9')
                            clear hb9' hc9H hBI g0 g1 g2 g3 g4 c0 c1 c2
                            go_wp2_with fail
                            clear wB wB2
                            go_roundw
                            case rel => exact ⟨k + 1, false, by rw [Int.natCast_add, ← Int.add_assoc]; rfl, rfl, hkc, hgb2, hB9⟩
                            case measure => simp only [intOf]; omega
end Go.Proofs.Ytdnedahbghhpgaa
