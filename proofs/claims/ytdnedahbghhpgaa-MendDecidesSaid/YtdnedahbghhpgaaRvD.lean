/- What the document asks to be done with a zone. -/
import Derived.Test.YtdnedahbghhpgaaRvC
import Derived.Test.YtdnedahbghhpgaaRvW
import Derived.Test.YtdnedahbghhpgaaMdP
import Derived.Test.YtdnedahbghhpgaaMdD
namespace Go.Proofs.Ytdnedahbghhpgaa
open Go.RowKit Tl Pl Md

/-- What the document's Decide answers. -/
def RdPost (w : World) (d : Dd) (er : Int) (e : Ending) (w' : World) : Prop := e = .returned (.tuple #[.int .i64 d.k, .int .i64 d.s, .int .i64 d.r, .int .i64 er]) ∧ Below w.heap.size w w'
set_option maxRecDepth 100000 in
set_option maxHeartbeats 2000000 in
theorem rdec_no (D Z B O A zone told : Int) (A2 : Option Addr) (c2 : Nat) (ls : List Int) (m : Int) (w : World) (h : lnB D Z B O A zone told = false ∨ okB D B ⟨ls, m, []⟩ = false) (hI : IntsIn w A2 ls) (hl : ls.length ≤ 1000000) :
    Calls Try.prog 25 #[.agg #[.int .i64 D, .int .i64 Z, .int .i64 B, .int .i64 O, .int .i64 A], .int .i64 zone, .int .i64 told, .slice A2 ls.length c2, .int .i64 m] w (RdPost w ⟨0, 0, 0⟩ 1) := by
  have hN := Lib.hid (CnB.new w D Z B O A A2 ls.length c2 m none 0 0)
  have hIH := Lib.hid (fun W (hb : Below w.heap.size w W) => hI.below hb)
  have hca := Lib.hid (fun W (hb : Below w.heap.size w W) => rcan_any D Z B O A A2 c2 ls m none 0 0 W (hIH.out W hb) hl)
  obtain ⟨n, hn⟩ : ∃ n, ls.length = n := ⟨_, rfl⟩
  rw [hn] at hN hca hl
  rw [hn]
  have hnH := Lib.hid hn
  clear hI hn
  cases hcb : (goodB D Z B O A && okB D B ⟨ls, m, []⟩) with
  | false =>
    rw [hcb] at hca
    go_enter Try.func25, Try.ntmps25
    go_upto_region 2 with fail
    refine fresh_world (fun W => CnB w W D Z B O A A2 n c2 m none 0 0) hN.out ?_
    clear hN
    rintro W1 h1
    obtain ⟨g0, g1, g2, g3, g4, _⟩ := h1.g
    have c0 := h1.c0
    have c1 := h1.c1
    have c2' := h1.c2
    have hc1 := hca.out W1 h1.b
    have h1H := Lib.hid h1
    clear h1
    go_wp2_with fail
    (with_reducible refine hc1.mono ?_)
    rintro e w1 ⟨rfl, hb1⟩
    have h2 := h1H.out.below hb1
    clear h1H hb1 g0 g1 g2 g3 g4 c0 c1 c2' hc1 hca
    obtain ⟨g0, g1, g2, g3, g4, _⟩ := h2.g
    have h2H := Lib.hid h2
    clear h2
    have hF := Lib.hid h2H.out.b
    clear h2H
    go_wp2_with fail
    refine bodyPost_ret (v := .tuple #[.int .i64 0, .int .i64 0, .int .i64 0, .int .i64 1]) (by simp [results, Try.results25, go_sem]) rfl ⟨rfl, hF.out⟩
  | true =>
    rw [hcb] at hca
    rw [Bool.and_eq_true] at hcb
    have hgp := goodB_iff.1 hcb.1
    have hln : lnB D Z B O A zone told = false := h.resolve_right (by rw [hcb.2]; decide)
    have hV := capV_bd D Z B O A
    rw [capV_good hgp] at hV
    have hor : zone < 0 ∨ (¬ zone < 0 ∧ Z - 4 < zone) ∨ (¬ zone < 0 ∧ ¬ Z - 4 < zone ∧ told < 0) ∨ (¬ zone < 0 ∧ ¬ Z - 4 < zone ∧ ¬ told < 0 ∧ (D - 1) * B < told) := by
      by_cases k1 : zone < 0
      · exact .inl k1
      by_cases k2 : Z - 4 < zone
      · exact .inr (.inl ⟨k1, k2⟩)
      by_cases k3 : told < 0
      · exact .inr (.inr (.inl ⟨k1, k2, k3⟩))
      refine .inr (.inr (.inr ⟨k1, k2, k3, ?_⟩))
      unfold lnB at hln
      rw [exB_mk hgp (by omega) (by omega), Bool.true_and, decide_eq_false_iff_not] at hln
      omega
    have w1' : wrap64 (Z - 4) = Z - 4 := by have := hgp.2.2.1; have := hgp.2.2.2.1; exact IntWalk.wrap64_in _ (by omega)
    have w2' : wrap64 (D - 1) = D - 1 := by have := hgp.1; have := hgp.2.1; exact IntWalk.wrap64_in _ (by omega)
    obtain ⟨V, hVV⟩ : ∃ V, (D - 1) * B = V := ⟨_, rfl⟩
    rw [hVV] at hor hV
    have w3' : wrap64 ((D - 1) * B) = V := by rw [hVV]; exact IntWalk.wrap64_in _ (by omega)
    have x1' : IntKind.i64.wrap (Z - 4) = Z - 4 := by have := hgp.2.2.1; have := hgp.2.2.2.1; exact IntWalk.i64_in _ (by omega)
    have x2' : IntKind.i64.wrap (D - 1) = D - 1 := by have := hgp.1; have := hgp.2.1; exact IntWalk.i64_in _ (by omega)
    have x3' : IntKind.i64.wrap ((D - 1) * B) = V := by rw [hVV]; exact IntWalk.i64_in _ (by omega)
    clear hcb hgp hln hV h hVV
    rcases hor with k1 | ⟨k1, k2⟩ | ⟨k1, k2, k3⟩ | ⟨k1, k2, k3, k4⟩
    case inl =>
      go_enter Try.func25, Try.ntmps25
      go_upto_region 2 with fail
      refine fresh_world (fun W => CnB w W D Z B O A A2 n c2 m none 0 0) hN.out ?_
      clear hN
      rintro W1 h1
      obtain ⟨g0, g1, g2, g3, g4, _⟩ := h1.g
      have c0 := h1.c0
      have c1 := h1.c1
      have c2' := h1.c2
      have hc1 := hca.out W1 h1.b
      have h1H := Lib.hid h1
      clear h1
      go_wp2_with fail
      (with_reducible refine hc1.mono ?_)
      rintro e w1 ⟨rfl, hb1⟩
      have h2 := h1H.out.below hb1
      clear h1H hb1 g0 g1 g2 g3 g4 c0 c1 c2' hc1 hca
      obtain ⟨g0, g1, g2, g3, g4, _⟩ := h2.g
      have h2H := Lib.hid h2
      clear h2
      have hF := Lib.hid h2H.out.b
      clear h2H
      go_wp2_with fail
      refine bodyPost_ret (v := .tuple #[.int .i64 0, .int .i64 0, .int .i64 0, .int .i64 1]) (by simp [results, Try.results25, go_sem]) rfl ⟨rfl, hF.out⟩
    case inr.inl =>
      have d1 : decide (zone < 0) = false := decide_eq_false k1
      go_enter Try.func25, Try.ntmps25
      go_upto_region 2 with fail
      refine fresh_world (fun W => CnB w W D Z B O A A2 n c2 m none 0 0) hN.out ?_
      clear hN
      rintro W1 h1
      obtain ⟨g0, g1, g2, g3, g4, _⟩ := h1.g
      have c0 := h1.c0
      have c1 := h1.c1
      have c2' := h1.c2
      have hc1 := hca.out W1 h1.b
      have h1H := Lib.hid h1
      clear h1
      go_wp2_with fail
      (with_reducible refine hc1.mono ?_)
      rintro e w1 ⟨rfl, hb1⟩
      have h2 := h1H.out.below hb1
      clear h1H hb1 g0 g1 g2 g3 g4 c0 c1 c2' hc1 hca
      obtain ⟨g0, g1, g2, g3, g4, _⟩ := h2.g
      have h2H := Lib.hid h2
      clear h2
      have hF := Lib.hid h2H.out.b
      clear h2H
      go_wp2_with fail
      refine bodyPost_ret (v := .tuple #[.int .i64 0, .int .i64 0, .int .i64 0, .int .i64 1]) (by simp [results, Try.results25, go_sem]) rfl ⟨rfl, hF.out⟩
    case inr.inr.inl =>
      have d1 : decide (zone < 0) = false := decide_eq_false k1
      have d2 : decide (Z - 4 < zone) = false := decide_eq_false k2
      go_enter Try.func25, Try.ntmps25
      go_upto_region 2 with fail
      refine fresh_world (fun W => CnB w W D Z B O A A2 n c2 m none 0 0) hN.out ?_
      clear hN
      rintro W1 h1
      obtain ⟨g0, g1, g2, g3, g4, _⟩ := h1.g
      have c0 := h1.c0
      have c1 := h1.c1
      have c2' := h1.c2
      have hc1 := hca.out W1 h1.b
      have h1H := Lib.hid h1
      clear h1
      go_wp2_with fail
      (with_reducible refine hc1.mono ?_)
      rintro e w1 ⟨rfl, hb1⟩
      have h2 := h1H.out.below hb1
      clear h1H hb1 g0 g1 g2 g3 g4 c0 c1 c2' hc1 hca
      obtain ⟨g0, g1, g2, g3, g4, _⟩ := h2.g
      have h2H := Lib.hid h2
      clear h2
      have hF := Lib.hid h2H.out.b
      clear h2H
      go_wp2_with fail
      refine bodyPost_ret (v := .tuple #[.int .i64 0, .int .i64 0, .int .i64 0, .int .i64 1]) (by simp [results, Try.results25, go_sem]) rfl ⟨rfl, hF.out⟩
    case inr.inr.inr =>
      have d1 : decide (zone < 0) = false := decide_eq_false k1
      have d2 : decide (Z - 4 < zone) = false := decide_eq_false k2
      have d3 : decide (told < 0) = false := decide_eq_false k3
      go_enter Try.func25, Try.ntmps25
      go_upto_region 2 with fail
      refine fresh_world (fun W => CnB w W D Z B O A A2 n c2 m none 0 0) hN.out ?_
      clear hN
      rintro W1 h1
      obtain ⟨g0, g1, g2, g3, g4, _⟩ := h1.g
      have c0 := h1.c0
      have c1 := h1.c1
      have c2' := h1.c2
      have hc1 := hca.out W1 h1.b
      have h1H := Lib.hid h1
      clear h1
      go_wp2_with fail
      (with_reducible refine hc1.mono ?_)
      rintro e w1 ⟨rfl, hb1⟩
      have h2 := h1H.out.below hb1
      clear h1H hb1 g0 g1 g2 g3 g4 c0 c1 c2' hc1 hca
      obtain ⟨g0, g1, g2, g3, g4, _⟩ := h2.g
      have h2H := Lib.hid h2
      clear h2
      have hF := Lib.hid h2H.out.b
      clear h2H
      go_wp2_with fail
      refine bodyPost_ret (v := .tuple #[.int .i64 0, .int .i64 0, .int .i64 0, .int .i64 1]) (by simp [results, Try.results25, go_sem]) rfl ⟨rfl, hF.out⟩

set_option maxRecDepth 100000 in
set_option maxHeartbeats 4000000 in
theorem rdec_good (wd z r : Nat) (D Z B O A : Int) (hD : D = (wd : Int) + 1) (A2 : Option Addr) (c2 : Nat) (ls : List Int) (m : Int) (w : World) (hg : GoodP D Z B O A) (hz : (z : Int) ≤ Z - 4) (hr : (r : Int) ≤ (D - 1) * B) (hok : okB D B ⟨ls, m, []⟩ = true) (hI : IntsIn w A2 ls) :
    Calls Try.prog 25 #[.agg #[.int .i64 D, .int .i64 Z, .int .i64 B, .int .i64 O, .int .i64 A], .int .i64 (z : Int), .int .i64 (r : Int), .slice A2 ls.length c2, .int .i64 m] w (RdPost w (refD (lens wd z r) ls m (wd + 1) (r : Int) (((r / wd : Nat) : Int) - 1) (par wd z (r / wd - 1))) 0) := by
  have hw2 : 2 ≤ wd := by have := hg.1; omega
  have hw15 : wd ≤ 15 := by have := hg.2.1; omega
  have hz64 : z ≤ 64 := by have := hg.2.2.2.1; omega
  have hr3 : r ≤ 3840 := by
    have hV := capV_bd D Z B O A
    rw [capV_good hg] at hV
    omega
  have hlen : ls.length = wd + 1 := by
    have := (of_decide_eq_true hok).1
    have e : ((ls.length : Nat) : Int) = D := this
    omega
  have hl : ls.length ≤ 1000000 := by omega
  have hN := Lib.hid (CnB.new w D Z B O A A2 ls.length c2 m none 0 0)
  have hIH := Lib.hid (fun W (hb : Below w.heap.size w W) => hI.below hb)
  have hca := Lib.hid (fun W (hb : Below w.heap.size w W) => rcan_any D Z B O A A2 c2 ls m none 0 0 W (hIH.out W hb) hl)
  obtain ⟨n, hn⟩ : ∃ n, ls.length = n := ⟨_, rfl⟩
  rw [hn] at hN hca hl
  rw [hn]
  have hnH := Lib.hid hn
  clear hI hn
  rw [hok, goodB_iff.2 hg] at hca
  have hlsb : ∀ s, s < wd + 1 → 0 ≤ ls.getD s 0 ∧ ls.getD s 0 ≤ 256 := fun s hs => by
    have hsl : s < ls.length := by rw [hlen]; exact hs
    have := (of_decide_eq_true hok).2.2.2 _ (List.getElem_mem hsl)
    rw [List.getD_eq_getElem?_getD, List.getElem?_eq_getElem hsl, Option.getD_some]
    have h2 : 0 ≤ ls[s] ∧ ls[s] ≤ B := this
    have := hg.2.2.2.2.2.1
    omega
  have hwl : (lens wd z r).length = wd + 1 := lens_len wd z r
  have hwat : ∀ s, s < wd + 1 → (lens wd z r).getD s 0 = len wd z r (s : Int) := fun s hs => by
    have h1 : s < (lens wd z r).length := by rw [hwl]; exact hs
    rw [List.getD_eq_getElem?_getD, List.getElem?_eq_getElem h1, Option.getD_some, lens_at h1]
  have hwa := Lib.hid (fun s (hs : s < wd + 1) W => (by
    have := want_any wd z r s D Z B O A hD W hg hz hr hs
    rw [← hwat s hs] at this
    exact this : Calls Try.prog 67 #[.agg #[.int .i64 D, .int .i64 Z, .int .i64 B, .int .i64 O, .int .i64 A], .int .i64 (z : Int), .int .i64 (r : Int), .int .i64 (s : Int)] W fun e w' => e = .returned (.int .i64 ((lens wd z r).getD s 0)) ∧ Below W.heap.size W w'))
  generalize lens wd z r = want at hwa ⊢
  obtain ⟨q, hq, hq1, d1, d2, d3, d4, d5, d6, d7⟩ := dec_nums hD hw2 hw15 hr3
  have hpn := Lib.hid (par_nums (z := z) (f := q - 1) hD hw15 hz64 (by omega))
  rw [hq]
  obtain ⟨rr, hrr⟩ : ∃ rr, (q : Int) - 1 = rr := ⟨_, rfl⟩
  have d6' := d6.trans hrr
  have d7' := d7.trans hrr
  have hrrH := Lib.hid hrr
  rw [hrr]
  clear hrr d6 d7
  obtain ⟨dd, hdd⟩ : ∃ dd, refD want ls m (wd + 1) (r : Int) rr (par wd z (q - 1)) = dd := ⟨_, rfl⟩
  rw [hdd]
  unfold refD at hdd
  have hddH := Lib.hid hdd
  have w1' : wrap64 (Z - 4) = Z - 4 := by have := hg.2.2.1; have := hg.2.2.2.1; exact IntWalk.wrap64_in _ (by omega)
  have x1' : IntKind.i64.wrap (Z - 4) = Z - 4 := by have := hg.2.2.1; have := hg.2.2.2.1; exact IntWalk.i64_in _ (by omega)
  have w2' : wrap64 (D - 1) = D - 1 := IntWalk.wrap64_in _ (by omega)
  have x2' : IntKind.i64.wrap (D - 1) = D - 1 := IntWalk.i64_in _ (by omega)
  have hVb := capV_bd D Z B O A
  rw [capV_good hg] at hVb
  obtain ⟨V, hVV⟩ : ∃ V, (D - 1) * B = V := ⟨_, rfl⟩
  rw [hVV] at hVb hr
  have w3' : wrap64 ((D - 1) * B) = V := by rw [hVV]; exact IntWalk.wrap64_in _ (by omega)
  have x3' : IntKind.i64.wrap ((D - 1) * B) = V := by rw [hVV]; exact IntWalk.i64_in _ (by omega)
  have k1 : decide ((z : Int) < 0) = false := decide_eq_false (by omega)
  have k2 : decide (Z - 4 < (z : Int)) = false := decide_eq_false (by omega)
  have k3 : decide ((r : Int) < 0) = false := decide_eq_false (by omega)
  have k4 : decide (V < (r : Int)) = false := decide_eq_false (by omega)
  have y1 : ¬ (z : Int) < 0 := by omega
  have y2 : ¬ Z - 4 < (z : Int) := by omega
  have y3 : ¬ (r : Int) < 0 := by omega
  have y4 : ¬ V < (r : Int) := by omega
  have hnw : n = wd + 1 := by rw [← hnH.out, hlen]
  have hwatH := Lib.hid hwat
  have hlsbH := Lib.hid hlsb
  have hDH := Lib.hid hD
  have hnwH := Lib.hid hnw
  have hnH2 := Lib.hid hlen
  have hqH := Lib.hid (And.intro d1 (And.intro d2 (And.intro d3 (And.intro d4 (And.intro d5 (And.intro d6' d7'))))))
  clear hg hz hr hok hlen hwl hwat hdd hq hD hVb hVV hlsb hnw d1 d2 d3 d4 d5 d6' d7'
  go_enter Try.func25, Try.ntmps25
  go_upto_region 2 with fail
  refine fresh_world (fun W => CnB w W D Z B O A A2 n c2 m none 0 0) hN.out ?_
  clear hN
  rintro W1 h1
  obtain ⟨g0, g1, g2, g3, g4, _⟩ := h1.g
  have c0 := h1.c0
  have c1 := h1.c1
  have c2' := h1.c2
  have hc1 := hca.out W1 h1.b
  have h1H := Lib.hid h1
  clear h1
  go_wp2_with fail
  (with_reducible refine hc1.mono ?_)
  rintro e w1 ⟨rfl, hb1⟩
  have h2 := h1H.out.below hb1
  clear h1H hb1 g0 g1 g2 g3 g4 c0 c1 c2' hc1 hca
  obtain ⟨g0, g1, g2, g3, g4, _⟩ := h2.g
  have h2H := Lib.hid h2
  clear h2
  go_wp2_with fail
  clear g0 g1 g2 g3 g4 k1 k2 k3 k4 w1' w2' w3' x1' x2' x3' y1 y2 y3 y4
  go_loopw [15, 16, 17, 18] (fun a b c ii wr => ∃ (i mo le la : Nat), ii = .int .i64 (i : Int) ∧ a = .int .i64 (mo : Int) ∧ b = .int .i64 (le : Int) ∧ c = .int .i64 (la : Int) ∧ i ≤ wd + 1 ∧ mo ≤ i ∧ le ≤ i ∧ Hid (mo = cntN (moreP want ls m) i ∧ le = cntN (lessP want ls m) i ∧ la = lastN (lessP want ls m) i) ∧ Hid (CnB w wr D Z B O A A2 n c2 m none 0 0)) (fun _ _ _ ii _ => wd + 1 - (intOf ii).toNat)
  case atStart => exact ⟨0, 0, 0, 0, rfl, rfl, rfl, rfl, Nat.zero_le _, Nat.zero_le _, Nat.zero_le _, Lib.hid ⟨rfl, rfl, rfl⟩, h2H⟩
  case round =>
    obtain ⟨i, mo, le, la, rfl, rfl, rfl, rfl, hi, hmo, hle, hc, hB⟩ := hrel
    clear h2H
    obtain ⟨g0, g1, g2, g3, g4, _⟩ := hB.out.g
    by_cases hlt : i < wd + 1
    case neg =>
      have hx : ¬ (i : Int) < D := by have := hDH.out; omega
      have ei : i = wd + 1 := by omega
      have hc2 := hc.out
      rw [ei] at hc2
      obtain ⟨c1', c2'', c3'⟩ := hc2
      rw [← c1', ← c2'', ← c3'] at hddH
      have hll := lastN_lt (lessP want ls m) (wd + 1) (by omega)
      rw [← c3'] at hll
      clear hc c1' c2'' c3' ei hwatH
      have hF0 := Lib.hid hB.out.b
      by_cases z1 : mo = 0 ∧ le = 0
      · rw [if_pos z1] at hddH
        obtain ⟨rfl, rfl⟩ := z1
        have hF := hF0
        clear hB
        go_wp2_with fail
        refine bodyPost_ret (v := .tuple #[.int .i64 0, .int .i64 0, .int .i64 0, .int .i64 0]) (by simp [results, Try.results25, go_sem]) rfl ⟨by rw [← hddH.out], hF.out⟩
      · rw [if_neg z1] at hddH
        have b1 : ((mo : Int) == 0) = decide (mo = 0) := by rw [Bool.eq_iff_iff]; simp
        have b2 : ((le : Int) == 0) = decide (le = 0) := by rw [Bool.eq_iff_iff]; simp
        have b3 : mo = 0 ∧ ¬ le = 0 ∨ ¬ mo = 0 := by omega
        have hM : (mo = 0 ∧ ¬ (le : Int) = 0 ∧ ((le : Int) == 0) = false) ∨ (¬ (mo : Int) = 0 ∧ ((mo : Int) == 0) = false) := by
          rcases b3 with ⟨h, h2⟩ | h
          · left; exact ⟨h, by omega, by rw [b2]; exact decide_eq_false h2⟩
          · right; exact ⟨by omega, by rw [b1]; exact decide_eq_false h⟩
        clear b1 b2 b3 z1
        by_cases z2 : (r : Int) = 0
        · rw [if_pos z2] at hddH
          have e0 : ((r : Int) == 0) = true := by rw [z2]; rfl
          have hF := hF0
          clear hB z2
          rcases hM with ⟨rfl, m1, m2⟩ | ⟨m1, m2⟩
          · go_wp2_with fail
            refine bodyPost_ret (v := .tuple #[.int .i64 3, .int .i64 0, .int .i64 0, .int .i64 0]) (by simp [results, Try.results25, go_sem]) rfl ⟨by rw [← hddH.out], hF.out⟩
          · go_wp2_with fail
            refine bodyPost_ret (v := .tuple #[.int .i64 3, .int .i64 0, .int .i64 0, .int .i64 0]) (by simp [results, Try.results25, go_sem]) rfl ⟨by rw [← hddH.out], hF.out⟩
        · rw [if_neg z2] at hddH
          rcases hM with ⟨rfl, m1, m2⟩ | ⟨m1, m2⟩
          · by_cases z3 : 1 < le
            · rw [if_pos (.inr z3)] at hddH
              have z3' : (1 : Int) < (le : Int) := by omega
              have hF := hF0
              clear hB
              go_wp2_with fail
              refine bodyPost_ret (v := .tuple #[.int .i64 2, .int .i64 0, .int .i64 0, .int .i64 0]) (by simp [results, Try.results25, go_sem]) rfl ⟨by rw [← hddH.out], hF.out⟩
            · rw [if_neg (by omega)] at hddH
              have z3' : ¬ (1 : Int) < (le : Int) := by omega
              by_cases z4 : 0 ≤ rr
              · obtain ⟨f, rfl⟩ := Int.eq_ofNat_of_zero_le z4
                have ef0 : q - 1 = f := by have := hrrH.out; omega
                obtain ⟨pv, hpv⟩ : ∃ pv, par wd z f = pv := ⟨_, rfl⟩
                rw [ef0, hpv] at hpn hddH
                clear hpv z4 ef0
                have z5 : (0 : Int) ≤ (f : Int) := by omega
                by_cases z6 : pv = (la : Int)
                · have e6 : (pv == (la : Int)) = true := by simp [z6]
                  obtain ⟨y, hy⟩ : ∃ y, ls.getD la 0 = y := ⟨_, rfl⟩
                  obtain ⟨x, hx2⟩ : ∃ x, want.getD la 0 = x := ⟨_, rfl⟩
                  have hyb := hlsbH.out la hll
                  have hwcl := hwa.out la hll
                  obtain ⟨bl, ol, eA2, _⟩ := ints_at (hIH.out wr hF0.out) (k := la) (by rw [hnH2.out]; exact hll)
                  have hcl : ∀ W, Below w.heap.size w W → W.cell? ⟨bl, ol + la, none⟩ = some (.int .i64 y) := fun W hb => by
                    obtain ⟨bl', ol', e', h'⟩ := ints_at (hIH.out W hb) (k := la) (by rw [hnH2.out]; exact hll)
                    rw [eA2] at e'
                    injection e' with e'; injection e' with e1 e2
                    subst e1 e2
                    rw [h', hy]
                  subst eA2
                  rw [hy] at hddH hyb
                  rw [hx2] at hddH hwcl
                  have yw : IntKind.i64.wrap (y + 1) = y + 1 := IntWalk.i64_in _ (by omega)
                  have yw2 : wrap64 (y + 1) = y + 1 := IntWalk.wrap64_in _ (by omega)
                  have hin : (la : Int) < (n : Int) := by have := hnwH.out; omega
                  have hin2 : la < n := by have := hnwH.out; omega
                  have hwcl := Lib.hid hwcl
                  clear hyb hy hx2
                  by_cases z7 : y + 1 = x
                  · rw [if_pos ⟨z5, z6, z7⟩] at hddH
                    have e7 : (y + 1 == x) = true := by simp [z7]
                    clear z6 z7
                    obtain ⟨u1, u2, u3, u4, u5, u6, u7⟩ := hqH.out
                    obtain ⟨v1, v2, v3, v4, v5, v6⟩ := hpn.out
                    go_wp2_with fail
                    refine region_anyC (fun _ => true) (fun W => CnB w W D Z B O A (some ⟨bl, ol, none⟩) n c2 m none 0 0) (by kernel_rfl) ?_
                    have hS0 : (fun W => CnB w W D Z B O A (some ⟨bl, ol, none⟩) n c2 m none 0 0) wr.drew := hB.out.below (Below.refl _ _).drew
                    refine anyL_take 0 (v := ?_) rfl (by kernel_rfl) (fun _ _ _ h => h) (Or.inl ⟨by rfl, ?_⟩) hS0 ?_
                    rotate_left
                    focus (intro W hW; go_simp; try with_reducible rfl)
                    simp only [Act.put, List.setIfInBounds_toArray, List.set_cons_zero, List.set_cons_succ]
                    refine anyL_take 1 (v := ?_) rfl (by kernel_rfl) (fun _ _ _ h => h) (Or.inl ⟨by rfl, ?_⟩) hS0 ?_
                    rotate_left
                    focus (intro W hW; go_simp; try with_reducible rfl)
                    simp only [Act.put, List.setIfInBounds_toArray, List.set_cons_zero, List.set_cons_succ]
                    refine anyL_take 2 (v := ?_) rfl (by kernel_rfl) (fun _ _ _ h => h) (Or.inl ⟨by rfl, ?_⟩) hS0 ?_
                    rotate_left
                    focus (intro W hW; go_simp; try with_reducible rfl)
                    simp only [Act.put, List.setIfInBounds_toArray, List.set_cons_zero, List.set_cons_succ]
                    refine anyL_take 3 (v := ?_) rfl (by kernel_rfl) (fun _ _ _ h => h) (Or.inl ⟨by rfl, ?_⟩) hS0 ?_
                    rotate_left
                    focus (intro W hW; go_simp; try with_reducible rfl)
                    simp only [Act.put, List.setIfInBounds_toArray, List.set_cons_zero, List.set_cons_succ]
                    refine anyL_take 4 (v := ?_) rfl (by kernel_rfl) (fun _ _ _ h => h) (Or.inl ⟨by rfl, ?_⟩) hS0 ?_
                    rotate_left
                    focus (intro W hW; go_simp; try with_reducible rfl)
                    simp only [Act.put, List.setIfInBounds_toArray, List.set_cons_zero, List.set_cons_succ]
                    refine anyL_take 5 (v := ?_) rfl (by kernel_rfl) (fun _ _ _ h => h) (Or.inl ⟨by rfl, ?_⟩) hS0 ?_
                    rotate_left
                    focus (intro W hW; go_simp; try with_reducible rfl)
                    simp only [Act.put, List.setIfInBounds_toArray, List.set_cons_zero, List.set_cons_succ]
                    refine anyL_take 6 (v := ?_) rfl (by kernel_rfl) (fun _ _ _ h => h) (Or.inl ⟨by rfl, ?_⟩) hS0 ?_
                    rotate_left
                    focus (intro W hW; go_simp; try with_reducible rfl)
                    simp only [Act.put, List.setIfInBounds_toArray, List.set_cons_zero, List.set_cons_succ]
                    refine anyL_take 7 (v := ?_) rfl (by kernel_rfl) (fun _ _ _ h => h) (Or.inl ⟨by rfl, ?_⟩) hS0 ?_
                    rotate_left
                    focus (intro W hW; obtain ⟨g0, g1, g2, g3, g4, _⟩ := hW.g; go_simp; try with_reducible rfl)
                    simp only [Act.put, List.setIfInBounds_toArray, List.set_cons_zero, List.set_cons_succ]
                    refine anyL_take 8 (v := ?_) rfl (by kernel_rfl) (fun _ _ _ h => h) (Or.inl ⟨by rfl, ?_⟩) hS0 ?_
                    rotate_left
                    focus (intro W hW; go_simp; try with_reducible rfl)
                    simp only [Act.put, List.setIfInBounds_toArray, List.set_cons_zero, List.set_cons_succ]
                    refine anyL_take 9 (v := ?_) rfl (by kernel_rfl) (fun _ _ _ h => h) (Or.inl ⟨by rfl, ?_⟩) hS0 ?_
                    rotate_left
                    focus (intro W hW; go_simp; try with_reducible rfl)
                    simp only [Act.put, List.setIfInBounds_toArray, List.set_cons_zero, List.set_cons_succ]
                    refine anyL_take 10 (v := ?_) rfl (by kernel_rfl) (fun _ _ _ h => h) (Or.inl ⟨by rfl, ?_⟩) hS0 ?_
                    rotate_left
                    focus (intro W hW; go_simp; try with_reducible rfl)
                    simp only [Act.put, List.setIfInBounds_toArray, List.set_cons_zero, List.set_cons_succ]
                    refine anyL_take 11 (v := ?_) rfl (by kernel_rfl) (fun _ _ _ h => h) (Or.inl ⟨by rfl, ?_⟩) hS0 ?_
                    rotate_left
                    focus (intro W hW; go_simp; try with_reducible rfl)
                    simp only [Act.put, List.setIfInBounds_toArray, List.set_cons_zero, List.set_cons_succ]
                    refine anyL_take 12 (v := ?_) rfl (by kernel_rfl) (fun _ _ _ h => h) (Or.inl ⟨by rfl, ?_⟩) hS0 ?_
                    rotate_left
                    focus (intro W hW; go_simp; try with_reducible rfl)
                    simp only [Act.put, List.setIfInBounds_toArray, List.set_cons_zero, List.set_cons_succ]
                    refine anyL_take 13 (v := ?_) rfl (by kernel_rfl) (fun _ _ _ h => h) (Or.inl ⟨by rfl, ?_⟩) hS0 ?_
                    rotate_left
                    focus (intro W hW; go_simp; try with_reducible rfl)
                    simp only [Act.put, List.setIfInBounds_toArray, List.set_cons_zero, List.set_cons_succ]
                    refine anyL_take 14 (v := ?_) rfl (by kernel_rfl) (fun _ _ _ h => h) (Or.inl ⟨by rfl, ?_⟩) hS0 ?_
                    rotate_left
                    focus (intro W hW; go_simp; try with_reducible rfl)
                    simp only [Act.put, List.setIfInBounds_toArray, List.set_cons_zero, List.set_cons_succ]
                    refine anyL_take 15 (v := ?_) rfl (by kernel_rfl) (fun _ _ _ h => h) (Or.inl ⟨by rfl, ?_⟩) hS0 ?_
                    rotate_left
                    focus (intro W hW; go_simp; try with_reducible rfl)
                    simp only [Act.put, List.setIfInBounds_toArray, List.set_cons_zero, List.set_cons_succ]
                    refine anyL_take 16 (v := ?_) rfl (by kernel_rfl) (fun _ _ _ h => h) (Or.inl ⟨by rfl, ?_⟩) hS0 ?_
                    rotate_left
                    focus (intro W hW; have f0 := hcl W hW.b; go_simp; try with_reducible rfl)
                    simp only [Act.put, List.setIfInBounds_toArray, List.set_cons_zero, List.set_cons_succ]
                    refine anyL_take 17 (v := ?_) rfl (by kernel_rfl) (fun _ _ _ h => h) (Or.inl ⟨by rfl, ?_⟩) hS0 ?_
                    rotate_left
                    focus (intro W hW; go_simp; try with_reducible rfl)
                    simp only [Act.put, List.setIfInBounds_toArray, List.set_cons_zero, List.set_cons_succ]
                    refine anyL_take 18 (v := ?_) rfl (by kernel_rfl) (fun _ _ _ h => h) (Or.inl ⟨by rfl, ?_⟩) hS0 ?_
                    rotate_left
                    focus (intro W hW; obtain ⟨g0, g1, g2, g3, g4, _⟩ := hW.g; go_simp; try with_reducible rfl)
                    simp only [Act.put, List.setIfInBounds_toArray, List.set_cons_zero, List.set_cons_succ]
                    refine anyL_take 19 (v := ?_) rfl (by kernel_rfl) (fun _ _ _ h => h) (Or.inl ⟨by rfl, ?_⟩) hS0 ?_
                    rotate_left
                    focus (intro W hW; go_simp; try with_reducible rfl)
                    simp only [Act.put, List.setIfInBounds_toArray, List.set_cons_zero, List.set_cons_succ]
                    refine anyL_take 20 (v := ?_) rfl (by kernel_rfl) (fun _ _ _ h => h) (Or.inl ⟨by rfl, ?_⟩) hS0 ?_
                    rotate_left
                    focus (intro W hW; go_simp; try with_reducible rfl)
                    simp only [Act.put, List.setIfInBounds_toArray, List.set_cons_zero, List.set_cons_succ]
                    refine anyL_take 21 (v := ?_) rfl (by kernel_rfl) (fun _ _ _ h => h) (Or.inl ⟨by rfl, ?_⟩) hS0 ?_
                    rotate_left
                    focus (intro W hW; go_simp; try with_reducible rfl)
                    simp only [Act.put, List.setIfInBounds_toArray, List.set_cons_zero, List.set_cons_succ]
                    refine anyL_one 22 rfl (by kernel_rfl) (fun K hK => ?_)
                    go_simp
                    refine (hwcl.out _).mono ?_
                    rintro e' wz ⟨rfl, hbz⟩
                    have hS1 : (fun W => CnB w W D Z B O A (some ⟨bl, ol, none⟩) n c2 m none 0 0) wz := hS0.below hbz
                    clear hS0 hbz
                    refine hK.out _ _ (fun _ => hS1) ?_
                    clear hK K
                    try simp only [Act.put, List.setIfInBounds_toArray, List.set_cons_zero, List.set_cons_succ]
                    refine anyL_take 23 (v := ?_) rfl (by kernel_rfl) (fun _ _ _ h => h) (Or.inl ⟨by rfl, ?_⟩) hS1 ?_
                    rotate_left
                    focus (intro W hW; go_simp; try with_reducible rfl)
                    simp only [Act.put, List.setIfInBounds_toArray, List.set_cons_zero, List.set_cons_succ]
                    refine anyL_take 24 (v := ?_) rfl (by kernel_rfl) (fun _ _ _ h => h) (Or.inl ⟨by rfl, ?_⟩) hS1 ?_
                    rotate_left
                    focus (intro W hW; go_simp; try with_reducible rfl)
                    simp only [Act.put, List.setIfInBounds_toArray, List.set_cons_zero, List.set_cons_succ]
                    refine anyC_done (by kernel_rfl) ?_ _
                    have hF := Lib.hid hS1.b
                    clear hS1
                    go_wp2_with fail
                    refine bodyPost_ret (v := .tuple #[.int .i64 1, .int .i64 (la : Int), .int .i64 (f : Int), .int .i64 0]) (by simp [results, Try.results25, go_sem]) rfl ⟨by rw [← hddH.out], hF.out⟩
                  · rw [if_neg (fun h => z7 h.2.2)] at hddH
                    have e7 : (y + 1 == x) = false := by simp [z7]
                    clear z6 z7
                    obtain ⟨u1, u2, u3, u4, u5, u6, u7⟩ := hqH.out
                    obtain ⟨v1, v2, v3, v4, v5, v6⟩ := hpn.out
                    go_wp2_with fail
                    refine region_anyC (fun _ => true) (fun W => CnB w W D Z B O A (some ⟨bl, ol, none⟩) n c2 m none 0 0) (by kernel_rfl) ?_
                    have hS0 : (fun W => CnB w W D Z B O A (some ⟨bl, ol, none⟩) n c2 m none 0 0) wr.drew := hB.out.below (Below.refl _ _).drew
                    refine anyL_take 0 (v := ?_) rfl (by kernel_rfl) (fun _ _ _ h => h) (Or.inl ⟨by rfl, ?_⟩) hS0 ?_
                    rotate_left
                    focus (intro W hW; go_simp; try with_reducible rfl)
                    simp only [Act.put, List.setIfInBounds_toArray, List.set_cons_zero, List.set_cons_succ]
                    refine anyL_take 1 (v := ?_) rfl (by kernel_rfl) (fun _ _ _ h => h) (Or.inl ⟨by rfl, ?_⟩) hS0 ?_
                    rotate_left
                    focus (intro W hW; go_simp; try with_reducible rfl)
                    simp only [Act.put, List.setIfInBounds_toArray, List.set_cons_zero, List.set_cons_succ]
                    refine anyL_take 2 (v := ?_) rfl (by kernel_rfl) (fun _ _ _ h => h) (Or.inl ⟨by rfl, ?_⟩) hS0 ?_
                    rotate_left
                    focus (intro W hW; go_simp; try with_reducible rfl)
                    simp only [Act.put, List.setIfInBounds_toArray, List.set_cons_zero, List.set_cons_succ]
                    refine anyL_take 3 (v := ?_) rfl (by kernel_rfl) (fun _ _ _ h => h) (Or.inl ⟨by rfl, ?_⟩) hS0 ?_
                    rotate_left
                    focus (intro W hW; go_simp; try with_reducible rfl)
                    simp only [Act.put, List.setIfInBounds_toArray, List.set_cons_zero, List.set_cons_succ]
                    refine anyL_take 4 (v := ?_) rfl (by kernel_rfl) (fun _ _ _ h => h) (Or.inl ⟨by rfl, ?_⟩) hS0 ?_
                    rotate_left
                    focus (intro W hW; go_simp; try with_reducible rfl)
                    simp only [Act.put, List.setIfInBounds_toArray, List.set_cons_zero, List.set_cons_succ]
                    refine anyL_take 5 (v := ?_) rfl (by kernel_rfl) (fun _ _ _ h => h) (Or.inl ⟨by rfl, ?_⟩) hS0 ?_
                    rotate_left
                    focus (intro W hW; go_simp; try with_reducible rfl)
                    simp only [Act.put, List.setIfInBounds_toArray, List.set_cons_zero, List.set_cons_succ]
                    refine anyL_take 6 (v := ?_) rfl (by kernel_rfl) (fun _ _ _ h => h) (Or.inl ⟨by rfl, ?_⟩) hS0 ?_
                    rotate_left
                    focus (intro W hW; go_simp; try with_reducible rfl)
                    simp only [Act.put, List.setIfInBounds_toArray, List.set_cons_zero, List.set_cons_succ]
                    refine anyL_take 7 (v := ?_) rfl (by kernel_rfl) (fun _ _ _ h => h) (Or.inl ⟨by rfl, ?_⟩) hS0 ?_
                    rotate_left
                    focus (intro W hW; obtain ⟨g0, g1, g2, g3, g4, _⟩ := hW.g; go_simp; try with_reducible rfl)
                    simp only [Act.put, List.setIfInBounds_toArray, List.set_cons_zero, List.set_cons_succ]
                    refine anyL_take 8 (v := ?_) rfl (by kernel_rfl) (fun _ _ _ h => h) (Or.inl ⟨by rfl, ?_⟩) hS0 ?_
                    rotate_left
                    focus (intro W hW; go_simp; try with_reducible rfl)
                    simp only [Act.put, List.setIfInBounds_toArray, List.set_cons_zero, List.set_cons_succ]
                    refine anyL_take 9 (v := ?_) rfl (by kernel_rfl) (fun _ _ _ h => h) (Or.inl ⟨by rfl, ?_⟩) hS0 ?_
                    rotate_left
                    focus (intro W hW; go_simp; try with_reducible rfl)
                    simp only [Act.put, List.setIfInBounds_toArray, List.set_cons_zero, List.set_cons_succ]
                    refine anyL_take 10 (v := ?_) rfl (by kernel_rfl) (fun _ _ _ h => h) (Or.inl ⟨by rfl, ?_⟩) hS0 ?_
                    rotate_left
                    focus (intro W hW; go_simp; try with_reducible rfl)
                    simp only [Act.put, List.setIfInBounds_toArray, List.set_cons_zero, List.set_cons_succ]
                    refine anyL_take 11 (v := ?_) rfl (by kernel_rfl) (fun _ _ _ h => h) (Or.inl ⟨by rfl, ?_⟩) hS0 ?_
                    rotate_left
                    focus (intro W hW; go_simp; try with_reducible rfl)
                    simp only [Act.put, List.setIfInBounds_toArray, List.set_cons_zero, List.set_cons_succ]
                    refine anyL_take 12 (v := ?_) rfl (by kernel_rfl) (fun _ _ _ h => h) (Or.inl ⟨by rfl, ?_⟩) hS0 ?_
                    rotate_left
                    focus (intro W hW; go_simp; try with_reducible rfl)
                    simp only [Act.put, List.setIfInBounds_toArray, List.set_cons_zero, List.set_cons_succ]
                    refine anyL_take 13 (v := ?_) rfl (by kernel_rfl) (fun _ _ _ h => h) (Or.inl ⟨by rfl, ?_⟩) hS0 ?_
                    rotate_left
                    focus (intro W hW; go_simp; try with_reducible rfl)
                    simp only [Act.put, List.setIfInBounds_toArray, List.set_cons_zero, List.set_cons_succ]
                    refine anyL_take 14 (v := ?_) rfl (by kernel_rfl) (fun _ _ _ h => h) (Or.inl ⟨by rfl, ?_⟩) hS0 ?_
                    rotate_left
                    focus (intro W hW; go_simp; try with_reducible rfl)
                    simp only [Act.put, List.setIfInBounds_toArray, List.set_cons_zero, List.set_cons_succ]
                    refine anyL_take 15 (v := ?_) rfl (by kernel_rfl) (fun _ _ _ h => h) (Or.inl ⟨by rfl, ?_⟩) hS0 ?_
                    rotate_left
                    focus (intro W hW; go_simp; try with_reducible rfl)
                    simp only [Act.put, List.setIfInBounds_toArray, List.set_cons_zero, List.set_cons_succ]
                    refine anyL_take 16 (v := ?_) rfl (by kernel_rfl) (fun _ _ _ h => h) (Or.inl ⟨by rfl, ?_⟩) hS0 ?_
                    rotate_left
                    focus (intro W hW; have f0 := hcl W hW.b; go_simp; try with_reducible rfl)
                    simp only [Act.put, List.setIfInBounds_toArray, List.set_cons_zero, List.set_cons_succ]
                    refine anyL_take 17 (v := ?_) rfl (by kernel_rfl) (fun _ _ _ h => h) (Or.inl ⟨by rfl, ?_⟩) hS0 ?_
                    rotate_left
                    focus (intro W hW; go_simp; try with_reducible rfl)
                    simp only [Act.put, List.setIfInBounds_toArray, List.set_cons_zero, List.set_cons_succ]
                    refine anyL_take 18 (v := ?_) rfl (by kernel_rfl) (fun _ _ _ h => h) (Or.inl ⟨by rfl, ?_⟩) hS0 ?_
                    rotate_left
                    focus (intro W hW; obtain ⟨g0, g1, g2, g3, g4, _⟩ := hW.g; go_simp; try with_reducible rfl)
                    simp only [Act.put, List.setIfInBounds_toArray, List.set_cons_zero, List.set_cons_succ]
                    refine anyL_take 19 (v := ?_) rfl (by kernel_rfl) (fun _ _ _ h => h) (Or.inl ⟨by rfl, ?_⟩) hS0 ?_
                    rotate_left
                    focus (intro W hW; go_simp; try with_reducible rfl)
                    simp only [Act.put, List.setIfInBounds_toArray, List.set_cons_zero, List.set_cons_succ]
                    refine anyL_take 20 (v := ?_) rfl (by kernel_rfl) (fun _ _ _ h => h) (Or.inl ⟨by rfl, ?_⟩) hS0 ?_
                    rotate_left
                    focus (intro W hW; go_simp; try with_reducible rfl)
                    simp only [Act.put, List.setIfInBounds_toArray, List.set_cons_zero, List.set_cons_succ]
                    refine anyL_take 21 (v := ?_) rfl (by kernel_rfl) (fun _ _ _ h => h) (Or.inl ⟨by rfl, ?_⟩) hS0 ?_
                    rotate_left
                    focus (intro W hW; go_simp; try with_reducible rfl)
                    simp only [Act.put, List.setIfInBounds_toArray, List.set_cons_zero, List.set_cons_succ]
                    refine anyL_one 22 rfl (by kernel_rfl) (fun K hK => ?_)
                    go_simp
                    refine (hwcl.out _).mono ?_
                    rintro e' wz ⟨rfl, hbz⟩
                    have hS1 : (fun W => CnB w W D Z B O A (some ⟨bl, ol, none⟩) n c2 m none 0 0) wz := hS0.below hbz
                    clear hS0 hbz
                    refine hK.out _ _ (fun _ => hS1) ?_
                    clear hK K
                    try simp only [Act.put, List.setIfInBounds_toArray, List.set_cons_zero, List.set_cons_succ]
                    refine anyL_take 23 (v := ?_) rfl (by kernel_rfl) (fun _ _ _ h => h) (Or.inl ⟨by rfl, ?_⟩) hS1 ?_
                    rotate_left
                    focus (intro W hW; go_simp; try with_reducible rfl)
                    simp only [Act.put, List.setIfInBounds_toArray, List.set_cons_zero, List.set_cons_succ]
                    refine anyL_take 24 (v := ?_) rfl (by kernel_rfl) (fun _ _ _ h => h) (Or.inl ⟨by rfl, ?_⟩) hS1 ?_
                    rotate_left
                    focus (intro W hW; go_simp; try with_reducible rfl)
                    simp only [Act.put, List.setIfInBounds_toArray, List.set_cons_zero, List.set_cons_succ]
                    refine anyC_done (by kernel_rfl) ?_ _
                    have hF := Lib.hid hS1.b
                    clear hS1
                    go_wp2_with fail
                    refine bodyPost_ret (v := .tuple #[.int .i64 2, .int .i64 0, .int .i64 0, .int .i64 0]) (by simp [results, Try.results25, go_sem]) rfl ⟨by rw [← hddH.out], hF.out⟩
                · rw [if_neg (fun h => z6 h.2.1)] at hddH
                  have e6 : (pv == (la : Int)) = false := by simp [z6]
                  clear z6
                  obtain ⟨u1, u2, u3, u4, u5, u6, u7⟩ := hqH.out
                  obtain ⟨v1, v2, v3, v4, v5, v6⟩ := hpn.out
                  go_wp2_with fail
                  refine region_anyC (fun _ => true) (fun W => CnB w W D Z B O A A2 n c2 m none 0 0) (by kernel_rfl) ?_
                  have hS0 : (fun W => CnB w W D Z B O A A2 n c2 m none 0 0) wr.drew := hB.out.below (Below.refl _ _).drew
                  refine anyL_take 0 (v := ?_) rfl (by kernel_rfl) (fun _ _ _ h => h) (Or.inl ⟨by rfl, ?_⟩) hS0 ?_
                  rotate_left
                  focus (intro W hW; go_simp; try with_reducible rfl)
                  simp only [Act.put, List.setIfInBounds_toArray, List.set_cons_zero, List.set_cons_succ]
                  refine anyL_take 1 (v := ?_) rfl (by kernel_rfl) (fun _ _ _ h => h) (Or.inl ⟨by rfl, ?_⟩) hS0 ?_
                  rotate_left
                  focus (intro W hW; go_simp; try with_reducible rfl)
                  simp only [Act.put, List.setIfInBounds_toArray, List.set_cons_zero, List.set_cons_succ]
                  refine anyL_take 2 (v := ?_) rfl (by kernel_rfl) (fun _ _ _ h => h) (Or.inl ⟨by rfl, ?_⟩) hS0 ?_
                  rotate_left
                  focus (intro W hW; go_simp; try with_reducible rfl)
                  simp only [Act.put, List.setIfInBounds_toArray, List.set_cons_zero, List.set_cons_succ]
                  refine anyL_take 3 (v := ?_) rfl (by kernel_rfl) (fun _ _ _ h => h) (Or.inl ⟨by rfl, ?_⟩) hS0 ?_
                  rotate_left
                  focus (intro W hW; go_simp; try with_reducible rfl)
                  simp only [Act.put, List.setIfInBounds_toArray, List.set_cons_zero, List.set_cons_succ]
                  refine anyL_take 4 (v := ?_) rfl (by kernel_rfl) (fun _ _ _ h => h) (Or.inl ⟨by rfl, ?_⟩) hS0 ?_
                  rotate_left
                  focus (intro W hW; go_simp; try with_reducible rfl)
                  simp only [Act.put, List.setIfInBounds_toArray, List.set_cons_zero, List.set_cons_succ]
                  refine anyL_take 5 (v := ?_) rfl (by kernel_rfl) (fun _ _ _ h => h) (Or.inl ⟨by rfl, ?_⟩) hS0 ?_
                  rotate_left
                  focus (intro W hW; go_simp; try with_reducible rfl)
                  simp only [Act.put, List.setIfInBounds_toArray, List.set_cons_zero, List.set_cons_succ]
                  refine anyL_take 6 (v := ?_) rfl (by kernel_rfl) (fun _ _ _ h => h) (Or.inl ⟨by rfl, ?_⟩) hS0 ?_
                  rotate_left
                  focus (intro W hW; go_simp; try with_reducible rfl)
                  simp only [Act.put, List.setIfInBounds_toArray, List.set_cons_zero, List.set_cons_succ]
                  refine anyL_take 7 (v := ?_) rfl (by kernel_rfl) (fun _ _ _ h => h) (Or.inl ⟨by rfl, ?_⟩) hS0 ?_
                  rotate_left
                  focus (intro W hW; obtain ⟨g0, g1, g2, g3, g4, _⟩ := hW.g; go_simp; try with_reducible rfl)
                  simp only [Act.put, List.setIfInBounds_toArray, List.set_cons_zero, List.set_cons_succ]
                  refine anyL_take 8 (v := ?_) rfl (by kernel_rfl) (fun _ _ _ h => h) (Or.inl ⟨by rfl, ?_⟩) hS0 ?_
                  rotate_left
                  focus (intro W hW; go_simp; try with_reducible rfl)
                  simp only [Act.put, List.setIfInBounds_toArray, List.set_cons_zero, List.set_cons_succ]
                  refine anyL_take 9 (v := ?_) rfl (by kernel_rfl) (fun _ _ _ h => h) (Or.inl ⟨by rfl, ?_⟩) hS0 ?_
                  rotate_left
                  focus (intro W hW; go_simp; try with_reducible rfl)
                  simp only [Act.put, List.setIfInBounds_toArray, List.set_cons_zero, List.set_cons_succ]
                  refine anyL_take 10 (v := ?_) rfl (by kernel_rfl) (fun _ _ _ h => h) (Or.inl ⟨by rfl, ?_⟩) hS0 ?_
                  rotate_left
                  focus (intro W hW; go_simp; try with_reducible rfl)
                  simp only [Act.put, List.setIfInBounds_toArray, List.set_cons_zero, List.set_cons_succ]
                  refine anyL_take 11 (v := ?_) rfl (by kernel_rfl) (fun _ _ _ h => h) (Or.inl ⟨by rfl, ?_⟩) hS0 ?_
                  rotate_left
                  focus (intro W hW; go_simp; try with_reducible rfl)
                  simp only [Act.put, List.setIfInBounds_toArray, List.set_cons_zero, List.set_cons_succ]
                  refine anyL_take 12 (v := ?_) rfl (by kernel_rfl) (fun _ _ _ h => h) (Or.inl ⟨by rfl, ?_⟩) hS0 ?_
                  rotate_left
                  focus (intro W hW; go_simp; try with_reducible rfl)
                  simp only [Act.put, List.setIfInBounds_toArray, List.set_cons_zero, List.set_cons_succ]
                  refine anyL_take 13 (v := undef) rfl (by kernel_rfl) (fun _ _ _ h => h) (Or.inr ⟨by rfl, rfl⟩) hS0 ?_
                  simp only [Act.put, List.setIfInBounds_toArray, List.set_cons_zero, List.set_cons_succ]
                  refine anyL_take 14 (v := undef) rfl (by kernel_rfl) (fun _ _ _ h => h) (Or.inr ⟨by rfl, rfl⟩) hS0 ?_
                  simp only [Act.put, List.setIfInBounds_toArray, List.set_cons_zero, List.set_cons_succ]
                  refine anyL_take 15 (v := undef) rfl (by kernel_rfl) (fun _ _ _ h => h) (Or.inr ⟨by rfl, rfl⟩) hS0 ?_
                  simp only [Act.put, List.setIfInBounds_toArray, List.set_cons_zero, List.set_cons_succ]
                  refine anyL_take 16 (v := undef) rfl (by kernel_rfl) (fun _ _ _ h => h) (Or.inr ⟨by rfl, rfl⟩) hS0 ?_
                  simp only [Act.put, List.setIfInBounds_toArray, List.set_cons_zero, List.set_cons_succ]
                  refine anyL_take 17 (v := undef) rfl (by kernel_rfl) (fun _ _ _ h => h) (Or.inr ⟨by rfl, rfl⟩) hS0 ?_
                  simp only [Act.put, List.setIfInBounds_toArray, List.set_cons_zero, List.set_cons_succ]
                  refine anyL_take 18 (v := undef) rfl (by kernel_rfl) (fun _ _ _ h => h) (Or.inr ⟨by rfl, rfl⟩) hS0 ?_
                  simp only [Act.put, List.setIfInBounds_toArray, List.set_cons_zero, List.set_cons_succ]
                  refine anyL_take 19 (v := undef) rfl (by kernel_rfl) (fun _ _ _ h => h) (Or.inr ⟨by rfl, rfl⟩) hS0 ?_
                  simp only [Act.put, List.setIfInBounds_toArray, List.set_cons_zero, List.set_cons_succ]
                  refine anyL_take 20 (v := undef) rfl (by kernel_rfl) (fun _ _ _ h => h) (Or.inr ⟨by rfl, rfl⟩) hS0 ?_
                  simp only [Act.put, List.setIfInBounds_toArray, List.set_cons_zero, List.set_cons_succ]
                  refine anyL_take 21 (v := undef) rfl (by kernel_rfl) (fun _ _ _ h => h) (Or.inr ⟨by rfl, rfl⟩) hS0 ?_
                  simp only [Act.put, List.setIfInBounds_toArray, List.set_cons_zero, List.set_cons_succ]
                  refine anyL_take 22 (v := undef) rfl (by kernel_rfl) (fun _ _ _ h => h) (Or.inr ⟨by rfl, rfl⟩) hS0 ?_
                  simp only [Act.put, List.setIfInBounds_toArray, List.set_cons_zero, List.set_cons_succ]
                  refine anyL_take 23 (v := undef) rfl (by kernel_rfl) (fun _ _ _ h => h) (Or.inr ⟨by rfl, rfl⟩) hS0 ?_
                  simp only [Act.put, List.setIfInBounds_toArray, List.set_cons_zero, List.set_cons_succ]
                  refine anyL_take 24 (v := ?_) rfl (by kernel_rfl) (fun _ _ _ h => h) (Or.inl ⟨by rfl, ?_⟩) hS0 ?_
                  rotate_left
                  focus (intro W hW; go_simp; try with_reducible rfl)
                  simp only [Act.put, List.setIfInBounds_toArray, List.set_cons_zero, List.set_cons_succ]
                  refine anyC_done (by kernel_rfl) ?_ _
                  have hF := Lib.hid hS0.b
                  clear hS0
                  go_wp2_with fail
                  refine bodyPost_ret (v := .tuple #[.int .i64 2, .int .i64 0, .int .i64 0, .int .i64 0]) (by simp [results, Try.results25, go_sem]) rfl ⟨by rw [← hddH.out], hF.out⟩
              · rw [if_neg (fun h => z4 h.1)] at hddH
                have z4d : decide ((0 : Int) ≤ rr) = false := decide_eq_false z4
                obtain ⟨u1, u2, u3, u4, u5, u6, u7⟩ := hqH.out
                go_wp2_with fail
                refine region_anyC (fun _ => true) (fun W => CnB w W D Z B O A A2 n c2 m none 0 0) (by kernel_rfl) ?_
                have hS0 : (fun W => CnB w W D Z B O A A2 n c2 m none 0 0) wr.drew := hB.out.below (Below.refl _ _).drew
                refine anyL_take 0 (v := ?_) rfl (by kernel_rfl) (fun _ _ _ h => h) (Or.inl ⟨by rfl, ?_⟩) hS0 ?_
                rotate_left
                focus (intro W hW; go_simp; try with_reducible rfl)
                simp only [Act.put, List.setIfInBounds_toArray, List.set_cons_zero, List.set_cons_succ]
                refine anyL_take 1 (v := ?_) rfl (by kernel_rfl) (fun _ _ _ h => h) (Or.inl ⟨by rfl, ?_⟩) hS0 ?_
                rotate_left
                focus (intro W hW; go_simp; try with_reducible rfl)
                simp only [Act.put, List.setIfInBounds_toArray, List.set_cons_zero, List.set_cons_succ]
                refine anyL_take 2 (v := ?_) rfl (by kernel_rfl) (fun _ _ _ h => h) (Or.inl ⟨by rfl, ?_⟩) hS0 ?_
                rotate_left
                focus (intro W hW; go_simp; try with_reducible rfl)
                simp only [Act.put, List.setIfInBounds_toArray, List.set_cons_zero, List.set_cons_succ]
                refine anyL_take 3 (v := undef) rfl (by kernel_rfl) (fun _ _ _ h => h) (Or.inr ⟨by rfl, rfl⟩) hS0 ?_
                simp only [Act.put, List.setIfInBounds_toArray, List.set_cons_zero, List.set_cons_succ]
                refine anyL_take 4 (v := undef) rfl (by kernel_rfl) (fun _ _ _ h => h) (Or.inr ⟨by rfl, rfl⟩) hS0 ?_
                simp only [Act.put, List.setIfInBounds_toArray, List.set_cons_zero, List.set_cons_succ]
                refine anyL_take 5 (v := undef) rfl (by kernel_rfl) (fun _ _ _ h => h) (Or.inr ⟨by rfl, rfl⟩) hS0 ?_
                simp only [Act.put, List.setIfInBounds_toArray, List.set_cons_zero, List.set_cons_succ]
                refine anyL_take 6 (v := undef) rfl (by kernel_rfl) (fun _ _ _ h => h) (Or.inr ⟨by rfl, rfl⟩) hS0 ?_
                simp only [Act.put, List.setIfInBounds_toArray, List.set_cons_zero, List.set_cons_succ]
                refine anyL_take 7 (v := undef) rfl (by kernel_rfl) (fun _ _ _ h => h) (Or.inr ⟨by rfl, rfl⟩) hS0 ?_
                simp only [Act.put, List.setIfInBounds_toArray, List.set_cons_zero, List.set_cons_succ]
                refine anyL_take 8 (v := undef) rfl (by kernel_rfl) (fun _ _ _ h => h) (Or.inr ⟨by rfl, rfl⟩) hS0 ?_
                simp only [Act.put, List.setIfInBounds_toArray, List.set_cons_zero, List.set_cons_succ]
                refine anyL_take 9 (v := undef) rfl (by kernel_rfl) (fun _ _ _ h => h) (Or.inr ⟨by rfl, rfl⟩) hS0 ?_
                simp only [Act.put, List.setIfInBounds_toArray, List.set_cons_zero, List.set_cons_succ]
                refine anyL_take 10 (v := undef) rfl (by kernel_rfl) (fun _ _ _ h => h) (Or.inr ⟨by rfl, rfl⟩) hS0 ?_
                simp only [Act.put, List.setIfInBounds_toArray, List.set_cons_zero, List.set_cons_succ]
                refine anyL_take 11 (v := ?_) rfl (by kernel_rfl) (fun _ _ _ h => h) (Or.inl ⟨by rfl, ?_⟩) hS0 ?_
                rotate_left
                focus (intro W hW; go_simp; try with_reducible rfl)
                simp only [Act.put, List.setIfInBounds_toArray, List.set_cons_zero, List.set_cons_succ]
                refine anyL_take 12 (v := ?_) rfl (by kernel_rfl) (fun _ _ _ h => h) (Or.inl ⟨by rfl, ?_⟩) hS0 ?_
                rotate_left
                focus (intro W hW; go_simp; try with_reducible rfl)
                simp only [Act.put, List.setIfInBounds_toArray, List.set_cons_zero, List.set_cons_succ]
                refine anyL_take 13 (v := undef) rfl (by kernel_rfl) (fun _ _ _ h => h) (Or.inr ⟨by rfl, rfl⟩) hS0 ?_
                simp only [Act.put, List.setIfInBounds_toArray, List.set_cons_zero, List.set_cons_succ]
                refine anyL_take 14 (v := undef) rfl (by kernel_rfl) (fun _ _ _ h => h) (Or.inr ⟨by rfl, rfl⟩) hS0 ?_
                simp only [Act.put, List.setIfInBounds_toArray, List.set_cons_zero, List.set_cons_succ]
                refine anyL_take 15 (v := undef) rfl (by kernel_rfl) (fun _ _ _ h => h) (Or.inr ⟨by rfl, rfl⟩) hS0 ?_
                simp only [Act.put, List.setIfInBounds_toArray, List.set_cons_zero, List.set_cons_succ]
                refine anyL_take 16 (v := undef) rfl (by kernel_rfl) (fun _ _ _ h => h) (Or.inr ⟨by rfl, rfl⟩) hS0 ?_
                simp only [Act.put, List.setIfInBounds_toArray, List.set_cons_zero, List.set_cons_succ]
                refine anyL_take 17 (v := undef) rfl (by kernel_rfl) (fun _ _ _ h => h) (Or.inr ⟨by rfl, rfl⟩) hS0 ?_
                simp only [Act.put, List.setIfInBounds_toArray, List.set_cons_zero, List.set_cons_succ]
                refine anyL_take 18 (v := undef) rfl (by kernel_rfl) (fun _ _ _ h => h) (Or.inr ⟨by rfl, rfl⟩) hS0 ?_
                simp only [Act.put, List.setIfInBounds_toArray, List.set_cons_zero, List.set_cons_succ]
                refine anyL_take 19 (v := undef) rfl (by kernel_rfl) (fun _ _ _ h => h) (Or.inr ⟨by rfl, rfl⟩) hS0 ?_
                simp only [Act.put, List.setIfInBounds_toArray, List.set_cons_zero, List.set_cons_succ]
                refine anyL_take 20 (v := undef) rfl (by kernel_rfl) (fun _ _ _ h => h) (Or.inr ⟨by rfl, rfl⟩) hS0 ?_
                simp only [Act.put, List.setIfInBounds_toArray, List.set_cons_zero, List.set_cons_succ]
                refine anyL_take 21 (v := undef) rfl (by kernel_rfl) (fun _ _ _ h => h) (Or.inr ⟨by rfl, rfl⟩) hS0 ?_
                simp only [Act.put, List.setIfInBounds_toArray, List.set_cons_zero, List.set_cons_succ]
                refine anyL_take 22 (v := undef) rfl (by kernel_rfl) (fun _ _ _ h => h) (Or.inr ⟨by rfl, rfl⟩) hS0 ?_
                simp only [Act.put, List.setIfInBounds_toArray, List.set_cons_zero, List.set_cons_succ]
                refine anyL_take 23 (v := undef) rfl (by kernel_rfl) (fun _ _ _ h => h) (Or.inr ⟨by rfl, rfl⟩) hS0 ?_
                simp only [Act.put, List.setIfInBounds_toArray, List.set_cons_zero, List.set_cons_succ]
                refine anyL_take 24 (v := ?_) rfl (by kernel_rfl) (fun _ _ _ h => h) (Or.inl ⟨by rfl, ?_⟩) hS0 ?_
                rotate_left
                focus (intro W hW; go_simp; try with_reducible rfl)
                simp only [Act.put, List.setIfInBounds_toArray, List.set_cons_zero, List.set_cons_succ]
                refine anyC_done (by kernel_rfl) ?_ _
                have hF := Lib.hid hS0.b
                clear hS0
                go_wp2_with fail
                refine bodyPost_ret (v := .tuple #[.int .i64 2, .int .i64 0, .int .i64 0, .int .i64 0]) (by simp [results, Try.results25, go_sem]) rfl ⟨by rw [← hddH.out], hF.out⟩
          · have z3 : 0 < mo := by omega
            rw [if_pos (.inl z3)] at hddH
            have z3' : (0 : Int) < (mo : Int) := by omega
            have hF := hF0
            clear hB
            go_wp2_with fail
            refine bodyPost_ret (v := .tuple #[.int .i64 2, .int .i64 0, .int .i64 0, .int .i64 0]) (by simp [results, Try.results25, go_sem]) rfl ⟨by rw [← hddH.out], hF.out⟩
    case pos =>
      have hx : (i : Int) < D := by have := hDH.out; omega
      have hm2 : wd + 1 - (i + 1) < wd + 1 - i := by omega
      have iw : IntKind.i64.wrap ((i : Int) + 1) = (i : Int) + 1 := IntWalk.i64_in _ (by omega)
      have mw : IntKind.i64.wrap ((mo : Int) + 1) = (mo : Int) + 1 := IntWalk.i64_in _ (by omega)
      have lw : IntKind.i64.wrap ((le : Int) + 1) = (le : Int) + 1 := IntWalk.i64_in _ (by omega)
      have s1 : cntN (moreP want ls m) (i + 1) = mo + if moreP want ls m i = true then 1 else 0 := by rw [hc.out.1]; rfl
      have s2 : cntN (lessP want ls m) (i + 1) = le + if lessP want ls m i = true then 1 else 0 := by rw [hc.out.2.1]; rfl
      have s3 : lastN (lessP want ls m) (i + 1) = if lessP want ls m i = true then i else la := by rw [hc.out.2.2]; rfl
      obtain ⟨x, hxx⟩ : ∃ x, want.getD i 0 = x := ⟨_, rfl⟩
      obtain ⟨y, hyy⟩ : ∃ y, ls.getD i 0 = y := ⟨_, rfl⟩
      have p1 : moreP want ls m i = decide ((i : Int) ≠ m ∧ x < y) := by unfold moreP; rw [hxx, hyy]
      have p2 : lessP want ls m i = decide ((i : Int) ≠ m ∧ y < x) := by unfold lessP; rw [hxx, hyy]
      have hwc := hwa.out i hlt
      rw [hxx] at hwc
      have hwcH := Lib.hid hwc
      have hBI := Lib.hid (fun W (hb : Below wr.heap.size wr W) => hB.out.below hb)
      have s1H := Lib.hid s1
      have s2H := Lib.hid s2
      have s3H := Lib.hid s3
      have hyyH := Lib.hid hyy
      clear hc hwc hxx s1 s2 s3 hyy
      by_cases hne : (i : Int) = m
      · rw [p1, decide_eq_false (fun h => h.1 hne), if_neg (by decide)] at s1H
        rw [p2, decide_eq_false (fun h => h.1 hne), if_neg (by decide)] at s2H s3H
        have hfin : Hid (mo = cntN (moreP want ls m) (i + 1) ∧ le = cntN (lessP want ls m) (i + 1) ∧ la = lastN (lessP want ls m) (i + 1)) := Lib.hid ⟨s1H.out.symm, s2H.out.symm, s3H.out.symm⟩
        have hie : ((i : Int) == m) = true := by simp [hne]
        clear p1 p2 s1H s2H s3H hne hwcH
        go_wp2_with fail
        go_roundw
        case rel => exact ⟨i + 1, mo, le, la, by go_num, rfl, rfl, rfl, hlt, by omega, by omega, hfin, hB⟩
        case measure => simp only [intOf]; omega
      · have hie : ((i : Int) == m) = false := by simp [hne]
        go_wp2_with fail
        (with_reducible refine (hwcH.out _).mono ?_)
        rintro e w2 ⟨rfl, hb2⟩
        have hB2 := Lib.hid (hBI.out _ hb2)
        clear hB hBI hb2 g0 g1 g2 g3 g4 hwcH
        obtain ⟨b1, o1, rfl, a1⟩ := ints_at (hIH.out w2 hB2.out.b) (k := i) (by rw [hnH2.out]; exact hlt)
        rw [hyyH.out] at a1
        have hin : (i : Int) < (n : Int) := by have := hnwH.out; omega
        have hin2 : i < n := by have := hnwH.out; omega
        by_cases hgt : x < y
        · rw [p1, decide_eq_true ⟨hne, hgt⟩, if_pos rfl] at s1H
          rw [p2, decide_eq_false (fun h => by omega), if_neg (by decide)] at s2H s3H
          have hfin : Hid (mo + 1 = cntN (moreP want ls m) (i + 1) ∧ le = cntN (lessP want ls m) (i + 1) ∧ la = lastN (lessP want ls m) (i + 1)) := Lib.hid ⟨s1H.out.symm, s2H.out.symm, s3H.out.symm⟩
          have hge : ¬ y < x := by omega
          clear p1 p2 s1H s2H s3H hne
          go_wp2_with fail
          go_roundw
          case rel => exact ⟨i + 1, mo + 1, le, la, by go_num, by go_num, rfl, rfl, hlt, by omega, by omega, hfin, hB2⟩
          case measure => simp only [intOf]; omega
        · by_cases hls : y < x
          · rw [p1, decide_eq_false (fun h => hgt h.2), if_neg (by decide)] at s1H
            rw [p2, decide_eq_true ⟨hne, hls⟩, if_pos rfl] at s2H s3H
            have hfin : Hid (mo = cntN (moreP want ls m) (i + 1) ∧ le + 1 = cntN (lessP want ls m) (i + 1) ∧ i = lastN (lessP want ls m) (i + 1)) := Lib.hid ⟨s1H.out.symm, s2H.out.symm, s3H.out.symm⟩
            clear p1 p2 s1H s2H s3H hne
            go_wp2_with fail
            go_roundw
            case rel => exact ⟨i + 1, mo, le + 1, i, by go_num, rfl, by go_num, rfl, hlt, by omega, by omega, hfin, hB2⟩
            case measure => simp only [intOf]; omega
          · rw [p1, decide_eq_false (fun h => hgt h.2), if_neg (by decide)] at s1H
            rw [p2, decide_eq_false (fun h => hls h.2), if_neg (by decide)] at s2H s3H
            have hfin : Hid (mo = cntN (moreP want ls m) (i + 1) ∧ le = cntN (lessP want ls m) (i + 1) ∧ la = lastN (lessP want ls m) (i + 1)) := Lib.hid ⟨s1H.out.symm, s2H.out.symm, s3H.out.symm⟩
            clear p1 p2 s1H s2H s3H hne
            go_wp2_with fail
            go_roundw
            case rel => exact ⟨i + 1, mo, le, la, by go_num, rfl, rfl, rfl, hlt, by omega, by omega, hfin, hB2⟩
            case measure => simp only [intOf]; omega
end Go.Proofs.Ytdnedahbghhpgaa
