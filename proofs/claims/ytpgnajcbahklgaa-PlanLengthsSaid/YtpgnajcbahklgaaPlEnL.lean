/- The law of a write's ends. -/
import Derived.Test.YtpgnajcbahklgaaPlSpk
import Derived.BigQuiet
import Derived.Test.YtpgnajcbahklgaaFreshC
namespace Go.Proofs.Ytpgnajcbahklgaa
open Go.RowKit Pl Tl

/-- A write that there is. -/
def wrB (D Z B O A zone f n : Int) : Bool := goodB D Z B O A && (exB D Z B O A zone && decide (0 ≤ f ∧ 1 ≤ n ∧ f + n ≤ (D - 1) * B))
theorem wr_yes {D Z B O A zone f n : Int} (h : wrB D Z B O A zone f n = true) : ∃ wd z f' n' : Nat, D = (wd : Int) + 1 ∧ zone = (z : Int) ∧ f = (f' : Int) ∧ n = (n' : Int) ∧ GoodP D Z B O A ∧ (z : Int) ≤ Z - 4 ∧ 1 ≤ n' ∧ (f' : Int) + (n' : Int) ≤ (D - 1) * B ∧ 2 ≤ wd ∧ wd ≤ 15 ∧ f' + n' ≤ 3840 := by
  unfold wrB at h
  rw [Bool.and_eq_true, Bool.and_eq_true, decide_eq_true_eq, goodB_iff] at h
  obtain ⟨hg, he, h1, h2, h3⟩ := h
  obtain ⟨_, z1, z2⟩ := exB_true he
  have hV := capV_bd D Z B O A
  rw [capV_good hg] at hV
  have d1 := hg.1
  have d2 := hg.2.1
  exact ⟨(D - 1).toNat, zone.toNat, f.toNat, n.toNat, by omega, by omega, by omega, by omega, hg, by omega, by omega, by rw [Int.toNat_of_nonneg h1, Int.toNat_of_nonneg (by omega)]; exact h3, by omega, by omega, by omega⟩
/-- What Write says of one that there isn't. -/
theorem write_no (D Z B O A zone f n : Int) (hf : f ≤ 9223372036854775807) (h : wrB D Z B O A zone f n = false) :
    ∃ k : Int, 1 ≤ k ∧ ∀ w, Calls Try.prog 26 #[.agg #[.int .i64 D, .int .i64 Z, .int .i64 B, .int .i64 O, .int .i64 A], .int .i64 zone, .int .i64 f, .int .i64 n] w (NoPost w k) := by
  by_cases hg : goodB D Z B O A = true
  · refine ⟨2, by decide, fun w => write_range D Z B O A zone f n w hf (goodB_iff.1 hg) ?_⟩
    unfold wrB at h
    rw [hg, Bool.true_and, Bool.and_eq_false_iff, decide_eq_false_iff_not] at h
    rcases h with h | h
    · exact .inl h
    · right; omega
  · exact ⟨1, by decide, fun w => write_arg D Z B O A zone f n w (by simpa using hg)⟩
/-- Where one stands among the steps, and what was counted. -/
def EnSt (wd z E f n : Nat) (L : List St) (i : Nat) (d p t : Int) : Prop :=
  ∃ b : Nat, f ≤ b ∧ ((Aft wd z E L i b ∧ d = (b : Int) - (f : Int) ∧ p = ((b / wd : Nat) : Int) - ((f / wd : Nat) : Int) ∧ t = 0) ∨
    (Mid wd z E L i b ∧ d = (b : Int) + 1 - (f : Int) ∧ p = ((b / wd : Nat) : Int) - ((f / wd : Nat) : Int) ∧ t = 0) ∨
    (i = L.length ∧ d = (n : Int) ∧ p = ((E / wd : Nat) : Int) - ((f / wd : Nat) : Int) ∧ t = 1 ∧ E % wd ≠ 0))
/-- What the end is to be. -/
theorem EnSt.fin {wd z E f n : Nat} {L : List St} {i : Nat} {d p t : Int} (h : EnSt wd z E f n L i d p t) (hE : f + n = E) (hi : ¬ i < L.length) : d = (n : Int) ∧ p = ((E / wd : Nat) : Int) - ((f / wd : Nat) : Int) ∧ ((t = 1 ∧ E % wd ≠ 0) ∨ (t = 0 ∧ E % wd = 0)) := by
  obtain ⟨b, hb, h | h | h⟩ := h
  · obtain ⟨h1, h2, h3, h4⟩ := h
    obtain ⟨e1, e2⟩ := h1.done hi
    subst e1
    exact ⟨by omega, h3, .inr ⟨h4, e2⟩⟩
  · obtain ⟨hlt, _⟩ := h.1.next
    exact absurd hlt hi
  · exact ⟨h.2.1, h.2.2.1, .inl ⟨h.2.2.2.1, h.2.2.2.2⟩⟩
/-- One step further. -/
theorem EnSt.next {wd z E f n : Nat} {L : List St} {i : Nat} {d p t : Int} (h : EnSt wd z E f n L i d p t) (hE : f + n = E) (hw : 0 < wd) (hi : i < L.length) :
    (L[i].k = 1 ∧ L[i].b = (f : Int) + d ∧ EnSt wd z E f n L (i + 1) (d + 1) p t) ∨ (L[i].k = 2 ∧ EnSt wd z E f n L (i + 1) d (p + 1) t) ∨ (L[i].k = 3 ∧ L[i].c = ((E % wd : Nat) : Int) ∧ i + 1 = L.length ∧ EnSt wd z E f n L (i + 1) d p (t + 1)) := by
  obtain ⟨b, hb, h | h | h⟩ := h
  · obtain ⟨h1, h2, h3, h4⟩ := h
    obtain ⟨hlt, e1, hn⟩ := h1.next hi
    left
    refine ⟨by rw [e1]; rfl, by rw [e1]; show (b : Int) = _; omega, ?_⟩
    rcases hn with ⟨h5, h6, _⟩ | h5
    · have hm := Nat.mod_lt b hw
      refine ⟨b + 1, by omega, .inl ⟨h5, by omega, ?_, h4⟩⟩
      rw [(div_next (b := b) (by omega)).1]; exact h3
    · exact ⟨b, hb, .inr (.inl ⟨h5, by omega, h3, h4⟩)⟩
  · obtain ⟨h1, h2, h3, h4⟩ := h
    obtain ⟨_, hlt, hn⟩ := h1.next
    right
    rcases hn with ⟨e1, e2, h5⟩ | ⟨e1, e2, e3, e4⟩
    · left
      refine ⟨by rw [e1]; rfl, b + 1, by omega, .inl ⟨h5, by omega, ?_, h4⟩⟩
      rw [(div_full hw e2).1]; omega
    · right
      have hm := Nat.mod_lt b hw
      have hd := div_next (w := wd) (b := b) (by omega)
      rw [e3] at hd
      refine ⟨by rw [e1]; rfl, by rw [e1, hd.2]; rfl, e4, b, hb, .inr (.inr ⟨e4, by omega, by rw [hd.1]; exact h3, by omega, by omega⟩)⟩
  · omega
theorem tmod_nat (a b : Nat) : (a : Int).tmod (b : Int) = ((a % b : Nat) : Int) := by
  rw [Int.tmod_eq_emod_of_nonneg (Int.natCast_nonneg _)]; exact (Int.natCast_emod a b).symm
theorem tdiv_nat (a b : Nat) : (a : Int).tdiv (b : Int) = ((a / b : Nat) : Int) := by
  rw [Int.tdiv_eq_ediv_of_nonneg (Int.natCast_nonneg _)]; exact (Int.natCast_ediv a b).symm
theorem wrap_back {i : Nat} (h : i ≤ 100000) : IntKind.i64.wrap ((i : Int) + 1 - 1) = (i : Int) ∧ wrap64 ((i : Int) + 1 - 1) = (i : Int) ∧ IntKind.i64.wrap (i : Int) = (i : Int) ∧ wrap64 (i : Int) = (i : Int) ∧ IntKind.i64.wrap ((i : Int) + 1) = (i : Int) + 1 :=
  ⟨by rw [IntWalk.i64_in _ (by omega)]; omega, by rw [IntWalk.wrap64_in _ (by omega)]; omega, IntWalk.i64_in _ (by omega), IntWalk.wrap64_in _ (by omega), IntWalk.i64_in _ (by omega)⟩
theorem wrap_sum {a b c : Nat} (h : a + b = c) (h2 : c ≤ 100000) : wrap64 ((a : Int) + (b : Int)) = (c : Int) ∧ IntKind.i64.wrap ((a : Int) + (b : Int)) = (c : Int) :=
  ⟨by rw [IntWalk.wrap64_in _ (by omega)]; omega, by rw [IntWalk.i64_in _ (by omega)]; omega⟩
theorem wrap_diff {a b : Nat} (h : a ≤ 100000) (h2 : b ≤ 100000) : IntKind.i64.wrap ((a : Int) - (b : Int)) = (a : Int) - (b : Int) ∧ IntKind.i64.wrap (a : Int) = (a : Int) ∧ IntKind.i64.wrap (b : Int) = (b : Int) :=
  ⟨IntWalk.i64_in _ (by omega), IntWalk.i64_in _ (by omega), IntWalk.i64_in _ (by omega)⟩
theorem ne_cast {a : Nat} (h : a ≠ 0) : ¬ ((a : Int) = 0) := by omega
set_option maxRecDepth 100000 in
set_option maxHeartbeats 4000000 in
theorem ends_law (D Z B O A zone f n : Int) (w : World) (hf : f ≤ 9223372036854775807) :
    Calls Try.prog 10 #[.agg #[.int .i64 D, .int .i64 Z, .int .i64 B, .int .i64 O, .int .i64 A], .int .i64 zone, .agg #[.int .i64 f, .int .i64 n]] w fun e w' => e = .returned (.bool true) ∧ Below w.heap.size w w' := by
  have hsp := Lib.hid (fun W => speaks13 W)
  have hB0 : Below w.heap.size w ((w.alloc (.cells #[.int .i64 D, .int .i64 Z, .int .i64 B, .int .i64 O, .int .i64 A] 67)).alloc (.cells #[.int .i64 f, .int .i64 n] 45)) := ((Below.refl _ _).alloc (Nat.le_refl _) _).alloc (by simp) _
  have hs0 : ((w.alloc (.cells #[.int .i64 D, .int .i64 Z, .int .i64 B, .int .i64 O, .int .i64 A] 67)).alloc (.cells #[.int .i64 f, .int .i64 n] 45)).heap.size = w.heap.size + 2 := by simp
  have hG0 := (GeoAt.new w D Z B O A 67).below ((Below.refl _ _).alloc (Nat.le_refl _) (.cells #[.int .i64 f, .int .i64 n] 45))
  have hP0 : ((w.alloc (.cells #[.int .i64 D, .int .i64 Z, .int .i64 B, .int .i64 O, .int .i64 A] 67)).alloc (.cells #[.int .i64 f, .int .i64 n] 45)).cell? ⟨w.heap.size + 1, 0, none⟩ = some (.int .i64 f) ∧ ((w.alloc (.cells #[.int .i64 D, .int .i64 Z, .int .i64 B, .int .i64 O, .int .i64 A] 67)).alloc (.cells #[.int .i64 f, .int .i64 n] 45)).cell? ⟨w.heap.size + 1, 1, none⟩ = some (.int .i64 n) := by
    constructor <;> go_simp
  go_enter Try.func10, Try.ntmps10
  go_wp2_with fail
  generalize (w.alloc (.cells #[.int .i64 D, .int .i64 Z, .int .i64 B, .int .i64 O, .int .i64 A] 67)).alloc (.cells #[.int .i64 f, .int .i64 n] 45) = W0 at hB0 hs0 hG0 hP0 ⊢
  (with_reducible refine (hsp.out _).mono ?_)
  rintro e w1 ⟨rfl, hb1⟩
  have hB1 := hB0.trans (hb1.mono hB0.size)
  have hG1 := hG0.below hb1
  have hP1 : w1.cell? ⟨w.heap.size + 1, 0, none⟩ = some (.int .i64 f) ∧ w1.cell? ⟨w.heap.size + 1, 1, none⟩ = some (.int .i64 n) := ⟨(hb1.cell (p := ⟨w.heap.size + 1, 0, none⟩) (by show w.heap.size + 1 < _; omega)).trans hP0.1, (hb1.cell (p := ⟨w.heap.size + 1, 1, none⟩) (by show w.heap.size + 1 < _; omega)).trans hP0.2⟩
  clear hB0 hs0 hG0 hP0 hb1
  obtain ⟨p0, p1⟩ := hP1
  have hB1H := Lib.hid hB1
  have hG1H := Lib.hid hG1
  obtain ⟨g0, g1, g2, g3, g4, _⟩ := hG1
  clear hB1 hsp
  go_upto_region 3 with fail
  go_quiet (fail)
  cases hok : wrB D Z B O A zone f n with
  | false =>
    obtain ⟨k, hk, hc⟩ := write_no D Z B O A zone f n hf hok
    have hcH := Lib.hid hc
    clear hc hok
    have k0 : ¬ (k = 0) := by omega
    go_wp2_with fail
    (with_reducible refine (hcH.out _).mono ?_)
    rintro e w2 ⟨rfl, hb2⟩
    have hF := Lib.hid (bmore (below_drewN hB1H.out _) hb2)
    clear hb2
    go_wp2
    go_ret
    exact ⟨rfl, hF.out⟩
  | true =>
    obtain ⟨wd, z, f', n', hD, rfl, rfl, rfl, hg, hz, hn1, hcap, hw2, hw15, hfn⟩ := wr_yes hok
    have hcH := Lib.hid (fun W => write_good wd z f' n' D Z B O A hD W hg hz hn1 hcap)
    obtain ⟨E, hE⟩ : ∃ E, f' + n' = E := ⟨_, rfl⟩
    rw [hE] at hcH hfn
    have hD1 : wrap64 (D - 1) = (wd : Int) := by rw [IntWalk.wrap64_in _ (by omega)]; omega
    clear hok hg hz hcap hD
    go_wp2_with fail
    (with_reducible refine (hcH.out _).mono ?_)
    rintro e w2 ⟨A1, cap1, rfl, hR, hb2⟩
    have hB2H := Lib.hid (bmore (below_drewN hB1H.out _) hb2)
    have hG2 := hG1H.out.below (bmore (below_drewN (Below.refl w1.heap.size w1) _) hb2)
    obtain ⟨q0, q1, q2, q3, q4, _⟩ := hG2
    have hst : EnSt wd z E f' n' (steps wd z E f' n') 0 0 0 0 := ⟨f', Nat.le_refl _, .inl ⟨by rw [← hE]; exact aft_start hn1, by omega, by omega, rfl⟩⟩
    have hll := steps_len (w := wd) (z := z) (e := E) n' f'
    obtain ⟨L, hL⟩ : ∃ L, steps wd z E f' n' = L := ⟨_, rfl⟩
    rw [hL] at hR hst hll ⊢
    obtain ⟨nl, hnl⟩ : ∃ nl, L.length = nl := ⟨_, rfl⟩
    rw [hnl] at hll
    rw [hnl]
    have hnlH := Lib.hid hnl
    clear hnl
    have hRH := Lib.hid hR
    have hstH := Lib.hid hst
    clear hb2 hR hst hL hB1H hG1H hcH
    have hw0 : 0 < wd := by omega
    have wne : ¬ ((wd : Int) = 0) := by omega
    have em := tmod_nat E wd
    have ed := tdiv_nat E wd
    have ef := tdiv_nat f' wd
    have hE9 : E ≤ 100000 := by omega
    have hq1 : E / wd ≤ E := Nat.div_le_self _ _
    have hq2 : f' / wd ≤ f' := Nat.div_le_self _ _
    have hq3 : f' / wd ≤ E / wd := Nat.div_le_div_right (by omega)
    obtain ⟨RE, hRE⟩ : ∃ RE, E % wd = RE := ⟨_, rfl⟩
    obtain ⟨QE, hQE⟩ : ∃ QE, E / wd = QE := ⟨_, rfl⟩
    obtain ⟨QF, hQF⟩ : ∃ QF, f' / wd = QF := ⟨_, rfl⟩
    rw [hRE] at em
    rw [hQE] at ed hq1 hq3
    rw [hQF] at ef hq2 hq3
    have hREH := Lib.hid hRE
    have hQEH := Lib.hid hQE
    have hQFH := Lib.hid hQF
    have emH := Lib.hid em
    have edH := Lib.hid ed
    have efH := Lib.hid ef
    have hQ9 := Lib.hid (And.intro (Nat.le_trans hq1 hE9) (Nat.le_trans (Nat.le_trans hq3 hq1) hE9))
    clear hRE hQE hQF em ed ef hq1 hq2 hq3
    have wne1 : ¬ ((wd : Int) = -1) := by omega
    have wne2 : ¬ (wd = 0) := by omega
    go_wp2_with fail
    go_loopw [12, 13, 14, 15] (fun s12 s13 s14 s15 wr => ∃ (i : Nat) (d p t : Int), s15 = .int .i64 (i : Int) ∧ s12 = .int .i64 d ∧ s13 = .int .i64 p ∧ s14 = .int .i64 t ∧ i ≤ nl ∧ Hid (EnSt wd z E f' n' L i d p t) ∧ (0 ≤ d ∧ d ≤ i ∧ 0 ≤ p ∧ p ≤ i ∧ 0 ≤ t ∧ t ≤ i) ∧ Hid (Below w2.heap.size w2 wr)) (fun _ _ _ s15 _ => nl - (intOf s15).toNat)
    case atStart => exact ⟨0, 0, 0, 0, rfl, rfl, rfl, rfl, Nat.zero_le _, hstH, by omega, Lib.hid (Below.refl _ _)⟩
    case round =>
      clear hstH
      obtain ⟨i, d, p, t, rfl, rfl, rfl, rfl, hi, hst, ⟨hd1, hd2, hp1, hp2, ht1, ht2⟩, hbr⟩ := hrel
      by_cases hlt : i < nl
      case pos =>
        have hlt' : i < L.length := by rw [hnlH.out]; exact hlt
        obtain ⟨g, rfl, hcap, a0, a1, a2, a3, a4⟩ := st_at (hRH.out.below hbr.out) hlt'
        have hnx := hst.out.next hE hw0 hlt'
        rw [hnlH.out] at hcap hnx
        clear hst
        generalize L[i] = x at a0 a1 a2 a3 a4 hnx
        obtain ⟨x0, x1, x2, x3, x4⟩ := x
        change _ = some (Value.int .i64 x0) at a0
        change _ = some (Value.int .i64 x3) at a3
        change _ = some (Value.int .i64 x4) at a4
        have hA1 := Lib.hid (show 0 ≤ d + 1 ∧ d + 1 ≤ ((i + 1 : Nat) : Int) ∧ 0 ≤ p ∧ p ≤ ((i + 1 : Nat) : Int) ∧ 0 ≤ t ∧ t ≤ ((i + 1 : Nat) : Int) by omega)
        have hA2 := Lib.hid (show 0 ≤ d ∧ d ≤ ((i + 1 : Nat) : Int) ∧ 0 ≤ p + 1 ∧ p + 1 ≤ ((i + 1 : Nat) : Int) ∧ 0 ≤ t ∧ t ≤ ((i + 1 : Nat) : Int) by omega)
        have hA3 := Lib.hid (show 0 ≤ d ∧ d ≤ ((i + 1 : Nat) : Int) ∧ 0 ≤ p ∧ p ≤ ((i + 1 : Nat) : Int) ∧ 0 ≤ t + 1 ∧ t + 1 ≤ ((i + 1 : Nat) : Int) by omega)
        have iw : IntKind.i64.wrap ((i : Int) + 1) = (i : Int) + 1 := IntWalk.i64_in _ (by omega)
        have hi9 : i ≤ 100000 := by omega
        rcases hnx with ⟨h1, h2, h3⟩ | ⟨h1, h3⟩ | ⟨h1, h2, h4, h3⟩
        · change x0 = 1 at h1
          change x3 = _ at h2
          subst h1
          subst h2
          have hstH := Lib.hid h3
          have dw : IntKind.i64.wrap (d + 1) = d + 1 := IntWalk.i64_in _ (by omega)
          have dw2 : IntKind.i64.wrap ((f' : Int) + d) = (f' : Int) + d := IntWalk.i64_in _ (by omega)
          clear h3
          go_wp2_with fail
          go_roundw
          case rel => exact ⟨i + 1, d + 1, p, t, by go_num, rfl, rfl, rfl, hlt, hstH, hA1.out, hbr⟩
          case measure => simp [intOf]; omega
        · change x0 = 2 at h1
          subst h1
          have hstH := Lib.hid h3
          have dw : IntKind.i64.wrap (p + 1) = p + 1 := IntWalk.i64_in _ (by omega)
          clear h3
          go_wp2_with fail
          go_roundw
          case rel => exact ⟨i + 1, d, p + 1, t, by go_num, rfl, rfl, rfl, hlt, hstH, hA2.out, hbr⟩
          case measure => simp [intOf]; omega
        · change x0 = 3 at h1
          change x4 = _ at h2
          rw [hREH.out] at h2
          subst h1
          subst h2
          have hstH := Lib.hid h3
          have dw : IntKind.i64.wrap (t + 1) = t + 1 := IntWalk.i64_in _ (by omega)
          clear h3
          subst h4
          obtain ⟨ew, ew2⟩ := wrap_sum hE hE9
          have em := emH.out
          obtain ⟨iw2, iw3, iw4, iw5, -⟩ := wrap_back hi9
          go_upto_region 14 with fail
          have hS0 : wr.drew.cell? ⟨g, i * 5 + 4, none⟩ = some (Value.int .i64 (RE : Int)) ∧ Below w2.heap.size w2 wr.drew := ⟨a4, hbr.out.drew⟩
          refine region_anyC (fun _ => true) (fun W => W.cell? ⟨g, i * 5 + 4, none⟩ = some (Value.int .i64 (RE : Int)) ∧ Below w2.heap.size w2 W) (by kernel_rfl) ?_
          refine anyL_take 0 (v := ?_) rfl (by kernel_rfl) (fun _ _ _ h => h) (Or.inl ⟨by rfl, ?_⟩) hS0 ?_
          rotate_left
          focus (intro W hW; go_simp; try with_reducible rfl)
          simp only [Act.put, List.setIfInBounds_toArray, List.set_cons_zero, List.set_cons_succ]
          refine anyL_take 1 (v := ?_) rfl (by kernel_rfl) (fun _ _ _ h => h) (Or.inl ⟨by rfl, ?_⟩) hS0 ?_
          rotate_left
          focus (intro W hW; go_simp; try with_reducible rfl)
          simp only [Act.put, List.setIfInBounds_toArray, List.set_cons_zero, List.set_cons_succ]
          refine anyL_take 2 (v := ?_) rfl (by kernel_rfl) (fun _ _ _ h => h) (Or.inl ⟨by rfl, ?_⟩) hS0 ?_
          rotate_left
          focus (intro W hW; go_simp; try with_reducible rfl)
          simp only [Act.put, List.setIfInBounds_toArray, List.set_cons_zero, List.set_cons_succ]
          refine anyL_take 3 (v := ?_) rfl (by kernel_rfl) (fun _ _ _ h => h) (Or.inl ⟨by rfl, ?_⟩) hS0 ?_
          rotate_left
          focus (intro W hW; go_simp; try with_reducible rfl)
          simp only [Act.put, List.setIfInBounds_toArray, List.set_cons_zero, List.set_cons_succ]
          refine anyL_take 4 (v := ?_) rfl (by kernel_rfl) (fun _ _ _ h => h) (Or.inl ⟨by rfl, ?_⟩) hS0 ?_
          rotate_left
          focus (intro W hW; go_simp; try with_reducible rfl)
          simp only [Act.put, List.setIfInBounds_toArray, List.set_cons_zero, List.set_cons_succ]
          refine anyL_take 5 (v := ?_) rfl (by kernel_rfl) (fun _ _ _ h => h) (Or.inl ⟨by rfl, ?_⟩) hS0 ?_
          rotate_left
          focus (intro W hW; go_simp; try with_reducible rfl)
          simp only [Act.put, List.setIfInBounds_toArray, List.set_cons_zero, List.set_cons_succ]
          refine anyL_take 6 (v := ?_) rfl (by kernel_rfl) (fun _ _ _ h => h) (Or.inl ⟨by rfl, ?_⟩) hS0 ?_
          rotate_left
          focus (intro W hW; go_simp; try with_reducible rfl)
          simp only [Act.put, List.setIfInBounds_toArray, List.set_cons_zero, List.set_cons_succ]
          refine anyL_take 7 (v := ?_) rfl (by kernel_rfl) (fun _ _ _ h => h) (Or.inl ⟨by rfl, ?_⟩) hS0 ?_
          rotate_left
          focus (intro W hW; go_simp; try with_reducible rfl)
          simp only [Act.put, List.setIfInBounds_toArray, List.set_cons_zero, List.set_cons_succ]
          refine anyL_take 8 (v := ?_) rfl (by kernel_rfl) (fun _ _ _ h => h) (Or.inl ⟨by rfl, ?_⟩) hS0 ?_
          rotate_left
          focus (intro W hW; go_simp; try with_reducible rfl)
          simp only [Act.put, List.setIfInBounds_toArray, List.set_cons_zero, List.set_cons_succ]
          refine anyL_take 9 (v := ?_) rfl (by kernel_rfl) (fun _ _ _ h => h) (Or.inl ⟨by rfl, ?_⟩) hS0 ?_
          rotate_left
          focus (intro W hW; go_simp; try with_reducible rfl)
          simp only [Act.put, List.setIfInBounds_toArray, List.set_cons_zero, List.set_cons_succ]
          refine anyL_take 10 (v := ?_) rfl (by kernel_rfl) (fun _ _ _ h => h) (Or.inl ⟨by rfl, ?_⟩) hS0 ?_
          rotate_left
          focus (intro W hW; have y4 := hW.1; go_simp; try with_reducible rfl)
          simp only [Act.put, List.setIfInBounds_toArray, List.set_cons_zero, List.set_cons_succ]
          refine anyL_take 11 (v := ?_) rfl (by kernel_rfl) (fun _ _ _ h => h) (Or.inl ⟨by rfl, ?_⟩) hS0 ?_
          rotate_left
          focus (intro W hW; go_simp; try with_reducible rfl)
          simp only [Act.put, List.setIfInBounds_toArray, List.set_cons_zero, List.set_cons_succ]
          refine anyL_take 12 (v := ?_) rfl (by kernel_rfl) (fun _ _ _ h => h) (Or.inl ⟨by rfl, ?_⟩) hS0 ?_
          rotate_left
          focus (intro W hW; go_simp; try with_reducible rfl)
          simp only [Act.put, List.setIfInBounds_toArray, List.set_cons_zero, List.set_cons_succ]
          refine anyL_take 13 (v := ?_) rfl (by kernel_rfl) (fun _ _ _ h => h) (Or.inl ⟨by rfl, ?_⟩) hS0 ?_
          rotate_left
          focus (intro W hW; go_simp; try with_reducible rfl)
          simp only [Act.put, List.setIfInBounds_toArray, List.set_cons_zero, List.set_cons_succ]
          refine anyL_take 14 (v := ?_) rfl (by kernel_rfl) (fun _ _ _ h => h) (Or.inl ⟨by rfl, ?_⟩) hS0 ?_
          rotate_left
          focus (intro W hW; go_simp; try with_reducible rfl)
          simp only [Act.put, List.setIfInBounds_toArray, List.set_cons_zero, List.set_cons_succ]
          refine anyL_take 15 (v := ?_) rfl (by kernel_rfl) (fun _ _ _ h => h) (Or.inl ⟨by rfl, ?_⟩) hS0 ?_
          rotate_left
          focus (intro W hW; go_simp; try with_reducible rfl)
          simp only [Act.put, List.setIfInBounds_toArray, List.set_cons_zero, List.set_cons_succ]
          refine anyL_take 16 (v := ?_) rfl (by kernel_rfl) (fun _ _ _ h => h) (Or.inl ⟨by rfl, ?_⟩) hS0 ?_
          rotate_left
          focus (intro W hW; go_simp; try with_reducible rfl)
          simp only [Act.put, List.setIfInBounds_toArray, List.set_cons_zero, List.set_cons_succ]
          refine anyL_take 17 (v := ?_) rfl (by kernel_rfl) (fun _ _ _ h => h) (Or.inl ⟨by rfl, ?_⟩) hS0 ?_
          rotate_left
          focus (intro W hW; go_simp; try with_reducible rfl)
          simp only [Act.put, List.setIfInBounds_toArray, List.set_cons_zero, List.set_cons_succ]
          refine anyC_done (by kernel_rfl) ?_ _
          clear em
          go_wp2_with fail
          go_roundw
          case rel => exact ⟨i + 1, d, p, t + 1, by go_num, rfl, rfl, rfl, hlt, hstH, hA3.out, Lib.hid hbr.out.drew⟩
          case measure => simp [intOf]
      case neg =>
        obtain ⟨f1, f2, f3⟩ := hst.out.fin hE (by rw [hnlH.out]; exact hlt)
        rw [hQEH.out, hQFH.out] at f2
        rw [hREH.out] at f3
        subst f1
        subst f2
        clear hst
        obtain ⟨ew, ew2⟩ := wrap_sum hE hE9
        have em := emH.out
        have ed := edH.out
        have ef := efH.out
        obtain ⟨qw, qw1, qw2⟩ := wrap_diff hQ9.out.1 hQ9.out.2
        have hBF : Below w.heap.size w wr.drew := bmore hB2H.out hbr.out.drew
        have hBFH := Lib.hid hBF
        rcases f3 with ⟨rfl, f3⟩ | ⟨rfl, f3⟩
        case inl =>
          have f4 := ne_cast f3
          have f6 : ((RE : Int) != 0) = true := by rw [bne_iff_ne]; exact f4
          have f7 : ((RE : Int) == 0) = false := by rw [beq_eq_false_iff_ne]; exact f4
          have f8 : (RE == 0) = false := by rw [beq_eq_false_iff_ne]; exact f3
          have f9 : (RE != 0) = true := by rw [bne_iff_ne]; exact f3
          have f5 : ¬ (RE = 0) := f3
          go_upto_region 22 with fail
          have hS0 : Below w.heap.size w wr.drew := hBFH.out
          refine region_anyC (fun _ => true) (fun W => Below w.heap.size w W) (by kernel_rfl) ?_
          refine anyL_take 0 (v := ?_) rfl (by kernel_rfl) (fun _ _ _ h => h) (Or.inl ⟨by rfl, ?_⟩) hS0 ?_
          rotate_left
          focus (intro W hW; go_simp; try with_reducible rfl)
          simp only [Act.put, List.setIfInBounds_toArray, List.set_cons_zero, List.set_cons_succ]
          refine anyL_take 1 (v := ?_) rfl (by kernel_rfl) (fun _ _ _ h => h) (Or.inl ⟨by rfl, ?_⟩) hS0 ?_
          rotate_left
          focus (intro W hW; go_simp; try with_reducible rfl)
          simp only [Act.put, List.setIfInBounds_toArray, List.set_cons_zero, List.set_cons_succ]
          refine anyL_take 2 (v := ?_) rfl (by kernel_rfl) (fun _ _ _ h => h) (Or.inl ⟨by rfl, ?_⟩) hS0 ?_
          rotate_left
          focus (intro W hW; go_simp; try with_reducible rfl)
          simp only [Act.put, List.setIfInBounds_toArray, List.set_cons_zero, List.set_cons_succ]
          refine anyL_take 3 (v := ?_) rfl (by kernel_rfl) (fun _ _ _ h => h) (Or.inl ⟨by rfl, ?_⟩) hS0 ?_
          rotate_left
          focus (intro W hW; go_simp; try with_reducible rfl)
          simp only [Act.put, List.setIfInBounds_toArray, List.set_cons_zero, List.set_cons_succ]
          refine anyL_take 4 (v := ?_) rfl (by kernel_rfl) (fun _ _ _ h => h) (Or.inl ⟨by rfl, ?_⟩) hS0 ?_
          rotate_left
          focus (intro W hW; go_simp; try with_reducible rfl)
          simp only [Act.put, List.setIfInBounds_toArray, List.set_cons_zero, List.set_cons_succ]
          refine anyL_take 5 (v := ?_) rfl (by kernel_rfl) (fun _ _ _ h => h) (Or.inl ⟨by rfl, ?_⟩) hS0 ?_
          rotate_left
          focus (intro W hW; go_simp; try with_reducible rfl)
          simp only [Act.put, List.setIfInBounds_toArray, List.set_cons_zero, List.set_cons_succ]
          refine anyL_take 6 (v := ?_) rfl (by kernel_rfl) (fun _ _ _ h => h) (Or.inl ⟨by rfl, ?_⟩) hS0 ?_
          rotate_left
          focus (intro W hW; go_simp; try with_reducible rfl)
          simp only [Act.put, List.setIfInBounds_toArray, List.set_cons_zero, List.set_cons_succ]
          refine anyL_take 7 (v := ?_) rfl (by kernel_rfl) (fun _ _ _ h => h) (Or.inl ⟨by rfl, ?_⟩) hS0 ?_
          rotate_left
          focus (intro W hW; go_simp; try with_reducible rfl)
          simp only [Act.put, List.setIfInBounds_toArray, List.set_cons_zero, List.set_cons_succ]
          refine anyL_take 8 (v := ?_) rfl (by kernel_rfl) (fun _ _ _ h => h) (Or.inl ⟨by rfl, ?_⟩) hS0 ?_
          rotate_left
          focus (intro W hW; go_simp; try with_reducible rfl)
          simp only [Act.put, List.setIfInBounds_toArray, List.set_cons_zero, List.set_cons_succ]
          refine anyL_take 9 (v := ?_) rfl (by kernel_rfl) (fun _ _ _ h => h) (Or.inl ⟨by rfl, ?_⟩) hS0 ?_
          rotate_left
          focus (intro W hW; go_simp; try with_reducible rfl)
          simp only [Act.put, List.setIfInBounds_toArray, List.set_cons_zero, List.set_cons_succ]
          refine anyL_take 10 (v := ?_) rfl (by kernel_rfl) (fun _ _ _ h => h) (Or.inl ⟨by rfl, ?_⟩) hS0 ?_
          rotate_left
          focus (intro W hW; go_simp; try with_reducible rfl)
          simp only [Act.put, List.setIfInBounds_toArray, List.set_cons_zero, List.set_cons_succ]
          refine anyL_take 11 (v := ?_) rfl (by kernel_rfl) (fun _ _ _ h => h) (Or.inl ⟨by rfl, ?_⟩) hS0 ?_
          rotate_left
          focus (intro W hW; go_simp; try with_reducible rfl)
          simp only [Act.put, List.setIfInBounds_toArray, List.set_cons_zero, List.set_cons_succ]
          refine anyL_take 12 (v := ?_) rfl (by kernel_rfl) (fun _ _ _ h => h) (Or.inl ⟨by rfl, ?_⟩) hS0 ?_
          rotate_left
          focus (intro W hW; go_simp; try with_reducible rfl)
          simp only [Act.put, List.setIfInBounds_toArray, List.set_cons_zero, List.set_cons_succ]
          refine anyL_take 13 (v := ?_) rfl (by kernel_rfl) (fun _ _ _ h => h) (Or.inl ⟨by rfl, ?_⟩) hS0 ?_
          rotate_left
          focus (intro W hW; go_simp; try with_reducible rfl)
          simp only [Act.put, List.setIfInBounds_toArray, List.set_cons_zero, List.set_cons_succ]
          refine anyL_take 14 (v := ?_) rfl (by kernel_rfl) (fun _ _ _ h => h) (Or.inl ⟨by rfl, ?_⟩) hS0 ?_
          rotate_left
          focus (intro W hW; go_simp; try with_reducible rfl)
          simp only [Act.put, List.setIfInBounds_toArray, List.set_cons_zero, List.set_cons_succ]
          refine anyL_take 15 (v := ?_) rfl (by kernel_rfl) (fun _ _ _ h => h) (Or.inl ⟨by rfl, ?_⟩) hS0 ?_
          rotate_left
          focus (intro W hW; go_simp; try with_reducible rfl)
          simp only [Act.put, List.setIfInBounds_toArray, List.set_cons_zero, List.set_cons_succ]
          refine anyL_take 16 (v := ?_) rfl (by kernel_rfl) (fun _ _ _ h => h) (Or.inl ⟨by rfl, ?_⟩) hS0 ?_
          rotate_left
          focus (intro W hW; go_simp; try with_reducible rfl)
          simp only [Act.put, List.setIfInBounds_toArray, List.set_cons_zero, List.set_cons_succ]
          refine anyL_take 17 (v := ?_) rfl (by kernel_rfl) (fun _ _ _ h => h) (Or.inl ⟨by rfl, ?_⟩) hS0 ?_
          rotate_left
          focus (intro W hW; go_simp; try with_reducible rfl)
          simp only [Act.put, List.setIfInBounds_toArray, List.set_cons_zero, List.set_cons_succ]
          refine anyL_take 18 (v := ?_) rfl (by kernel_rfl) (fun _ _ _ h => h) (Or.inl ⟨by rfl, ?_⟩) hS0 ?_
          rotate_left
          focus (intro W hW; go_simp; try with_reducible rfl)
          simp only [Act.put, List.setIfInBounds_toArray, List.set_cons_zero, List.set_cons_succ]
          refine anyL_take 19 (v := ?_) rfl (by kernel_rfl) (fun _ _ _ h => h) (Or.inl ⟨by rfl, ?_⟩) hS0 ?_
          rotate_left
          focus (intro W hW; go_simp; try with_reducible rfl)
          simp only [Act.put, List.setIfInBounds_toArray, List.set_cons_zero, List.set_cons_succ]
          refine anyL_take 20 (v := ?_) rfl (by kernel_rfl) (fun _ _ _ h => h) (Or.inl ⟨by rfl, ?_⟩) hS0 ?_
          rotate_left
          focus (intro W hW; go_simp; try with_reducible rfl)
          simp only [Act.put, List.setIfInBounds_toArray, List.set_cons_zero, List.set_cons_succ]
          refine anyL_take 21 (v := ?_) rfl (by kernel_rfl) (fun _ _ _ h => h) (Or.inl ⟨by rfl, ?_⟩) hS0 ?_
          rotate_left
          focus (intro W hW; go_simp; try with_reducible rfl)
          simp only [Act.put, List.setIfInBounds_toArray, List.set_cons_zero, List.set_cons_succ]
          refine anyL_take 22 (v := ?_) rfl (by kernel_rfl) (fun _ _ _ h => h) (Or.inl ⟨by rfl, ?_⟩) hS0 ?_
          rotate_left
          focus (intro W hW; go_simp; try with_reducible rfl)
          simp only [Act.put, List.setIfInBounds_toArray, List.set_cons_zero, List.set_cons_succ]
          refine anyL_take 23 (v := ?_) rfl (by kernel_rfl) (fun _ _ _ h => h) (Or.inl ⟨by rfl, ?_⟩) hS0 ?_
          rotate_left
          focus (intro W hW; go_simp; try with_reducible rfl)
          simp only [Act.put, List.setIfInBounds_toArray, List.set_cons_zero, List.set_cons_succ]
          refine anyL_take 24 (v := ?_) rfl (by kernel_rfl) (fun _ _ _ h => h) (Or.inl ⟨by rfl, ?_⟩) hS0 ?_
          rotate_left
          focus (intro W hW; go_simp; try with_reducible rfl)
          simp only [Act.put, List.setIfInBounds_toArray, List.set_cons_zero, List.set_cons_succ]
          refine anyL_take 25 (v := ?_) rfl (by kernel_rfl) (fun _ _ _ h => h) (Or.inl ⟨by rfl, ?_⟩) hS0 ?_
          rotate_left
          focus (intro W hW; go_simp; try with_reducible rfl)
          simp only [Act.put, List.setIfInBounds_toArray, List.set_cons_zero, List.set_cons_succ]
          refine anyL_take 26 (v := ?_) rfl (by kernel_rfl) (fun _ _ _ h => h) (Or.inl ⟨by rfl, ?_⟩) hS0 ?_
          rotate_left
          focus (intro W hW; go_simp; try with_reducible rfl)
          simp only [Act.put, List.setIfInBounds_toArray, List.set_cons_zero, List.set_cons_succ]
          refine anyL_take 27 (v := ?_) rfl (by kernel_rfl) (fun _ _ _ h => h) (Or.inl ⟨by rfl, ?_⟩) hS0 ?_
          rotate_left
          focus (intro W hW; go_simp; try with_reducible rfl)
          simp only [Act.put, List.setIfInBounds_toArray, List.set_cons_zero, List.set_cons_succ]
          refine anyL_take 28 (v := ?_) rfl (by kernel_rfl) (fun _ _ _ h => h) (Or.inl ⟨by rfl, ?_⟩) hS0 ?_
          rotate_left
          focus (intro W hW; go_simp; try with_reducible rfl)
          simp only [Act.put, List.setIfInBounds_toArray, List.set_cons_zero, List.set_cons_succ]
          refine anyL_take 29 (v := ?_) rfl (by kernel_rfl) (fun _ _ _ h => h) (Or.inl ⟨by rfl, ?_⟩) hS0 ?_
          rotate_left
          focus (intro W hW; go_simp; try with_reducible rfl)
          simp only [Act.put, List.setIfInBounds_toArray, List.set_cons_zero, List.set_cons_succ]
          refine anyL_take 30 (v := ?_) rfl (by kernel_rfl) (fun _ _ _ h => h) (Or.inl ⟨by rfl, ?_⟩) hS0 ?_
          rotate_left
          focus (intro W hW; go_simp; try with_reducible rfl)
          simp only [Act.put, List.setIfInBounds_toArray, List.set_cons_zero, List.set_cons_succ]
          refine anyL_one 31 rfl (by kernel_rfl) (fun K hK => ?_)
          go_simp
          refine hK.out _ _ (fun _ => hS0) ?_
          clear hK K
          try simp only [Act.put, List.setIfInBounds_toArray, List.set_cons_zero, List.set_cons_succ]
          refine anyC_done (by kernel_rfl) ?_ _
          go_wp2
          go_ret
          exact ⟨rfl, hBFH.out⟩
        case inr =>
          subst f3
          go_upto_region 22 with fail
          have hS0 : Below w.heap.size w wr.drew := hBFH.out
          refine region_anyC (fun _ => true) (fun W => Below w.heap.size w W) (by kernel_rfl) ?_
          refine anyL_take 0 (v := ?_) rfl (by kernel_rfl) (fun _ _ _ h => h) (Or.inl ⟨by rfl, ?_⟩) hS0 ?_
          rotate_left
          focus (intro W hW; go_simp; try with_reducible rfl)
          simp only [Act.put, List.setIfInBounds_toArray, List.set_cons_zero, List.set_cons_succ]
          refine anyL_take 1 (v := ?_) rfl (by kernel_rfl) (fun _ _ _ h => h) (Or.inl ⟨by rfl, ?_⟩) hS0 ?_
          rotate_left
          focus (intro W hW; go_simp; try with_reducible rfl)
          simp only [Act.put, List.setIfInBounds_toArray, List.set_cons_zero, List.set_cons_succ]
          refine anyL_take 2 (v := ?_) rfl (by kernel_rfl) (fun _ _ _ h => h) (Or.inl ⟨by rfl, ?_⟩) hS0 ?_
          rotate_left
          focus (intro W hW; go_simp; try with_reducible rfl)
          simp only [Act.put, List.setIfInBounds_toArray, List.set_cons_zero, List.set_cons_succ]
          refine anyL_take 3 (v := ?_) rfl (by kernel_rfl) (fun _ _ _ h => h) (Or.inl ⟨by rfl, ?_⟩) hS0 ?_
          rotate_left
          focus (intro W hW; go_simp; try with_reducible rfl)
          simp only [Act.put, List.setIfInBounds_toArray, List.set_cons_zero, List.set_cons_succ]
          refine anyL_take 4 (v := ?_) rfl (by kernel_rfl) (fun _ _ _ h => h) (Or.inl ⟨by rfl, ?_⟩) hS0 ?_
          rotate_left
          focus (intro W hW; go_simp; try with_reducible rfl)
          simp only [Act.put, List.setIfInBounds_toArray, List.set_cons_zero, List.set_cons_succ]
          refine anyL_take 5 (v := ?_) rfl (by kernel_rfl) (fun _ _ _ h => h) (Or.inl ⟨by rfl, ?_⟩) hS0 ?_
          rotate_left
          focus (intro W hW; go_simp; try with_reducible rfl)
          simp only [Act.put, List.setIfInBounds_toArray, List.set_cons_zero, List.set_cons_succ]
          refine anyL_take 6 (v := ?_) rfl (by kernel_rfl) (fun _ _ _ h => h) (Or.inl ⟨by rfl, ?_⟩) hS0 ?_
          rotate_left
          focus (intro W hW; go_simp; try with_reducible rfl)
          simp only [Act.put, List.setIfInBounds_toArray, List.set_cons_zero, List.set_cons_succ]
          refine anyL_take 7 (v := ?_) rfl (by kernel_rfl) (fun _ _ _ h => h) (Or.inl ⟨by rfl, ?_⟩) hS0 ?_
          rotate_left
          focus (intro W hW; go_simp; try with_reducible rfl)
          simp only [Act.put, List.setIfInBounds_toArray, List.set_cons_zero, List.set_cons_succ]
          refine anyL_take 8 (v := ?_) rfl (by kernel_rfl) (fun _ _ _ h => h) (Or.inl ⟨by rfl, ?_⟩) hS0 ?_
          rotate_left
          focus (intro W hW; go_simp; try with_reducible rfl)
          simp only [Act.put, List.setIfInBounds_toArray, List.set_cons_zero, List.set_cons_succ]
          refine anyL_take 9 (v := ?_) rfl (by kernel_rfl) (fun _ _ _ h => h) (Or.inl ⟨by rfl, ?_⟩) hS0 ?_
          rotate_left
          focus (intro W hW; go_simp; try with_reducible rfl)
          simp only [Act.put, List.setIfInBounds_toArray, List.set_cons_zero, List.set_cons_succ]
          refine anyL_take 10 (v := ?_) rfl (by kernel_rfl) (fun _ _ _ h => h) (Or.inl ⟨by rfl, ?_⟩) hS0 ?_
          rotate_left
          focus (intro W hW; go_simp; try with_reducible rfl)
          simp only [Act.put, List.setIfInBounds_toArray, List.set_cons_zero, List.set_cons_succ]
          refine anyL_take 11 (v := ?_) rfl (by kernel_rfl) (fun _ _ _ h => h) (Or.inl ⟨by rfl, ?_⟩) hS0 ?_
          rotate_left
          focus (intro W hW; go_simp; try with_reducible rfl)
          simp only [Act.put, List.setIfInBounds_toArray, List.set_cons_zero, List.set_cons_succ]
          refine anyL_take 12 (v := ?_) rfl (by kernel_rfl) (fun _ _ _ h => h) (Or.inl ⟨by rfl, ?_⟩) hS0 ?_
          rotate_left
          focus (intro W hW; go_simp; try with_reducible rfl)
          simp only [Act.put, List.setIfInBounds_toArray, List.set_cons_zero, List.set_cons_succ]
          refine anyL_take 13 (v := ?_) rfl (by kernel_rfl) (fun _ _ _ h => h) (Or.inl ⟨by rfl, ?_⟩) hS0 ?_
          rotate_left
          focus (intro W hW; go_simp; try with_reducible rfl)
          simp only [Act.put, List.setIfInBounds_toArray, List.set_cons_zero, List.set_cons_succ]
          refine anyL_take 14 (v := ?_) rfl (by kernel_rfl) (fun _ _ _ h => h) (Or.inl ⟨by rfl, ?_⟩) hS0 ?_
          rotate_left
          focus (intro W hW; go_simp; try with_reducible rfl)
          simp only [Act.put, List.setIfInBounds_toArray, List.set_cons_zero, List.set_cons_succ]
          refine anyL_take 15 (v := ?_) rfl (by kernel_rfl) (fun _ _ _ h => h) (Or.inl ⟨by rfl, ?_⟩) hS0 ?_
          rotate_left
          focus (intro W hW; go_simp; try with_reducible rfl)
          simp only [Act.put, List.setIfInBounds_toArray, List.set_cons_zero, List.set_cons_succ]
          refine anyL_take 16 (v := ?_) rfl (by kernel_rfl) (fun _ _ _ h => h) (Or.inl ⟨by rfl, ?_⟩) hS0 ?_
          rotate_left
          focus (intro W hW; go_simp; try with_reducible rfl)
          simp only [Act.put, List.setIfInBounds_toArray, List.set_cons_zero, List.set_cons_succ]
          refine anyL_take 17 (v := ?_) rfl (by kernel_rfl) (fun _ _ _ h => h) (Or.inl ⟨by rfl, ?_⟩) hS0 ?_
          rotate_left
          focus (intro W hW; go_simp; try with_reducible rfl)
          simp only [Act.put, List.setIfInBounds_toArray, List.set_cons_zero, List.set_cons_succ]
          refine anyL_take 18 (v := ?_) rfl (by kernel_rfl) (fun _ _ _ h => h) (Or.inl ⟨by rfl, ?_⟩) hS0 ?_
          rotate_left
          focus (intro W hW; go_simp; try with_reducible rfl)
          simp only [Act.put, List.setIfInBounds_toArray, List.set_cons_zero, List.set_cons_succ]
          refine anyL_take 19 (v := ?_) rfl (by kernel_rfl) (fun _ _ _ h => h) (Or.inl ⟨by rfl, ?_⟩) hS0 ?_
          rotate_left
          focus (intro W hW; go_simp; try with_reducible rfl)
          simp only [Act.put, List.setIfInBounds_toArray, List.set_cons_zero, List.set_cons_succ]
          refine anyL_take 20 (v := ?_) rfl (by kernel_rfl) (fun _ _ _ h => h) (Or.inl ⟨by rfl, ?_⟩) hS0 ?_
          rotate_left
          focus (intro W hW; go_simp; try with_reducible rfl)
          simp only [Act.put, List.setIfInBounds_toArray, List.set_cons_zero, List.set_cons_succ]
          refine anyL_take 21 (v := ?_) rfl (by kernel_rfl) (fun _ _ _ h => h) (Or.inl ⟨by rfl, ?_⟩) hS0 ?_
          rotate_left
          focus (intro W hW; go_simp; try with_reducible rfl)
          simp only [Act.put, List.setIfInBounds_toArray, List.set_cons_zero, List.set_cons_succ]
          refine anyL_take 22 (v := ?_) rfl (by kernel_rfl) (fun _ _ _ h => h) (Or.inl ⟨by rfl, ?_⟩) hS0 ?_
          rotate_left
          focus (intro W hW; go_simp; try with_reducible rfl)
          simp only [Act.put, List.setIfInBounds_toArray, List.set_cons_zero, List.set_cons_succ]
          refine anyL_take 23 (v := ?_) rfl (by kernel_rfl) (fun _ _ _ h => h) (Or.inl ⟨by rfl, ?_⟩) hS0 ?_
          rotate_left
          focus (intro W hW; go_simp; try with_reducible rfl)
          simp only [Act.put, List.setIfInBounds_toArray, List.set_cons_zero, List.set_cons_succ]
          refine anyL_take 24 (v := ?_) rfl (by kernel_rfl) (fun _ _ _ h => h) (Or.inl ⟨by rfl, ?_⟩) hS0 ?_
          rotate_left
          focus (intro W hW; go_simp; try with_reducible rfl)
          simp only [Act.put, List.setIfInBounds_toArray, List.set_cons_zero, List.set_cons_succ]
          refine anyL_take 25 (v := ?_) rfl (by kernel_rfl) (fun _ _ _ h => h) (Or.inl ⟨by rfl, ?_⟩) hS0 ?_
          rotate_left
          focus (intro W hW; go_simp; try with_reducible rfl)
          simp only [Act.put, List.setIfInBounds_toArray, List.set_cons_zero, List.set_cons_succ]
          refine anyL_take 26 (v := ?_) rfl (by kernel_rfl) (fun _ _ _ h => h) (Or.inl ⟨by rfl, ?_⟩) hS0 ?_
          rotate_left
          focus (intro W hW; go_simp; try with_reducible rfl)
          simp only [Act.put, List.setIfInBounds_toArray, List.set_cons_zero, List.set_cons_succ]
          refine anyL_take 27 (v := ?_) rfl (by kernel_rfl) (fun _ _ _ h => h) (Or.inl ⟨by rfl, ?_⟩) hS0 ?_
          rotate_left
          focus (intro W hW; go_simp; try with_reducible rfl)
          simp only [Act.put, List.setIfInBounds_toArray, List.set_cons_zero, List.set_cons_succ]
          refine anyL_take 28 (v := ?_) rfl (by kernel_rfl) (fun _ _ _ h => h) (Or.inl ⟨by rfl, ?_⟩) hS0 ?_
          rotate_left
          focus (intro W hW; go_simp; try with_reducible rfl)
          simp only [Act.put, List.setIfInBounds_toArray, List.set_cons_zero, List.set_cons_succ]
          refine anyL_take 29 (v := ?_) rfl (by kernel_rfl) (fun _ _ _ h => h) (Or.inl ⟨by rfl, ?_⟩) hS0 ?_
          rotate_left
          focus (intro W hW; go_simp; try with_reducible rfl)
          simp only [Act.put, List.setIfInBounds_toArray, List.set_cons_zero, List.set_cons_succ]
          refine anyL_take 30 (v := ?_) rfl (by kernel_rfl) (fun _ _ _ h => h) (Or.inl ⟨by rfl, ?_⟩) hS0 ?_
          rotate_left
          focus (intro W hW; go_simp; try with_reducible rfl)
          simp only [Act.put, List.setIfInBounds_toArray, List.set_cons_zero, List.set_cons_succ]
          refine anyL_one 31 rfl (by kernel_rfl) (fun K hK => ?_)
          go_simp
          refine hK.out _ _ (fun _ => hS0) ?_
          clear hK K
          try simp only [Act.put, List.setIfInBounds_toArray, List.set_cons_zero, List.set_cons_succ]
          refine anyC_done (by kernel_rfl) ?_ _
          go_wp2
          go_ret
          exact ⟨rfl, hBFH.out⟩
end Go.Proofs.Ytpgnajcbahklgaa
