/- How many blocks a slot is to have, by the document's counting. -/
import Derived.Test.YtdnedahbghhpgaaMdE
import Derived.Test.YtdnedahbghhpgaaSRef
namespace Go.Proofs.Ytdnedahbghhpgaa
open Go.RowKit Tl Pl Md

theorem want_nums {wd k : Nat} {D : Int} (hD : D = (wd : Int) + 1) (hw : 2 ≤ wd) (hw15 : wd ≤ 15) (hk : k ≤ 3840) : IntKind.i64.wrap (D - 1) = (wd : Int) ∧ wrap64 (D - 1) = (wd : Int) ∧ IntKind.i64.wrap (D - 2) = (wd : Int) - 1 ∧ wrap64 (D - 2) = (wd : Int) - 1 ∧ ¬ (wd : Int) = 0 ∧ ¬ (wd : Int) = -1 ∧ (k : Int).tmod (wd : Int) = ((k % wd : Nat) : Int) ∧ IntKind.i64.wrap ((k % wd : Nat) : Int) = ((k % wd : Nat) : Int) := by
  have e : D - 1 = (wd : Int) := by omega
  have e2 : D - 2 = (wd : Int) - 1 := by omega
  have h4 : k % wd ≤ k := Nat.mod_le _ _
  rw [e, e2]
  generalize hm : k % wd = q at h4
  refine ⟨IntWalk.i64_in _ (by omega), IntWalk.wrap64_in _ (by omega), IntWalk.i64_in _ (by omega), IntWalk.wrap64_in _ (by omega), by omega, by omega, ?_, IntWalk.i64_in _ (by omega)⟩
  rw [← hm]; rfl
theorem par_nums {wd z f : Nat} {D : Int} (hD : D = (wd : Int) + 1) (hw15 : wd ≤ 15) (hz : z ≤ 64) (hf : f ≤ 3840) : IntKind.i64.wrap ((z : Int) + (f : Int)) = (z : Int) + (f : Int) ∧ wrap64 ((z : Int) + (f : Int)) = (z : Int) + (f : Int) ∧ ((z : Int) + (f : Int)).tmod D = par wd z f ∧ IntKind.i64.wrap (par wd z f) = par wd z f ∧ ¬ D = 0 ∧ ¬ D = -1 := by
  have h := par_bd wd z f
  refine ⟨IntWalk.i64_in _ (by omega), IntWalk.wrap64_in _ (by omega), ?_, IntWalk.i64_in _ (by omega), by omega, by omega⟩
  rw [Int.tmod_eq_emod_of_nonneg (by omega), hD]; rfl
set_option maxRecDepth 100000 in
set_option maxHeartbeats 2000000 in
theorem want_any (wd z r s : Nat) (D Z B O A : Int) (hD : D = (wd : Int) + 1) (w : World) (hg : GoodP D Z B O A) (hz : (z : Int) ≤ Z - 4) (hr : (r : Int) ≤ (D - 1) * B) (hs : s < wd + 1) :
    Calls Try.prog 67 #[.agg #[.int .i64 D, .int .i64 Z, .int .i64 B, .int .i64 O, .int .i64 A], .int .i64 (z : Int), .int .i64 (r : Int), .int .i64 (s : Int)] w fun e w' => e = .returned (.int .i64 (len wd z r (s : Int))) ∧ Below w.heap.size w w' := by
  have hN := Lib.hid (⟨GeoAt.new w D Z B O A 38, (Below.refl w.heap.size w).alloc (Nat.le_refl _) (.cells #[.int .i64 D, .int .i64 Z, .int .i64 B, .int .i64 O, .int .i64 A] 38)⟩ : GeoAt (w.alloc (.cells #[.int .i64 D, .int .i64 Z, .int .i64 B, .int .i64 O, .int .i64 A] 38)) w.heap.size D Z B O A ∧ Below w.heap.size w (w.alloc (.cells #[.int .i64 D, .int .i64 Z, .int .i64 B, .int .i64 O, .int .i64 A] 38)))
  have hw2 : 2 ≤ wd := by have := hg.1; omega
  have hw15 : wd ≤ 15 := by have := hg.2.1; omega
  have hz64 : z ≤ 64 := by have := hg.2.2.2.1; omega
  have hr3 : r ≤ 3840 := by
    have hV := capV_bd D Z B O A
    rw [capV_good hg] at hV
    omega
  have hpl := Lib.hid (fun k (hk : k < r) W => (by
    have h1 := refplace_any D Z B O A (z : Int) (k : Int) W
    have hkb : (k : Int) < (D - 1) * B := by omega
    obtain ⟨e1, e2⟩ := place_dat hD hg hz hkb
    rw [e1, e2, plB_mk hg (Int.natCast_nonneg z) hz (Int.natCast_nonneg k) hkb] at h1
    exact h1 : Calls Try.prog 46 #[.agg #[.int .i64 D, .int .i64 Z, .int .i64 B, .int .i64 O, .int .i64 A], .int .i64 (z : Int), .int .i64 (k : Int)] W fun e w' => e = .returned (.tuple #[.int .i64 ((k / wd : Nat) : Int), .int .i64 (sl wd z k), .bool true]) ∧ Below W.heap.size W w'))
  have hgl := fun k (hk : k ≤ 3840) => want_nums (k := k) hD hw2 hw15 hk
  have hpn := fun f (hf : f ≤ 3840) => par_nums (z := z) (f := f) hD hw15 hz64 hf
  have hglH := Lib.hid hgl
  have hpnH := Lib.hid hpn
  clear hg hz hr hD hgl hpn
  go_enter Try.func67, Try.ntmps67
  go_upto_region 1 with fail
  refine fresh_world (fun W => GeoAt W w.heap.size D Z B O A ∧ Below w.heap.size w W) hN.out ?_
  clear hN
  rintro W1 h1
  have h1H := Lib.hid h1
  clear h1
  go_wp2_with fail
  go_loopw [9, 10] (fun nn ii wr => ∃ (i : Nat) (n : Int), ii = .int .i64 (i : Int) ∧ nn = .int .i64 n ∧ i ≤ r ∧ 0 ≤ n ∧ n ≤ 2 * (i : Int) ∧ Hid (n = len wd z i (s : Int)) ∧ Hid (GeoAt wr w.heap.size D Z B O A ∧ Below w.heap.size w wr)) (fun _ ii _ => r - (intOf ii).toNat)
  case atStart => exact ⟨0, 0, rfl, rfl, Nat.zero_le _, by omega, by omega, Lib.hid (len_zero wd z _).symm, h1H⟩
  case round =>
    obtain ⟨i, n, rfl, rfl, hi, n0, n1, hn, hB⟩ := hrel
    clear h1H
    obtain ⟨g0, g1, g2, g3, g4, _⟩ := hB.out.1
    by_cases hlt : i < r
    case neg =>
      have hx : ¬ (i : Int) < (r : Int) := by omega
      have e : i = r := by omega
      have hF := Lib.hid hB.out.2
      have hnr : Hid (n = len wd z r (s : Int)) := by rw [← e]; exact hn
      clear hB hn e
      go_wp2_with fail
      go_ret
      exact ⟨by rw [← hnr.out]; rfl, hF.out⟩
    case pos =>
      have hx : (i : Int) < (r : Int) := by omega
      have hp1 := hpl.out i hlt
      have hml := Nat.mod_lt i (show 0 < wd by omega)
      have hdl : i / wd ≤ i := Nat.div_le_self _ _
      obtain ⟨f, hf⟩ : ∃ f, i / wd = f := ⟨_, rfl⟩
      obtain ⟨q, hq⟩ : ∃ q, i % wd = q := ⟨_, rfl⟩
      obtain ⟨u1, u2, u3, u4, u5, u6, u7, u8⟩ := hglH.out i (by omega)
      obtain ⟨v1, v2, v3, v4, v5, v6⟩ := hpnH.out f (by omega)
      have l1 := fun (h : q + 1 < wd) => len_next (w := wd) (z := z) (b := i) (by omega) (by rw [hq]; exact h) (s : Int)
      have l2 := fun (h : q + 1 = wd) => len_full (w := wd) (z := z) (b := i) (by omega) (by rw [hq]; exact h) (s := (s : Int)) (by omega) (by omega)
      rw [← hn.out] at l1 l2
      rw [hf] at hp1 hdl l2
      rw [hq] at hml u7 u8
      obtain ⟨x, hxs⟩ : ∃ x, sl wd z i = x := ⟨_, rfl⟩
      obtain ⟨y, hyp⟩ : ∃ y, par wd z f = y := ⟨_, rfl⟩
      rw [hxs] at hp1 l1 l2
      rw [hyp] at v3 v4 l2
      have l1H := Lib.hid l1
      have l2H := Lib.hid l2
      have hp1H := Lib.hid hp1
      have iw : IntKind.i64.wrap ((i : Int) + 1) = (i : Int) + 1 := IntWalk.i64_in _ (by omega)
      have nw : IntKind.i64.wrap (n + 1) = n + 1 := IntWalk.i64_in _ (by omega)
      have nw2 : IntKind.i64.wrap (n + 1 + 1) = n + 1 + 1 := IntWalk.i64_in _ (by omega)
      have uH := Lib.hid (And.intro u1 (And.intro u2 (And.intro u3 (And.intro u4 (And.intro u5 (And.intro u6 (And.intro u7 u8)))))))
      have vH := Lib.hid (And.intro v1 (And.intro v2 (And.intro v3 (And.intro v4 (And.intro v5 v6)))))
      clear l1 l2 hp1 hn hf hq hxs hyp u1 u2 u3 u4 u5 u6 u7 u8 v1 v2 v3 v4 v5 v6
      go_wp2_with fail
      (with_reducible refine (hp1H.out _).mono ?_)
      rintro e w2 ⟨rfl, hb2⟩
      have hB2 : GeoAt w2 w.heap.size D Z B O A ∧ Below w.heap.size w w2 := ⟨hB.out.1.below hb2, bmore hB.out.2 hb2⟩
      have hBd := Lib.hid (fun k => (⟨hB2.1.below (below_drewN (Below.refl _ w2) k), below_drewN hB2.2 k⟩ : GeoAt (w2.drewN k) w.heap.size D Z B O A ∧ Below w.heap.size w (w2.drewN k)))
      clear hB hb2 g0 g1 g2 g3 g4
      obtain ⟨g0, g1, g2, g3, g4, _⟩ := hB2.1
      clear hB2 hp1H
      obtain ⟨u1, u2, u3, u4, u5, u6, u7, u8⟩ := uH.out
      obtain ⟨v1, v2, v3, v4, v5, v6⟩ := vH.out
      by_cases hfull : q + 1 = wd
      case neg =>
        have hqe : ¬ (q : Int) = (wd : Int) - 1 := by omega
        have hqb : ((q : Int) == (wd : Int) - 1) = false := by simp [hqe]
        have hl := l1H.out (by omega)
        clear l1H l2H v1 v2 v3 v4 v5 v6
        by_cases hxs : x = (s : Int)
        · rw [if_pos hxs.symm] at hl
          have hlH := Lib.hid hl
          subst hxs
          clear hl hfull
          go_wp2_with fail
          go_quiet (fail)
          go_wp2_with fail
          go_roundw
          case rel => exact ⟨i + 1, n + 1, by go_num, rfl, hlt, by omega, by omega, Lib.hid hlH.out.symm, Lib.hid (hBd.out _)⟩
          case measure => simp only [intOf]; omega
        · rw [if_neg (fun e => hxs e.symm), Int.add_zero] at hl
          have hlH := Lib.hid hl
          have hxb : (x == (s : Int)) = false := by simp [hxs]
          clear hl hfull
          go_wp2_with fail
          go_quiet (fail)
          go_wp2_with fail
          go_roundw
          case rel => exact ⟨i + 1, n, by go_num, rfl, hlt, by omega, by omega, Lib.hid hlH.out.symm, Lib.hid (hBd.out _)⟩
          case measure => simp only [intOf]; omega
      case pos =>
        have hqe : (q : Int) = (wd : Int) - 1 := by omega
        have hqb : ((q : Int) == (wd : Int) - 1) = true := by simp [hqe]
        have hl := l2H.out hfull
        clear l1H l2H hqe
        by_cases hxs : x = (s : Int)
        · rw [if_pos hxs.symm] at hl
          by_cases hys : y = (s : Int)
          · rw [if_pos hys.symm] at hl
            have hlH := Lib.hid hl
            have hxb : (x == (s : Int)) = true := by simp [hxs]
            have hyb : (y == (s : Int)) = true := by simp [hys]
            clear hl hxs hys hfull
            go_wp2_with fail
            go_quiet (fail)
            go_wp2_with fail
            go_roundw
            case rel => exact ⟨i + 1, n + 1 + 1, by go_num, rfl, hlt, by omega, by omega, Lib.hid hlH.out.symm, Lib.hid (hBd.out _)⟩
            case measure => simp only [intOf]; omega
          · rw [if_neg (fun e => hys e.symm), Int.add_zero] at hl
            have hlH := Lib.hid hl
            have hxb : (x == (s : Int)) = true := by simp [hxs]
            have hyb : (y == (s : Int)) = false := by simp [hys]
            clear hl hxs hfull
            go_wp2_with fail
            go_quiet (fail)
            go_wp2_with fail
            go_roundw
            case rel => exact ⟨i + 1, n + 1, by go_num, rfl, hlt, by omega, by omega, Lib.hid hlH.out.symm, Lib.hid (hBd.out _)⟩
            case measure => simp only [intOf]; omega
        · rw [if_neg (fun e => hxs e.symm), Int.add_zero] at hl
          have hxb : (x == (s : Int)) = false := by simp [hxs]
          by_cases hys : y = (s : Int)
          · rw [if_pos hys.symm] at hl
            have hlH := Lib.hid hl
            have hyb : (y == (s : Int)) = true := by simp [hys]
            clear hl hys hfull
            go_wp2_with fail
            go_quiet (fail)
            go_wp2_with fail
            go_roundw
            case rel => exact ⟨i + 1, n + 1, by go_num, rfl, hlt, by omega, by omega, Lib.hid hlH.out.symm, Lib.hid (hBd.out _)⟩
            case measure => simp only [intOf]; omega
          · rw [if_neg (fun e => hys e.symm), Int.add_zero] at hl
            have hlH := Lib.hid hl
            have hyb : (y == (s : Int)) = false := by simp [hys]
            clear hl hfull
            go_wp2_with fail
            go_quiet (fail)
            go_wp2_with fail
            go_roundw
            case rel => exact ⟨i + 1, n, by go_num, rfl, hlt, by omega, by omega, Lib.hid hlH.out.symm, Lib.hid (hBd.out _)⟩
            case measure => simp only [intOf]; omega
end Go.Proofs.Ytdnedahbghhpgaa
