/- The document's Write: block by block. -/
import Derived.Test.YtpgnajcbahklgaaPlEnL
import Derived.Test.YtpgnajcbahklgaaSRef
namespace Go.Proofs.Ytpgnajcbahklgaa
open Go.RowKit Pl Tl

def errK (D Z B O A : Int) : Int := if goodB D Z B O A = true then 2 else 1
theorem write_no2 (D Z B O A zone f n : Int) (hf : f ≤ 9223372036854775807) (h : wrB D Z B O A zone f n = false) (w : World) :
    Calls Try.prog 26 #[.agg #[.int .i64 D, .int .i64 Z, .int .i64 B, .int .i64 O, .int .i64 A], .int .i64 zone, .int .i64 f, .int .i64 n] w (NoPost w (errK D Z B O A)) := by
  unfold errK
  by_cases hg : goodB D Z B O A = true
  · rw [if_pos hg]
    refine write_range D Z B O A zone f n w hf (goodB_iff.1 hg) ?_
    unfold wrB at h
    rw [hg, Bool.true_and, Bool.and_eq_false_iff, decide_eq_false_iff_not] at h
    rcases h with h | h
    · exact .inl h
    · right; omega
  · rw [if_neg hg]
    exact write_arg D Z B O A zone f n w (by simpa using hg)
/-- The same of the document's rows. -/
def RYesPost (w : World) (l : List St) (e : Ending) (w' : World) : Prop := ∃ A cap, e = .returned (.tuple #[.slice A l.length cap, .int .i64 0]) ∧ stE.Row w' w.heap.size 75 A cap l ∧ Below w.heap.size w w'
theorem infoRt : Enc.Inf Try.prog 75 5 40 := by unfold Enc.Inf; kernel_rfl
set_option maxHeartbeats 1000000 in
theorem rwrite_no (D Z B O A zone f n : Int) (hz : -9223372036854775808 ≤ zone ∧ zone ≤ 9223372036854775807) (hn : n ≤ 9223372036854775807) (h : wrB D Z B O A zone f n = false) (w : World) :
    Calls Try.prog 27 #[.agg #[.int .i64 D, .int .i64 Z, .int .i64 B, .int .i64 O, .int .i64 A], .int .i64 zone, .int .i64 f, .int .i64 n] w (NoPost w (errK D Z B O A)) := by
  have hB0 : Below w.heap.size w (w.alloc (.cells #[.int .i64 D, .int .i64 Z, .int .i64 B, .int .i64 O, .int .i64 A] 38)) := (Below.refl _ _).alloc (Nat.le_refl _) _
  have hBH := Lib.hid hB0
  have hNH := Lib.hid (GeoAt.new w D Z B O A 38)
  have c1 := Lib.hid (fun W => refgood_any D Z B O A W)
  unfold errK
  by_cases hg : goodB D Z B O A = true
  case neg =>
    rw [if_neg hg]
    rw [Bool.not_eq_true] at hg
    rw [hg] at c1
    clear hB0 h hz hn
    go_enter Try.func27, Try.ntmps27
    go_wp2_with fail
    (with_reducible refine (c1.out _).mono ?_)
    rintro e w1 ⟨rfl, hb1⟩
    have hF := Lib.hid (bmore hBH.out hb1)
    clear hb1
    go_wp2
    go_ret2
    exact ⟨rfl, hF.out⟩
  case pos =>
    rw [if_pos hg]
    have hV := capV_bd D Z B O A
    rw [capV_good (goodB_iff.1 hg)] at hV
    have hgp := goodB_iff.1 hg
    obtain ⟨d1, d2, d3, d4, _⟩ := hgp
    unfold wrB at h
    rw [hg, Bool.true_and, Bool.and_eq_false_iff, decide_eq_false_iff_not] at h
    have hex : exB D Z B O A zone = false → zone < 0 ∨ Z - 4 < zone := fun h1 => by
      by_cases h2 : zone < 0
      · exact .inl h2
      · right
        by_cases h3 : Z - 4 < zone
        · exact h3
        · rw [exB_mk (goodB_iff.1 hg) (by omega) (by omega)] at h1; cases h1
    rw [hg] at c1
    have hD1 : wrap64 (D - 1) = D - 1 := IntWalk.wrap64_in _ (by omega)
    have hD2 : IntKind.i64.wrap (D - 1) = D - 1 := IntWalk.i64_in _ (by omega)
    have hZ1 : wrap64 (Z - 4) = Z - 4 := IntWalk.wrap64_in _ (by omega)
    have hZ2 : IntKind.i64.wrap (Z - 4) = Z - 4 := IntWalk.i64_in _ (by omega)
    obtain ⟨V, hVe⟩ : ∃ V, (D - 1) * B = V := ⟨_, rfl⟩
    rw [hVe] at hV h
    have hV1 : wrap64 ((D - 1) * B) = V := by rw [hVe]; exact IntWalk.wrap64_in _ (by omega)
    have hV2 : IntKind.i64.wrap ((D - 1) * B) = V := by rw [hVe]; exact IntWalk.i64_in _ (by omega)
    have hor : zone < 0 ∨ Z - 4 < zone ∨ f < 0 ∨ n < 1 ∨ V < n ∨ (0 ≤ n ∧ V - n < f) := by
      rcases h with h | h
      · rcases hex h with h | h
        · exact .inl h
        · exact .inr (.inl h)
      · omega
    have hVn : 0 ≤ n → wrap64 (V - n) = V - n := fun h0 => IntWalk.wrap64_in _ (by omega)
    have hVn2 : 0 ≤ n → IntKind.i64.wrap (V - n) = V - n := fun h0 => IntWalk.i64_in _ (by omega)
    have hVnH := Lib.hid (And.intro hVn hVn2)
    clear hB0 hex h hV hVe d1 d2 d3 d4 hVn hVn2 hz hn hg
    go_enter Try.func27, Try.ntmps27
    go_wp2_with fail
    (with_reducible refine (c1.out _).mono ?_)
    rintro e w1 ⟨rfl, hb1⟩
    obtain ⟨h0, h1, h2, h3, h4, _⟩ := hNH.out.below hb1
    have hF := Lib.hid (bmore hBH.out hb1)
    clear hb1 hNH hBH
    by_cases k1 : zone < 0
    · clear hor
      go_wp2
      go_ret2
      exact ⟨rfl, hF.out⟩
    by_cases k2 : Z - 4 < zone
    · clear hor
      go_wp2
      go_ret2
      exact ⟨rfl, hF.out⟩
    by_cases k3 : f < 0
    · clear hor
      go_wp2
      go_ret2
      exact ⟨rfl, hF.out⟩
    by_cases k4 : n < 1
    · clear hor
      go_wp2
      go_ret2
      exact ⟨rfl, hF.out⟩
    by_cases k5 : V < n
    · clear hor
      go_wp2
      go_ret2
      exact ⟨rfl, hF.out⟩
    have k6 : V - n < f := by omega
    obtain ⟨v1, v2⟩ := hVnH.out
    have v3 := v1 (by omega)
    have v4 := v2 (by omega)
    clear hor v1 v2 hVnH
    go_wp2
    go_ret2
    exact ⟨rfl, hF.out⟩
theorem self_wraps {E : Nat} (hE : E ≤ 3840) : wrap64 (E : Int) = (E : Int) ∧ IntKind.i64.wrap (E : Int) = (E : Int) := ⟨IntWalk.wrap64_in _ (by omega), IntWalk.i64_in _ (by omega)⟩
theorem next_wrap {f j : Nat} (h : f + j ≤ 3840) : IntKind.i64.wrap ((f : Int) + (j : Int) + 1) = (f : Int) + ((j + 1 : Nat) : Int) := by rw [IntWalk.i64_in _ (by omega)]; omega
theorem wd_wraps {wd E : Nat} (h : wd ≤ 15) (hE : E ≤ 3840) : wrap64 ((wd : Int) - 1) = (wd : Int) - 1 ∧ IntKind.i64.wrap ((wd : Int) - 1) = (wd : Int) - 1 ∧ wrap64 ((E : Int) - 1) = (E : Int) - 1 ∧ IntKind.i64.wrap ((E : Int) - 1) = (E : Int) - 1 :=
  ⟨IntWalk.wrap64_in _ (by omega), IntWalk.i64_in _ (by omega), IntWalk.wrap64_in _ (by omega), IntWalk.i64_in _ (by omega)⟩
theorem steps_next (wd z E f j : Nat) : steps wd z E f (j + 1) = steps wd z E f j ++ [dat wd z (f + j)] ++ beh wd z E (f + j) := by
  rw [steps_add j f 1, List.append_assoc]
  congr 1
  show dat wd z (f + j) :: (beh wd z E (f + j) ++ []) = _
  rw [List.append_nil]; rfl
/-- The place of a block and its row's parity, plainly. -/
theorem ref_nums {wd z b : Nat} (hz : z ≤ 60) (hw : 0 < wd) (hw2 : wd ≤ 15) (hb : b ≤ 3840) :
    (b : Int).tmod (wd : Int) = ((b % wd : Nat) : Int) ∧ ((z : Int) + ((b / wd : Nat) : Int)).tmod ((wd : Int) + 1) = par wd z (b / wd) ∧ IntKind.i64.wrap ((z : Int) + ((b / wd : Nat) : Int)) = (z : Int) + ((b / wd : Nat) : Int) ∧ IntKind.i64.wrap ((b % wd : Nat) : Int) = ((b % wd : Nat) : Int) ∧ IntKind.i64.wrap (par wd z (b / wd)) = par wd z (b / wd) ∧ IntKind.i64.wrap (((b % wd : Nat) : Int) + 1) = ((b % wd : Nat) : Int) + 1 := by
  have h1 : b / wd ≤ b := Nat.div_le_self _ _
  have h2 := Nat.mod_lt b hw
  have h3 := par_bd wd z (b / wd)
  have e1 := tmod_nat b wd
  have e2 : par wd z (b / wd) = ((z : Int) + ((b / wd : Nat) : Int)) % ((wd : Int) + 1) := rfl
  generalize par wd z (b / wd) = P at h3 e2 ⊢
  generalize b / wd = q at h1 e2 ⊢
  generalize b % wd = r at h2 e1 ⊢
  exact ⟨e1, by rw [e2, Int.tmod_eq_emod_of_nonneg (by omega)], IntWalk.i64_in _ (by omega), IntWalk.i64_in _ (by omega), IntWalk.i64_in _ (by omega), IntWalk.i64_in _ (by omega)⟩
theorem ref_wraps {D Z V : Int} {wd f n E : Nat} (hD : D = (wd : Int) + 1) (h15 : wd ≤ 15) (hZ : 0 ≤ Z ∧ Z ≤ 64) (hV : 0 ≤ V ∧ V ≤ 3840) (hn : (n : Int) ≤ V) (hE : f + n = E) (hE2 : E ≤ 3840) :
    wrap64 (D - 1) = (wd : Int) ∧ IntKind.i64.wrap (D - 1) = (wd : Int) ∧ wrap64 (Z - 4) = Z - 4 ∧ IntKind.i64.wrap (Z - 4) = Z - 4 ∧ wrap64 V = V ∧ IntKind.i64.wrap V = V ∧ wrap64 (V - (n : Int)) = V - (n : Int) ∧ IntKind.i64.wrap (V - (n : Int)) = V - (n : Int) ∧ wrap64 ((f : Int) + (n : Int)) = (E : Int) ∧ IntKind.i64.wrap ((f : Int) + (n : Int)) = (E : Int) := by
  refine ⟨?_, ?_, IntWalk.wrap64_in _ (by omega), IntWalk.i64_in _ (by omega), IntWalk.wrap64_in _ (by omega), IntWalk.i64_in _ (by omega), IntWalk.wrap64_in _ (by omega), IntWalk.i64_in _ (by omega), ?_, ?_⟩
  · rw [IntWalk.wrap64_in _ (by omega)]; omega
  · rw [IntWalk.i64_in _ (by omega)]; omega
  · rw [IntWalk.wrap64_in _ (by omega)]; omega
  · rw [IntWalk.i64_in _ (by omega)]; omega
set_option maxRecDepth 100000 in
set_option maxHeartbeats 4000000 in
theorem rwrite_good (wd z f n : Nat) (D Z B O A : Int) (hD : D = (wd : Int) + 1) (w : World) (hg : GoodP D Z B O A) (hz : (z : Int) ≤ Z - 4) (hn : 1 ≤ n) (hfn : (f : Int) + (n : Int) ≤ (D - 1) * B) :
    Calls Try.prog 27 #[.agg #[.int .i64 D, .int .i64 Z, .int .i64 B, .int .i64 O, .int .i64 A], .int .i64 (z : Int), .int .i64 (f : Int), .int .i64 (n : Int)] w (RYesPost w (steps wd z (f + n) f n)) := by
  have hw : 0 < wd := by have := hg.1; omega
  have hw15 : wd ≤ 15 := by have := hg.2.1; omega
  have hz60 : z ≤ 60 := by have := hg.2.2.2.1; omega
  have hV := capV_bd D Z B O A
  rw [capV_good hg] at hV
  have hac : f + n ≤ 3840 := by omega
  have c1 := Lib.hid (fun W => refgood_any D Z B O A W)
  rw [goodB_iff.2 hg] at c1
  have c2 := Lib.hid (fun (j : Nat) (hj : j < n) W => refplace_any D Z B O A (z : Int) ((f : Int) + (j : Int)) W)
  have hpv : ∀ j, j < n → plR D Z B O A (z : Int) ((f : Int) + (j : Int)) = (((f + j) / wd : Nat) : Int) ∧ plD D Z B O A (z : Int) ((f : Int) + (j : Int)) = sl wd z (f + j) := fun j hj => place_dat (b := f + j) hD hg hz (by omega)
  have hpvH := Lib.hid hpv
  have happ := Lib.hid (fun W base A cap (l : List St) (x : St) (h : stE.Row W base 75 A cap l) m hm hl hb => Enc.Row.append (E := stE) (P := Try.prog) Try.underlying71 infoRt (by decide) (by decide) h (m := m) (x := x) hm hl hb 71)
  have hD1 : D - 1 = (wd : Int) := by omega
  obtain ⟨V, hVe⟩ : ∃ V, (wd : Int) * B = V := ⟨_, rfl⟩
  rw [hD1, hVe] at hV hfn
  have k0 : ¬ ((z : Int) < 0) := by omega
  have k1 : ¬ ((f : Int) < 0) := by omega
  have k2 : ¬ ((n : Int) < 1) := by omega
  have k3 : ¬ (V < (n : Int)) := by omega
  have k4 : ¬ (V - (n : Int) < (f : Int)) := by omega
  have k5 : ¬ (Z - 4 < (z : Int)) := by omega
  obtain ⟨E, hE⟩ : ∃ E, f + n = E := ⟨_, rfl⟩
  rw [hE] at hac ⊢
  have hEH := Lib.hid hE
  obtain ⟨L, hL⟩ : ∃ L, steps wd z E f n = L := ⟨_, rfl⟩
  rw [hL]
  have hLH := Lib.hid hL
  have hB0 : Below w.heap.size w (w.alloc (.cells #[.int .i64 D, .int .i64 Z, .int .i64 B, .int .i64 O, .int .i64 A] 38)) := (Below.refl _ _).alloc (Nat.le_refl _) _
  have hBH := Lib.hid hB0
  have hNH := Lib.hid (GeoAt.new w D Z B O A 38)
  have hDH := Lib.hid hD
  have hnH := Lib.hid hn
  have hacH := Lib.hid hac
  have hwH := Lib.hid (And.intro hw (And.intro hw15 hz60))
  have hwr := ref_wraps (Z := Z) hD hw15 (by have := hg.2.2.1; have := hg.2.2.2.1; omega) hV (by omega) hE hac
  have hE3 : (f : Int) + (n : Int) = (E : Int) := by omega
  have hE3H := Lib.hid hE3
  clear hL hB0 hg hV hfn hE hn hz hD hD1 hpv hac hw hw15 hz60 hE3
  obtain ⟨hDw, hDw2, hZ1, hZ2, hV1, hV2, k6, k7, hE1, hE2⟩ := hwr
  go_enter Try.func27, Try.ntmps27
  go_wp2_with fail
  (with_reducible refine (c1.out _).mono ?_)
  rintro e w1 ⟨rfl, hb1⟩
  have hG := hNH.out.below hb1
  have hB := bmore hBH.out hb1
  clear hNH hBH hb1
  have hGH := Lib.hid hG
  have hBH := Lib.hid hB
  clear hB
  obtain ⟨h0, h1, h2, h3, h4, _⟩ := hG
  go_upto_region 9 with fail
  clear k0 k1 k2 k3 k4 k5 k6 k7 hV1 hV2 hZ1 hZ2 h0 h1 h2 h3 h4 hVe
  have hE1H := Lib.hid (And.intro hE1 hE2)
  have hDwH := Lib.hid (And.intro hDw hDw2)
  clear hE1 hE2 hDw hDw2
  go_loopw [12, 13] (fun s i wr => ∃ (j : Nat) (l : List St) (A' : Option Addr) (cap' : Nat), i = .int .i64 ((f : Int) + (j : Int)) ∧ s = .slice A' l.length cap' ∧ Hid (j ≤ n) ∧ Hid (l = steps wd z E f j) ∧ Hid (stE.Row wr w1.heap.size 75 A' cap' l) ∧ Hid (Below w1.heap.size w1 wr)) (fun _ i _ => n - (intOf i - f).toNat)
  case atStart => exact ⟨0, [], none, 0, by simp, rfl, Lib.hid (Nat.zero_le _), Lib.hid rfl, Lib.hid (Enc.Row.nil _ _ _), Lib.hid (Below.refl _ _)⟩
  case round =>
    obtain ⟨j, l, A', cap', rfl, rfl, hj, hl, hR, hBl⟩ := hrel
    by_cases hlt : j < n
    case neg =>
      have e : j = n := by have := hj.out; omega
      subst e
      have hl2 : l = L := by rw [hl.out, ← hLH.out]
      clear hLH
      subst hl2
      have hF : RYesPost w l (.returned (.tuple #[.slice A' l.length cap', .int .i64 0])) wr := ⟨A', cap', rfl, hR.out.mono hBH.out.size, bmore hBH.out hBl.out⟩
      have hFH := Lib.hid hF
      obtain ⟨hE1, hE2⟩ := hE1H.out
      have hE3 := hE3H.out
      obtain ⟨hE4, hE5⟩ := self_wraps hacH.out
      clear hF hl hR hBl c1 c2 happ hEH
      rw [hE3]
      go_wp2
      go_ret2
      exact hFH.out
    case pos =>
      obtain ⟨hw, hw15, hz60⟩ := hwH.out
      have hfjE : f + j + 1 ≤ E := by have := hEH.out; omega
      have hb9 : f + j ≤ 3840 := by have := hacH.out; omega
      obtain ⟨pv1, pv2⟩ := hpvH.out j hlt
      have hc := Lib.hid (c2.out j hlt)
      have hnum := ref_nums (wd := wd) (z := z) (b := f + j) hz60 hw hw15 hb9
      have hst := steps_next wd z E f j
      rw [← hl.out] at hst
      have hbeh : beh wd z E (f + j) = if (f + j) % wd + 1 = wd then [⟨2, par wd z ((f + j) / wd), (((f + j) / wd : Nat) : Int), 0, 0⟩] else if f + j + 1 = E then [⟨3, par wd z ((f + j) / wd), (((f + j) / wd : Nat) : Int), 0, ((((f + j) % wd : Nat) : Int) + 1)⟩] else [] := rfl
      have hdat : dat wd z (f + j) = ⟨1, sl wd z (f + j), (((f + j) / wd : Nat) : Int), (f : Int) + (j : Int), 0⟩ := rfl
      rw [hdat, hbeh] at hst
      have hlen : l.length ≤ 8000 := by rw [hl.out]; have := steps_len (w := wd) (z := z) (e := E) j f; have := hacH.out; omega
      have hmd := Nat.mod_lt (f + j) hw
      obtain ⟨q, hq⟩ : ∃ q, (f + j) / wd = q := ⟨_, rfl⟩
      obtain ⟨r, hr⟩ : ∃ r, (f + j) % wd = r := ⟨_, rfl⟩
      obtain ⟨s, hs⟩ : ∃ s, sl wd z (f + j) = s := ⟨_, rfl⟩
      rw [hq] at pv1 hnum hst
      rw [hr] at hnum hst hmd
      rw [hs] at pv2 hst
      obtain ⟨P, hP⟩ : ∃ P, par wd z q = P := ⟨_, rfl⟩
      rw [hP] at hnum hst
      have hcast : ((f + j : Nat) : Int) = (f : Int) + (j : Int) := by omega
      rw [hcast] at hnum
      have hnumH := Lib.hid hnum
      clear hnum
      have hstH := Lib.hid hst
      have kE : (f : Int) + (j : Int) < (E : Int) := by omega
      have kjH : Hid (IntKind.i64.wrap ((f : Int) + (j : Int) + 1) = (f : Int) + ((j + 1 : Nat) : Int)) := Lib.hid (next_wrap hb9)
      have hmeas2 : Hid (n - (intOf (Value.int .i64 ((f : Int) + ((j + 1 : Nat) : Int))) - f).toNat < n - (intOf (Value.int .i64 ((f : Int) + (j : Int))) - f).toNat) := Lib.hid (by simp only [intOf]; omega)
      have hj1 : Hid (j + 1 ≤ n) := Lib.hid (by omega)
      have kfull : r + 1 = wd ∨ r + 1 < wd := by omega
      have klast : ¬ (r + 1 = wd) → (r : Int) ≠ (wd : Int) - 1 := by omega
      have klast2 : r + 1 = wd → (r : Int) = (wd : Int) - 1 := by omega
      have kend : ¬ (f + j + 1 = E) → (f : Int) + (j : Int) ≠ (E : Int) - 1 := by omega
      have kend2 : f + j + 1 = E → (f : Int) + (j : Int) = (E : Int) - 1 := by omega
      have kwH := Lib.hid (wd_wraps hw15 hacH.out)
      have wne : ¬ ((wd : Int) = 0) := by omega
      have wne1 : ¬ ((wd : Int) = -1) := by omega
      have wne2 : ¬ (wd = 0) := by omega
      have hD := hDH.out
      have dne : ¬ (D = 0) := by omega
      have dne1 : ¬ (D = -1) := by omega
      have hl9 : l.length ≤ 1000000 := by omega
      have hl10 : l.length + 1 ≤ 1000000 := by omega
      clear hst hbeh hdat hq hr hs hP hcast hw hw15 hz60 hb9 hfjE hmd hlen hD hj hl
      obtain ⟨h0, h1, h2, h3, h4, _⟩ := hGH.out.below hBl.out
      obtain ⟨hE1, hE2⟩ := hE1H.out
      go_wp2_with fail
      (with_reducible refine (hc.out _).mono ?_)
      rintro e w3 ⟨rfl, hb3⟩
      rw [pv1, pv2]
      have hR3 := hR.out.below hb3
      have hB3 := bmore hBl.out hb3
      clear hc hb3 hR hBl h0 h1 h2 h3 h4
      have hR4 := hR3.alloc (.cells #[.int .i64 1, .int .i64 s, .int .i64 (q : Int), .int .i64 ((f : Int) + (j : Int)), .int .i64 0] 75)
      have hB4 := hB3.alloc hB3.size (.cells #[.int .i64 1, .int .i64 s, .int .i64 (q : Int), .int .i64 ((f : Int) + (j : Int)), .int .i64 0] 75)
      obtain ⟨A2, cap2, W5, hrun5, hR5, hG5, _⟩ := happ.out _ w1.heap.size A' cap' l ⟨1, s, (q : Int), (f : Int) + (j : Int), 0⟩ hR4 w3.heap.size (fun i hi => by
        match i, hi with
        | 0, _ => show _ = some (Value.int .i64 1); go_simp
        | 1, _ => show _ = some (Value.int .i64 s); go_simp
        | 2, _ => show _ = some (Value.int .i64 (q : Int)); go_simp
        | 3, _ => show _ = some (Value.int .i64 ((f : Int) + (j : Int))); go_simp
        | 4, _ => show _ = some (Value.int .i64 0); go_simp) hl9 hB4.size
      have hB5 : Below w1.heap.size w1 W5 := hB4.trans (hR4.grown hG5 hB4.size)
      have hrun5H := Lib.hid hrun5
      have hR5H := Lib.hid hR5
      have hB5H := Lib.hid hB5
      have hll : (l ++ [(⟨1, s, (q : Int), (f : Int) + (j : Int), 0⟩ : St)]).length = l.length + 1 := by simp
      clear hrun5 hR5 hG5 hR4 hB4 hR3 hB3
      obtain ⟨h0, h1, h2, h3, h4, _⟩ := hGH.out.below hB5
      clear hB5
      obtain ⟨n1, n2, n3, n4, n5, n6⟩ := hnumH.out
      rw [← hDH.out] at n2
      obtain ⟨kw1, kw2, ke1, ke2⟩ := kwH.out
      obtain ⟨hDw, hDw2⟩ := hDwH.out
      have kj := kjH.out
      by_cases hf : r + 1 = wd
      case pos =>
        have kf := klast2 hf
        have hst2 := hstH.out
        rw [if_pos hf] at hst2
        have hst2H := Lib.hid hst2
        clear hst2 klast klast2 kend kend2 kfull hf hnumH hstH
        have kfx : ((r : Int) == (wd : Int) - 1) = true := by rw [kf]; simp
        clear kf
        go_upto_region 13 with (at_builtin; refine append_run_wp rfl _ _ _ rfl rfl rfl hrun5H.out ?_)
        clear hrun5H
        go_upto_region 15 with fail
        clear kfx
        obtain ⟨lq, hlq⟩ : ∃ lq, l ++ [(⟨1, s, (q : Int), (f : Int) + (j : Int), 0⟩ : St)] = lq := ⟨_, rfl⟩
        have hlq1 : lq.length = l.length + 1 := by rw [← hlq]; exact hll
        have hR5 := hR5H.out
        rw [hlq] at hR5
        have hR7 := hR5.alloc (.cells #[.int .i64 2, .int .i64 P, .int .i64 (q : Int), .int .i64 0, .int .i64 0] 75)
        have hB7 := hB5H.out.alloc hB5H.out.size (.cells #[.int .i64 2, .int .i64 P, .int .i64 (q : Int), .int .i64 0, .int .i64 0] 75)
        obtain ⟨A3, cap3, W6, hrun6, hR6, hG6, _⟩ := happ.out _ w1.heap.size A2 cap2 lq ⟨2, P, (q : Int), 0, 0⟩ hR7 W5.heap.size (fun i hi => by
          match i, hi with
          | 0, _ => show _ = some (Value.int .i64 2); go_simp
          | 1, _ => show _ = some (Value.int .i64 P); go_simp
          | 2, _ => show _ = some (Value.int .i64 (q : Int)); go_simp
          | 3, _ => show _ = some (Value.int .i64 0); go_simp
          | 4, _ => show _ = some (Value.int .i64 0); go_simp) (by rw [hlq1]; exact hl10) hB7.size
        rw [hlq1] at hrun6
        have hrun6H := Lib.hid hrun6
        have hB6H := Lib.hid (hB7.trans (hR7.grown hG6 hB7.size))
        have hR6H := Lib.hid hR6
        have hlen6 : (lq ++ [(⟨2, P, (q : Int), 0, 0⟩ : St)]).length = l.length + 1 + 1 := by rw [List.length_append, hlq1]; rfl
        have hstf : Hid (lq ++ [(⟨2, P, (q : Int), 0, 0⟩ : St)] = steps wd z E f (j + 1)) := Lib.hid (by rw [← hlq]; exact hst2H.out.symm)
        clear hrun6 hR6 hG6 hR7 hB7 hR5 hlq hlq1
        go_wp2_with (at_builtin; refine append_run_wp rfl _ _ _ rfl rfl rfl hrun6H.out ?_)
        go_roundw
        case rel => exact ⟨j + 1, _, A3, cap3, rfl, by rw [hlen6], hj1, hstf, hR6H, hB6H⟩
        case measure => exact hmeas2.out
      case neg =>
        have hst2 := hstH.out
        rw [if_neg hf] at hst2
        have kf := klast hf
        have kfx : ((r : Int) == (wd : Int) - 1) = false := by rw [beq_eq_false_iff_ne]; exact kf
        by_cases hl : f + j + 1 = E
        case pos =>
          rw [if_pos hl] at hst2
          have hst2H := Lib.hid hst2
          have ke := kend2 hl
          have kex : ((f : Int) + (j : Int) == (E : Int) - 1) = true := by rw [ke]; simp
          clear hst2 klast klast2 kend kend2 kfull hf hnumH hstH ke kf hl
          go_upto_region 13 with (at_builtin; refine append_run_wp rfl _ _ _ rfl rfl rfl hrun5H.out ?_)
          clear hrun5H
          go_upto_region 17 with fail
          clear kfx kex
          obtain ⟨lq, hlq⟩ : ∃ lq, l ++ [(⟨1, s, (q : Int), (f : Int) + (j : Int), 0⟩ : St)] = lq := ⟨_, rfl⟩
          have hlq1 : lq.length = l.length + 1 := by rw [← hlq]; exact hll
          have hR5 := hR5H.out
          rw [hlq] at hR5
          have hR7 := hR5.alloc (.cells #[.int .i64 3, .int .i64 P, .int .i64 (q : Int), .int .i64 0, .int .i64 ((r : Int) + 1)] 75)
          have hB7 := hB5H.out.alloc hB5H.out.size (.cells #[.int .i64 3, .int .i64 P, .int .i64 (q : Int), .int .i64 0, .int .i64 ((r : Int) + 1)] 75)
          obtain ⟨A3, cap3, W6, hrun6, hR6, hG6, _⟩ := happ.out _ w1.heap.size A2 cap2 lq ⟨3, P, (q : Int), 0, ((r : Int) + 1)⟩ hR7 W5.heap.size (fun i hi => by
            match i, hi with
            | 0, _ => show _ = some (Value.int .i64 3); go_simp
            | 1, _ => show _ = some (Value.int .i64 P); go_simp
            | 2, _ => show _ = some (Value.int .i64 (q : Int)); go_simp
            | 3, _ => show _ = some (Value.int .i64 0); go_simp
            | 4, _ => show _ = some (Value.int .i64 ((r : Int) + 1)); go_simp) (by rw [hlq1]; exact hl10) hB7.size
          rw [hlq1] at hrun6
          have hrun6H := Lib.hid hrun6
          have hB6H := Lib.hid (hB7.trans (hR7.grown hG6 hB7.size))
          have hR6H := Lib.hid hR6
          have hlen6 : (lq ++ [(⟨3, P, (q : Int), 0, ((r : Int) + 1)⟩ : St)]).length = l.length + 1 + 1 := by rw [List.length_append, hlq1]; rfl
          have hstf : Hid (lq ++ [(⟨3, P, (q : Int), 0, ((r : Int) + 1)⟩ : St)] = steps wd z E f (j + 1)) := Lib.hid (by rw [← hlq]; exact hst2H.out.symm)
          clear hrun6 hR6 hG6 hR7 hB7 hR5 hlq hlq1
          go_wp2_with (at_builtin; refine append_run_wp rfl _ _ _ rfl rfl rfl hrun6H.out ?_)
          go_roundw
          case rel => exact ⟨j + 1, _, A3, cap3, rfl, by rw [hlen6], hj1, hstf, hR6H, hB6H⟩
          case measure => exact hmeas2.out
        case neg =>
          rw [if_neg hl] at hst2
          have hst2H := Lib.hid hst2
          have ke := kend hl
          have kex : ((f : Int) + (j : Int) == (E : Int) - 1) = false := by rw [beq_eq_false_iff_ne]; exact ke
          rw [List.append_nil] at hst2
          have hst3 : Hid (l ++ [(⟨1, s, (q : Int), (f : Int) + (j : Int), 0⟩ : St)] = steps wd z E f (j + 1)) := Lib.hid hst2.symm
          clear hst2 hst2H klast klast2 kend kend2 kfull hf hnumH hstH ke kf hl
          go_upto_region 13 with (at_builtin; refine append_run_wp rfl _ _ _ rfl rfl rfl hrun5H.out ?_)
          clear hrun5H
          go_wp2_with fail
          go_roundw
          case rel => exact ⟨j + 1, _, A2, cap2, rfl, by rw [hll], hj1, hst3, hR5H, hB5H⟩
          case measure => exact hmeas2.out
end Go.Proofs.Ytpgnajcbahklgaa
