/- The law of the lengths' sum. -/
import Derived.Test.YtpgnajcbahklgaaPlLen
import Derived.Test.YtpgnajcbahklgaaSRef
namespace Go.Proofs.Ytpgnajcbahklgaa
open Go.RowKit Pl Tl

/-- A number brought into a range, as Go reckons it. -/
theorem mod_nums (x : Int) {m : Int} (h1 : 1 ≤ m) (h2 : m ≤ 5000) : ∃ (t : Int) (c : Nat), x.tmod m = t ∧ -5000 ≤ t ∧ t ≤ 5000 ∧ -m < t ∧ t < m ∧ (t + m).tmod m = (c : Int) ∧ (c : Int) < m := by
  have h3 := Int.tmod_lt_of_pos x (show 0 < m by omega)
  have h4 := Int.lt_tmod_of_pos x (show 0 < m by omega)
  obtain ⟨t, ht⟩ : ∃ t, x.tmod m = t := ⟨_, rfl⟩
  rw [ht] at h3 h4
  have h5 : 0 ≤ (t + m).tmod m := by
    rw [Int.tmod_eq_emod_of_nonneg (by omega)]; exact Int.emod_nonneg _ (by omega)
  have h6 := Int.tmod_lt_of_pos (t + m) (show 0 < m by omega)
  obtain ⟨c, hc⟩ := Int.eq_ofNat_of_zero_le h5
  exact ⟨t, c, ht, by omega, by omega, h4, h3, hc, by rw [← hc]; exact h6⟩
theorem zone_wraps {t Z : Int} (h1 : -5000 ≤ t) (h2 : t ≤ 5000) (hZ : 5 ≤ Z ∧ Z ≤ 64) : wrap64 (Z - 3) = Z - 3 ∧ IntKind.i64.wrap (Z - 3) = Z - 3 ∧ IntKind.i64.wrap t = t ∧ wrap64 (t + Z) = t + Z ∧ IntKind.i64.wrap (t + Z) = t + Z ∧ wrap64 (t + Z - 3) = t + Z - 3 ∧ IntKind.i64.wrap (t + Z - 3) = t + Z - 3 :=
  ⟨IntWalk.wrap64_in _ (by omega), IntWalk.i64_in _ (by omega), IntWalk.i64_in _ (by omega), IntWalk.wrap64_in _ (by omega), IntWalk.i64_in _ (by omega), IntWalk.wrap64_in _ (by omega), IntWalk.i64_in _ (by omega)⟩
theorem cap_wraps {t D V : Int} {wd : Nat} (h1 : -5000 ≤ t) (h2 : t ≤ 5000) (hD : D = (wd : Int) + 1) (hw : wd ≤ 15) (hV : 0 ≤ V ∧ V ≤ 3840) : wrap64 (D - 1) = (wd : Int) ∧ IntKind.i64.wrap (D - 1) = (wd : Int) ∧ wrap64 V = V ∧ IntKind.i64.wrap V = V ∧ wrap64 (V + 1) = V + 1 ∧ IntKind.i64.wrap (V + 1) = V + 1 ∧ IntKind.i64.wrap t = t ∧ wrap64 (t + V) = t + V ∧ IntKind.i64.wrap (t + V) = t + V ∧ wrap64 (t + V + 1) = t + V + 1 ∧ IntKind.i64.wrap (t + V + 1) = t + V + 1 := by
  refine ⟨?_, ?_, IntWalk.wrap64_in _ (by omega), IntWalk.i64_in _ (by omega), IntWalk.wrap64_in _ (by omega), IntWalk.i64_in _ (by omega), IntWalk.i64_in _ (by omega), IntWalk.wrap64_in _ (by omega), IntWalk.i64_in _ (by omega), IntWalk.wrap64_in _ (by omega), IntWalk.i64_in _ (by omega)⟩
  · rw [IntWalk.wrap64_in _ (by omega)]; omega
  · rw [IntWalk.i64_in _ (by omega)]; omega
theorem nat_wrap {c : Nat} (h : c ≤ 100000) : IntKind.i64.wrap (c : Int) = (c : Int) ∧ wrap64 (c : Int) = (c : Int) := ⟨IntWalk.i64_in _ (by omega), IntWalk.wrap64_in _ (by omega)⟩
theorem sum_take {l : List Int} {i : Nat} (h : i < l.length) : sum (l.take (i + 1)) = sum (l.take i) + l[i] := by
  rw [List.take_succ_eq_append_getElem h, sum_append]
  show _ + (l[i] + 0) = _
  omega
/-- No slot has more than the zone's rows. -/
theorem len_rows {wd z r : Nat} {B : Int} (hw : 0 < wd) (hr : (r : Int) ≤ (wd : Int) * B) (s : Int) : len wd z r s ≤ B := by
  have h := (len_bd wd z r s).2
  have hB : 0 ≤ B := by
    by_cases h1 : B < 0
    · have : (wd : Int) * B ≤ (wd : Int) * (-1) := Int.mul_le_mul_of_nonneg_left (by omega) (by omega)
      omega
    · omega
  obtain ⟨b, rfl⟩ := Int.eq_ofNat_of_zero_le hB
  have hr2 : r ≤ wd * b := by
    have : ((wd * b : Nat) : Int) = (wd : Int) * (b : Int) := Int.natCast_mul wd b
    omega
  by_cases hm : r % wd = 0
  · rw [if_pos hm] at h
    have : r / wd ≤ b := Nat.div_le_of_le_mul hr2
    omega
  · rw [if_neg hm] at h
    have h3 : r < wd * b := by
      rcases Nat.lt_or_ge r (wd * b) with h4 | h4
      · exact h4
      · have : r = wd * b := by omega
        rw [this, Nat.mul_mod_right] at hm
        exact absurd rfl hm
    have : r / wd < b := Nat.div_lt_of_lt_mul h3
    omega
set_option maxRecDepth 100000 in
set_option maxHeartbeats 4000000 in
theorem sums_law (D Z B O A zone wr : Int) (w : World) :
    Calls Try.prog 9 #[.agg #[.int .i64 D, .int .i64 Z, .int .i64 B, .int .i64 O, .int .i64 A], .int .i64 zone, .int .i64 wr] w fun e w' => e = .returned (.bool true) ∧ Below w.heap.size w w' := by
  have hsp := Lib.hid (fun W => speaks13 W)
  have hrg := Lib.hid (fun W => refgood_any D Z B O A W)
  have hB0 : Below w.heap.size w (w.alloc (.cells #[.int .i64 D, .int .i64 Z, .int .i64 B, .int .i64 O, .int .i64 A] 67)) := (Below.refl _ _).alloc (Nat.le_refl _) _
  have hBH := Lib.hid hB0
  have hGH := Lib.hid (GeoAt.new w D Z B O A 67)
  clear hB0
  go_enter Try.func9, Try.ntmps9
  go_wp2_with fail
  (with_reducible refine (hsp.out _).mono ?_)
  rintro e w1 ⟨rfl, hb1⟩
  have hG := hGH.out.below hb1
  have hB := bmore hBH.out hb1
  clear hGH hBH hb1 hsp
  have hGH := Lib.hid hG
  have hBH := Lib.hid hB
  clear hB
  obtain ⟨h0, h1, h2, h3, h4, _⟩ := hG
  go_wp2_with fail
  (with_reducible refine (hrg.out _).mono ?_)
  rintro e w2 ⟨rfl, hb2⟩
  have hG := hGH.out.below hb2
  have hB := bmore hBH.out hb2
  clear hGH hBH hb2 hrg h0 h1 h2 h3 h4
  have hGH := Lib.hid hG
  have hBH := Lib.hid hB
  clear hB hG
  cases hok : goodB D Z B O A with
  | false =>
    go_wp2
    go_ret
    exact ⟨rfl, hBH.out⟩
  | true =>
    have hg := goodB_iff.1 hok
    have hV := capV_bd D Z B O A
    rw [capV_good hg] at hV
    obtain ⟨wd, hD⟩ : ∃ wd : Nat, D = (wd : Int) + 1 := ⟨(D - 1).toNat, by have := hg.1; omega⟩
    have hw2 : 2 ≤ wd := by have := hg.1; omega
    have hw15 : wd ≤ 15 := by have := hg.2.1; omega
    have hZ : 5 ≤ Z ∧ Z ≤ 64 := ⟨hg.2.2.1, hg.2.2.2.1⟩
    have hD1 : D - 1 = (wd : Int) := by omega
    rw [hD1] at hV
    obtain ⟨V, hVe⟩ : ∃ V, (wd : Int) * B = V := ⟨_, rfl⟩
    rw [hVe] at hV
    obtain ⟨t1, z, u1, u2, u3, u4, u5, u6, u7⟩ := mod_nums zone (m := Z - 3) (by omega) (by omega)
    obtain ⟨t2, r, v1, v2, v3, v4, v5, v6, v7⟩ := mod_nums wr (m := V + 1) (by omega) (by omega)
    have u8 : (t1 + Z - 3).tmod (Z - 3) = (z : Int) := by rw [show t1 + Z - 3 = t1 + (Z - 3) by omega]; exact u6
    have v8 : (t2 + V + 1).tmod (V + 1) = (r : Int) := by rw [show t2 + V + 1 = t2 + (V + 1) by omega]; exact v6
    have hr9 : r ≤ 3840 := by omega
    have hrB : (r : Int) ≤ (wd : Int) * B := by omega
    have hc := Lib.hid (fun W => lengths_good wd z r D Z B O A hD W hg (by omega) (by rw [hD1]; exact hrB))
    have hzw := Lib.hid (And.intro u1 (And.intro u8 (And.intro (zone_wraps u2 u3 hZ) (nat_wrap (c := z) (by omega)))))
    have hcw := Lib.hid (And.intro v1 (And.intro v8 (And.intro (cap_wraps v2 v3 hD hw15 hV) (nat_wrap (c := r) (by omega)))))
    have hVmul : IntKind.i64.wrap ((wd : Int) * B) = V := by rw [hVe]; exact IntWalk.i64_in _ (by omega)
    have hVmul2 : wrap64 ((wd : Int) * B) = V := by rw [hVe]; exact IntWalk.wrap64_in _ (by omega)
    have hVm := Lib.hid (And.intro hVmul hVmul2)
    have z1 : ¬ (Z - 3 = 0) := by omega
    have z2 : ¬ (Z - 3 = -1) := by omega
    have z3 : ¬ (V + 1 = 0) := by omega
    have z4 : ¬ (V + 1 = -1) := by omega
    have hlr := Lib.hid (fun s : Int => len_rows (z := z) (s := s) (show 0 < wd by omega) hrB)
    have hDH := Lib.hid hD
    have hw2H := Lib.hid (And.intro hw2 (And.intro hw15 hr9))
    clear hok hg hV hD hZ hD1 u1 u2 u3 u4 u5 u6 u7 v1 v2 v3 v4 v5 v6 v7 u8 v8 hr9 hrB hVmul hVmul2 hw2 hw15 hVe
    go_upto_region 5 with fail
    have hS0 : GeoAt w2.drew w.heap.size D Z B O A ∧ Below w.heap.size w w2.drew := ⟨hGH.out.below (Below.refl _ _).drew, hBH.out.drew⟩
    obtain ⟨u1, u8, ⟨a1, a2, a3, a4, a5, a6, a7⟩, a8, a9⟩ := hzw.out
    refine region_anyC (fun _ => true) (fun W => GeoAt W w.heap.size D Z B O A ∧ Below w.heap.size w W) (by kernel_rfl) ?_
    refine anyL_take 0 (v := ?_) rfl (by kernel_rfl) (fun _ _ _ h => h) (Or.inl ⟨by rfl, ?_⟩) hS0 ?_
    rotate_left
    focus (intro W hW; go_simp; try with_reducible rfl)
    simp only [Act.put, List.setIfInBounds_toArray, List.set_cons_zero, List.set_cons_succ]
    refine anyL_take 1 (v := ?_) rfl (by kernel_rfl) (fun _ _ _ h => h) (Or.inl ⟨by rfl, ?_⟩) hS0 ?_
    rotate_left
    focus (intro W hW; go_simp; try with_reducible rfl)
    simp only [Act.put, List.setIfInBounds_toArray, List.set_cons_zero, List.set_cons_succ]
    refine anyL_take 2 (v := ?_) rfl (by kernel_rfl) (fun _ _ _ h => h) (Or.inl ⟨by rfl, ?_⟩) hS0 ?_
    rotate_left
    focus (intro W hW; obtain ⟨⟨g0, g1, g2, g3, g4, _⟩, _⟩ := hW; go_simp; try with_reducible rfl)
    simp only [Act.put, List.setIfInBounds_toArray, List.set_cons_zero, List.set_cons_succ]
    refine anyL_take 3 (v := ?_) rfl (by kernel_rfl) (fun _ _ _ h => h) (Or.inl ⟨by rfl, ?_⟩) hS0 ?_
    rotate_left
    focus (intro W hW; go_simp; try with_reducible rfl)
    simp only [Act.put, List.setIfInBounds_toArray, List.set_cons_zero, List.set_cons_succ]
    refine anyL_take 4 (v := ?_) rfl (by kernel_rfl) (fun _ _ _ h => h) (Or.inl ⟨by rfl, ?_⟩) hS0 ?_
    rotate_left
    focus (intro W hW; go_simp; try with_reducible rfl)
    simp only [Act.put, List.setIfInBounds_toArray, List.set_cons_zero, List.set_cons_succ]
    refine anyL_take 5 (v := ?_) rfl (by kernel_rfl) (fun _ _ _ h => h) (Or.inl ⟨by rfl, ?_⟩) hS0 ?_
    rotate_left
    focus (intro W hW; go_simp; try with_reducible rfl)
    simp only [Act.put, List.setIfInBounds_toArray, List.set_cons_zero, List.set_cons_succ]
    refine anyL_take 6 (v := ?_) rfl (by kernel_rfl) (fun _ _ _ h => h) (Or.inl ⟨by rfl, ?_⟩) hS0 ?_
    rotate_left
    focus (intro W hW; obtain ⟨⟨g0, g1, g2, g3, g4, _⟩, _⟩ := hW; go_simp; try with_reducible rfl)
    simp only [Act.put, List.setIfInBounds_toArray, List.set_cons_zero, List.set_cons_succ]
    refine anyL_take 7 (v := ?_) rfl (by kernel_rfl) (fun _ _ _ h => h) (Or.inl ⟨by rfl, ?_⟩) hS0 ?_
    rotate_left
    focus (intro W hW; go_simp; try with_reducible rfl)
    simp only [Act.put, List.setIfInBounds_toArray, List.set_cons_zero, List.set_cons_succ]
    refine anyL_take 8 (v := ?_) rfl (by kernel_rfl) (fun _ _ _ h => h) (Or.inl ⟨by rfl, ?_⟩) hS0 ?_
    rotate_left
    focus (intro W hW; go_simp; try with_reducible rfl)
    simp only [Act.put, List.setIfInBounds_toArray, List.set_cons_zero, List.set_cons_succ]
    refine anyL_take 9 (v := ?_) rfl (by kernel_rfl) (fun _ _ _ h => h) (Or.inl ⟨by rfl, ?_⟩) hS0 ?_
    rotate_left
    focus (intro W hW; go_simp; try with_reducible rfl)
    simp only [Act.put, List.setIfInBounds_toArray, List.set_cons_zero, List.set_cons_succ]
    refine anyL_take 10 (v := ?_) rfl (by kernel_rfl) (fun _ _ _ h => h) (Or.inl ⟨by rfl, ?_⟩) hS0 ?_
    rotate_left
    focus (intro W hW; obtain ⟨⟨g0, g1, g2, g3, g4, _⟩, _⟩ := hW; go_simp; try with_reducible rfl)
    simp only [Act.put, List.setIfInBounds_toArray, List.set_cons_zero, List.set_cons_succ]
    refine anyL_take 11 (v := ?_) rfl (by kernel_rfl) (fun _ _ _ h => h) (Or.inl ⟨by rfl, ?_⟩) hS0 ?_
    rotate_left
    focus (intro W hW; go_simp; try with_reducible rfl)
    simp only [Act.put, List.setIfInBounds_toArray, List.set_cons_zero, List.set_cons_succ]
    refine anyL_take 12 (v := ?_) rfl (by kernel_rfl) (fun _ _ _ h => h) (Or.inl ⟨by rfl, ?_⟩) hS0 ?_
    rotate_left
    focus (intro W hW; go_simp; try with_reducible rfl)
    simp only [Act.put, List.setIfInBounds_toArray, List.set_cons_zero, List.set_cons_succ]
    refine anyL_one 13 rfl (by kernel_rfl) (fun K hK => ?_)
    go_simp
    refine hK.out _ _ (fun _ => hS0) ?_
    clear hK K
    try simp only [Act.put, List.setIfInBounds_toArray, List.set_cons_zero, List.set_cons_succ]
    refine anyC_done (by kernel_rfl) ?_ _
    clear u1 u8 a1 a2 a3 a4 a5 a6 a7 a8 a9 hzw z1 z2
    obtain ⟨v1, v8, ⟨b1, b2, b3, b4, b5, b6, b7, b8, b9, b10, b11⟩, b12, b13⟩ := hcw.out
    obtain ⟨m1, m2⟩ := hVm.out
    have hGH := Lib.hid hS0.1
    have hBH := Lib.hid hS0.2
    clear hS0
    obtain ⟨h0, h1, h2, h3, h4, _⟩ := hGH.out
    go_wp2_with fail
    (with_reducible refine (hc.out _).mono ?_)
    rintro e w3 ⟨G, rfl, hR3, hGle, hb3⟩
    have hG := hGH.out.below hb3
    have hB := bmore hBH.out hb3
    clear hGH hBH hb3 hc h0 h1 h2 h3 h4 v1 v8 b1 b2 b3 b4 b5 b6 b7 b8 b9 b10 b11 b12 b13 m1 m2 z3 z4 hcw hVm
    have hGH := Lib.hid hG
    have hBH := Lib.hid hB
    have hRH := Lib.hid hR3
    clear hB hR3 hG
    have hsum := sum_lens (z := z) (show 0 < wd by have := hw2H.out; omega) r
    have hdm := ln_nums (wd := wd) (r := r) (by have := hw2H.out; omega) hw2H.out.2.1 hw2H.out.2.2
    obtain ⟨Q, m, hQ, -, -, -, hq1, hq2, -, -, hq9⟩ := hdm
    have hlb : ∀ s : Int, (Q : Int) ≤ len wd z r s ∧ len wd z r s ≤ (Q : Int) + 1 := fun s => by
      have := len_bd wd z r s
      rw [hQ] at this
      obtain ⟨e1, e2⟩ := this
      split at e2 <;> omega
    rw [hQ] at hsum
    have hq12 := Lib.hid (And.intro hq1 hq2)
    have hlbH := Lib.hid hlb
    have hsumH := Lib.hid hsum
    have hll := lens_len wd z r
    obtain ⟨nl, hnl⟩ : ∃ nl, wd + 1 = nl := ⟨_, rfl⟩
    rw [hnl] at hll ⊢
    have hnl9 : nl ≤ 16 := by have := hw2H.out.2.1; omega
    have hnlD : (nl : Int) = D := by have := hDH.out; omega
    have hnlDH := Lib.hid hnlD
    have hllH := Lib.hid hll
    have hwdw : wrap64 (D - 1) = (wd : Int) ∧ IntKind.i64.wrap (D - 1) = (wd : Int) := by
      have h1 := hDH.out
      have h2 := hw2H.out.2.1
      refine ⟨?_, ?_⟩
      · rw [IntWalk.wrap64_in _ (by omega)]; omega
      · rw [IntWalk.i64_in _ (by omega)]; omega
    have hwdwH := Lib.hid hwdw
    clear hq1 hq2 hlb hsum hll hQ hnl hnlD hwdw
    have wne : ¬ ((wd : Int) = 0) := by have := hw2H.out; omega
    have wne1 : ¬ ((wd : Int) = -1) := by have := hw2H.out; omega
    have wne2 : ¬ (wd = 0) := by have := hw2H.out; omega
    go_wp2_with fail
    go_loopw [9, 10] (fun s9 s10 wr => ∃ (i : Nat) (s : Int), s10 = .int .i64 (i : Int) ∧ s9 = .int .i64 s ∧ i ≤ nl ∧ Hid (s = sum ((lens wd z r).take i)) ∧ 0 ≤ s ∧ s ≤ 4000 * (i : Int) ∧ Hid (Below w3.heap.size w3 wr)) (fun _ s10 _ => nl - (intOf s10).toNat)
    case atStart => exact ⟨0, 0, rfl, rfl, Nat.zero_le _, Lib.hid rfl, by omega, by omega, Lib.hid (Below.refl _ _)⟩
    case round =>
      obtain ⟨i, s, rfl, rfl, hi, hs, hs0, hs9, hbr⟩ := hrel
      by_cases hlt : i < nl
      case neg =>
        have e : i = nl := by omega
        have hs2 : s = (r : Int) + (Q : Int) := by rw [hs.out, List.take_of_length_le (by rw [hllH.out]; omega)]; exact hsumH.out
        have hr9 := hw2H.out.2.2
        have kD := hnlDH.out
        subst hs2
        obtain ⟨h0, h1, h2, h3, h4, _⟩ := hGH.out.below hbr.out
        have hF := Lib.hid (bmore hBH.out hbr.out)
        have kwH : Hid (IntKind.i64.wrap ((r : Int) + (Q : Int)) = (r : Int) + (Q : Int) ∧ wrap64 ((r : Int) + (Q : Int)) = (r : Int) + (Q : Int)) := Lib.hid ⟨IntWalk.i64_in _ (by omega), IntWalk.wrap64_in _ (by omega)⟩
        have kDb : ((nl : Int) == D) = true := by rw [kD]; simp
        clear hs hs0 hs9 hbr hr9 kD
        obtain ⟨kw1, kw2⟩ := kwH.out
        obtain ⟨q1, q2⟩ := hq12.out
        obtain ⟨d1, d2⟩ := hwdwH.out
        go_wp2
        go_ret
        exact ⟨rfl, hF.out⟩
      case pos =>
        have hlt' : i < (lens wd z r).length := by rw [hllH.out]; exact hlt
        have hcell := (hRH.out.below hbr.out).at_ hlt'
        have hgd : (lens wd z r).getD i 0 = len wd z r (i : Int) := by
          rw [List.getD_eq_getElem?_getD, List.getElem?_eq_getElem hlt']
          exact lens_at _
        have hst := sum_take hlt'
        rw [lens_at hlt', ← hs.out] at hst
        obtain ⟨x1, x2⟩ := hlbH.out (i : Int)
        have x3 := hlr.out (i : Int)
        rw [hgd] at hcell
        generalize len wd z r (i : Int) = x at hcell hst x1 x2 x3
        have d1 : decide (x < (Q : Int)) = false := decide_eq_false (by omega)
        have d2 : decide ((Q : Int) + 1 < x) = false := decide_eq_false (by omega)
        have d3 : decide (B < x) = false := decide_eq_false (by omega)
        have hs1 : 0 ≤ s + x := by omega
        have hs2 : s + x ≤ 4000 * ((i + 1 : Nat) : Int) := by omega
        have hm1 : nl - (i + 1) < nl - i := by omega
        have kwH : Hid (IntKind.i64.wrap (s + x) = s + x ∧ IntKind.i64.wrap ((i : Int) + 1) = (i : Int) + 1 ∧ IntKind.i64.wrap ((Q : Int) + 1) = (Q : Int) + 1 ∧ wrap64 ((Q : Int) + 1) = (Q : Int) + 1) := Lib.hid ⟨IntWalk.i64_in _ (by omega), IntWalk.i64_in _ (by omega), IntWalk.i64_in _ (by omega), IntWalk.wrap64_in _ (by omega)⟩
        have hstH := Lib.hid hst.symm
        have nx1 : ¬ (x < (Q : Int)) := by omega
        have nx2 : ¬ ((Q : Int) + 1 < x) := by omega
        have nx3 : ¬ (B < x) := by omega
        clear hst hs hs0 hs9 hgd hlt' x1 x2 x3 hi
        have hG9 := hGH.out.below hbr.out
        have hS0 : wr.drew.cell? ⟨G, i, none⟩ = some (.int .i64 x) ∧ GeoAt wr.drew w.heap.size D Z B O A := ⟨hcell, hG9.below (Below.refl _ _).drew⟩
        obtain ⟨h0, h1, h2, h3, h4, _⟩ := hG9
        obtain ⟨kw1, kw2, kw3, kw4⟩ := kwH.out
        obtain ⟨q1, q2⟩ := hq12.out
        obtain ⟨e1, e2⟩ := hwdwH.out
        go_upto_region 15 with fail
        clear h0 h1 h2 h3 h4
        refine region_anyC (fun _ => true) (fun W => W.cell? ⟨G, i, none⟩ = some (.int .i64 x) ∧ GeoAt W w.heap.size D Z B O A) (by kernel_rfl) ?_
        refine anyL_take 0 (v := ?_) rfl (by kernel_rfl) (fun _ _ _ h => h) (Or.inl ⟨by rfl, ?_⟩) hS0 ?_
        rotate_left
        focus (intro W hW; go_simp; try with_reducible rfl)
        simp only [Act.put, List.setIfInBounds_toArray, List.set_cons_zero, List.set_cons_succ]
        refine anyL_take 1 (v := ?_) rfl (by kernel_rfl) (fun _ _ _ h => h) (Or.inl ⟨by rfl, ?_⟩) hS0 ?_
        rotate_left
        focus (intro W hW; go_simp; try with_reducible rfl)
        simp only [Act.put, List.setIfInBounds_toArray, List.set_cons_zero, List.set_cons_succ]
        refine anyL_take 2 (v := ?_) rfl (by kernel_rfl) (fun _ _ _ h => h) (Or.inl ⟨by rfl, ?_⟩) hS0 ?_
        rotate_left
        focus (intro W hW; go_simp; try with_reducible rfl)
        simp only [Act.put, List.setIfInBounds_toArray, List.set_cons_zero, List.set_cons_succ]
        refine anyL_take 3 (v := ?_) rfl (by kernel_rfl) (fun _ _ _ h => h) (Or.inl ⟨by rfl, ?_⟩) hS0 ?_
        rotate_left
        focus (intro W hW; obtain ⟨hc15, ⟨g0, g1, g2, g3, g4, _⟩⟩ := hW; go_simp; try with_reducible rfl)
        simp only [Act.put, List.setIfInBounds_toArray, List.set_cons_zero, List.set_cons_succ]
        refine anyL_take 4 (v := ?_) rfl (by kernel_rfl) (fun _ _ _ h => h) (Or.inl ⟨by rfl, ?_⟩) hS0 ?_
        rotate_left
        focus (intro W hW; go_simp; try with_reducible rfl)
        simp only [Act.put, List.setIfInBounds_toArray, List.set_cons_zero, List.set_cons_succ]
        refine anyL_take 5 (v := ?_) rfl (by kernel_rfl) (fun _ _ _ h => h) (Or.inl ⟨by rfl, ?_⟩) hS0 ?_
        rotate_left
        focus (intro W hW; go_simp; try with_reducible rfl)
        simp only [Act.put, List.setIfInBounds_toArray, List.set_cons_zero, List.set_cons_succ]
        refine anyL_take 6 (v := ?_) rfl (by kernel_rfl) (fun _ _ _ h => h) (Or.inl ⟨by rfl, ?_⟩) hS0 ?_
        rotate_left
        focus (intro W hW; go_simp; try with_reducible rfl)
        simp only [Act.put, List.setIfInBounds_toArray, List.set_cons_zero, List.set_cons_succ]
        refine anyL_take 7 (v := ?_) rfl (by kernel_rfl) (fun _ _ _ h => h) (Or.inl ⟨by rfl, ?_⟩) hS0 ?_
        rotate_left
        focus (intro W hW; go_simp; try with_reducible rfl)
        simp only [Act.put, List.setIfInBounds_toArray, List.set_cons_zero, List.set_cons_succ]
        refine anyL_take 8 (v := ?_) rfl (by kernel_rfl) (fun _ _ _ h => h) (Or.inl ⟨by rfl, ?_⟩) hS0 ?_
        rotate_left
        focus (intro W hW; go_simp; try with_reducible rfl)
        simp only [Act.put, List.setIfInBounds_toArray, List.set_cons_zero, List.set_cons_succ]
        refine anyL_take 9 (v := ?_) rfl (by kernel_rfl) (fun _ _ _ h => h) (Or.inl ⟨by rfl, ?_⟩) hS0 ?_
        rotate_left
        focus (intro W hW; go_simp; try with_reducible rfl)
        simp only [Act.put, List.setIfInBounds_toArray, List.set_cons_zero, List.set_cons_succ]
        refine anyL_take 10 (v := ?_) rfl (by kernel_rfl) (fun _ _ _ h => h) (Or.inl ⟨by rfl, ?_⟩) hS0 ?_
        rotate_left
        focus (intro W hW; obtain ⟨hc15, ⟨g0, g1, g2, g3, g4, _⟩⟩ := hW; go_simp; try with_reducible rfl)
        simp only [Act.put, List.setIfInBounds_toArray, List.set_cons_zero, List.set_cons_succ]
        refine anyL_take 11 (v := ?_) rfl (by kernel_rfl) (fun _ _ _ h => h) (Or.inl ⟨by rfl, ?_⟩) hS0 ?_
        rotate_left
        focus (intro W hW; go_simp; try with_reducible rfl)
        simp only [Act.put, List.setIfInBounds_toArray, List.set_cons_zero, List.set_cons_succ]
        refine anyL_take 12 (v := ?_) rfl (by kernel_rfl) (fun _ _ _ h => h) (Or.inl ⟨by rfl, ?_⟩) hS0 ?_
        rotate_left
        focus (intro W hW; go_simp; try with_reducible rfl)
        simp only [Act.put, List.setIfInBounds_toArray, List.set_cons_zero, List.set_cons_succ]
        refine anyL_take 13 (v := ?_) rfl (by kernel_rfl) (fun _ _ _ h => h) (Or.inl ⟨by rfl, ?_⟩) hS0 ?_
        rotate_left
        focus (intro W hW; go_simp; try with_reducible rfl)
        simp only [Act.put, List.setIfInBounds_toArray, List.set_cons_zero, List.set_cons_succ]
        refine anyL_take 14 (v := ?_) rfl (by kernel_rfl) (fun _ _ _ h => h) (Or.inl ⟨by rfl, ?_⟩) hS0 ?_
        rotate_left
        focus (intro W hW; go_simp; try with_reducible rfl)
        simp only [Act.put, List.setIfInBounds_toArray, List.set_cons_zero, List.set_cons_succ]
        refine anyL_take 15 (v := ?_) rfl (by kernel_rfl) (fun _ _ _ h => h) (Or.inl ⟨by rfl, ?_⟩) hS0 ?_
        rotate_left
        focus (intro W hW; go_simp; try with_reducible rfl)
        simp only [Act.put, List.setIfInBounds_toArray, List.set_cons_zero, List.set_cons_succ]
        refine anyL_take 16 (v := ?_) rfl (by kernel_rfl) (fun _ _ _ h => h) (Or.inl ⟨by rfl, ?_⟩) hS0 ?_
        rotate_left
        focus (intro W hW; go_simp; try with_reducible rfl)
        simp only [Act.put, List.setIfInBounds_toArray, List.set_cons_zero, List.set_cons_succ]
        refine anyL_take 17 (v := ?_) rfl (by kernel_rfl) (fun _ _ _ h => h) (Or.inl ⟨by rfl, ?_⟩) hS0 ?_
        rotate_left
        focus (intro W hW; go_simp; try with_reducible rfl)
        simp only [Act.put, List.setIfInBounds_toArray, List.set_cons_zero, List.set_cons_succ]
        refine anyL_take 18 (v := ?_) rfl (by kernel_rfl) (fun _ _ _ h => h) (Or.inl ⟨by rfl, ?_⟩) hS0 ?_
        rotate_left
        focus (intro W hW; go_simp; try with_reducible rfl)
        simp only [Act.put, List.setIfInBounds_toArray, List.set_cons_zero, List.set_cons_succ]
        refine anyL_take 19 (v := ?_) rfl (by kernel_rfl) (fun _ _ _ h => h) (Or.inl ⟨by rfl, ?_⟩) hS0 ?_
        rotate_left
        focus (intro W hW; obtain ⟨hc15, ⟨g0, g1, g2, g3, g4, _⟩⟩ := hW; go_simp; try with_reducible rfl)
        simp only [Act.put, List.setIfInBounds_toArray, List.set_cons_zero, List.set_cons_succ]
        refine anyL_take 20 (v := ?_) rfl (by kernel_rfl) (fun _ _ _ h => h) (Or.inl ⟨by rfl, ?_⟩) hS0 ?_
        rotate_left
        focus (intro W hW; go_simp; try with_reducible rfl)
        simp only [Act.put, List.setIfInBounds_toArray, List.set_cons_zero, List.set_cons_succ]
        refine anyL_take 21 (v := ?_) rfl (by kernel_rfl) (fun _ _ _ h => h) (Or.inl ⟨by rfl, ?_⟩) hS0 ?_
        rotate_left
        focus (intro W hW; obtain ⟨hc15, ⟨g0, g1, g2, g3, g4, _⟩⟩ := hW; go_simp; try with_reducible rfl)
        simp only [Act.put, List.setIfInBounds_toArray, List.set_cons_zero, List.set_cons_succ]
        refine anyL_take 22 (v := ?_) rfl (by kernel_rfl) (fun _ _ _ h => h) (Or.inl ⟨by rfl, ?_⟩) hS0 ?_
        rotate_left
        focus (intro W hW; go_simp; try with_reducible rfl)
        simp only [Act.put, List.setIfInBounds_toArray, List.set_cons_zero, List.set_cons_succ]
        refine anyL_take 23 (v := ?_) rfl (by kernel_rfl) (fun _ _ _ h => h) (Or.inl ⟨by rfl, ?_⟩) hS0 ?_
        rotate_left
        focus (intro W hW; go_simp; try with_reducible rfl)
        simp only [Act.put, List.setIfInBounds_toArray, List.set_cons_zero, List.set_cons_succ]
        refine anyC_done (by kernel_rfl) ?_ _
        clear hS0
        go_wp2_with fail
        go_roundw
        case rel => exact ⟨i + 1, s + x, by go_num, rfl, hlt, hstH, hs1, hs2, Lib.hid hbr.out.drew⟩
        case measure => simp [intOf]; exact hm1
end Go.Proofs.Ytpgnajcbahklgaa
