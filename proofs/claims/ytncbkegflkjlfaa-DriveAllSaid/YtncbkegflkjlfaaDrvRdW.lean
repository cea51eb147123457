/- What the law DriveReads does. -/
import Derived.Test.YtncbkegflkjlfaaDrvText
import Derived.Test.YtncbkegflkjlfaaDrvRdM
namespace Go.Proofs.Ytncbkegflkjlfaa
open Go.RowKit Zon Drv

/-- An act with its kind, its number of blocks and its further bytes set. -/
theorem act_two (a : DA) : ∃ m : Nat, m < 4 ∧ bits .and .i64 a.s 3 = (m : Int) := by
  obtain ⟨m, hm, h⟩ := mask_nat2 a.s 2 3 rfl (by omega)
  exact ⟨m, hm, h⟩
theorem textN_two (s : Int) (h : 0 < s) (h2 : s < 40) : textN 2 s 0 = (64 * s).toNat := by
  unfold textN
  rw [if_pos ⟨.inr rfl, h, h2⟩, show bits .and .i64 0 3 = 0 by decide]
  rfl

set_option maxRecDepth 100000 in
set_option maxHeartbeats 4000000 in
theorem drvreads_law (A : Option Addr) (cap : Nat) (cs : List DA) (at' n : Int) (w : World) (hI : DActsIn w A cs) (hC : ∀ c ∈ cs, c.Ok) (hl : cs.length ≤ maxLen) (ha : Rng at') (hn : Rng n) :
    Calls Try.prog 6 #[.slice A cs.length cap, .int .i64 at', .int .i64 n] w fun e w' => e = .returned (.bool true) ∧ Below w.heap.size w w' := by
  unfold maxLen at hl
  have hIH := Lib.hid hI
  have hCH := Lib.hid hC
  clear hI hC
  have hnew := Lib.hid (fun W (hb : Below w.heap.size w W) => own_new W 2 120 2 2 hb (by decide))
  rw [rd_new] at hnew
  go_enter Try.func6, Try.ntmps6
  go_wp2_with fail
  refine (speaks7 _).mono ?_
  rintro e w1 ⟨rfl, hB1⟩
  go_wp2_with fail
  refine (hnew.out _ hB1).mono ?_
  rintro e w2 ⟨d, rfl, hD2, _⟩
  clear hB1 hnew
  go_wp2_with fail
  have ok0 : (rdD 0 []).Ok := newD_ok (show newOk 2 120 2 2 = true by decide)
  go_loopw [9, 10] (fun al i wr => ∃ (k l : Nat) (S : ByteArray), k ≤ cs.length ∧ k ≤ 30 ∧ i = .int .i64 (k : Int) ∧ al = .string S ∧ l ≤ 4 * k ∧ S.size = 64 * l ∧ Own w wr d (rdD (l : Int) S.data.toList) ∧ (rdD (l : Int) S.data.toList).Ok) (fun _ i _ => cs.length - (intOf i).toNat)
  case atStart => exact ⟨0, 0, ⟨#[]⟩, by omega, by omega, rfl, rfl, by omega, rfl, hD2, ok0⟩
  case round =>
    clear hD2 ok0
    obtain ⟨k, l, S, hk, hk2, rfl, rfl, hl4, hS, hD, hok⟩ := hrel
    by_cases hrun : k < cs.length ∧ k < 30
    · obtain ⟨hlt, hlt2⟩ := hrun
      obtain ⟨b, off, rfl, hltb, hAt, _⟩ := hIH.out.at_ hlt
      have hcok := hCH.out _ (List.getElem_mem hlt)
      generalize cs[k] = c at hAt hcok
      obtain ⟨m, hm, hmask⟩ := act_two c
      obtain ⟨c0, c1, c2, c3, c4, c5, c6⟩ := hAt.below hD.b hltb
      have hltb2 : b < wr.heap.size := Nat.lt_of_lt_of_le hltb hD.b.size
      have hwr := Lib.hid (fun W (T : ByteArray) (hT : T.size = 64 * (1 + m)) (h : Own w W d (rdD (l : Int) S.data.toList)) => by
        have h1 := own_do W d _ 1 1 (l : Int) (1 + (m : Int)) T h hok (by omega) (by omega)
        rw [doD_rdw (l : Int) (1 + (m : Int)) S.data.toList T.data.toList (by omega) (by omega) (by omega) (by rw [show T.data.toList.length = T.size from rfl]; omega)] at h1
        exact h1)
      have hok2 := Lib.hid (fun (T : ByteArray) (hT : T.size = 64 * (1 + m)) => by
        have h1 := doD_ok hok 1 1 (l : Int) (1 + (m : Int)) T.data.toList
        rw [doD_rdw (l : Int) (1 + (m : Int)) S.data.toList T.data.toList (by omega) (by omega) (by omega) (by rw [show T.data.toList.length = T.size from rfl]; omega)] at h1
        exact h1)
      have htx := Lib.hid (fun W => text_two 2 c.q c.r (1 + (m : Int)) 0 c.u (k : Int) (.slice c.ks.A c.ks.zs.length c.ks.cap) W rfl (by omega) (by omega))
      rw [textN_two _ (by omega) (by omega)] at htx
      have hDH := Lib.hid hD
      have hdiv : (S.size : Int) / 64 = (l : Int) := by omega
      have hSH := Lib.hid hS
      clear hD hok hAt hcok hS
      go_wp2_with fail
      refine (htx.out _).mono ?_
      rintro e w4 ⟨T, hT0, rfl, hb4⟩
      have hT : T.size = 64 * (1 + m) := by omega
      have hD4 := (hDH.out.below ((Below.refl _ _).alloc (Nat.le_refl _) (.cells #[.int .i64 2, .int .i64 c.q, .int .i64 c.r, .int .i64 (1 + (m : Int)), .int .i64 0, .int .u8 c.u, .slice c.ks.A c.ks.zs.length c.ks.cap] 33))).below hb4
      have x3 : w4.cell? ⟨wr.heap.size, 3, none⟩ = some (.int .i64 (1 + (m : Int))) := (hb4.cell (p := ⟨wr.heap.size, 3, none⟩) (by simp)).trans (by go_simp)
      clear hb4 htx hDH c0 c1 c2 c3 c4 c5 c6 hT0
      have hcat : ¬ 9223372036854775807 < S.size + T.size := by have := hSH.out; omega
      go_wp2_with fail
      refine (hwr.out w4 T hT hD4).mono ?_
      rintro e w5 ⟨rfl, hD5⟩
      have hok5 := Lib.hid (hok2.out T hT)
      have hD5H := Lib.hid hD5
      have hTH := Lib.hid hT
      clear hD4 hwr x3 hD5 hT
      go_wp2_with fail
      go_roundw
      case rel =>
        have h1 := hSH.out
        have h2 := hTH.out
        have eD : (S ++ T).data.toList = S.data.toList ++ T.data.toList := by rw [ByteArray.data_append, Array.toList_append]
        have el : ((l + (1 + m) : Nat) : Int) = (l : Int) + (1 + (m : Int)) := by omega
        refine ⟨k + 1, l + (1 + m), S ++ T, by omega, by omega, by simp, rfl, by omega, by rw [ByteArray.size_append]; omega, ?_, ?_⟩
        · rw [eD, el]; exact hD5H.out
        · rw [eD, el]; exact hok5.out
      case measure =>
        show cs.length - (intOf (Value.int .i64 _)).toNat < cs.length - (intOf (Value.int .i64 _)).toNat
        simp only [intOf]
        omega
    · have hlx : l ≤ 120 := by omega
      have hrd := Lib.hid (fun W (h : Own w W d (rdD (l : Int) S.data.toList)) => by
        have h1 := own_do W d _ 7 1 at' n ByteArray.empty h hok ha.2 (by decide)
        rw [show ByteArray.empty.data.toList = [] from rfl, doD_rdr] at h1
        exact h1)
      have hdiv : (S.size : Int) / 64 = (l : Int) := by omega
      have hDH := Lib.hid hD
      have hrun' : ¬ (k : Int) < (cs.length : Int) ∨ ((k : Int) < (cs.length : Int) ∧ ¬ (k : Int) < 30) := by omega
      have hSH := Lib.hid hS
      unfold Rng at ha hn
      clear hD hok hrun hIH hCH hl4 hS
      by_cases hw : withinB at' n (l : Int) = true
      · rw [if_pos hw] at hrd
        obtain ⟨h1, h2, h3⟩ := Zon.within_iff.1 hw
        obtain ⟨p, rfl⟩ := Int.eq_ofNat_of_zero_le h1
        obtain ⟨q, rfl⟩ := Int.eq_ofNat_of_zero_le (show 0 ≤ n by omega)
        have hS := hSH.out
        have hcut : (⟨(cut S.data.toList (p : Int) (q : Int)).toArray⟩ : ByteArray) = S.extract (64 * p) (64 * (p + q)) := by
          apply ByteArray.ext
          apply Array.ext'
          unfold cut
          rw [ByteArray.data_extract, Array.toList_extract, List.extract_eq_take_drop, show (64 * (p : Int)).toNat = 64 * p by omega, show (64 * (q : Int)).toNat = 64 * q by omega, show 64 * (p + q) - 64 * p = 64 * q by omega]
        rw [hcut] at hrd
        obtain ⟨P6, hP6⟩ : ∃ x, x = 64 * p := ⟨_, rfl⟩
        obtain ⟨T6, hT6⟩ : ∃ x, x = 64 * (p + q) := ⟨_, rfl⟩
        rw [← hP6, ← hT6] at hrd
        have hw1 : IntKind.i64.wrap (64 * (p : Int)) = (P6 : Int) := by rw [IntWalk.i64_in _ (by omega)]; omega
        have hw3 : IntKind.i64.wrap (64 * ((p : Int) + (q : Int))) = (T6 : Int) := by rw [IntWalk.i64_in _ (by omega)]; omega
        have e1 : 64 * (p : Int) = (P6 : Int) := by omega
        have e2 : 64 * ((p : Int) + (q : Int)) = (T6 : Int) := by omega
        have hb1 : P6 ≤ T6 := by omega
        have hb2 : T6 ≤ S.size := by omega
        have hwH := Lib.hid hw
        clear hcut hP6 hT6 hS hw
        rcases hrun' with hr | ⟨hr, hr2⟩
        · skip
          go_wp2_with fail
          refine (hrd.out wr hDH.out).mono ?_
          rintro e w5 ⟨rfl, hD5⟩
          have hB5 := hD5.b
          clear hD5 hrd hDH
          go_wp2_with fail
          go_ret
          exact ⟨rfl, hB5⟩
        · skip
          go_wp2_with fail
          refine (hrd.out wr hDH.out).mono ?_
          rintro e w5 ⟨rfl, hD5⟩
          have hB5 := hD5.b
          clear hD5 hrd hDH
          go_wp2_with fail
          go_ret
          exact ⟨rfl, hB5⟩
      · rw [if_neg hw] at hrd
        have hcase : at' < 0 ∨ (0 ≤ at' ∧ n < 1) ∨ (0 ≤ at' ∧ 1 ≤ n ∧ (l : Int) < at') ∨ (0 ≤ at' ∧ 1 ≤ n ∧ at' ≤ (l : Int) ∧ (l : Int) - at' < n) := by
          have : ¬ (0 ≤ at' ∧ 1 ≤ n ∧ n ≤ (l : Int) - at') := fun h => hw (Zon.within_iff.2 h)
          omega
        clear hw
        rcases hrun' with hr | ⟨hr, hr2⟩
        · rcases hcase with h1 | ⟨h1, h2⟩ | ⟨h1, h2, h3⟩ | ⟨h1, h2, h3, h4⟩
          · skip
            go_wp2_with fail
            refine (hrd.out wr hDH.out).mono ?_
            rintro e w5 ⟨rfl, hD5⟩
            have hB5 := hD5.b
            clear hD5 hrd hDH
            go_wp2_with fail
            go_ret
            exact ⟨rfl, hB5⟩
          · skip
            go_wp2_with fail
            refine (hrd.out wr hDH.out).mono ?_
            rintro e w5 ⟨rfl, hD5⟩
            have hB5 := hD5.b
            clear hD5 hrd hDH
            go_wp2_with fail
            go_ret
            exact ⟨rfl, hB5⟩
          · skip
            go_wp2_with fail
            refine (hrd.out wr hDH.out).mono ?_
            rintro e w5 ⟨rfl, hD5⟩
            have hB5 := hD5.b
            clear hD5 hrd hDH
            go_wp2_with fail
            go_ret
            exact ⟨rfl, hB5⟩
          · skip
            go_wp2_with fail
            refine (hrd.out wr hDH.out).mono ?_
            rintro e w5 ⟨rfl, hD5⟩
            have hB5 := hD5.b
            clear hD5 hrd hDH
            go_wp2_with fail
            go_ret
            exact ⟨rfl, hB5⟩
        · rcases hcase with h1 | ⟨h1, h2⟩ | ⟨h1, h2, h3⟩ | ⟨h1, h2, h3, h4⟩
          · skip
            go_wp2_with fail
            refine (hrd.out wr hDH.out).mono ?_
            rintro e w5 ⟨rfl, hD5⟩
            have hB5 := hD5.b
            clear hD5 hrd hDH
            go_wp2_with fail
            go_ret
            exact ⟨rfl, hB5⟩
          · skip
            go_wp2_with fail
            refine (hrd.out wr hDH.out).mono ?_
            rintro e w5 ⟨rfl, hD5⟩
            have hB5 := hD5.b
            clear hD5 hrd hDH
            go_wp2_with fail
            go_ret
            exact ⟨rfl, hB5⟩
          · skip
            go_wp2_with fail
            refine (hrd.out wr hDH.out).mono ?_
            rintro e w5 ⟨rfl, hD5⟩
            have hB5 := hD5.b
            clear hD5 hrd hDH
            go_wp2_with fail
            go_ret
            exact ⟨rfl, hB5⟩
          · skip
            go_wp2_with fail
            refine (hrd.out wr hDH.out).mono ?_
            rintro e w5 ⟨rfl, hD5⟩
            have hB5 := hD5.b
            clear hD5 hrd hDH
            go_wp2_with fail
            go_ret
            exact ⟨rfl, hB5⟩
end Go.Proofs.Ytncbkegflkjlfaa
