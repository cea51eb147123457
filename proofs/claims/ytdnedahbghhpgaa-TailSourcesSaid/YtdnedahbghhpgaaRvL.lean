/- How many blocks are told: what the document's Length does. -/
import Derived.Test.YtdnedahbghhpgaaRvS
namespace Go.Proofs.Ytdnedahbghhpgaa
open Go.RowKit Tl Pl Md

set_option maxRecDepth 100000 in
set_option maxHeartbeats 4000000 in
theorem rlength_any (D Z B O A zone : Int) (A1 : Option Addr) (ca : Nat) (ls : List Int) (m : Int) (Bn : Option Addr) (cb : Nat) (ns : List (Int × Int)) (w : World) (hI : IntsIn w A1 ls) (hP : ntE.In w Bn ns) (hl : ls.length ≤ 1000000) (hnl : ns.length ≤ 1000000) :
    Calls Try.prog 14 #[.agg #[.int .i64 D, .int .i64 Z, .int .i64 B, .int .i64 O, .int .i64 A], .int .i64 zone, .agg #[.slice A1 ls.length ca, .int .i64 m, .slice Bn ns.length cb]] w fun e w' => e = .returned (.int .i64 (lenV D Z B O A zone ⟨ls, m, ns⟩ : Int)) ∧ Below w.heap.size w w' := by
  have hN := Lib.hid (CnB.new w D Z B O A A1 ls.length ca m Bn ns.length cb)
  have hso := Lib.hid (fun bl W (hb : Below w.heap.size w W) => rsource_any D Z B O A zone A1 ca ls m Bn cb ns bl W (hI.below hb) (hP.below hb) hl hnl)
  have hrg := Lib.hid (fun W => refgood_any D Z B O A W)
  obtain ⟨nl, hnlE⟩ : ∃ n, ls.length = n := ⟨_, rfl⟩
  obtain ⟨nn, hnnE⟩ : ∃ n, ns.length = n := ⟨_, rfl⟩
  rw [hnlE, hnnE] at hN hso
  rw [hnlE, hnnE]
  clear hI hP hnlE hnnE hl hnl
  obtain ⟨L, hL⟩ : ∃ L, lenV D Z B O A zone ⟨ls, m, ns⟩ = L := ⟨_, rfl⟩
  rw [hL]
  have hVb := capV_bd D Z B O A
  obtain ⟨n, hn⟩ := Int.eq_ofNat_of_zero_le hVb.1
  rw [hn] at hVb
  have hLe : Hid (∀ r, r ≤ n → (∀ k, k < r → (srcV D Z B O A zone ⟨ls, m, ns⟩ (k : Int)).1 ≠ 0) → (r < n → (srcV D Z B O A zone ⟨ls, m, ns⟩ (r : Int)).1 = 0) → r = L) := Lib.hid (fun r h1 h2 h3 => by
    rw [← hL]
    unfold lenV
    rw [hn, Int.toNat_natCast]
    exact (lead_eq h1 (fun k hk => decide_eq_true (h2 k hk)) (fun hr => decide_eq_false (fun h => h (h3 hr)))).symm)
  clear hL
  obtain ⟨srcf, hsf⟩ : ∃ s : Int → Int × Int, s = srcV D Z B O A zone ⟨ls, m, ns⟩ := ⟨_, rfl⟩
  rw [← hsf] at hLe hso
  clear hsf
  have hn9 : n ≤ 3840 := by omega
  go_enter Try.func14, Try.ntmps14
  go_upto_region 1 with fail
  refine fresh_world (fun W => CnB w W D Z B O A A1 nl ca m Bn nn cb) hN.out ?_
  clear hN
  rintro W1 h1
  obtain ⟨g0, g1, g2, g3, g4, _⟩ := h1.g
  have h1H := Lib.hid h1
  clear h1
  cases hg : goodB D Z B O A with
  | false =>
    have hL0 : Hid (0 = L) := Lib.hid (hLe.out 0 (Nat.zero_le _) (fun k hk => absurd hk (Nat.not_lt_zero _)) (fun h0 => by
      have : capV D Z B O A = 0 := if_neg (by rw [hg]; decide)
      omega))
    rw [hg] at hrg
    clear hn hLe
    go_wp2_with fail
    (with_reducible refine (hrg.out _).mono ?_)
    rintro e w1 ⟨rfl, hb1⟩
    have hF := Lib.hid (h1H.out.below hb1).b
    clear h1H hb1 g0 g1 g2 g3 g4
    go_wp2_with fail
    go_ret
    exact ⟨by rw [← hL0.out]; rfl, hF.out⟩
  | true =>
    have hgp := goodB_iff.1 hg
    have hD3 : 3 ≤ D ∧ D ≤ 16 := ⟨hgp.1, hgp.2.1⟩
    rw [capV_good hgp] at hn
    rw [hg] at hrg
    have w1' : IntKind.i64.wrap (D - 1) = D - 1 := IntWalk.i64_in _ (by omega)
    have w2' : wrap64 (D - 1) = D - 1 := IntWalk.wrap64_in _ (by omega)
    have w3' : IntKind.i64.wrap ((D - 1) * B) = (n : Int) := by rw [hn]; exact IntWalk.i64_in _ (by omega)
    have w4' : wrap64 ((D - 1) * B) = (n : Int) := by rw [hn]; exact IntWalk.wrap64_in _ (by omega)
    have wH := Lib.hid (And.intro w1' (And.intro w2' (And.intro w3' w4')))
    clear hgp hn w1' w2' w3' w4' hD3
    go_wp2_with fail
    (with_reducible refine (hrg.out _).mono ?_)
    rintro e w1 ⟨rfl, hb1⟩
    have h2H := Lib.hid (h1H.out.below hb1)
    clear h1H hb1 g0 g1 g2 g3 g4 hrg
    go_wp2_with fail
    go_loopw [7] (fun ii wr => ∃ i : Nat, ii = .int .i64 (i : Int) ∧ i ≤ n ∧ Hid (∀ k, k < i → (srcf (k : Int)).1 ≠ 0) ∧ Hid (CnB w wr D Z B O A A1 nl ca m Bn nn cb)) (fun ii _ => n - (intOf ii).toNat)
    case atStart => exact ⟨0, rfl, Nat.zero_le _, Lib.hid (fun k hk => absurd hk (Nat.not_lt_zero _)), h2H⟩
    case round =>
      obtain ⟨i, rfl, hi, hq, hB⟩ := hrel
      clear h2H
      obtain ⟨g0, g1, g2, g3, g4, _⟩ := hB.out.g
      have c0 := hB.out.c0
      have c1 := hB.out.c1
      have c2 := hB.out.c2
      obtain ⟨w1', w2', w3', w4'⟩ := wH.out
      by_cases hlt : i < n
      case neg =>
        have hx : ¬ (i : Int) < (n : Int) := by clear w1' w2' w3' w4'; omega
        have hL0 : Hid (n = L) := Lib.hid (hLe.out n (Nat.le_refl _) (fun k hk => hq.out k (by clear w1' w2' w3' w4'; omega)) (fun h => absurd h (Nat.lt_irrefl _)))
        have hF := Lib.hid hB.out.b
        clear hB hq hLe
        go_wp2_with fail
        go_ret
        exact ⟨by rw [← hL0.out]; rfl, hF.out⟩
      case pos =>
        have hx : (i : Int) < (n : Int) := by clear w1' w2' w3' w4'; omega
        have iw : IntKind.i64.wrap ((i : Int) + 1) = (i : Int) + 1 := IntWalk.i64_in _ (by clear w1' w2' w3' w4'; omega)
        have hc := hso.out (i : Int) wr hB.out.b
        obtain ⟨⟨p1, p2⟩, hp⟩ : ∃ p, srcf (i : Int) = p := ⟨_, rfl⟩
        rw [hp] at hc
        have hcH := Lib.hid hc
        have hpH := Lib.hid hp
        have hBI := Lib.hid (fun W (hb : Below wr.heap.size wr W) => hB.out.below hb)
        clear hc hp hB
        go_wp2_with fail
        (with_reducible refine hcH.out.mono ?_)
        rintro e w2 ⟨rfl, hb2⟩
        have hB2 := Lib.hid (hBI.out _ hb2)
        clear hb2 hcH hBI g0 g1 g2 g3 g4 c0 c1 c2 w1' w2' w3' w4'
        by_cases hp0 : p1 = 0
        · have hL0 : Hid (i = L) := Lib.hid (hLe.out i hi hq.out (fun _ => by rw [hpH.out]; exact hp0))
          subst hp0
          clear hpH hq hLe
          go_wp2_with fail
          go_ret
          exact ⟨by rw [← hL0.out]; rfl, hB2.out.b⟩
        · have e0 : (p1 == 0) = false := by simp [hp0]
          have hq2 : Hid (∀ k, k < i + 1 → (srcf (k : Int)).1 ≠ 0) := Lib.hid (fun k hk => by
            by_cases e : k = i
            · rw [e, hpH.out]; exact hp0
            · exact hq.out k (by omega))
          clear hpH hq hp0
          go_wp2_with fail
          go_roundw
          case rel => exact ⟨i + 1, by go_num, hlt, hq2, hB2⟩
          case measure => simp only [intOf]; omega
end Go.Proofs.Ytdnedahbghhpgaa
