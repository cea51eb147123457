/- FitSizes: the walk. -/
import Derived.Test.YtbgkmppngnedlaaFtC
import Derived.Lib.MinMax
namespace Go.Proofs.Ytbgkmppngnedlaa
open Go.RowKit Go.Shelf

/-- The law's boxes. -/
structure FsB (w W : World) (D Z B O A p q : Int) : Prop where
  g : GeoAt W w.heap.size D Z B O A
  a0 : W.cell? ⟨w.heap.size + 1, 0, none⟩ = some (.int .i64 p)
  a1 : W.cell? ⟨w.heap.size + 1, 1, none⟩ = some (.int .i64 q)
  b : Below w.heap.size w W
theorem FsB.below {w W W' : World} {D Z B O A p q : Int} (h : FsB w W D Z B O A p q) (hb : Below W.heap.size W W') : FsB w W' D Z B O A p q :=
  ⟨h.g.below hb, (hb.cell (lt_of_cell h.a0)).trans h.a0, (hb.cell (lt_of_cell h.a0)).trans h.a1, h.b.trans (hb.mono h.b.size)⟩
theorem rgB_alt (s p q : Int) : rgB s p q = (decide (p ≥ 0) && decide (q ≥ 1) && decide (p ≤ s) && decide (q ≤ s - p)) := by
  unfold rgB
  by_cases h1 : p ≥ 0 <;> by_cases h2 : q ≥ 1 <;> by_cases h3 : p ≤ s <;> simp [h1, h2, h3]
  omega
set_option maxRecDepth 100000 in
set_option maxHeartbeats 8000000 in
theorem fsizes_law (w : World) (D Z B O A b p q : Int) (hp : -9223372036854775808 ≤ p ∧ p ≤ 9223372036854775807) : Calls Try.prog 7 #[.agg #[.int .i64 D, .int .i64 Z, .int .i64 B, .int .i64 O, .int .i64 A], .int .i64 b, .agg #[.int .i64 p, .int .i64 q]] w fun e w' => e = .returned (.bool true) ∧ Below w.heap.size w w' := by
  have hsp := Lib.hid (fun W => speaks21 W)
  have hen := Lib.hid (fun W b => entries_any W b)
  have hre := Lib.hid (fun W b => rentries_any W b)
  have hsz := Lib.hid (fun W => size_any D Z B O A W)
  have hrs := Lib.hid (fun W => rsize_any D Z B O A W)
  have hrg := Lib.hid (fun W => range_any D Z B O A p q hp W)
  have hbd := szI_bd D Z B O A
  generalize szI D Z B O A = s at hsz hrs hrg hbd
  obtain ⟨v, hv⟩ : ∃ v, rgB s p q = v := ⟨_, rfl⟩
  rw [hv] at hrg
  rw [rgB_alt] at hv
  have hF : Hid (FsB w ((w.alloc (.cells #[.int .i64 D, .int .i64 Z, .int .i64 B, .int .i64 O, .int .i64 A] 42)).alloc (.cells #[.int .i64 p, .int .i64 q] 43)) D Z B O A p q) := Lib.hid (by
    have h1 := geo_new w D Z B O A 42
    have h2 := (Below.refl (w.alloc (.cells #[.int .i64 D, .int .i64 Z, .int .i64 B, .int .i64 O, .int .i64 A] 42)).heap.size (w.alloc (.cells #[.int .i64 D, .int .i64 Z, .int .i64 B, .int .i64 O, .int .i64 A] 42))).alloc (Nat.le_refl _) (.cells #[.int .i64 p, .int .i64 q] 43)
    refine ⟨h1.out.1.below h2, ?_, ?_, h1.out.2.trans (h2.mono (by simp))⟩
    · rw [← World.size_alloc w (.cells #[.int .i64 D, .int .i64 Z, .int .i64 B, .int .i64 O, .int .i64 A] 42), World.cell?_alloc_new]; rfl
    · rw [← World.size_alloc w (.cells #[.int .i64 D, .int .i64 Z, .int .i64 B, .int .i64 O, .int .i64 A] 42), World.cell?_alloc_new]; rfl)
  obtain ⟨bm, hbm⟩ : ∃ bm, min b 5000 = bm := ⟨_, rfl⟩
  obtain ⟨big, hbig⟩ : ∃ big, decide (b > 1048576) = big := ⟨_, rfl⟩
  go_enter Try.func7, Try.ntmps7
  go_wp2_with fail
  (with_reducible refine (hsp.out _).mono ?_)
  rintro e w1 ⟨rfl, hb1⟩
  have hF1 := Lib.hid (hF.out.below hb1)
  clear hb1 hsp hF
  go_upto_region 3 with fail
  go_cut [17] from 11 to 17 (fun c W => c = .bool false ∧ FsB w W D Z B O A p q)
  case first =>
    cases big with
    | false =>
      clear hv hbm
      go_wp2_with fail
      go_meet
      exact ⟨rfl, hF1.out⟩
    | true =>
      have hb := of_decide_eq_true hbig
      have h0 := Lib.hid (hen.out w1 b)
      rw [show entI b = 0 from if_pos hb] at h0
      have q0 : ((0 : Int) != 0) = false := by simp
      clear hv hb hbm
      go_wp2_with fail
      (with_reducible refine h0.out.mono ?_)
      rintro e w2 ⟨rfl, hb2⟩
      have hF2 := Lib.hid (hF1.out.below hb2)
      clear hb2 h0
      go_wp2_with fail
      go_meet
      exact ⟨rfl, hF2.out⟩
  obtain ⟨rfl, hFc⟩ := hcut
  have hF2 := Lib.hid hFc
  obtain ⟨⟨g0, g1, g2, g3, g4, -⟩, -, -, -⟩ := hFc
  clear hF1 hbig
  go_wp2_with fail
  (with_reducible refine (hrs.out _).mono ?_)
  rintro e w2 ⟨rfl, hb2⟩
  have hF3 := Lib.hid (hF2.out.below hb2)
  clear hb2 hF2 hrs g0 g1 g2 g3 g4
  obtain ⟨⟨g0, g1, g2, g3, g4, -⟩, a0, a1, -⟩ := hF3.out
  go_upto_region 7 with fail
  go_cut [8] from 22 to 44 (fun c W => c = .bool v ∧ W = w2)
  case first =>
    by_cases h1 : p ≥ 0
    case neg =>
      have h1I : decide (p ≥ 0) = false := decide_eq_false h1
      rw [h1I] at hv
      simp only [Bool.false_and] at hv
      subst hv
      go_wp2_with fail
      go_meet
      exact ⟨rfl, rfl⟩
    case pos =>
      have h1I : decide (p ≥ 0) = true := decide_eq_true h1
      rw [h1I, Bool.true_and] at hv
      by_cases h2 : q ≥ 1
      case neg =>
        have h2I : decide (q ≥ 1) = false := decide_eq_false h2
        rw [h2I] at hv
        simp only [Bool.false_and] at hv
        subst hv
        go_wp2_with fail
        go_meet
        exact ⟨rfl, rfl⟩
      case pos =>
        have h2I : decide (q ≥ 1) = true := decide_eq_true h2
        rw [h2I, Bool.true_and] at hv
        by_cases h3 : p ≤ s
        case neg =>
          have h3I : decide (p ≤ s) = false := decide_eq_false h3
          rw [h3I] at hv
          simp only [Bool.false_and] at hv
          subst hv
          go_wp2_with fail
          go_meet
          exact ⟨rfl, rfl⟩
        case pos =>
          have h3I : decide (p ≤ s) = true := decide_eq_true h3
          rw [h3I, Bool.true_and] at hv
          obtain ⟨d, hd⟩ : ∃ d, s - p = d := ⟨_, rfl⟩
          have wd : IntKind.i64.wrap (s - p) = d := by rw [hd]; exact IntWalk.i64_in _ (by omega)
          rw [hd] at hv
          clear hd hbd h1 h2 h3
          go_wp2_with fail
          go_meet
          exact ⟨rfl, rfl⟩
  obtain ⟨rfl, hwc⟩ := hcut
  rw [hwc]
  clear hwc hv g0 g1 g2 g3 g4 a0 a1 hbd
  have qe : (entI bm == entI bm) = true := by simp
  have qs : (s == s) = true := by simp
  have qv : (v == v) = true := by simp
  have hen1 := Lib.hid (fun W => hen.out W bm)
  have hre1 := Lib.hid (fun W => hre.out W bm)
  generalize entI bm = E at hen1 hre1 qe
  clear hen hre
  go_wp2_with fail
  (with_reducible refine (hen1.out _).mono ?_)
  rintro e w3 ⟨rfl, hb3⟩
  have hF4 := Lib.hid (hF3.out.below hb3)
  clear hb3 hF3
  go_wp2_with fail
  (with_reducible refine (hre1.out _).mono ?_)
  rintro e w4 ⟨rfl, rfl⟩
  obtain ⟨⟨g0, g1, g2, g3, g4, -⟩, -, -, -⟩ := hF4.out
  go_wp2_with fail
  (with_reducible refine (hsz.out _).mono ?_)
  rintro e w5 ⟨rfl, hb5⟩
  have hF5 := Lib.hid (hF4.out.below hb5)
  clear hb5 hF4 g0 g1 g2 g3 g4
  obtain ⟨⟨g0, g1, g2, g3, g4, -⟩, a0, a1, -⟩ := hF5.out
  go_wp2_with fail
  (with_reducible refine (hrg.out _).mono ?_)
  rintro e w6 ⟨rfl, hb6⟩
  have hF6 := Lib.hid (hF5.out.below hb6)
  clear hb6 hF5 g0 g1 g2 g3 g4 a0 a1
  go_wp2_with fail
  go_ret
  exact ⟨rfl, hF6.out.b⟩
end Go.Proofs.Ytbgkmppngnedlaa
