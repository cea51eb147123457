/- What the document's own Back answers; what the law GeomPlaces does. -/
import Derived.Test.YtflkkmiehioejaaGeoRefs
import Derived.Test.YtflkkmiehioejaaGeoSpeak4
namespace Go.Proofs.Ytflkkmiehioejaa
open Go.RowKit

/-- Of a row's blocks just the one that Back tells lies on the drive. -/
theorem back_hit {D Z B O A zone row drive k : Int} (hg : GoodP D Z B O A) (r1 : 0 ≤ row) (r2 : row < B) (k1 : 0 ≤ k) (k2 : k < D - 1) :
    (plB D Z B O A zone (row * (D - 1) + k) = true ∧ plD D Z B O A zone (row * (D - 1) + k) = drive) ↔ (bkB D Z B O A zone row drive = true ∧ bkV D Z B O A zone row drive = row * (D - 1) + k) := by
  have hgq := hg
  obtain ⟨g1, g2, g3, g4, g5, g6, _⟩ := hgq
  by_cases hz : 0 ≤ zone ∧ zone ≤ Z - 4
  · have hpv := parV_good hg hz.1 hz.2 r1 (show row ≤ B - 1 by omega)
    have p1 := Int.emod_nonneg (zone + row) (show D ≠ 0 by omega)
    have p2 := Int.emod_lt_of_pos (zone + row) (show 0 < D by omega)
    have hdm := (Int.ediv_emod_unique (a := row * (D - 1) + k) (b := D - 1) (r := k) (q := row) (by omega)).2 ⟨by rw [Int.mul_comm (D - 1)]; omega, k1, k2⟩
    have hmu : row * (D - 1) ≤ (B - 1) * (D - 1) := Int.mul_le_mul_of_nonneg_right (by omega) (by omega)
    have hmx : (B - 1) * (D - 1) = (D - 1) * B - (D - 1) := by rw [Int.sub_mul, Int.one_mul, Int.mul_comm]
    have hm0 := Int.mul_nonneg r1 (show 0 ≤ D - 1 by omega)
    have ep : plB D Z B O A zone (row * (D - 1) + k) = true := plB_mk hg hz.1 hz.2 (by omega) (by omega)
    have ed : plD D Z B O A zone (row * (D - 1) + k) = ((zone + row) % D + 1 + k) % D := by unfold plD; rw [if_pos ep, hdm.1, hdm.2, hpv]
    rw [ep, ed]
    unfold bkV bkB
    rw [hpv]
    generalize (zone + row) % D = p at p1 p2
    generalize row * (D - 1) = x
    have hk : (p + 1 + k) % D = if p + 1 + k < D then p + 1 + k else p + 1 + k - D := by
      split
      · exact Int.emod_eq_of_lt (by omega) (by omega)
      · rw [show p + 1 + k = (p + 1 + k - D) + D by omega, Int.add_emod_right, Int.emod_eq_of_lt (by omega) (by omega)]; omega
    have hj : 0 ≤ drive → drive < D → (drive - p - 1 + D) % D = if p < drive then drive - p - 1 else drive - p - 1 + D := fun a1 a2 => by
      split
      · rw [Int.add_emod_right, Int.emod_eq_of_lt (by omega) (by omega)]
      · by_cases hc : drive = p
        · rw [hc, Int.emod_eq_of_lt (by omega) (by omega)]
        · exact Int.emod_eq_of_lt (by omega) (by omega)
    rw [hk]
    constructor
    · rintro ⟨_, h⟩
      have hd : 0 ≤ drive ∧ drive < D ∧ drive ≠ p := by split at h <;> omega
      have hb : (decide (0 ≤ p) && decide (drive ≠ p) && betB drive 0 (D - 1)) = true := by
        rw [decide_eq_true p1, decide_eq_true hd.2.2, betB_iff.2 ⟨hd.1, by omega⟩]; rfl
      rw [if_pos hb, hj hd.1 hd.2.1]
      refine ⟨hb, ?_⟩
      split at h <;> split <;> omega
    · rintro ⟨hb, hv⟩
      rw [if_pos hb] at hv
      simp only [Bool.and_eq_true, decide_eq_true_eq, betB_iff] at hb
      obtain ⟨⟨_, hne⟩, hd1, hd2⟩ := hb
      rw [hj hd1 (by omega)] at hv
      refine ⟨rfl, ?_⟩
      split at hv <;> split <;> omega
  · have e1 : plB D Z B O A zone (row * (D - 1) + k) = false := by
      rcases h : plB D Z B O A zone (row * (D - 1) + k) with _ | _
      · rfl
      · have := plB_true h; omega
    have e2 : bkB D Z B O A zone row drive = false := by
      have hp : parV D Z B O A zone row = -1 := by
        rcases (parV_bd D Z B O A zone row).2 with h | h
        · exact h
        · omega
      unfold bkB; rw [hp]; rfl
    rw [e1, e2]
    constructor <;> (rintro ⟨h, _⟩; cases h)
theorem bk_range {D Z B O A zone row drive : Int} (hD : 3 ≤ D) (h : bkB D Z B O A zone row drive = true) : 0 ≤ row ∧ row < B ∧ GoodP D Z B O A ∧ ∃ k, 0 ≤ k ∧ k < D - 1 ∧ bkV D Z B O A zone row drive = row * (D - 1) + k := by
  have h0 := h
  unfold bkB at h
  simp only [Bool.and_eq_true, decide_eq_true_eq, betB_iff] at h
  obtain ⟨⟨h1, h2⟩, h3, h4⟩ := h
  rcases (parV_bd D Z B O A zone row).2 with hp | ⟨hg, r1, r2, _, _, _, p2⟩
  · omega
  · refine ⟨r1, by omega, hg, (drive - parV D Z B O A zone row - 1 + D) % D, Int.emod_nonneg _ (by omega), ?_, by unfold bkV; rw [if_pos h0]⟩
    generalize parV D Z B O A zone row = p at h1 h2 p2
    by_cases hc : p < drive
    · rw [Int.add_emod_right, Int.emod_eq_of_lt (by omega) (by omega)]; omega
    · rw [Int.emod_eq_of_lt (by omega) (by omega)]; omega

set_option maxHeartbeats 1000000 in
theorem refback_any (D Z B O A zone row drive : Int) (w : World) :
    Calls Try.prog 25 #[.agg #[.int .i64 D, .int .i64 Z, .int .i64 B, .int .i64 O, .int .i64 A], .int .i64 zone, .int .i64 row, .int .i64 drive] w fun e w' => e = .returned (.tuple #[.int .i64 (bkV D Z B O A zone row drive), .bool (bkB D Z B O A zone row drive)]) ∧ Below w.heap.size w w' := by
  have cg := fun W => refgood_any D Z B O A W
  by_cases hg : goodB D Z B O A = true
  · have hgp := goodB_iff.1 hg
    have hgq := hgp
    obtain ⟨g1, g2, g3, g4, g5, g6, _⟩ := hgq
    rw [hg] at cg
    by_cases hr : 0 ≤ row ∧ row < B
    · obtain ⟨r1, r2⟩ := hr
      have hhit : ∀ j : Nat, (j : Int) < D - 1 → ((plB D Z B O A zone (row * (D - 1) + (j : Int)) = true ∧ plD D Z B O A zone (row * (D - 1) + (j : Int)) = drive) ↔ (bkB D Z B O A zone row drive = true ∧ bkV D Z B O A zone row drive = row * (D - 1) + (j : Int))) := fun j hj =>
        back_hit hgp r1 r2 (by omega) hj
      have hrng := fun h => bk_range (D := D) (Z := Z) (B := B) (O := O) (A := A) (zone := zone) (row := row) (drive := drive) g1 h
      have hv0 : bkB D Z B O A zone row drive = false → bkV D Z B O A zone row drive = 0 := fun h => by unfold bkV; rw [if_neg (by rw [h]; decide)]
      have hm := mul_bd (a := row) (b := D - 1) (m := 255) (n := 15) r1 (by omega) (by omega) (by omega)
      obtain ⟨x, hx⟩ : ∃ x, row * (D - 1) = x := ⟨_, rfl⟩
      rw [hx] at hm hhit hrng
      obtain ⟨hm1, hm2⟩ := hm
      have wx : wrap64 (row * (D - 1)) = x := by rw [hx]; exact IntWalk.wrap64_in _ ⟨by omega, by omega⟩
      have cp := fun (j : Nat) W => refplace_any D Z B O A zone (x + (j : Int)) W
      generalize bkB D Z B O A zone row drive = vb at hhit hrng hv0 ⊢
      generalize bkV D Z B O A zone row drive = vv at hhit hrng hv0 ⊢
      have cgH := Lib.hid cg
      have cpH := Lib.hid cp
      have hhitH := Lib.hid hhit
      have hrngH := Lib.hid hrng
      have hv0H := Lib.hid hv0
      have wxH := Lib.hid wx
      clear cg cp hhit hrng hv0 wx hx hgp hg
      have hN := GeoAt.new w D Z B O A 39
      have hB0 : Below w.heap.size w (w.alloc (.cells #[.int .i64 D, .int .i64 Z, .int .i64 B, .int .i64 O, .int .i64 A] 39)) := (Below.refl _ _).alloc (Nat.le_refl _) _
      have hNH := Lib.hid hN
      have hBH := Lib.hid hB0
      clear hN hB0
      go_enter Try.func25, Try.ntmps25
      go_wp2_with fail
      (with_reducible refine (cgH.out _).mono ?_)
      rintro e w1 ⟨rfl, hb1⟩
      have hG := hNH.out.below hb1
      have hB := bmore hBH.out hb1
      clear hNH hBH hb1

      have hGH := Lib.hid hG
      have hBH := Lib.hid hB
      clear hB
      obtain ⟨h0, h1, h2, h3, h4, _⟩ := hG
      go_wp2_with fail
      have hG := hGH.out
      have hB := hBH.out
      clear hGH hBH h0 h1 h2 h3 h4
      go_loopw [10] (fun i wr => ∃ j : Nat, i = .int .i64 (j : Int) ∧ (j : Int) ≤ D - 1 ∧ (∀ i : Nat, i < j → ¬ (vb = true ∧ vv = x + (i : Int))) ∧ GeoAt wr w.heap.size D Z B O A ∧ Below w.heap.size w wr) (fun i _ => (D - 1).toNat - (intOf i).toNat)
      case atStart => exact ⟨0, rfl, by omega, fun i hi => absurd hi (Nat.not_lt_zero i), hG, hB⟩
      case round =>
        clear hG hB
        obtain ⟨j, rfl, hj, hno, hG, hB⟩ := hrel
        have hnoH := Lib.hid hno
        have hGH := Lib.hid hG
        have hBH := Lib.hid hB
        obtain ⟨h0, h1, h2, h3, h4, _⟩ := hG
        clear hno hB
        by_cases hlt : (j : Int) < D - 1
        · have hh := hhitH.out j hlt
          have cp := cpH.out j
          generalize plB D Z B O A zone (x + (j : Int)) = pb at hh cp
          generalize plD D Z B O A zone (x + (j : Int)) = pd at hh cp
          generalize plR D Z B O A zone (x + (j : Int)) = pr at cp
          have hhH := Lib.hid hh
          have cpjH := Lib.hid cp
          clear hh cp
          have wx := wxH.out
          have hmiss : (pb = true ∧ pd = drive) ∨ pb = false ∨ (pb = true ∧ pd ≠ drive) := by
            cases pb
            · exact .inr (.inl rfl)
            · by_cases h : pd = drive
              · exact .inl ⟨rfl, h⟩
              · exact .inr (.inr ⟨rfl, h⟩)
          rcases hmiss with ⟨rfl, rfl⟩ | rfl | ⟨rfl, hne⟩
          · obtain ⟨rfl, rfl⟩ := hhH.out.1 ⟨rfl, rfl⟩
            go_wp2_with fail
            (with_reducible refine (cpjH.out _).mono ?_)
            rintro e w2 ⟨rfl, hb2⟩
            have hG := hGH.out.below hb2
            have hB := bmore hBH.out hb2
            clear hGH hBH hb2 h0 h1 h2 h3 h4
            have hGH := Lib.hid hG
            have hBH := Lib.hid hB
            clear hB
            obtain ⟨h0, h1, h2, h3, h4, _⟩ := hG
            go_wp2
            go_ret2
            exact ⟨rfl, hBH.out⟩
          · have hnn0 : ¬ (vb = true ∧ vv = x + (j : Int)) := fun h => absurd (hhH.out.2 h).1 (by decide)
            have hnn := Lib.hid hnn0
            clear hnn0
            go_wp2_with fail
            (with_reducible refine (cpjH.out _).mono ?_)
            rintro e w2 ⟨rfl, hb2⟩
            have hG := hGH.out.below hb2
            have hB := bmore hBH.out hb2
            clear hGH hBH hb2 h0 h1 h2 h3 h4
            have hGH := Lib.hid hG
            have hBH := Lib.hid hB
            clear hB
            obtain ⟨h0, h1, h2, h3, h4, _⟩ := hG
            go_wp2
            go_roundw
            case rel => exact ⟨j + 1, by go_num, by omega, fun i hi => by
              rcases Nat.lt_succ_iff_lt_or_eq.1 hi with h | h
              · exact hnoH.out i h
              · rw [h]; exact hnn.out, hGH.out, hBH.out⟩
            case measure => simp [intOf]; omega
          · have hnn0 : ¬ (vb = true ∧ vv = x + (j : Int)) := fun h => absurd (hhH.out.2 h).2 hne
            have hnn := Lib.hid hnn0
            clear hnn0
            have hneb : (pd == drive) = false := by rw [beq_eq_false_iff_ne]; exact hne
            go_wp2_with fail
            (with_reducible refine (cpjH.out _).mono ?_)
            rintro e w2 ⟨rfl, hb2⟩
            have hG := hGH.out.below hb2
            have hB := bmore hBH.out hb2
            clear hGH hBH hb2 h0 h1 h2 h3 h4
            have hGH := Lib.hid hG
            have hBH := Lib.hid hB
            clear hB
            obtain ⟨h0, h1, h2, h3, h4, _⟩ := hG
            go_wp2
            go_roundw
            case rel => exact ⟨j + 1, by go_num, by omega, fun i hi => by
              rcases Nat.lt_succ_iff_lt_or_eq.1 hi with h | h
              · exact hnoH.out i h
              · rw [h]; exact hnn.out, hGH.out, hBH.out⟩
            case measure => simp [intOf]; omega
        · have hje : (j : Int) = D - 1 := by omega
          obtain rfl : vb = false := by
            rcases hb : vb with _ | _
            · rfl
            · obtain ⟨_, _, _, k, k1, k2, k3⟩ := hrngH.out hb
              obtain ⟨kn, rfl⟩ := Int.eq_ofNat_of_zero_le k1
              exact absurd ⟨hb, k3⟩ (hnoH.out kn (by omega))
          obtain rfl := hv0H.out rfl
          clear hje
          have hlt2 : ¬ (j : Int) < D - 1 := hlt
          go_wp2
          go_ret2
          exact ⟨rfl, hBH.out⟩
    · have hb : bkB D Z B O A zone row drive = false := by
        rcases h : bkB D Z B O A zone row drive with _ | _
        · rfl
        · have h1 := bk_range g1 h
          exact absurd ⟨h1.1, h1.2.1⟩ hr
      have hv : bkV D Z B O A zone row drive = 0 := by unfold bkV; rw [if_neg (by rw [hb]; decide)]
      rw [hb, hv]
      have cgH := Lib.hid cg
      clear cg hb hv hgp hg
      by_cases a1 : row < 0
      · clear hr
        have hN := GeoAt.new w D Z B O A 39
        have hB0 : Below w.heap.size w (w.alloc (.cells #[.int .i64 D, .int .i64 Z, .int .i64 B, .int .i64 O, .int .i64 A] 39)) := (Below.refl _ _).alloc (Nat.le_refl _) _
        have hNH := Lib.hid hN
        have hBH := Lib.hid hB0
        clear hN hB0
        go_enter Try.func25, Try.ntmps25
        go_wp2_with fail
        (with_reducible refine (cgH.out _).mono ?_)
        rintro e w1 ⟨rfl, hb1⟩
        have hG := hNH.out.below hb1
        have hB := bmore hBH.out hb1
        clear hNH hBH hb1

        have hGH := Lib.hid hG
        have hBH := Lib.hid hB
        clear hB
        obtain ⟨h0, h1, h2, h3, h4, _⟩ := hG
        go_wp2
        go_ret2
        exact ⟨rfl, hBH.out⟩
      · have a2 : B ≤ row := by omega
        clear hr
        have hN := GeoAt.new w D Z B O A 39
        have hB0 : Below w.heap.size w (w.alloc (.cells #[.int .i64 D, .int .i64 Z, .int .i64 B, .int .i64 O, .int .i64 A] 39)) := (Below.refl _ _).alloc (Nat.le_refl _) _
        have hNH := Lib.hid hN
        have hBH := Lib.hid hB0
        clear hN hB0
        go_enter Try.func25, Try.ntmps25
        go_wp2_with fail
        (with_reducible refine (cgH.out _).mono ?_)
        rintro e w1 ⟨rfl, hb1⟩
        have hG := hNH.out.below hb1
        have hB := bmore hBH.out hb1
        clear hNH hBH hb1

        have hGH := Lib.hid hG
        have hBH := Lib.hid hB
        clear hB
        obtain ⟨h0, h1, h2, h3, h4, _⟩ := hG
        go_wp2
        go_ret2
        exact ⟨rfl, hBH.out⟩
  · have hb : bkB D Z B O A zone row drive = false := by
      rcases h : bkB D Z B O A zone row drive with _ | _
      · rfl
      · unfold bkB at h
        simp only [Bool.and_eq_true, decide_eq_true_eq] at h
        rcases (parV_bd D Z B O A zone row).2 with h1 | h1
        · omega
        · exact absurd (goodB_iff.2 h1.1) hg
    have hv : bkV D Z B O A zone row drive = 0 := by unfold bkV; rw [if_neg (by rw [hb]; decide)]
    rw [hb, hv]
    rw [Bool.not_eq_true] at hg
    rw [hg] at cg
    have cgH := Lib.hid cg
    clear cg hg hb hv
    have hN := GeoAt.new w D Z B O A 39
    have hB0 : Below w.heap.size w (w.alloc (.cells #[.int .i64 D, .int .i64 Z, .int .i64 B, .int .i64 O, .int .i64 A] 39)) := (Below.refl _ _).alloc (Nat.le_refl _) _
    have hNH := Lib.hid hN
    have hBH := Lib.hid hB0
    clear hN hB0
    go_enter Try.func25, Try.ntmps25
    go_wp2_with fail
    (with_reducible refine (cgH.out _).mono ?_)
    rintro e w1 ⟨rfl, hb1⟩
    have hG := hNH.out.below hb1
    have hB := bmore hBH.out hb1
    clear hNH hBH hb1

    have hGH := Lib.hid hG
    have hBH := Lib.hid hB
    clear hB
    obtain ⟨h0, h1, h2, h3, h4, _⟩ := hG
    go_wp2
    go_ret2
    exact ⟨rfl, hBH.out⟩
end Go.Proofs.Ytflkkmiehioejaa
