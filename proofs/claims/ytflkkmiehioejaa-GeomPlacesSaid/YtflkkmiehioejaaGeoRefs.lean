/- What the document's own Drive, Place and Back answer. -/
import Derived.Test.YtflkkmiehioejaaGeoPlace
import Derived.Test.YtflkkmiehioejaaGeoRefGood
namespace Go.Proofs.Ytflkkmiehioejaa
open Go.RowKit

set_option maxHeartbeats 1000000 in
theorem refdrive_any (D Z B O A zone row : Int) (k : Nat) (w : World) (hD : 3 ≤ D ∧ D ≤ 16) (hz : 0 ≤ zone ∧ zone ≤ 60) (hr : 0 ≤ row ∧ row ≤ 255) (hk : (k : Int) ≤ D - 2) :
    Calls Try.prog 34 #[.agg #[.int .i64 D, .int .i64 Z, .int .i64 B, .int .i64 O, .int .i64 A], .int .i64 zone, .int .i64 row, .int .i64 (k : Int)] w fun e w' => e = .returned (.int .i64 (((zone + row) % D + 1 + (k : Int)) % D)) ∧ Below w.heap.size w w' := by
  obtain ⟨d1, d2⟩ := hD
  obtain ⟨z1, z2⟩ := hz
  obtain ⟨r1, r2⟩ := hr
  have hD0 : ¬ D = 0 := by omega
  have p1 := Int.emod_nonneg (zone + row) (show D ≠ 0 by omega)
  have p2 := Int.emod_lt_of_pos (zone + row) (show 0 < D by omega)
  obtain ⟨p, hp⟩ : ∃ p, (zone + row) % D = p := ⟨_, rfl⟩
  have hp2 : (zone + row).tmod D = p := by rw [Int.tmod_eq_emod_of_nonneg (by omega)]; exact hp
  rw [hp] at p1 p2 ⊢
  have hBH := Lib.hid ((Below.refl w.heap.size w).alloc (Nat.le_refl _) (.cells #[.int .i64 D, .int .i64 Z, .int .i64 B, .int .i64 O, .int .i64 A] 39))
  have hpH := Lib.hid hp
  have hp0 : p = (p + ((0 : Nat) : Int)) % D := by rw [Int.natCast_zero, Int.add_zero, Int.emod_eq_of_lt p1 p2]
  have hp0H := Lib.hid hp0
  clear hp0
  go_enter Try.func34, Try.ntmps34
  go_wp2_with fail
  clear hp hp2
  go_loop [10, 11] (fun d i => ∃ j : Nat, j ≤ k + 1 ∧ i = .int .i64 (j : Int) ∧ d = .int .i64 ((p + (j : Int)) % D)) (fun _ i => k + 1 - (intOf i).toNat)
  case atStart => exact ⟨0, by omega, rfl, by rw [← hp0H.out]⟩
  case round =>
    obtain ⟨j, hj, rfl, rfl⟩ := hrel
    have x1 := Int.emod_nonneg (p + (j : Int)) (show D ≠ 0 by omega)
    have x2 := Int.emod_lt_of_pos (p + (j : Int)) (show 0 < D by omega)
    have hst := step_div (N := p + (j : Int)) (C := D) (by omega)
    have hsH := Lib.hid hst
    clear hst
    by_cases hlt : j ≤ k
    · have hlt2 : (j : Int) ≤ (k : Int) := by omega
      have hnx : (p + ((j + 1 : Nat) : Int)) % D = (p + (j : Int) + 1) % D := by congr 1; omega
      have hnxH := Lib.hid hnx
      clear hnx
      generalize (p + (j : Int)) % D = x at x1 x2 hsH ⊢
      by_cases he : x + 1 = D
      · go_wp2
        go_round
        case rel => exact ⟨j + 1, by omega, by go_num, by rw [hnxH.out]; rcases hsH.out with ⟨_, h⟩ | ⟨_, h, _⟩ <;> rw [h] <;> (first | rfl | (exfalso; have := Int.emod_lt_of_pos (p + (j : Int) + 1) (show 0 < D by omega); omega))⟩
        case measure => simp [intOf]; omega
      · go_wp2
        go_round
        case rel => exact ⟨j + 1, by omega, by go_num, by rw [hnxH.out]; rcases hsH.out with ⟨_, h⟩ | ⟨_, h, h2⟩ <;> rw [h] <;> (first | rfl | (exfalso; omega))⟩
        case measure => simp [intOf]; omega
    · obtain rfl : j = k + 1 := by omega
      have hfin : (p + ((k + 1 : Nat) : Int)) % D = (p + 1 + (k : Int)) % D := by congr 1; omega
      obtain ⟨x, hx⟩ : ∃ x, (p + ((k + 1 : Nat) : Int)) % D = x := ⟨_, rfl⟩
      rw [hx] at x1 x2 ⊢
      have hxH := Lib.hid (hx.symm.trans hfin)
      clear hfin hsH hx
      go_wp2
      go_ret
      exact ⟨ret_int hxH.out, hBH.out⟩

theorem emod_small {a b : Int} (h0 : 0 ≤ a) (h1 : a < b) : a % b = a := Int.emod_eq_of_lt h0 h1

set_option maxHeartbeats 1000000 in
theorem refplace_any (D Z B O A zone block : Int) (w : World) :
    Calls Try.prog 21 #[.agg #[.int .i64 D, .int .i64 Z, .int .i64 B, .int .i64 O, .int .i64 A], .int .i64 zone, .int .i64 block] w fun e w' => e = .returned (.tuple #[.int .i64 (plR D Z B O A zone block), .int .i64 (plD D Z B O A zone block), .bool (plB D Z B O A zone block)]) ∧ Below w.heap.size w w' := by
  have cg := fun W => refgood_any D Z B O A W
  by_cases hp : plB D Z B O A zone block = true
  · obtain ⟨hg, z1, z2, b1, b2⟩ := plB_true hp
    have hgb := goodB_iff.2 hg
    rw [hgb] at cg
    have hrow := row_bd hg.1 b1 b2
    have hR : plR D Z B O A zone block = block / (D - 1) := by unfold plR; rw [if_pos hp]
    have hDv : plD D Z B O A zone block = ((zone + block / (D - 1)) % D + 1 + block % (D - 1)) % D := by
      unfold plD; rw [if_pos hp, parV_good hg z1 z2 hrow.1 hrow.2.1]
    rw [hp, hR, hDv]
    obtain ⟨g1, g2, g3, g4, g5, g6, _⟩ := hg
    clear hp hR hDv hgb
    obtain ⟨q, hq⟩ : ∃ q, block / (D - 1) = q := ⟨_, rfl⟩
    obtain ⟨r, hr⟩ : ∃ r, block % (D - 1) = r := ⟨_, rfl⟩
    have hdm := Int.emod_add_mul_ediv block (D - 1)
    rw [hq, hr] at hdm
    rw [hq] at hrow ⊢
    rw [hr] at hrow ⊢
    obtain ⟨q1, q2, r1, r2⟩ := hrow
    obtain ⟨rn, rfl⟩ := Int.eq_ofNat_of_zero_le r1
    have hC := mul_bd (a := D - 1) (b := B) (m := 15) (n := 256) (by omega) (by omega) (by omega) (by omega)
    obtain ⟨C, hCe⟩ : ∃ C, (D - 1) * B = C := ⟨_, rfl⟩
    rw [hCe] at hC b2
    obtain ⟨hC1, hC2⟩ := hC
    have wC : wrap64 ((D - 1) * B) = C := by rw [hCe]; exact IntWalk.wrap64_in _ ⟨by omega, by omega⟩
    have k1 : ¬ C ≤ block := by omega
    have cgH := Lib.hid cg
    have cdH := Lib.hid (fun W => refdrive_any D Z B O A zone q rn W ⟨g1, g2⟩ ⟨z1, by omega⟩ ⟨q1, by omega⟩ (by omega))
    have hdmH := Lib.hid hdm
    have hqH := Lib.hid hq
    have hrH := Lib.hid hr
    have wCH := Lib.hid wC
    have hun : ∀ (x : Int) (j : Nat), x = block - (D - 1) * (j : Int) → 0 ≤ x → x < D - 1 → (j : Int) = q ∧ x = (rn : Int) := fun x j hx h0 h1 => by
      have := (Int.ediv_emod_unique (a := block) (b := D - 1) (r := x) (q := (j : Int)) (by omega)).2 ⟨by omega, h0, h1⟩
      exact ⟨this.1.symm.trans hq, this.2.symm.trans hr⟩
    have hunH := Lib.hid hun
    clear cg hdm hq hr wC hCe hun
    have hN := GeoAt.new w D Z B O A 39
    have hB0 : Below w.heap.size w (w.alloc (.cells #[.int .i64 D, .int .i64 Z, .int .i64 B, .int .i64 O, .int .i64 A] 39)) := (Below.refl _ _).alloc (Nat.le_refl _) _
    have hNH := Lib.hid hN
    have hBH := Lib.hid hB0
    clear hN hB0
    go_enter Try.func21, Try.ntmps21
    go_wp2_with fail
    (with_reducible refine (cgH.out _).mono ?_)
    rintro e w1 ⟨rfl, hb1⟩
    have hG := hNH.out.below hb1
    have hB := bmore hBH.out hb1
    clear hNH hBH hb1

    have hGH := Lib.hid hG
    have hBH := Lib.hid hB
    clear hB
    obtain ⟨h0, h1, h2, h3, h4, _⟩ := hG
    have wC := wCH.out
    go_wp2_with fail
    clear wC
    go_loop [2, 9] (fun x i => ∃ (j : Nat) (y : Int), i = .int .i64 (j : Int) ∧ x = .int .i64 y ∧ 0 ≤ y ∧ y ≤ block ∧ (j : Int) ≤ block ∧ Hid (y = block - (D - 1) * (j : Int))) (fun x _ => (intOf x).toNat)
    case atStart => exact ⟨0, block, rfl, rfl, b1, Int.le_refl _, b1, Lib.hid (by simp)⟩
    case round =>
      obtain ⟨j, y, rfl, rfl, y1, y2, y3, hyH⟩ := hrel
      by_cases hlt : D - 1 ≤ y
      · have hj1 : (j : Int) + 1 ≤ block := by
          have h1 := hyH.out
          have h2 : (j : Int) * 1 ≤ (j : Int) * (D - 1) := Int.mul_le_mul_of_nonneg_left (by omega) (by omega)
          rw [Int.mul_comm (j : Int) (D - 1)] at h2
          omega
        go_wp2
        go_round
        case rel => exact ⟨j + 1, y - (D - 1), by go_num, rfl, by omega, by omega, by omega, Lib.hid (by rw [hyH.out, show ((j + 1 : Nat) : Int) = (j : Int) + 1 by omega, Int.mul_add, Int.mul_one]; omega)⟩
        case measure => simp [intOf]; omega
      · obtain ⟨e1, rfl⟩ := hunH.out y j hyH.out y1 (by omega)
        obtain rfl : q = (j : Int) := e1.symm
        clear e1
        have hGH2 := hGH
        go_wp2_with fail
        (with_reducible refine (cdH.out _).mono ?_)
        rintro e w2 ⟨rfl, hb2⟩
        have hB2 := bmore hBH.out hb2
        go_wp2
        refine bodyPost_ret (v := .tuple #[.int .i64 (j : Int), .int .i64 (((zone + (j : Int)) % D + 1 + (rn : Int)) % D), .bool true]) (by simp [results, Try.results21, go_sem]) rfl ⟨rfl, ?_⟩
        exact hB2
  · have er : plR D Z B O A zone block = 0 := by unfold plR; rw [if_neg hp]
    have ed : plD D Z B O A zone block = 0 := by unfold plD; rw [if_neg hp]
    have hpf : plB D Z B O A zone block = false := by rw [Bool.not_eq_true] at hp; exact hp
    rw [er, ed, hpf]
    clear er ed hpf
    by_cases hg : goodB D Z B O A = true
    · have hgp := goodB_iff.1 hg
      rw [hg] at cg
      have hnot : ¬ (0 ≤ zone ∧ zone ≤ Z - 4 ∧ 0 ≤ block ∧ block < (D - 1) * B) := fun ⟨a1, a2, a3, a4⟩ => hp (plB_mk hgp a1 a2 a3 a4)
      obtain ⟨g1, g2, g3, g4, g5, g6, _⟩ := hgp
      have hC := mul_bd (a := D - 1) (b := B) (m := 15) (n := 256) (by omega) (by omega) (by omega) (by omega)
      obtain ⟨C, hCe⟩ : ∃ C, (D - 1) * B = C := ⟨_, rfl⟩
      rw [hCe] at hC hnot
      obtain ⟨hC1, hC2⟩ := hC
      have wC : wrap64 ((D - 1) * B) = C := by rw [hCe]; exact IntWalk.wrap64_in _ ⟨by omega, by omega⟩
      have cgH := Lib.hid cg
      have wCH := Lib.hid wC
      clear cg wC hCe hp hg
      by_cases a1 : zone < 0
      · clear hnot
        have hN := GeoAt.new w D Z B O A 39
        have hB0 : Below w.heap.size w (w.alloc (.cells #[.int .i64 D, .int .i64 Z, .int .i64 B, .int .i64 O, .int .i64 A] 39)) := (Below.refl _ _).alloc (Nat.le_refl _) _
        have hNH := Lib.hid hN
        have hBH := Lib.hid hB0
        clear hN hB0
        go_enter Try.func21, Try.ntmps21
        go_wp2_with fail
        (with_reducible refine (cgH.out _).mono ?_)
        rintro e w1 ⟨rfl, hb1⟩
        have hG := hNH.out.below hb1
        have hB := bmore hBH.out hb1
        clear hNH hBH hb1

        have hGH := Lib.hid hG
        have hBH := Lib.hid hB
        clear hB
        obtain ⟨h0, h1, h2, h3, h4, _⟩ := hG
        have wC := wCH.out
        go_wp2
        refine bodyPost_ret (v := .tuple #[.int .i64 0, .int .i64 0, .bool false]) (by simp [results, Try.results21, go_sem]) rfl ⟨rfl, ?_⟩
        exact hBH.out
      by_cases a2 : Z - 4 < zone
      · clear hnot
        have hN := GeoAt.new w D Z B O A 39
        have hB0 : Below w.heap.size w (w.alloc (.cells #[.int .i64 D, .int .i64 Z, .int .i64 B, .int .i64 O, .int .i64 A] 39)) := (Below.refl _ _).alloc (Nat.le_refl _) _
        have hNH := Lib.hid hN
        have hBH := Lib.hid hB0
        clear hN hB0
        go_enter Try.func21, Try.ntmps21
        go_wp2_with fail
        (with_reducible refine (cgH.out _).mono ?_)
        rintro e w1 ⟨rfl, hb1⟩
        have hG := hNH.out.below hb1
        have hB := bmore hBH.out hb1
        clear hNH hBH hb1

        have hGH := Lib.hid hG
        have hBH := Lib.hid hB
        clear hB
        obtain ⟨h0, h1, h2, h3, h4, _⟩ := hG
        have wC := wCH.out
        go_wp2
        refine bodyPost_ret (v := .tuple #[.int .i64 0, .int .i64 0, .bool false]) (by simp [results, Try.results21, go_sem]) rfl ⟨rfl, ?_⟩
        exact hBH.out
      by_cases a3 : block < 0
      · clear hnot
        have hN := GeoAt.new w D Z B O A 39
        have hB0 : Below w.heap.size w (w.alloc (.cells #[.int .i64 D, .int .i64 Z, .int .i64 B, .int .i64 O, .int .i64 A] 39)) := (Below.refl _ _).alloc (Nat.le_refl _) _
        have hNH := Lib.hid hN
        have hBH := Lib.hid hB0
        clear hN hB0
        go_enter Try.func21, Try.ntmps21
        go_wp2_with fail
        (with_reducible refine (cgH.out _).mono ?_)
        rintro e w1 ⟨rfl, hb1⟩
        have hG := hNH.out.below hb1
        have hB := bmore hBH.out hb1
        clear hNH hBH hb1

        have hGH := Lib.hid hG
        have hBH := Lib.hid hB
        clear hB
        obtain ⟨h0, h1, h2, h3, h4, _⟩ := hG
        have wC := wCH.out
        go_wp2
        refine bodyPost_ret (v := .tuple #[.int .i64 0, .int .i64 0, .bool false]) (by simp [results, Try.results21, go_sem]) rfl ⟨rfl, ?_⟩
        exact hBH.out
      have a4 : C ≤ block := by omega
      clear hnot
      have hN := GeoAt.new w D Z B O A 39
      have hB0 : Below w.heap.size w (w.alloc (.cells #[.int .i64 D, .int .i64 Z, .int .i64 B, .int .i64 O, .int .i64 A] 39)) := (Below.refl _ _).alloc (Nat.le_refl _) _
      have hNH := Lib.hid hN
      have hBH := Lib.hid hB0
      clear hN hB0
      go_enter Try.func21, Try.ntmps21
      go_wp2_with fail
      (with_reducible refine (cgH.out _).mono ?_)
      rintro e w1 ⟨rfl, hb1⟩
      have hG := hNH.out.below hb1
      have hB := bmore hBH.out hb1
      clear hNH hBH hb1

      have hGH := Lib.hid hG
      have hBH := Lib.hid hB
      clear hB
      obtain ⟨h0, h1, h2, h3, h4, _⟩ := hG
      have wC := wCH.out
      go_wp2
      refine bodyPost_ret (v := .tuple #[.int .i64 0, .int .i64 0, .bool false]) (by simp [results, Try.results21, go_sem]) rfl ⟨rfl, ?_⟩
      exact hBH.out
    · rw [Bool.not_eq_true] at hg
      rw [hg] at cg
      have cgH := Lib.hid cg
      clear cg hg hp
      have hN := GeoAt.new w D Z B O A 39
      have hB0 : Below w.heap.size w (w.alloc (.cells #[.int .i64 D, .int .i64 Z, .int .i64 B, .int .i64 O, .int .i64 A] 39)) := (Below.refl _ _).alloc (Nat.le_refl _) _
      have hNH := Lib.hid hN
      have hBH := Lib.hid hB0
      clear hN hB0
      go_enter Try.func21, Try.ntmps21
      go_wp2_with fail
      (with_reducible refine (cgH.out _).mono ?_)
      rintro e w1 ⟨rfl, hb1⟩
      have hG := hNH.out.below hb1
      have hB := bmore hBH.out hb1
      clear hNH hBH hb1

      have hGH := Lib.hid hG
      have hBH := Lib.hid hB
      clear hB
      obtain ⟨h0, h1, h2, h3, h4, _⟩ := hG
      go_wp2
      refine bodyPost_ret (v := .tuple #[.int .i64 0, .int .i64 0, .bool false]) (by simp [results, Try.results21, go_sem]) rfl ⟨rfl, ?_⟩
      exact hBH.out
end Go.Proofs.Ytflkkmiehioejaa
