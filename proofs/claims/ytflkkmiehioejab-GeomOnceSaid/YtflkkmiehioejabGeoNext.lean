/- What the law GeomNext does. -/
import Derived.Test.YtflkkmiehioejabGeoTurns
namespace Go.Proofs.Ytflkkmiehioejab
open Go.RowKit

theorem step_div {N C : Int} (hC : 0 < C) : ((N + 1) / C = N / C ∧ (N + 1) % C = N % C + 1) ∨ ((N + 1) / C = N / C + 1 ∧ (N + 1) % C = 0 ∧ N % C = C - 1) := by
  have h1 := Int.emod_add_mul_ediv N C
  have h2 := Int.emod_nonneg N (show C ≠ 0 by omega)
  have h3 := Int.emod_lt_of_pos N hC
  by_cases h : N % C + 1 < C
  · left
    exact (Int.ediv_emod_unique hC).2 ⟨by omega, by omega, h⟩
  · right
    have e : N % C = C - 1 := by omega
    have := (Int.ediv_emod_unique (a := N + 1) (r := 0) (q := N / C + 1) hC).2 ⟨by rw [Int.mul_add, Int.mul_one]; omega, by omega, by omega⟩
    exact ⟨this.1, this.2, e⟩

/-- The place of a block that there is, of the block behind it. -/
theorem place_next {D Z B O A z b : Int} (hg : GoodP D Z B O A) (z1 : 0 ≤ z) (z2 : z ≤ Z - 4) (b1 : 0 ≤ b) (b2 : b + 1 < (D - 1) * B) :
    (plR D Z B O A z (b + 1) = plR D Z B O A z b ∧ plD D Z B O A z (b + 1) = (plD D Z B O A z b + 1) % D) ∨ (plR D Z B O A z (b + 1) = plR D Z B O A z b + 1 ∧ (b + 1) % (D - 1) = 0) := by
  have hD := hg.1
  have e1 := plB_mk hg z1 z2 b1 (by omega)
  have e2 := plB_mk hg z1 z2 (show 0 ≤ b + 1 by omega) b2
  unfold plR plD
  rw [if_pos e1, if_pos e1, if_pos e2, if_pos e2]
  rcases step_div (N := b) (C := D - 1) (by omega) with ⟨h1, h2⟩ | ⟨h1, h2, h3⟩
  · left
    rw [h1, h2]
    refine ⟨rfl, ?_⟩
    rw [Int.emod_add_emod]
    congr 1
    omega
  · right; exact ⟨h1, h2⟩
theorem plR_bd (D Z B O A z b : Int) : 0 ≤ plR D Z B O A z b ∧ plR D Z B O A z b ≤ 256 := by
  unfold plR
  split
  · rename_i h
    obtain ⟨hg, _, _, b1, b2⟩ := plB_true h
    have := row_bd hg.1 b1 b2
    obtain ⟨_, _, _, _, _, h6, _⟩ := hg
    omega
  · omega
theorem plD_bd (D Z B O A z b : Int) (hD : 3 ≤ D) : 0 ≤ plD D Z B O A z b ∧ plD D Z B O A z b < D := by
  unfold plD
  split
  · exact ⟨Int.emod_nonneg _ (by omega), Int.emod_lt_of_pos _ (by omega)⟩
  · omega

set_option maxRecDepth 100000 in
set_option maxHeartbeats 4000000 in
theorem next_law (D Z B O A n : Int) (w : World) :
    Calls Try.prog 7 #[.agg #[.int .i64 D, .int .i64 Z, .int .i64 B, .int .i64 O, .int .i64 A], .int .i64 n] w fun e w' => e = .returned (.bool true) ∧ Below w.heap.size w w' := by
  have cg := fun W => good_any D Z B O A W
  by_cases hg : goodB D Z B O A = true
  · have hgp := goodB_iff.1 hg
    have hgq := hgp
    obtain ⟨g1, g2, g3, g4, g5, g6, _⟩ := hgq
    rw [hg] at cg
    have cgH := Lib.hid cg
    clear cg hg
    have cz := fun W => zones_any D Z B O A W
    have cc := fun W => cap_any D Z B O A W
    rw [zonesV_good hgp] at cz
    rw [capV_good hgp] at cc
    have hC := mul_bd (a := D - 1) (b := B) (m := 15) (n := 256) (by omega) (by omega) (by omega) (by omega)
    have hC8 : 8 ≤ (D - 1) * B := by
      have h1 := Int.mul_le_mul (show 2 ≤ D - 1 by omega) g5 (by omega) (show 0 ≤ D - 1 by omega)
      omega
    obtain ⟨C, hCe⟩ : ∃ C, (D - 1) * B = C := ⟨_, rfl⟩
    rw [hCe] at cc hC hC8
    have hMb := mul_bd (a := Z - 3) (b := C) (m := 61) (n := 3840) (by omega) (by omega) hC.1 hC.2
    have hM16 : 16 ≤ (Z - 3) * C := by
      have h1 := Int.mul_le_mul (show 2 ≤ Z - 3 by omega) hC8 (by omega) (show 0 ≤ Z - 3 by omega)
      omega
    obtain ⟨M, hM⟩ : ∃ M, (Z - 3) * C = M := ⟨_, rfl⟩
    rw [hM] at hMb hM16
    obtain ⟨hM1, hM2⟩ := hMb
    have wM : IntKind.i64.wrap ((Z - 3) * C) = M := by rw [hM]; exact wrap_small (by omega)
    have t1 := tmod_bd (a := n) (m := M - 1) (by omega)
    obtain ⟨t, ht⟩ : ∃ t, n.tmod (M - 1) = t := ⟨_, rfl⟩
    rw [ht] at t1
    obtain ⟨t1, t2⟩ := t1
    have y1 := Int.emod_nonneg (t + M - 1) (show M - 1 ≠ 0 by omega)
    have y2 := Int.emod_lt_of_pos (t + M - 1) (show 0 < M - 1 by omega)
    obtain ⟨N, hN⟩ : ∃ N, (t + M - 1) % (M - 1) = N := ⟨_, rfl⟩
    rw [hN] at y1 y2
    have hN2 : (t + M - 1).tmod (M - 1) = N := by rw [Int.tmod_eq_emod_of_nonneg (by omega)]; exact hN
    have hM0 : ¬ M - 1 = 0 := by omega
    have hCp : 0 < C := by omega
    -- the two numbers, split
    have hs1 : splB D Z B O A N = true := by unfold splB; rw [zonesV_good hgp, capV_good hgp, hCe, hM]; exact betB_iff.2 ⟨y1, by omega⟩
    have hs2 : splB D Z B O A (N + 1) = true := by unfold splB; rw [zonesV_good hgp, capV_good hgp, hCe, hM]; exact betB_iff.2 ⟨by omega, by omega⟩
    have c1 := fun W => split_any D Z B O A N W
    have c2 := fun W => split_any D Z B O A (N + 1) W
    have ez1 : splZ D Z B O A N = N / C := by unfold splZ; rw [if_pos hs1, capV_good hgp, hCe]
    have en1 : splN D Z B O A N = N % C := by unfold splN; rw [if_pos hs1, capV_good hgp, hCe]
    have ez2 : splZ D Z B O A (N + 1) = (N + 1) / C := by unfold splZ; rw [if_pos hs2, capV_good hgp, hCe]
    have en2 : splN D Z B O A (N + 1) = (N + 1) % C := by unfold splN; rw [if_pos hs2, capV_good hgp, hCe]
    rw [hs1, ez1, en1] at c1
    rw [hs2, ez2, en2] at c2
    have z1 : 0 ≤ N / C := Int.ediv_nonneg y1 (by omega)
    have z2 : N / C < Z - 3 := Int.ediv_lt_of_lt_mul hCp (by rw [hM]; omega)
    have b1 := Int.emod_nonneg N (show C ≠ 0 by omega)
    have b2 := Int.emod_lt_of_pos N hCp
    have hst := step_div (N := N) hCp
    have cb := Int.emod_lt_of_pos (N + 1) hCp
    clear ez1 en1 ez2 en2 hs1 hs2
    generalize N / C = z at c1 z1 z2 hst
    generalize N % C = b at c1 b1 b2 hst
    generalize (N + 1) / C = y at c2 hst
    generalize (N + 1) % C = c at c2 hst cb
    have c3 := fun W => place_any D Z B O A z b W
    have c4 := fun W => place_any D Z B O A y c W
    have hpn : y = z → c = b + 1 → (plR D Z B O A y c = plR D Z B O A z b ∧ plD D Z B O A y c = (plD D Z B O A z b + 1) % D) ∨ (plR D Z B O A y c = plR D Z B O A z b + 1 ∧ c % (D - 1) = 0) := by
      rintro rfl rfl
      by_cases hb : b + 1 < (D - 1) * B
      · exact place_next hgp z1 (by omega) b1 hb
      · rw [hCe] at hb; omega
    have r1 := plR_bd D Z B O A z b
    have d1 := plD_bd D Z B O A z b g1
    generalize plR D Z B O A z b = r at c3 r1 hpn
    generalize plD D Z B O A z b = d at c3 d1 hpn
    generalize plB D Z B O A z b = v1 at c3
    generalize plR D Z B O A y c = s at c4 hpn
    generalize plD D Z B O A y c = e0 at c4 hpn
    generalize plB D Z B O A y c = v2 at c4
    have cz2 := Lib.hid cz
    have cc2 := Lib.hid cc
    have c1H := Lib.hid c1
    have c2H := Lib.hid c2
    have c3H := Lib.hid c3
    have wMH := Lib.hid wM
    have htH := Lib.hid ht
    have hN2H := Lib.hid hN2
    have hNH0 := Lib.hid hN
    have hpnH := Lib.hid hpn
    have hzb : z ≤ 61 := by omega
    have hbb : b ≤ 3840 := by omega
    obtain ⟨r1, r2⟩ := r1
    obtain ⟨d1, d2⟩ := d1
    obtain ⟨hC1, hC2⟩ := hC
    clear cz cc c1 c2 c3 wM ht hN2 hN hpn hgp hCe hM
    rcases hst with ⟨rfl, rfl⟩ | ⟨rfl, rfl, rfl⟩
    · rcases hpnH.out rfl rfl with ⟨rfl, rfl⟩ | ⟨rfl, hk⟩
      · have c4H := Lib.hid c4
        clear c4 hpnH
        have hN := GeoAt.new w D Z B O A 23
        have hB0 : Below w.heap.size w (w.alloc (.cells #[.int .i64 D, .int .i64 Z, .int .i64 B, .int .i64 O, .int .i64 A] 23)) := (Below.refl _ _).alloc (Nat.le_refl _) _
        have hNH := Lib.hid hN
        have hBH := Lib.hid hB0
        clear hN hB0
        go_enter Try.func7, Try.ntmps7
        go_wp2_with fail
        refine (speaks4 _).mono ?_
        rintro e w1 ⟨rfl, hb1⟩
        have hG := hNH.out.below hb1
        have hB := bmore hBH.out hb1
        clear hNH hBH hb1
        have hTH := Lib.hid (Boxes.two hG hB 25)
        clear hB
        obtain ⟨h0, h1, h2, h3, h4, hlt⟩ := hG
        go_wp2_with fail
        (with_reducible refine (cgH.out _).mono ?_)
        rintro e w2 ⟨rfl, hb2⟩
        have hT := hTH.out.below hb2
        clear hTH hb2 h0 h1 h2 h3 h4 hlt
        have hTH := Lib.hid hT
        obtain ⟨h0, h1, h2, h3, h4, _⟩ := hT.1 w.heap.size (by simp)
        obtain ⟨k0, k1, k2, k3, k4, _⟩ := hT.1 w1.heap.size (by simp)
        clear hT
        have wM := wMH.out
        go_wp2_with fail
        have hk : ∀ W, Below w2.heap.size w2 W → (W.cell? ⟨w1.heap.size, 0, none⟩ = some (.int .i64 D) ∧ W.cell? ⟨w1.heap.size, 1, none⟩ = some (.int .i64 Z) ∧ W.cell? ⟨w1.heap.size, 2, none⟩ = some (.int .i64 B) ∧ W.cell? ⟨w1.heap.size, 3, none⟩ = some (.int .i64 O) ∧ W.cell? ⟨w1.heap.size, 4, none⟩ = some (.int .i64 A) ∧ W.cell? ⟨w.heap.size, 0, none⟩ = some (.int .i64 D) ∧ W.cell? ⟨w.heap.size, 1, none⟩ = some (.int .i64 Z) ∧ W.cell? ⟨w.heap.size, 2, none⟩ = some (.int .i64 B) ∧ W.cell? ⟨w.heap.size, 3, none⟩ = some (.int .i64 O) ∧ W.cell? ⟨w.heap.size, 4, none⟩ = some (.int .i64 A)) := fun W hb => by
          have hT := hTH.out.below hb
          obtain ⟨h0, h1, h2, h3, h4, _⟩ := hT.1 w.heap.size (by simp)
          obtain ⟨k0, k1, k2, k3, k4, _⟩ := hT.1 w1.heap.size (by simp)
          exact ⟨k0, k1, k2, k3, k4, h0, h1, h2, h3, h4⟩
        have hkH := Lib.hid hk
        clear hk h0 h1 h2 h3 h4 k0 k1 k2 k3 k4
        go_region_held3 (fun W => W.cell? ⟨w1.heap.size, 0, none⟩ = some (.int .i64 D) ∧ W.cell? ⟨w1.heap.size, 1, none⟩ = some (.int .i64 Z) ∧ W.cell? ⟨w1.heap.size, 2, none⟩ = some (.int .i64 B) ∧ W.cell? ⟨w1.heap.size, 3, none⟩ = some (.int .i64 O) ∧ W.cell? ⟨w1.heap.size, 4, none⟩ = some (.int .i64 A) ∧ W.cell? ⟨w.heap.size, 0, none⟩ = some (.int .i64 D) ∧ W.cell? ⟨w.heap.size, 1, none⟩ = some (.int .i64 Z) ∧ W.cell? ⟨w.heap.size, 2, none⟩ = some (.int .i64 B) ∧ W.cell? ⟨w.heap.size, 3, none⟩ = some (.int .i64 O) ∧ W.cell? ⟨w.heap.size, 4, none⟩ = some (.int .i64 A))
          (first | exact hkH.out _ (Below.refl _ _).drew | exact hkH.out _ hq2' | exact hkH.out _ hq1')
          (first | (go_at_call 11; ((with_reducible refine (cz2.out _).mono ?_); rintro e' v1 ⟨rfl, hq1⟩); have hq1' := ((Below.refl w2.heap.size w2).drew).trans (hq1.mono (by simp))) | (go_at_call 12; ((with_reducible refine (cc2.out _).mono ?_); rintro e' v2 ⟨rfl, hq2⟩); have hq2' := bmore hq1' hq2))
        simp only [Exit.then]
        refine fresh_K (fun W => Boxes w W [w.heap.size, w1.heap.size] D Z B O A) (hTH.out.below hq2') ?_
        clear hkH hTH
        rintro w3 hT
        have hTH := Lib.hid hT
        obtain ⟨h0, h1, h2, h3, h4, _⟩ := hT.1 w.heap.size (by simp)
        obtain ⟨k0, k1, k2, k3, k4, _⟩ := hT.1 w1.heap.size (by simp)
        clear hT
        clear wM
        have ht := htH.out
        have hN2 := hN2H.out
        have hNo := hNH0.out
        go_wp2_with fail
        clear ht hN2 hNo
        go_wp2_with fail
        (with_reducible refine (c1H.out _).mono ?_)
        rintro e w4 ⟨rfl, hb4⟩
        have hT := hTH.out.below hb4
        clear hTH hb4 h0 h1 h2 h3 h4 k0 k1 k2 k3 k4
        have hTH := Lib.hid hT
        obtain ⟨h0, h1, h2, h3, h4, _⟩ := hT.1 w.heap.size (by simp)
        obtain ⟨k0, k1, k2, k3, k4, _⟩ := hT.1 w1.heap.size (by simp)
        clear hT
        go_wp2_with fail
        (with_reducible refine (c2H.out _).mono ?_)
        rintro e w5 ⟨rfl, hb5⟩
        have hT := hTH.out.below hb5
        clear hTH hb5 h0 h1 h2 h3 h4 k0 k1 k2 k3 k4
        have hTH := Lib.hid hT
        obtain ⟨h0, h1, h2, h3, h4, _⟩ := hT.1 w.heap.size (by simp)
        obtain ⟨k0, k1, k2, k3, k4, _⟩ := hT.1 w1.heap.size (by simp)
        clear hT
        go_wp2_with fail
        (with_reducible refine (c3H.out _).mono ?_)
        rintro e w6 ⟨rfl, hb6⟩
        have hT := hTH.out.below hb6
        clear hTH hb6 h0 h1 h2 h3 h4 k0 k1 k2 k3 k4
        have hTH := Lib.hid hT
        obtain ⟨h0, h1, h2, h3, h4, _⟩ := hT.1 w.heap.size (by simp)
        obtain ⟨k0, k1, k2, k3, k4, _⟩ := hT.1 w1.heap.size (by simp)
        clear hT
        go_wp2_with fail
        (with_reducible refine (c4H.out _).mono ?_)
        rintro e w7 ⟨rfl, hb7⟩
        have hT := hTH.out.below hb7
        clear hTH hb7 h0 h1 h2 h3 h4 k0 k1 k2 k3 k4
        have hTH := Lib.hid hT
        obtain ⟨h0, h1, h2, h3, h4, _⟩ := hT.1 w.heap.size (by simp)
        obtain ⟨k0, k1, k2, k3, k4, _⟩ := hT.1 w1.heap.size (by simp)
        clear hT
        go_wp2
        go_ret
        exact ⟨by simp, hTH.out.2⟩
      · have c4H := Lib.hid c4
        clear c4 hpnH
        have hrf : (r + 1 == r) = false := by rw [beq_eq_false_iff_ne]; omega
        have hkH := Lib.hid hk
        clear hk
        have hN := GeoAt.new w D Z B O A 23
        have hB0 : Below w.heap.size w (w.alloc (.cells #[.int .i64 D, .int .i64 Z, .int .i64 B, .int .i64 O, .int .i64 A] 23)) := (Below.refl _ _).alloc (Nat.le_refl _) _
        have hNH := Lib.hid hN
        have hBH := Lib.hid hB0
        clear hN hB0
        go_enter Try.func7, Try.ntmps7
        go_wp2_with fail
        refine (speaks4 _).mono ?_
        rintro e w1 ⟨rfl, hb1⟩
        have hG := hNH.out.below hb1
        have hB := bmore hBH.out hb1
        clear hNH hBH hb1
        have hTH := Lib.hid (Boxes.two hG hB 25)
        clear hB
        obtain ⟨h0, h1, h2, h3, h4, hlt⟩ := hG
        go_wp2_with fail
        (with_reducible refine (cgH.out _).mono ?_)
        rintro e w2 ⟨rfl, hb2⟩
        have hT := hTH.out.below hb2
        clear hTH hb2 h0 h1 h2 h3 h4 hlt
        have hTH := Lib.hid hT
        obtain ⟨h0, h1, h2, h3, h4, _⟩ := hT.1 w.heap.size (by simp)
        obtain ⟨k0, k1, k2, k3, k4, _⟩ := hT.1 w1.heap.size (by simp)
        clear hT
        have wM := wMH.out
        go_wp2_with fail
        have hk : ∀ W, Below w2.heap.size w2 W → (W.cell? ⟨w1.heap.size, 0, none⟩ = some (.int .i64 D) ∧ W.cell? ⟨w1.heap.size, 1, none⟩ = some (.int .i64 Z) ∧ W.cell? ⟨w1.heap.size, 2, none⟩ = some (.int .i64 B) ∧ W.cell? ⟨w1.heap.size, 3, none⟩ = some (.int .i64 O) ∧ W.cell? ⟨w1.heap.size, 4, none⟩ = some (.int .i64 A) ∧ W.cell? ⟨w.heap.size, 0, none⟩ = some (.int .i64 D) ∧ W.cell? ⟨w.heap.size, 1, none⟩ = some (.int .i64 Z) ∧ W.cell? ⟨w.heap.size, 2, none⟩ = some (.int .i64 B) ∧ W.cell? ⟨w.heap.size, 3, none⟩ = some (.int .i64 O) ∧ W.cell? ⟨w.heap.size, 4, none⟩ = some (.int .i64 A)) := fun W hb => by
          have hT := hTH.out.below hb
          obtain ⟨h0, h1, h2, h3, h4, _⟩ := hT.1 w.heap.size (by simp)
          obtain ⟨k0, k1, k2, k3, k4, _⟩ := hT.1 w1.heap.size (by simp)
          exact ⟨k0, k1, k2, k3, k4, h0, h1, h2, h3, h4⟩
        have hkH := Lib.hid hk
        clear hk h0 h1 h2 h3 h4 k0 k1 k2 k3 k4
        go_region_held3 (fun W => W.cell? ⟨w1.heap.size, 0, none⟩ = some (.int .i64 D) ∧ W.cell? ⟨w1.heap.size, 1, none⟩ = some (.int .i64 Z) ∧ W.cell? ⟨w1.heap.size, 2, none⟩ = some (.int .i64 B) ∧ W.cell? ⟨w1.heap.size, 3, none⟩ = some (.int .i64 O) ∧ W.cell? ⟨w1.heap.size, 4, none⟩ = some (.int .i64 A) ∧ W.cell? ⟨w.heap.size, 0, none⟩ = some (.int .i64 D) ∧ W.cell? ⟨w.heap.size, 1, none⟩ = some (.int .i64 Z) ∧ W.cell? ⟨w.heap.size, 2, none⟩ = some (.int .i64 B) ∧ W.cell? ⟨w.heap.size, 3, none⟩ = some (.int .i64 O) ∧ W.cell? ⟨w.heap.size, 4, none⟩ = some (.int .i64 A))
          (first | exact hkH.out _ (Below.refl _ _).drew | exact hkH.out _ hq2' | exact hkH.out _ hq1')
          (first | (go_at_call 11; ((with_reducible refine (cz2.out _).mono ?_); rintro e' v1 ⟨rfl, hq1⟩); have hq1' := ((Below.refl w2.heap.size w2).drew).trans (hq1.mono (by simp))) | (go_at_call 12; ((with_reducible refine (cc2.out _).mono ?_); rintro e' v2 ⟨rfl, hq2⟩); have hq2' := bmore hq1' hq2))
        simp only [Exit.then]
        refine fresh_K (fun W => Boxes w W [w.heap.size, w1.heap.size] D Z B O A) (hTH.out.below hq2') ?_
        clear hkH hTH
        rintro w3 hT
        have hTH := Lib.hid hT
        obtain ⟨h0, h1, h2, h3, h4, _⟩ := hT.1 w.heap.size (by simp)
        obtain ⟨k0, k1, k2, k3, k4, _⟩ := hT.1 w1.heap.size (by simp)
        clear hT
        clear wM
        have ht := htH.out
        have hN2 := hN2H.out
        have hNo := hNH0.out
        go_wp2_with fail
        clear ht hN2 hNo
        go_wp2_with fail
        (with_reducible refine (c1H.out _).mono ?_)
        rintro e w4 ⟨rfl, hb4⟩
        have hT := hTH.out.below hb4
        clear hTH hb4 h0 h1 h2 h3 h4 k0 k1 k2 k3 k4
        have hTH := Lib.hid hT
        obtain ⟨h0, h1, h2, h3, h4, _⟩ := hT.1 w.heap.size (by simp)
        obtain ⟨k0, k1, k2, k3, k4, _⟩ := hT.1 w1.heap.size (by simp)
        clear hT
        go_wp2_with fail
        (with_reducible refine (c2H.out _).mono ?_)
        rintro e w5 ⟨rfl, hb5⟩
        have hT := hTH.out.below hb5
        clear hTH hb5 h0 h1 h2 h3 h4 k0 k1 k2 k3 k4
        have hTH := Lib.hid hT
        obtain ⟨h0, h1, h2, h3, h4, _⟩ := hT.1 w.heap.size (by simp)
        obtain ⟨k0, k1, k2, k3, k4, _⟩ := hT.1 w1.heap.size (by simp)
        clear hT
        go_wp2_with fail
        (with_reducible refine (c3H.out _).mono ?_)
        rintro e w6 ⟨rfl, hb6⟩
        have hT := hTH.out.below hb6
        clear hTH hb6 h0 h1 h2 h3 h4 k0 k1 k2 k3 k4
        have hTH := Lib.hid hT
        obtain ⟨h0, h1, h2, h3, h4, _⟩ := hT.1 w.heap.size (by simp)
        obtain ⟨k0, k1, k2, k3, k4, _⟩ := hT.1 w1.heap.size (by simp)
        clear hT
        go_wp2_with fail
        (with_reducible refine (c4H.out _).mono ?_)
        rintro e w7 ⟨rfl, hb7⟩
        have hT := hTH.out.below hb7
        clear hTH hb7 h0 h1 h2 h3 h4 k0 k1 k2 k3 k4
        have hTH := Lib.hid hT
        obtain ⟨h0, h1, h2, h3, h4, _⟩ := hT.1 w.heap.size (by simp)
        obtain ⟨k0, k1, k2, k3, k4, _⟩ := hT.1 w1.heap.size (by simp)
        clear hT
        have hk := hkH.out
        go_wp2
        go_ret
        exact ⟨by simp, hTH.out.2⟩
    · have c4H := Lib.hid c4
      clear c4 hpnH
      have hzf : (z + 1 == z) = false := by rw [beq_eq_false_iff_ne]; omega
      have hN := GeoAt.new w D Z B O A 23
      have hB0 : Below w.heap.size w (w.alloc (.cells #[.int .i64 D, .int .i64 Z, .int .i64 B, .int .i64 O, .int .i64 A] 23)) := (Below.refl _ _).alloc (Nat.le_refl _) _
      have hNH := Lib.hid hN
      have hBH := Lib.hid hB0
      clear hN hB0
      go_enter Try.func7, Try.ntmps7
      go_wp2_with fail
      refine (speaks4 _).mono ?_
      rintro e w1 ⟨rfl, hb1⟩
      have hG := hNH.out.below hb1
      have hB := bmore hBH.out hb1
      clear hNH hBH hb1
      have hTH := Lib.hid (Boxes.two hG hB 25)
      clear hB
      obtain ⟨h0, h1, h2, h3, h4, hlt⟩ := hG
      go_wp2_with fail
      (with_reducible refine (cgH.out _).mono ?_)
      rintro e w2 ⟨rfl, hb2⟩
      have hT := hTH.out.below hb2
      clear hTH hb2 h0 h1 h2 h3 h4 hlt
      have hTH := Lib.hid hT
      obtain ⟨h0, h1, h2, h3, h4, _⟩ := hT.1 w.heap.size (by simp)
      obtain ⟨k0, k1, k2, k3, k4, _⟩ := hT.1 w1.heap.size (by simp)
      clear hT
      have wM := wMH.out
      go_wp2_with fail
      have hk : ∀ W, Below w2.heap.size w2 W → (W.cell? ⟨w1.heap.size, 0, none⟩ = some (.int .i64 D) ∧ W.cell? ⟨w1.heap.size, 1, none⟩ = some (.int .i64 Z) ∧ W.cell? ⟨w1.heap.size, 2, none⟩ = some (.int .i64 B) ∧ W.cell? ⟨w1.heap.size, 3, none⟩ = some (.int .i64 O) ∧ W.cell? ⟨w1.heap.size, 4, none⟩ = some (.int .i64 A) ∧ W.cell? ⟨w.heap.size, 0, none⟩ = some (.int .i64 D) ∧ W.cell? ⟨w.heap.size, 1, none⟩ = some (.int .i64 Z) ∧ W.cell? ⟨w.heap.size, 2, none⟩ = some (.int .i64 B) ∧ W.cell? ⟨w.heap.size, 3, none⟩ = some (.int .i64 O) ∧ W.cell? ⟨w.heap.size, 4, none⟩ = some (.int .i64 A)) := fun W hb => by
        have hT := hTH.out.below hb
        obtain ⟨h0, h1, h2, h3, h4, _⟩ := hT.1 w.heap.size (by simp)
        obtain ⟨k0, k1, k2, k3, k4, _⟩ := hT.1 w1.heap.size (by simp)
        exact ⟨k0, k1, k2, k3, k4, h0, h1, h2, h3, h4⟩
      have hkH := Lib.hid hk
      clear hk h0 h1 h2 h3 h4 k0 k1 k2 k3 k4
      go_region_held3 (fun W => W.cell? ⟨w1.heap.size, 0, none⟩ = some (.int .i64 D) ∧ W.cell? ⟨w1.heap.size, 1, none⟩ = some (.int .i64 Z) ∧ W.cell? ⟨w1.heap.size, 2, none⟩ = some (.int .i64 B) ∧ W.cell? ⟨w1.heap.size, 3, none⟩ = some (.int .i64 O) ∧ W.cell? ⟨w1.heap.size, 4, none⟩ = some (.int .i64 A) ∧ W.cell? ⟨w.heap.size, 0, none⟩ = some (.int .i64 D) ∧ W.cell? ⟨w.heap.size, 1, none⟩ = some (.int .i64 Z) ∧ W.cell? ⟨w.heap.size, 2, none⟩ = some (.int .i64 B) ∧ W.cell? ⟨w.heap.size, 3, none⟩ = some (.int .i64 O) ∧ W.cell? ⟨w.heap.size, 4, none⟩ = some (.int .i64 A))
        (first | exact hkH.out _ (Below.refl _ _).drew | exact hkH.out _ hq2' | exact hkH.out _ hq1')
        (first | (go_at_call 11; ((with_reducible refine (cz2.out _).mono ?_); rintro e' v1 ⟨rfl, hq1⟩); have hq1' := ((Below.refl w2.heap.size w2).drew).trans (hq1.mono (by simp))) | (go_at_call 12; ((with_reducible refine (cc2.out _).mono ?_); rintro e' v2 ⟨rfl, hq2⟩); have hq2' := bmore hq1' hq2))
      simp only [Exit.then]
      refine fresh_K (fun W => Boxes w W [w.heap.size, w1.heap.size] D Z B O A) (hTH.out.below hq2') ?_
      clear hkH hTH
      rintro w3 hT
      have hTH := Lib.hid hT
      obtain ⟨h0, h1, h2, h3, h4, _⟩ := hT.1 w.heap.size (by simp)
      obtain ⟨k0, k1, k2, k3, k4, _⟩ := hT.1 w1.heap.size (by simp)
      clear hT
      clear wM
      have ht := htH.out
      have hN2 := hN2H.out
      have hNo := hNH0.out
      go_wp2_with fail
      clear ht hN2 hNo
      go_wp2_with fail
      (with_reducible refine (c1H.out _).mono ?_)
      rintro e w4 ⟨rfl, hb4⟩
      have hT := hTH.out.below hb4
      clear hTH hb4 h0 h1 h2 h3 h4 k0 k1 k2 k3 k4
      have hTH := Lib.hid hT
      obtain ⟨h0, h1, h2, h3, h4, _⟩ := hT.1 w.heap.size (by simp)
      obtain ⟨k0, k1, k2, k3, k4, _⟩ := hT.1 w1.heap.size (by simp)
      clear hT
      go_wp2_with fail
      (with_reducible refine (c2H.out _).mono ?_)
      rintro e w5 ⟨rfl, hb5⟩
      have hT := hTH.out.below hb5
      clear hTH hb5 h0 h1 h2 h3 h4 k0 k1 k2 k3 k4
      have hTH := Lib.hid hT
      obtain ⟨h0, h1, h2, h3, h4, _⟩ := hT.1 w.heap.size (by simp)
      obtain ⟨k0, k1, k2, k3, k4, _⟩ := hT.1 w1.heap.size (by simp)
      clear hT
      go_wp2_with fail
      (with_reducible refine (c3H.out _).mono ?_)
      rintro e w6 ⟨rfl, hb6⟩
      have hT := hTH.out.below hb6
      clear hTH hb6 h0 h1 h2 h3 h4 k0 k1 k2 k3 k4
      have hTH := Lib.hid hT
      obtain ⟨h0, h1, h2, h3, h4, _⟩ := hT.1 w.heap.size (by simp)
      obtain ⟨k0, k1, k2, k3, k4, _⟩ := hT.1 w1.heap.size (by simp)
      clear hT
      go_wp2_with fail
      (with_reducible refine (c4H.out _).mono ?_)
      rintro e w7 ⟨rfl, hb7⟩
      have hT := hTH.out.below hb7
      clear hTH hb7 h0 h1 h2 h3 h4 k0 k1 k2 k3 k4
      have hTH := Lib.hid hT
      obtain ⟨h0, h1, h2, h3, h4, _⟩ := hT.1 w.heap.size (by simp)
      obtain ⟨k0, k1, k2, k3, k4, _⟩ := hT.1 w1.heap.size (by simp)
      clear hT
      go_wp2_with fail
      (with_reducible refine (cc2.out _).mono ?_)
      rintro e w8 ⟨rfl, hb8⟩
      have hT := hTH.out.below hb8
      clear hTH hb8 h0 h1 h2 h3 h4 k0 k1 k2 k3 k4
      have hTH := Lib.hid hT
      obtain ⟨h0, h1, h2, h3, h4, _⟩ := hT.1 w.heap.size (by simp)
      obtain ⟨k0, k1, k2, k3, k4, _⟩ := hT.1 w1.heap.size (by simp)
      clear hT
      go_wp2
      go_ret
      exact ⟨by simp, hTH.out.2⟩
  · rw [Bool.not_eq_true] at hg
    rw [hg] at cg
    have cgH := Lib.hid cg
    clear cg hg
    have hN := GeoAt.new w D Z B O A 23
    have hB0 : Below w.heap.size w (w.alloc (.cells #[.int .i64 D, .int .i64 Z, .int .i64 B, .int .i64 O, .int .i64 A] 23)) := (Below.refl _ _).alloc (Nat.le_refl _) _
    have hNH := Lib.hid hN
    have hBH := Lib.hid hB0
    clear hN hB0
    go_enter Try.func7, Try.ntmps7
    go_wp2_with fail
    refine (speaks4 _).mono ?_
    rintro e w1 ⟨rfl, hb1⟩
    have hG := hNH.out.below hb1
    have hB := bmore hBH.out hb1
    clear hNH hBH hb1
    have hTH := Lib.hid (Boxes.two hG hB 25)
    clear hB
    obtain ⟨h0, h1, h2, h3, h4, hlt⟩ := hG
    go_wp2_with fail
    (with_reducible refine (cgH.out _).mono ?_)
    rintro e w2 ⟨rfl, hb2⟩
    have hT := hTH.out.below hb2
    clear hTH hb2 h0 h1 h2 h3 h4 hlt
    have hTH := Lib.hid hT
    obtain ⟨h0, h1, h2, h3, h4, _⟩ := hT.1 w.heap.size (by simp)
    obtain ⟨k0, k1, k2, k3, k4, _⟩ := hT.1 w1.heap.size (by simp)
    clear hT
    go_wp2
    go_ret
    exact ⟨rfl, hTH.out.2⟩
end Go.Proofs.Ytflkkmiehioejab
