/- What geom.Place and geom.Back do. -/
import Derived.Test.YtflkkmiehioejabDoorGeoCalls
namespace Go.Proofs.YtflkkmiehioejabDoor
open Go.RowKit

theorem step_div {N C : Int} (hC : 0 < C) : ((N + 1) / C = N / C ∧ (N + 1) % C = N % C + 1) ∨ ((N + 1) / C = N / C + 1 ∧ (N + 1) % C = 0 ∧ N % C = C - 1) := by
  have h1 := Int.emod_add_mul_ediv N C
  have h2 := Int.emod_nonneg N (show C ≠ 0 by omega)
  have h3 := Int.emod_lt_of_pos N hC
  by_cases h : N % C + 1 < C
  · left
    exact (Int.ediv_emod_unique hC).2 ⟨by omega, by omega, h⟩
  · right
    have e : N % C = C - 1 := by omega
    have := (Int.ediv_emod_unique (a := N + 1) (r := 0) (q := N / C + 1) hC).2 ⟨by rw [Int.mul_add, Int.mul_one]; omega, by omega, by omega⟩
    exact ⟨this.1, this.2, e⟩

def plB (D Z B O A zone block : Int) : Bool := exB D Z B O A zone && betB block 0 (capV D Z B O A - 1)
def plR (D Z B O A zone block : Int) : Int := if plB D Z B O A zone block = true then block / (D - 1) else 0
def plD (D Z B O A zone block : Int) : Int := if plB D Z B O A zone block = true then (parV D Z B O A zone (block / (D - 1)) + 1 + block % (D - 1)) % D else 0
theorem capV_good {D Z B O A : Int} (h : GoodP D Z B O A) : capV D Z B O A = (D - 1) * B := if_pos (goodB_iff.2 h)
theorem zonesV_good {D Z B O A : Int} (h : GoodP D Z B O A) : zonesV D Z B O A = Z - 3 := if_pos (goodB_iff.2 h)
theorem plB_true {D Z B O A zone block : Int} (h : plB D Z B O A zone block = true) : GoodP D Z B O A ∧ 0 ≤ zone ∧ zone ≤ Z - 4 ∧ 0 ≤ block ∧ block < (D - 1) * B := by
  unfold plB at h
  rw [Bool.and_eq_true] at h
  obtain ⟨h1, h2, h3⟩ := exB_true h.1
  have h4 := betB_iff.1 h.2
  rw [capV_good h1] at h4
  exact ⟨h1, h2, h3, h4.1, by omega⟩
theorem plB_mk {D Z B O A zone block : Int} (h1 : GoodP D Z B O A) (h2 : 0 ≤ zone) (h3 : zone ≤ Z - 4) (h4 : 0 ≤ block) (h5 : block < (D - 1) * B) : plB D Z B O A zone block = true := by
  unfold plB
  rw [exB_mk h1 h2 h3, capV_good h1, Bool.true_and]
  exact betB_iff.2 ⟨h4, by omega⟩
theorem row_bd {D B block : Int} (hD : 3 ≤ D) (h0 : 0 ≤ block) (h1 : block < (D - 1) * B) : 0 ≤ block / (D - 1) ∧ block / (D - 1) ≤ B - 1 ∧ 0 ≤ block % (D - 1) ∧ block % (D - 1) ≤ D - 2 := by
  have h2 : block / (D - 1) < B := Int.ediv_lt_of_lt_mul (by omega) (by rw [Int.mul_comm]; exact h1)
  have h3 := Int.emod_lt_of_pos block (show 0 < D - 1 by omega)
  exact ⟨Int.ediv_nonneg h0 (by omega), by omega, Int.emod_nonneg _ (by omega), by omega⟩
theorem parV_good {D Z B O A zone row : Int} (h1 : GoodP D Z B O A) (h2 : 0 ≤ zone) (h3 : zone ≤ Z - 4) (h4 : 0 ≤ row) (h5 : row ≤ B - 1) : parV D Z B O A zone row = (zone + row) % D := by
  unfold parV
  rw [exB_mk h1 h2 h3, betB_iff.2 ⟨h4, h5⟩]; rfl
theorem parV_bd (D Z B O A zone row : Int) : -1 ≤ parV D Z B O A zone row ∧ (parV D Z B O A zone row = -1 ∨ (GoodP D Z B O A ∧ 0 ≤ row ∧ row ≤ B - 1 ∧ 0 ≤ zone ∧ zone ≤ Z - 4 ∧ 0 ≤ parV D Z B O A zone row ∧ parV D Z B O A zone row < D)) := by
  by_cases h : (exB D Z B O A zone && betB row 0 (B - 1)) = true
  · have h0 := h
    rw [Bool.and_eq_true] at h
    obtain ⟨hg, z1, z2⟩ := exB_true h.1
    obtain ⟨r1, r2⟩ := betB_iff.1 h.2
    have e := parV_good hg z1 z2 r1 r2
    have hD := hg.1
    have h1 := Int.emod_nonneg (zone + row) (show D ≠ 0 by omega)
    have h2 := Int.emod_lt_of_pos (zone + row) (show 0 < D by omega)
    rw [e]
    exact ⟨by omega, .inr ⟨hg, r1, r2, z1, z2, h1, h2⟩⟩
  · have e : parV D Z B O A zone row = -1 := by unfold parV; rw [if_neg h]
    rw [e]; exact ⟨by omega, .inl rfl⟩

set_option maxHeartbeats 1000000 in
theorem place_any (D Z B O A zone block : Int) (w : World) :
    Calls Tryd.prog 15 #[.agg #[.int .i64 D, .int .i64 Z, .int .i64 B, .int .i64 O, .int .i64 A], .int .i64 zone, .int .i64 block] w fun e w' => e = .returned (.tuple #[.int .i64 (plR D Z B O A zone block), .int .i64 (plD D Z B O A zone block), .bool (plB D Z B O A zone block)]) ∧ Below w.heap.size w w' := by
  have c1 := fun W => exists_any D Z B O A zone W
  have hcb := capV_bd D Z B O A
  by_cases hp : plB D Z B O A zone block = true
  · obtain ⟨hg, z1, z2, b1, b2⟩ := plB_true hp
    unfold plR plD
    rw [if_pos hp, if_pos hp, hp]
    unfold plB at hp
    rw [Bool.and_eq_true] at hp
    obtain ⟨he, hc⟩ := hp
    rw [he] at c1
    have c2 := fun W => cap_any D Z B O A W
    have c3 := fun W => between_any block 0 (capV D Z B O A - 1) W
    rw [hc] at c3
    have hrow := row_bd hg.1 b1 b2
    have e1 : block.tdiv (D - 1) = block / (D - 1) := Int.tdiv_eq_ediv_of_nonneg b1
    have e2 : block.tmod (D - 1) = block % (D - 1) := Int.tmod_eq_emod_of_nonneg b1
    have c4 := fun W => parity_any D Z B O A zone (block / (D - 1)) W
    have hpd := parV_good hg z1 z2 hrow.1 hrow.2.1
    have hpb : 0 ≤ parV D Z B O A zone (block / (D - 1)) ∧ parV D Z B O A zone (block / (D - 1)) < D := by
      rw [hpd]; exact ⟨Int.emod_nonneg _ (by have := hg.1; omega), Int.emod_lt_of_pos _ (by have := hg.1; omega)⟩
    clear hpd he hc
    generalize parV D Z B O A zone (block / (D - 1)) = p at c4 hpb ⊢
    generalize capV D Z B O A = V at c2 c3 hcb
    obtain ⟨q, hq⟩ : ∃ q, block / (D - 1) = q := ⟨_, rfl⟩
    obtain ⟨r, hr⟩ : ∃ r, block % (D - 1) = r := ⟨_, rfl⟩
    rw [hq] at c4 hrow e1 ⊢
    rw [hr] at hrow e2 ⊢
    obtain ⟨g1, g2, g3, g4, g5, g6, _⟩ := hg
    obtain ⟨q1, q2, r1, r2⟩ := hrow
    obtain ⟨p1, p2⟩ := hpb
    obtain ⟨v1, v2⟩ := hcb
    have hb3 : block ≤ 3840 := by have := (mul_bd (a := D - 1) (b := B) (m := 15) (n := 256) (by omega) (by omega) (by omega) (by omega)).2; omega
    have c5H := Lib.hid (fun W => perRow_any D Z B O A W ⟨g1, g2⟩)
    have c1H := Lib.hid c1
    have c2H := Lib.hid c2
    have c3H := Lib.hid c3
    have c4H := Lib.hid c4
    have e1H := Lib.hid e1
    have e2H := Lib.hid e2
    have e3 : IntKind.i64.wrap q = q := wrap_small (by omega)
    have e4 : IntKind.i64.wrap r = r := wrap_small (by omega)
    have e5 : IntKind.i64.wrap (p + 1) = p + 1 := wrap_small (by omega)
    have e6 : IntKind.i64.wrap (p + 1 + r) = p + 1 + r := wrap_small (by omega)
    have e7 : (p + 1 + r).tmod D = (p + 1 + r) % D := Int.tmod_eq_emod_of_nonneg (by omega)
    have e8 : IntKind.i64.wrap ((p + 1 + r) % D) = (p + 1 + r) % D := by
      have h1 := Int.emod_nonneg (p + 1 + r) (show D ≠ 0 by omega)
      have h2 := Int.emod_lt_of_pos (p + 1 + r) (show 0 < D by omega)
      exact wrap_small (by omega)
    have e5H := Lib.hid e5
    have e6H := Lib.hid e6
    have e7H := Lib.hid e7
    have e8H := Lib.hid e8
    have hD1 : ¬ D - 1 = 0 := by omega
    have hD0 : ¬ D = 0 := by omega
    clear e5 e6 e7 e8
    have e3H := Lib.hid e3
    have e4H := Lib.hid e4
    clear c1 c2 c3 c4 hq hr e1 e2 e3 e4 b2
    have hN := GeoAt.new w D Z B O A 25
    have hB0 : Below w.heap.size w (w.alloc (.cells #[.int .i64 D, .int .i64 Z, .int .i64 B, .int .i64 O, .int .i64 A] 25)) := (Below.refl _ _).alloc (Nat.le_refl _) _
    have hNH := Lib.hid hN
    have hBH := Lib.hid hB0
    clear hN hB0
    go_enter Tryd.func15, Tryd.ntmps15
    go_wp2_with fail
    (with_reducible refine (c1H.out _).mono ?_)
    rintro e w1 ⟨rfl, hb1⟩
    have hG := hNH.out.below hb1
    have hB := bmore hBH.out hb1
    clear hNH hBH hb1

    have hGH := Lib.hid hG
    have hBH := Lib.hid hB
    clear hB
    obtain ⟨h0, h1, h2, h3, h4, _⟩ := hG
    go_wp2_with fail
    (with_reducible refine (c2H.out _).mono ?_)
    rintro e w2 ⟨rfl, hb2⟩
    have hG := hGH.out.below hb2
    have hB := bmore hBH.out hb2
    clear hGH hBH hb2
    clear h0 h1 h2 h3 h4
    have hGH := Lib.hid hG
    have hBH := Lib.hid hB
    clear hB
    obtain ⟨h0, h1, h2, h3, h4, _⟩ := hG
    go_wp2_with fail
    (with_reducible refine (c3H.out _).mono ?_)
    rintro e w3 ⟨rfl, rfl⟩
    have e1 := e1H.out
    have e2 := e2H.out
    have e3 := e3H.out
    have e4 := e4H.out
    have hk : ∀ W, Below w2.heap.size w2 W → (W.cell? ⟨w.heap.size, 0, none⟩ = some (.int .i64 D) ∧ W.cell? ⟨w.heap.size, 1, none⟩ = some (.int .i64 Z) ∧ W.cell? ⟨w.heap.size, 2, none⟩ = some (.int .i64 B) ∧ W.cell? ⟨w.heap.size, 3, none⟩ = some (.int .i64 O) ∧ W.cell? ⟨w.heap.size, 4, none⟩ = some (.int .i64 A)) := fun W hb => by
      obtain ⟨h0, h1, h2, h3, h4, _⟩ := hGH.out.below hb
      exact ⟨h0, h1, h2, h3, h4⟩
    have hkH := Lib.hid hk
    clear hk h0 h1 h2 h3 h4
    go_wp2_with fail
    go_region_held3 (fun W => W.cell? ⟨w.heap.size, 0, none⟩ = some (.int .i64 D) ∧ W.cell? ⟨w.heap.size, 1, none⟩ = some (.int .i64 Z) ∧ W.cell? ⟨w.heap.size, 2, none⟩ = some (.int .i64 B) ∧ W.cell? ⟨w.heap.size, 3, none⟩ = some (.int .i64 O) ∧ W.cell? ⟨w.heap.size, 4, none⟩ = some (.int .i64 A))
      (first | exact hkH.out _ (Below.refl _ _).drew | exact hkH.out _ hq2' | exact hkH.out _ hq1')
      (first | (go_at_call 19; ((with_reducible refine (c5H.out _).mono ?_); rintro e' v1 ⟨rfl, hq1⟩); have hq1' := ((Below.refl w2.heap.size w2).drew).trans (hq1.mono (by simp))) | (go_at_call 19; ((with_reducible refine (c5H.out _).mono ?_); rintro e' v2 ⟨rfl, hq2⟩); have hq2' := bmore hq1' hq2))
    simp only [Exit.then]
    refine fresh_K (fun W => GeoAt W w.heap.size D Z B O A ∧ Below w.heap.size w W) ?_ ?_
    · exact ⟨hGH.out.below hq2', bmore hBH.out hq2'⟩
    clear e1 e2 e3 e4 hkH hGH hBH
    rintro w4 ⟨hG, hB⟩
    have hGH := Lib.hid hG
    have hBH := Lib.hid hB
    clear hG hB
    have e5 := e5H.out
    have e6 := e6H.out
    have e7 := e7H.out
    have e8 := e8H.out
    have hk : ∀ W, Below w4.heap.size w4 W → (W.cell? ⟨w.heap.size, 0, none⟩ = some (.int .i64 D) ∧ W.cell? ⟨w.heap.size, 1, none⟩ = some (.int .i64 Z) ∧ W.cell? ⟨w.heap.size, 2, none⟩ = some (.int .i64 B) ∧ W.cell? ⟨w.heap.size, 3, none⟩ = some (.int .i64 O) ∧ W.cell? ⟨w.heap.size, 4, none⟩ = some (.int .i64 A)) := fun W hb => by
      obtain ⟨h0, h1, h2, h3, h4, _⟩ := hGH.out.below hb
      exact ⟨h0, h1, h2, h3, h4⟩
    have hkH := Lib.hid hk
    clear hk
    go_wp2_with fail
    go_region_held3 (fun W => W.cell? ⟨w.heap.size, 0, none⟩ = some (.int .i64 D) ∧ W.cell? ⟨w.heap.size, 1, none⟩ = some (.int .i64 Z) ∧ W.cell? ⟨w.heap.size, 2, none⟩ = some (.int .i64 B) ∧ W.cell? ⟨w.heap.size, 3, none⟩ = some (.int .i64 O) ∧ W.cell? ⟨w.heap.size, 4, none⟩ = some (.int .i64 A))
      (first | exact hkH.out _ (Below.refl _ _).drew | exact hkH.out _ hq1')
      (first | (go_at_call 11; ((with_reducible refine (c4H.out _).mono ?_); rintro e' v1 ⟨rfl, hq1⟩); have hq1' := ((Below.refl w4.heap.size w4).drew).trans (hq1.mono (by simp))))
    have hBB := bmore hBH.out hq1'
    clear e5 e6 e7 e8
    go_wp2
    refine bodyPost_ret (v := .tuple #[.int .i64 q, .int .i64 ((p + 1 + r) % D), .bool true]) (by simp [results, Tryd.results15, go_sem]) rfl ⟨rfl, ?_⟩
    exact hBB
  · have er : plR D Z B O A zone block = 0 := by unfold plR; rw [if_neg hp]
    have ed : plD D Z B O A zone block = 0 := by unfold plD; rw [if_neg hp]
    rw [Bool.not_eq_true] at hp
    rw [er, ed, hp]
    clear er ed
    unfold plB at hp
    by_cases he : exB D Z B O A zone = true
    · rw [he, Bool.true_and] at hp
      rw [he] at c1
      have c2 := fun W => cap_any D Z B O A W
      have c3 := fun W => between_any block 0 (capV D Z B O A - 1) W
      rw [hp] at c3
      generalize capV D Z B O A = V at c2 c3 hcb
      obtain ⟨v1, v2⟩ := hcb
      have c1H := Lib.hid c1
      have c2H := Lib.hid c2
      have c3H := Lib.hid c3
      clear c1 c2 c3 hp he
      have hN := GeoAt.new w D Z B O A 25
      have hB0 : Below w.heap.size w (w.alloc (.cells #[.int .i64 D, .int .i64 Z, .int .i64 B, .int .i64 O, .int .i64 A] 25)) := (Below.refl _ _).alloc (Nat.le_refl _) _
      have hNH := Lib.hid hN
      have hBH := Lib.hid hB0
      clear hN hB0
      go_enter Tryd.func15, Tryd.ntmps15
      go_wp2_with fail
      (with_reducible refine (c1H.out _).mono ?_)
      rintro e w1 ⟨rfl, hb1⟩
      have hG := hNH.out.below hb1
      have hB := bmore hBH.out hb1
      clear hNH hBH hb1

      have hGH := Lib.hid hG
      have hBH := Lib.hid hB
      clear hB
      obtain ⟨h0, h1, h2, h3, h4, _⟩ := hG
      go_wp2_with fail
      (with_reducible refine (c2H.out _).mono ?_)
      rintro e w2 ⟨rfl, hb2⟩
      have hG := hGH.out.below hb2
      have hB := bmore hBH.out hb2
      clear hGH hBH hb2
      clear h0 h1 h2 h3 h4
      have hGH := Lib.hid hG
      have hBH := Lib.hid hB
      clear hB
      obtain ⟨h0, h1, h2, h3, h4, _⟩ := hG
      go_wp2_with fail
      (with_reducible refine (c3H.out _).mono ?_)
      rintro e w3 ⟨rfl, rfl⟩
      go_wp2
      refine bodyPost_ret (v := .tuple #[.int .i64 0, .int .i64 0, .bool false]) (by simp [results, Tryd.results15, go_sem]) rfl ⟨rfl, ?_⟩
      exact hBH.out
    · rw [Bool.not_eq_true] at he
      rw [he] at c1
      have c1H := Lib.hid c1
      clear c1 hp he hcb
      have hN := GeoAt.new w D Z B O A 25
      have hB0 : Below w.heap.size w (w.alloc (.cells #[.int .i64 D, .int .i64 Z, .int .i64 B, .int .i64 O, .int .i64 A] 25)) := (Below.refl _ _).alloc (Nat.le_refl _) _
      have hNH := Lib.hid hN
      have hBH := Lib.hid hB0
      clear hN hB0
      go_enter Tryd.func15, Tryd.ntmps15
      go_wp2_with fail
      (with_reducible refine (c1H.out _).mono ?_)
      rintro e w1 ⟨rfl, hb1⟩
      have hG := hNH.out.below hb1
      have hB := bmore hBH.out hb1
      clear hNH hBH hb1

      have hGH := Lib.hid hG
      have hBH := Lib.hid hB
      clear hB
      obtain ⟨h0, h1, h2, h3, h4, _⟩ := hG
      go_wp2
      refine bodyPost_ret (v := .tuple #[.int .i64 0, .int .i64 0, .bool false]) (by simp [results, Tryd.results15, go_sem]) rfl ⟨rfl, ?_⟩
      exact hBH.out

def bkB (D Z B O A zone row drive : Int) : Bool := decide (0 ≤ parV D Z B O A zone row) && decide (drive ≠ parV D Z B O A zone row) && betB drive 0 (D - 1)
def bkV (D Z B O A zone row drive : Int) : Int := if bkB D Z B O A zone row drive = true then row * (D - 1) + (drive - parV D Z B O A zone row - 1 + D) % D else 0
set_option maxHeartbeats 1000000 in
theorem back_any (D Z B O A zone row drive : Int) (w : World) :
    Calls Tryd.prog 8 #[.agg #[.int .i64 D, .int .i64 Z, .int .i64 B, .int .i64 O, .int .i64 A], .int .i64 zone, .int .i64 row, .int .i64 drive] w fun e w' => e = .returned (.tuple #[.int .i64 (bkV D Z B O A zone row drive), .bool (bkB D Z B O A zone row drive)]) ∧ Below w.heap.size w w' := by
  have c1 := fun W => parity_any D Z B O A zone row W
  obtain ⟨pb1, pb2⟩ := parV_bd D Z B O A zone row
  unfold bkV bkB
  generalize parV D Z B O A zone row = p at c1 pb1 pb2 ⊢
  have c1H := Lib.hid c1
  clear c1
  by_cases hp : p < 0
  · rw [decide_eq_false (show ¬ 0 ≤ p by omega), Bool.false_and, Bool.false_and, if_neg (by decide)]
    clear pb1 pb2
    have hN := GeoAt.new w D Z B O A 25
    have hB0 : Below w.heap.size w (w.alloc (.cells #[.int .i64 D, .int .i64 Z, .int .i64 B, .int .i64 O, .int .i64 A] 25)) := (Below.refl _ _).alloc (Nat.le_refl _) _
    have hNH := Lib.hid hN
    have hBH := Lib.hid hB0
    clear hN hB0
    go_enter Tryd.func8, Tryd.ntmps8
    go_wp2_with fail
    (with_reducible refine (c1H.out _).mono ?_)
    rintro e w1 ⟨rfl, hb1⟩
    have hG := hNH.out.below hb1
    have hB := bmore hBH.out hb1
    clear hNH hBH hb1

    have hGH := Lib.hid hG
    have hBH := Lib.hid hB
    clear hB
    obtain ⟨h0, h1, h2, h3, h4, _⟩ := hG
    go_wp2
    go_ret2
    exact ⟨rfl, hBH.out⟩
  · have hp0 : 0 ≤ p := by omega
    rw [decide_eq_true hp0, Bool.true_and]
    obtain ⟨⟨g1, g2, g3, g4, g5, g6, _⟩, r1, r2, z1, z2, _, p2⟩ := pb2.resolve_left (by omega)
    clear hp pb1 pb2
    by_cases hd : drive = p
    · subst hd
      rw [decide_eq_false (fun h => h rfl), Bool.false_and, if_neg (by decide)]
      have hN := GeoAt.new w D Z B O A 25
      have hB0 : Below w.heap.size w (w.alloc (.cells #[.int .i64 D, .int .i64 Z, .int .i64 B, .int .i64 O, .int .i64 A] 25)) := (Below.refl _ _).alloc (Nat.le_refl _) _
      have hNH := Lib.hid hN
      have hBH := Lib.hid hB0
      clear hN hB0
      go_enter Tryd.func8, Tryd.ntmps8
      go_wp2_with fail
      (with_reducible refine (c1H.out _).mono ?_)
      rintro e w1 ⟨rfl, hb1⟩
      have hG := hNH.out.below hb1
      have hB := bmore hBH.out hb1
      clear hNH hBH hb1

      have hGH := Lib.hid hG
      have hBH := Lib.hid hB
      clear hB
      obtain ⟨h0, h1, h2, h3, h4, _⟩ := hG
      go_wp2
      go_ret2
      exact ⟨rfl, hBH.out⟩
    · rw [decide_eq_true hd, Bool.true_and]
      have hpf : decide (p < 0) = false := decide_eq_false (by omega)
      have hdf : (drive == p) = false := by rw [beq_eq_false_iff_ne]; exact hd
      have c2 := fun W => between_any drive 0 (D - 1) W
      by_cases hb : betB drive 0 (D - 1) = true
      · rw [if_pos hb, hb]
        rw [hb] at c2
        obtain ⟨d1, d2⟩ := betB_iff.1 hb
        clear hb
        have c2H := Lib.hid c2
        have c3H := Lib.hid (fun W => perRow_any D Z B O A W ⟨g1, g2⟩)
        have hm := mul_bd (a := row) (b := D - 1) (m := 256) (n := 16) (by omega) (by omega) (by omega) (by omega)
        have hk1 := Int.emod_nonneg (drive - p - 1 + D) (show D ≠ 0 by omega)
        have hk2 := Int.emod_lt_of_pos (drive - p - 1 + D) (show 0 < D by omega)
        obtain ⟨m, hm0⟩ : ∃ m, row * (D - 1) = m := ⟨_, rfl⟩
        obtain ⟨k, hk0⟩ : ∃ k, (drive - p - 1 + D) % D = k := ⟨_, rfl⟩
        rw [hm0] at hm ⊢
        rw [hk0] at hk1 hk2 ⊢
        obtain ⟨m1, m2⟩ := hm
        have e1 : (drive - p - 1 + D).tmod D = k := by rw [Int.tmod_eq_emod_of_nonneg (by omega)]; exact hk0
        have hm0H := Lib.hid hm0
        have hk0H := Lib.hid hk0
        have e1H := Lib.hid e1
        have hD0 : ¬ D = 0 := by omega
        clear c2 hm0 hk0 e1
        have hN := GeoAt.new w D Z B O A 25
        have hB0 : Below w.heap.size w (w.alloc (.cells #[.int .i64 D, .int .i64 Z, .int .i64 B, .int .i64 O, .int .i64 A] 25)) := (Below.refl _ _).alloc (Nat.le_refl _) _
        have hNH := Lib.hid hN
        have hBH := Lib.hid hB0
        clear hN hB0
        go_enter Tryd.func8, Tryd.ntmps8
        go_wp2_with fail
        (with_reducible refine (c1H.out _).mono ?_)
        rintro e w1 ⟨rfl, hb1⟩
        have hG := hNH.out.below hb1
        have hB := bmore hBH.out hb1
        clear hNH hBH hb1

        have hGH := Lib.hid hG
        have hBH := Lib.hid hB
        clear hB
        obtain ⟨h0, h1, h2, h3, h4, _⟩ := hG
        go_wp2_with fail
        (with_reducible refine (c2H.out _).mono ?_)
        rintro e w2 ⟨rfl, rfl⟩
        have hk0 := hk0H.out
        go_wp2_with fail
        (with_reducible refine (c3H.out _).mono ?_)
        rintro e w3 ⟨rfl, hb3⟩
        have hG := hGH.out.below hb3
        have hB := bmore hBH.out hb3
        clear hGH hBH hb3
        clear h0 h1 h2 h3 h4
        have hGH := Lib.hid hG
        have hBH := Lib.hid hB
        clear hB
        obtain ⟨h0, h1, h2, h3, h4, _⟩ := hG
        have hm0 := hm0H.out
        go_wp2
        go_ret2
        exact ⟨rfl, hBH.out⟩
      · rw [if_neg hb]
        rw [Bool.not_eq_true] at hb
        rw [hb] at c2 ⊢
        clear hb
        have c2H := Lib.hid c2
        clear c2
        have hN := GeoAt.new w D Z B O A 25
        have hB0 : Below w.heap.size w (w.alloc (.cells #[.int .i64 D, .int .i64 Z, .int .i64 B, .int .i64 O, .int .i64 A] 25)) := (Below.refl _ _).alloc (Nat.le_refl _) _
        have hNH := Lib.hid hN
        have hBH := Lib.hid hB0
        clear hN hB0
        go_enter Tryd.func8, Tryd.ntmps8
        go_wp2_with fail
        (with_reducible refine (c1H.out _).mono ?_)
        rintro e w1 ⟨rfl, hb1⟩
        have hG := hNH.out.below hb1
        have hB := bmore hBH.out hb1
        clear hNH hBH hb1

        have hGH := Lib.hid hG
        have hBH := Lib.hid hB
        clear hB
        obtain ⟨h0, h1, h2, h3, h4, _⟩ := hG
        go_wp2_with fail
        (with_reducible refine (c2H.out _).mono ?_)
        rintro e w2 ⟨rfl, rfl⟩
        go_wp2
        go_ret2
        exact ⟨rfl, hBH.out⟩
end Go.Proofs.YtflkkmiehioejabDoor
