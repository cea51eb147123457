/- What the laws of the second stage's whole ask first, and the geometries that they draw. -/
import Derived.Test.YtflkkmiehioejabDoorTopSums
import Derived.Test.YtflkkmiehioejabDoorXorAdd
import Derived.Test.YtflkkmiehioejabDoorGeoBoxes
namespace Go.Proofs.YtflkkmiehioejabDoor
open Go.RowKit Crc Num Xor

set_option maxHeartbeats 1000000 in
theorem places_any (w : World) (hT : Tab w) :
    Calls Tryd.prog 5 #[] w fun e w' => e = .returned (.bool true) ∧ Below w.heap.size w w' := by
  have c1 := fun W => place_any 3 5 4 1 1 0 1 W
  rw [show plR 3 5 4 1 1 0 1 = 0 by decide +kernel, show plD 3 5 4 1 1 0 1 = 2 by decide +kernel, show plB 3 5 4 1 1 0 1 = true by decide +kernel] at c1
  have c2 := fun W (hb : Below w.heap.size w W) => sums_top W (hT.below hb)
  have c3 := fun W => parity_any 3 5 4 1 1 0 0 W
  rw [show parV 3 5 4 1 1 0 0 = 0 by decide +kernel] at c3
  have c4 := fun W => xadd_any ⟨#[97]⟩ ⟨#[97]⟩ W (by decide) (by decide)
  rw [show foldS [⟨#[97]⟩, ⟨#[97]⟩] = ⟨#[0]⟩ by decide +kernel] at c4
  have c1H := Lib.hid c1
  have c2H := Lib.hid c2
  have c3H := Lib.hid c3
  have c4H := Lib.hid c4
  clear c1 c2 c3 c4
  have hN := GeoAt.new w 3 5 4 1 1 25
  have hB0 : Below w.heap.size w (w.alloc (.cells #[.int .i64 3, .int .i64 5, .int .i64 4, .int .i64 1, .int .i64 1] 25)) := (Below.refl _ _).alloc (Nat.le_refl _) _
  have hNH := Lib.hid hN
  have hBH := Lib.hid hB0
  clear hN hB0
  go_enter Tryd.func5, Tryd.ntmps5
  go_wp2_with fail
  (with_reducible refine (c1H.out _).mono ?_)
  rintro e w1 ⟨rfl, hb1⟩
  have hG := hNH.out.below hb1
  have hB := bmore hBH.out hb1
  clear hNH hBH hb1

  have hGH := Lib.hid hG
  have hBH := Lib.hid hB
  clear hB
  obtain ⟨h0, h1, h2, h3, h4, _⟩ := hG
  go_wp2_with fail
  (with_reducible refine (c2H.out _ hBH.out).mono ?_)
  rintro e w2 ⟨rfl, hb2⟩
  have hG := hGH.out.below hb2
  have hB := bmore hBH.out hb2
  clear hGH hBH hb2
  clear h0 h1 h2 h3 h4
  have hGH := Lib.hid hG
  have hBH := Lib.hid hB
  clear hB
  obtain ⟨h0, h1, h2, h3, h4, _⟩ := hG
  go_wp2_with fail
  (with_reducible refine (c3H.out _).mono ?_)
  rintro e w3 ⟨rfl, hb3⟩
  have hG := hGH.out.below hb3
  have hB := bmore hBH.out hb3
  clear hGH hBH hb3
  clear h0 h1 h2 h3 h4
  have hGH := Lib.hid hG
  have hBH := Lib.hid hB
  clear hB
  obtain ⟨h0, h1, h2, h3, h4, _⟩ := hG
  go_wp2_with fail
  (with_reducible refine (c4H.out _).mono ?_)
  rintro e w4 ⟨rfl, hb4⟩
  have hG := hGH.out.below hb4
  have hB := bmore hBH.out hb4
  clear hGH hBH hb4
  clear h0 h1 h2 h3 h4
  have hGH := Lib.hid hG
  have hBH := Lib.hid hB
  clear hB
  obtain ⟨h0, h1, h2, h3, h4, _⟩ := hG
  go_wp2
  go_ret
  exact ⟨rfl, hBH.out⟩

set_option maxHeartbeats 1000000 in
theorem shape_any (x0 x1 x2 : Int) : ∃ D Z B : Int, (3 ≤ D ∧ D ≤ 10 ∧ 6 ≤ Z ∧ Z ≤ 13 ∧ 4 ≤ B ∧ B ≤ 35) ∧ ∀ w, Calls Tryd.prog 6 #[.agg #[.int .i64 x0, .int .i64 x1, .int .i64 x2]] w fun e w' => e = .returned (.agg #[.int .i64 D, .int .i64 Z, .int .i64 B, .int .i64 2, .int .i64 4]) ∧ Below w.heap.size w w' := by
  obtain ⟨m0, h0, e0⟩ := mask_nat x0 3 7 rfl (by omega)
  obtain ⟨m1, h1, e1⟩ := mask_nat x1 3 7 rfl (by omega)
  obtain ⟨m2, h2, e2⟩ := mask_nat x2 5 31 rfl (by omega)
  refine ⟨3 + (m0 : Int), 6 + (m1 : Int), 4 + (m2 : Int), by omega, fun w => ?_⟩
  have e0' : bits .and .i64 x0 7 = (m0 : Int) := e0
  have e1' : bits .and .i64 x1 7 = (m1 : Int) := e1
  have e2' : bits .and .i64 x2 31 = (m2 : Int) := e2
  clear e0 e1 e2
  go_enter Tryd.func6, Tryd.ntmps6
  go_wp2
  refine bodyPost_ret (v := .agg #[.int .i64 (3 + (m0 : Int)), .int .i64 (6 + (m1 : Int)), .int .i64 (4 + (m2 : Int)), .int .i64 2, .int .i64 4]) (by simp [results, Tryd.results6, go_sem]) rfl ⟨rfl, ?_⟩
  exact ((Below.refl _ _).alloc (Nat.le_refl _) _).alloc (by simp) _
end Go.Proofs.YtflkkmiehioejabDoor
