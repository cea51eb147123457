/- What the law GeomPlaces does. -/
import Derived.Test.YtflkkmiehioejaaGeoBackRef
namespace Go.Proofs.Ytflkkmiehioejaa
open Go.RowKit

set_option maxRecDepth 100000 in
set_option maxHeartbeats 4000000 in
theorem places_law (D Z B O A zone block : Int) (w : World) :
    Calls Try.prog 9 #[.agg #[.int .i64 D, .int .i64 Z, .int .i64 B, .int .i64 O, .int .i64 A], .int .i64 zone, .int .i64 block] w fun e w' => e = .returned (.bool true) ∧ Below w.heap.size w w' := by
  have c1 := fun W => place_any D Z B O A zone block W
  have c2 := fun W => refplace_any D Z B O A zone block W
  have c3 := fun W => good_any D Z B O A W
  have c4 := fun W => refgood_any D Z B O A W
  generalize plR D Z B O A zone block = r at c1 c2
  generalize plD D Z B O A zone block = d at c1 c2
  generalize plB D Z B O A zone block = v at c1 c2
  have c5 := fun W => back_any D Z B O A zone block d W
  have c6 := fun W => refback_any D Z B O A zone block d W
  have c7 := fun W => back_any D Z B O A zone r zone W
  have c8 := fun W => refback_any D Z B O A zone r zone W
  generalize bkV D Z B O A zone block d = a1 at c5 c6
  generalize bkB D Z B O A zone block d = a2 at c5 c6
  generalize bkV D Z B O A zone r zone = a3 at c7 c8
  generalize bkB D Z B O A zone r zone = a4 at c7 c8
  generalize goodB D Z B O A = gb at c3 c4
  have c1H := Lib.hid c1
  have c2H := Lib.hid c2
  have c3H := Lib.hid c3
  have c4H := Lib.hid c4
  have c5H := Lib.hid c5
  have c6H := Lib.hid c6
  have c7H := Lib.hid c7
  have c8H := Lib.hid c8
  clear c1 c2 c3 c4 c5 c6 c7 c8
  have hN := GeoAt.new w D Z B O A 37
  have hB0 : Below w.heap.size w (w.alloc (.cells #[.int .i64 D, .int .i64 Z, .int .i64 B, .int .i64 O, .int .i64 A] 37)) := (Below.refl _ _).alloc (Nat.le_refl _) _
  have hNH := Lib.hid hN
  have hBH := Lib.hid hB0
  clear hN hB0
  go_enter Try.func9, Try.ntmps9
  go_wp2_with fail
  refine (speaks4 _).mono ?_
  rintro e w1 ⟨rfl, hb1⟩
  have hG := hNH.out.below hb1
  have hB := bmore hBH.out hb1
  clear hNH hBH hb1
  have hGH := Lib.hid hG
  have hBH := Lib.hid hB
  clear hB
  obtain ⟨h0, h1, h2, h3, h4, hlt⟩ := hG
  go_upto_region 3 with fail
  go_cut [7, 8] (fun s7 s8 wx => ∃ x y : Nat, s7 = .pointer (some ⟨x, 0, none⟩) ∧ s8 = .pointer (some ⟨y, 0, none⟩) ∧ Boxes w wx [w.heap.size, x, y] D Z B O A)
  case first =>
    go_region
    all_goals
      go_wp2_with fail
      go_meet
      first
        | exact ⟨_, _, rfl, rfl, (((Boxes.one hGH.out hBH.out).more _).more _).sub (by simp)⟩
        | exact ⟨_, _, rfl, rfl, ((((Boxes.one hGH.out hBH.out).more _).more _).below (Below.refl _ _).drew).sub (by simp)⟩
  case rest =>
    clear h0 h1 h2 h3 h4 hlt hGH hBH
    obtain ⟨x, y, rfl, rfl, hT⟩ := hcut
    have hTH := Lib.hid hT
    obtain ⟨k0, k1, k2, k3, k4, _⟩ := hT.1 x (by simp)
    obtain ⟨j0, j1, j2, j3, j4, _⟩ := hT.1 y (by simp)
    clear hT
    go_wp2_with fail
    (with_reducible refine (c1H.out _).mono ?_)
    rintro e w2 ⟨rfl, hb2⟩
    have hT := hTH.out.below hb2
    clear hTH hb2 k0 k1 k2 k3 k4 j0 j1 j2 j3 j4
    have hTH := Lib.hid hT
    obtain ⟨k0, k1, k2, k3, k4, _⟩ := hT.1 x (by simp)
    obtain ⟨j0, j1, j2, j3, j4, _⟩ := hT.1 y (by simp)
    clear hT
    go_wp2_with fail
    (with_reducible refine (c2H.out _).mono ?_)
    rintro e w3 ⟨rfl, hb3⟩
    have hT := hTH.out.below hb3
    clear hTH hb3 k0 k1 k2 k3 k4 j0 j1 j2 j3 j4
    have hTH := Lib.hid hT
    obtain ⟨k0, k1, k2, k3, k4, _⟩ := hT.1 x (by simp)
    obtain ⟨j0, j1, j2, j3, j4, _⟩ := hT.1 y (by simp)
    clear hT
    go_wp2_with fail
    have hk : ∀ W, Below w3.heap.size w3 W → (W.cell? ⟨x, 0, none⟩ = some (.int .i64 D) ∧ W.cell? ⟨x, 1, none⟩ = some (.int .i64 Z) ∧ W.cell? ⟨x, 2, none⟩ = some (.int .i64 B) ∧ W.cell? ⟨x, 3, none⟩ = some (.int .i64 O) ∧ W.cell? ⟨x, 4, none⟩ = some (.int .i64 A) ∧ W.cell? ⟨y, 0, none⟩ = some (.int .i64 D) ∧ W.cell? ⟨y, 1, none⟩ = some (.int .i64 Z) ∧ W.cell? ⟨y, 2, none⟩ = some (.int .i64 B) ∧ W.cell? ⟨y, 3, none⟩ = some (.int .i64 O) ∧ W.cell? ⟨y, 4, none⟩ = some (.int .i64 A)) := fun W hb => by
      have hT := hTH.out.below hb
      obtain ⟨k0, k1, k2, k3, k4, _⟩ := hT.1 x (by simp)
      obtain ⟨j0, j1, j2, j3, j4, _⟩ := hT.1 y (by simp)
      exact ⟨k0, k1, k2, k3, k4, j0, j1, j2, j3, j4⟩
    have hkH := Lib.hid hk
    clear hk k0 k1 k2 k3 k4 j0 j1 j2 j3 j4
    go_region_held3 (fun W => W.cell? ⟨x, 0, none⟩ = some (.int .i64 D) ∧ W.cell? ⟨x, 1, none⟩ = some (.int .i64 Z) ∧ W.cell? ⟨x, 2, none⟩ = some (.int .i64 B) ∧ W.cell? ⟨x, 3, none⟩ = some (.int .i64 O) ∧ W.cell? ⟨x, 4, none⟩ = some (.int .i64 A) ∧ W.cell? ⟨y, 0, none⟩ = some (.int .i64 D) ∧ W.cell? ⟨y, 1, none⟩ = some (.int .i64 Z) ∧ W.cell? ⟨y, 2, none⟩ = some (.int .i64 B) ∧ W.cell? ⟨y, 3, none⟩ = some (.int .i64 O) ∧ W.cell? ⟨y, 4, none⟩ = some (.int .i64 A))
      (first | exact hkH.out _ (Below.refl _ _).drew | exact hkH.out _ hq2' | exact hkH.out _ hq1')
      (first | (go_at_call 22; ((with_reducible refine (c3H.out _).mono ?_); rintro e' v1 ⟨rfl, hq1⟩); have hq1' := ((Below.refl w3.heap.size w3).drew).trans (hq1.mono (by simp))) | (go_at_call 23; ((with_reducible refine (c4H.out _).mono ?_); rintro e' v2 ⟨rfl, hq2⟩); have hq2' := bmore hq1' hq2))
    simp only [Exit.then]
    refine fresh_K (fun W => Boxes w W [w.heap.size, x, y] D Z B O A) (hTH.out.below hq2') ?_
    clear hkH hTH
    rintro w4 hT
    have hTH := Lib.hid hT
    obtain ⟨k0, k1, k2, k3, k4, _⟩ := hT.1 x (by simp)
    obtain ⟨j0, j1, j2, j3, j4, _⟩ := hT.1 y (by simp)
    clear hT
    go_wp2_with fail
    (with_reducible refine (c5H.out _).mono ?_)
    rintro e w5 ⟨rfl, hb5⟩
    have hT := hTH.out.below hb5
    clear hTH hb5 k0 k1 k2 k3 k4 j0 j1 j2 j3 j4
    have hTH := Lib.hid hT
    obtain ⟨k0, k1, k2, k3, k4, _⟩ := hT.1 x (by simp)
    obtain ⟨j0, j1, j2, j3, j4, _⟩ := hT.1 y (by simp)
    clear hT
    go_wp2_with fail
    (with_reducible refine (c6H.out _).mono ?_)
    rintro e w6 ⟨rfl, hb6⟩
    have hT := hTH.out.below hb6
    clear hTH hb6 k0 k1 k2 k3 k4 j0 j1 j2 j3 j4
    have hTH := Lib.hid hT
    obtain ⟨k0, k1, k2, k3, k4, _⟩ := hT.1 x (by simp)
    obtain ⟨j0, j1, j2, j3, j4, _⟩ := hT.1 y (by simp)
    clear hT
    go_wp2_with fail
    (with_reducible refine (c7H.out _).mono ?_)
    rintro e w7 ⟨rfl, hb7⟩
    have hT := hTH.out.below hb7
    clear hTH hb7 k0 k1 k2 k3 k4 j0 j1 j2 j3 j4
    have hTH := Lib.hid hT
    obtain ⟨k0, k1, k2, k3, k4, _⟩ := hT.1 x (by simp)
    obtain ⟨j0, j1, j2, j3, j4, _⟩ := hT.1 y (by simp)
    clear hT
    go_wp2_with fail
    (with_reducible refine (c8H.out _).mono ?_)
    rintro e w8 ⟨rfl, hb8⟩
    have hT := hTH.out.below hb8
    clear hTH hb8 k0 k1 k2 k3 k4 j0 j1 j2 j3 j4
    have hTH := Lib.hid hT
    obtain ⟨k0, k1, k2, k3, k4, _⟩ := hT.1 x (by simp)
    obtain ⟨j0, j1, j2, j3, j4, _⟩ := hT.1 y (by simp)
    clear hT
    go_wp2
    go_ret
    exact ⟨by simp, hTH.out.2⟩
end Go.Proofs.Ytflkkmiehioejaa
