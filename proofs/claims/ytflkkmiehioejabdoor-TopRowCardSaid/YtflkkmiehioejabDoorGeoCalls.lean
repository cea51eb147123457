/- What geom's calls over a boxed geometry do: which zone there is, where a block lies, what lies at a spot. -/
import Derived.Test.YtflkkmiehioejabDoorGeoWalks
namespace Go.Proofs.YtflkkmiehioejabDoor
open Go.RowKit

def exB (D Z B O A zone : Int) : Bool := betB zone 0 (zonesV D Z B O A - 1)
theorem exB_true {D Z B O A zone : Int} (h : exB D Z B O A zone = true) : GoodP D Z B O A ∧ 0 ≤ zone ∧ zone ≤ Z - 4 := by
  have h1 := betB_iff.1 h
  unfold zonesV at h1
  split at h1
  · rename_i hg; exact ⟨goodB_iff.1 hg, by omega, by omega⟩
  · omega
theorem exB_mk {D Z B O A zone : Int} (hg : GoodP D Z B O A) (h0 : 0 ≤ zone) (h1 : zone ≤ Z - 4) : exB D Z B O A zone = true := by
  unfold exB zonesV
  rw [if_pos (goodB_iff.2 hg)]
  exact betB_iff.2 ⟨h0, by omega⟩

theorem exists_any (D Z B O A zone : Int) (w : World) :
    Calls Tryd.prog 20 #[.agg #[.int .i64 D, .int .i64 Z, .int .i64 B, .int .i64 O, .int .i64 A], .int .i64 zone] w fun e w' => e = .returned (.bool (exB D Z B O A zone)) ∧ Below w.heap.size w w' := by
  have hz := zonesV_bd D Z B O A
  have c1 := fun W => zones_any D Z B O A W
  unfold exB
  generalize zonesV D Z B O A = V at hz c1 ⊢
  have c2 := fun W => between_any zone 0 (V - 1) W
  generalize betB zone 0 (V - 1) = r at c2 ⊢
  have c1H := Lib.hid c1
  have c2H := Lib.hid c2
  obtain ⟨hz1, hz2⟩ := hz
  clear c1 c2
  have hN := GeoAt.new w D Z B O A 25
  have hB0 : Below w.heap.size w (w.alloc (.cells #[.int .i64 D, .int .i64 Z, .int .i64 B, .int .i64 O, .int .i64 A] 25)) := (Below.refl _ _).alloc (Nat.le_refl _) _
  have hNH := Lib.hid hN
  have hBH := Lib.hid hB0
  clear hN hB0
  go_enter Tryd.func20, Tryd.ntmps20
  go_wp2_with fail
  refine (c1H.out _).mono ?_
  rintro e w1 ⟨rfl, hb1⟩
  have hG := hNH.out.below hb1
  have hB := bmore hBH.out hb1
  clear hNH hBH hb1
  have hGH := Lib.hid hG
  have hBH := Lib.hid hB
  clear hB
  obtain ⟨h0, h1, h2, h3, h4, _⟩ := hG
  go_wp2_with fail
  refine (c2H.out _).mono ?_
  rintro e w2 ⟨rfl, rfl⟩
  go_wp2
  go_ret
  exact ⟨rfl, hBH.out⟩

def parV (D Z B O A zone row : Int) : Int := if (exB D Z B O A zone && betB row 0 (B - 1)) = true then (zone + row) % D else -1
set_option maxHeartbeats 1000000 in
theorem parity_any (D Z B O A zone row : Int) (w : World) :
    Calls Tryd.prog 11 #[.agg #[.int .i64 D, .int .i64 Z, .int .i64 B, .int .i64 O, .int .i64 A], .int .i64 zone, .int .i64 row] w fun e w' => e = .returned (.int .i64 (parV D Z B O A zone row)) ∧ Below w.heap.size w w' := by
  have c1 := fun W => exists_any D Z B O A zone W
  unfold parV
  by_cases he : exB D Z B O A zone = true
  · obtain ⟨⟨g1, g2, g3, g4, g5, g6, _⟩, z1, z2⟩ := exB_true he
    rw [he] at c1 ⊢
    rw [Bool.true_and]
    clear he
    have c1H := Lib.hid c1
    clear c1
    by_cases hr : betB row 0 (B - 1) = true
    · rw [if_pos hr]
      have c2 := fun W => between_any row 0 (B - 1) W
      rw [hr] at c2
      obtain ⟨r1, r2⟩ := betB_iff.1 hr
      have c2H := Lib.hid c2
      clear c2 hr
      have hN := GeoAt.new w D Z B O A 25
      have hB0 : Below w.heap.size w (w.alloc (.cells #[.int .i64 D, .int .i64 Z, .int .i64 B, .int .i64 O, .int .i64 A] 25)) := (Below.refl _ _).alloc (Nat.le_refl _) _
      have hNH := Lib.hid hN
      have hBH := Lib.hid hB0
      clear hN hB0
      go_enter Tryd.func11, Tryd.ntmps11
      go_wp2_with fail
      refine (c1H.out _).mono ?_
      rintro e w1 ⟨rfl, hb1⟩
      have hG := hNH.out.below hb1
      have hB := bmore hBH.out hb1
      clear hNH hBH hb1
      have hGH := Lib.hid hG
      have hBH := Lib.hid hB
      clear hB
      obtain ⟨h0, h1, h2, h3, h4, _⟩ := hG
      go_wp2_with fail
      refine (c2H.out _).mono ?_
      rintro e w2 ⟨rfl, rfl⟩
      go_wp2
      go_ret
      exact ⟨rfl, hBH.out⟩
    · rw [if_neg hr]
      have c2 := fun W => between_any row 0 (B - 1) W
      rw [Bool.not_eq_true] at hr
      rw [hr] at c2
      have c2H := Lib.hid c2
      clear c2 hr
      have hN := GeoAt.new w D Z B O A 25
      have hB0 : Below w.heap.size w (w.alloc (.cells #[.int .i64 D, .int .i64 Z, .int .i64 B, .int .i64 O, .int .i64 A] 25)) := (Below.refl _ _).alloc (Nat.le_refl _) _
      have hNH := Lib.hid hN
      have hBH := Lib.hid hB0
      clear hN hB0
      go_enter Tryd.func11, Tryd.ntmps11
      go_wp2_with fail
      refine (c1H.out _).mono ?_
      rintro e w1 ⟨rfl, hb1⟩
      have hG := hNH.out.below hb1
      have hB := bmore hBH.out hb1
      clear hNH hBH hb1
      have hGH := Lib.hid hG
      have hBH := Lib.hid hB
      clear hB
      obtain ⟨h0, h1, h2, h3, h4, _⟩ := hG
      go_wp2_with fail
      refine (c2H.out _).mono ?_
      rintro e w2 ⟨rfl, rfl⟩
      go_wp2
      go_ret
      exact ⟨rfl, hBH.out⟩
  · rw [Bool.not_eq_true] at he
    rw [he] at c1 ⊢
    rw [Bool.false_and, if_neg (by decide)]
    clear he
    have c1H := Lib.hid c1
    clear c1
    have hN := GeoAt.new w D Z B O A 25
    have hB0 : Below w.heap.size w (w.alloc (.cells #[.int .i64 D, .int .i64 Z, .int .i64 B, .int .i64 O, .int .i64 A] 25)) := (Below.refl _ _).alloc (Nat.le_refl _) _
    have hNH := Lib.hid hN
    have hBH := Lib.hid hB0
    clear hN hB0
    go_enter Tryd.func11, Tryd.ntmps11
    go_wp2_with fail
    refine (c1H.out _).mono ?_
    rintro e w1 ⟨rfl, hb1⟩
    have hG := hNH.out.below hb1
    have hB := bmore hBH.out hb1
    clear hNH hBH hb1
    have hGH := Lib.hid hG
    have hBH := Lib.hid hB
    clear hB
    obtain ⟨h0, h1, h2, h3, h4, _⟩ := hG
    go_wp2
    go_ret
    exact ⟨rfl, hBH.out⟩
end Go.Proofs.YtflkkmiehioejabDoor
