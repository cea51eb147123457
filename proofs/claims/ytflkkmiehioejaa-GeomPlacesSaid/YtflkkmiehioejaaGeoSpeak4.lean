/- What every law of the fourth layer asks first: that the package answers at all. Boxes of one geometry. -/
import Derived.Test.YtflkkmiehioejaaGeoPlace
namespace Go.Proofs.Ytflkkmiehioejaa
open Go.RowKit

set_option maxHeartbeats 1000000 in
theorem speaks4 (w : World) :
    Calls Try.prog 19 #[] w fun e w' => e = .returned (.bool true) ∧ Below w.heap.size w w' := by
  have c1 := fun W => place_any 3 5 4 1 1 0 2 W
  rw [show plR 3 5 4 1 1 0 2 = 1 by decide +kernel, show plD 3 5 4 1 1 0 2 = 2 by decide +kernel, show plB 3 5 4 1 1 0 2 = true by decide +kernel] at c1
  have c2 := fun W => good_any 3 5 4 1 1 W
  rw [show goodB 3 5 4 1 1 = true by decide +kernel] at c2
  have c3 := fun W => cap_any 3 5 4 1 1 W
  rw [show capV 3 5 4 1 1 = 8 by decide +kernel] at c3
  have c4 := fun W => zones_any 3 5 4 1 1 W
  rw [show zonesV 3 5 4 1 1 = 2 by decide +kernel] at c4
  have c1H := Lib.hid c1
  have c2H := Lib.hid c2
  have c3H := Lib.hid c3
  have c4H := Lib.hid c4
  clear c1 c2 c3 c4
  have hN := GeoAt.new w 3 5 4 1 1 38
  have hB0 : Below w.heap.size w (w.alloc (.cells #[.int .i64 3, .int .i64 5, .int .i64 4, .int .i64 1, .int .i64 1] 38)) := (Below.refl _ _).alloc (Nat.le_refl _) _
  have hNH := Lib.hid hN
  have hBH := Lib.hid hB0
  clear hN hB0
  go_enter Try.func19, Try.ntmps19
  go_wp2_with fail
  (with_reducible refine (c1H.out _).mono ?_)
  rintro e w1 ⟨rfl, hb1⟩
  have hG := hNH.out.below hb1
  have hB := bmore hBH.out hb1
  clear hNH hBH hb1

  have hGH := Lib.hid hG
  have hBH := Lib.hid hB
  clear hB
  obtain ⟨h0, h1, h2, h3, h4, _⟩ := hG
  go_wp2_with fail
  (with_reducible refine (c2H.out _).mono ?_)
  rintro e w2 ⟨rfl, hb2⟩
  have hG := hGH.out.below hb2
  have hB := bmore hBH.out hb2
  clear hGH hBH hb2
  clear h0 h1 h2 h3 h4
  have hGH := Lib.hid hG
  have hBH := Lib.hid hB
  clear hB
  obtain ⟨h0, h1, h2, h3, h4, _⟩ := hG
  go_wp2_with fail
  (with_reducible refine (c3H.out _).mono ?_)
  rintro e w3 ⟨rfl, hb3⟩
  have hG := hGH.out.below hb3
  have hB := bmore hBH.out hb3
  clear hGH hBH hb3
  clear h0 h1 h2 h3 h4
  have hGH := Lib.hid hG
  have hBH := Lib.hid hB
  clear hB
  obtain ⟨h0, h1, h2, h3, h4, _⟩ := hG
  go_wp2_with fail
  (with_reducible refine (c4H.out _).mono ?_)
  rintro e w4 ⟨rfl, hb4⟩
  have hG := hGH.out.below hb4
  have hB := bmore hBH.out hb4
  clear hGH hBH hb4
  clear h0 h1 h2 h3 h4
  have hGH := Lib.hid hG
  have hBH := Lib.hid hB
  clear hB
  obtain ⟨h0, h1, h2, h3, h4, _⟩ := hG
  go_wp2
  go_ret
  exact ⟨rfl, hBH.out⟩

/-- Boxes of one geometry, in a world that has only grown. -/
def Boxes (w W : World) (bs : List Nat) (D Z B O A : Int) : Prop := (∀ b ∈ bs, GeoAt W b D Z B O A) ∧ Below w.heap.size w W
theorem Boxes.below {w W W' : World} {bs : List Nat} {D Z B O A : Int} (h : Boxes w W bs D Z B O A) (hb : Below W.heap.size W W') : Boxes w W' bs D Z B O A :=
  ⟨fun b hx => (h.1 b hx).below hb, bmore h.2 hb⟩
theorem Boxes.one {w W : World} {b : Nat} {D Z B O A : Int} (h : GeoAt W b D Z B O A) (hb : Below w.heap.size w W) : Boxes w W [b] D Z B O A :=
  ⟨fun x hx => by rw [List.mem_singleton.1 hx]; exact h, hb⟩
theorem Boxes.more {w W : World} {bs : List Nat} {D Z B O A : Int} (h : Boxes w W bs D Z B O A) (t : TypeId) :
    Boxes w (W.alloc (.cells #[.int .i64 D, .int .i64 Z, .int .i64 B, .int .i64 O, .int .i64 A] t)) (W.heap.size :: bs) D Z B O A := by
  have hs := h.2.size
  refine ⟨fun x hx => ?_, h.2.alloc hs _⟩
  rcases List.mem_cons.1 hx with rfl | hx
  · exact GeoAt.new W D Z B O A t
  · exact (h.1 x hx).below ((Below.refl _ _).alloc (Nat.le_refl _) _)
theorem Boxes.two {w W : World} {b : Nat} {D Z B O A : Int} (h : GeoAt W b D Z B O A) (hb : Below w.heap.size w W) (t : TypeId) :
    Boxes w (W.alloc (.cells #[.int .i64 D, .int .i64 Z, .int .i64 B, .int .i64 O, .int .i64 A] t)) [b, W.heap.size] D Z B O A := by
  have h1 := (Boxes.one h hb).more t
  exact ⟨fun x hx => h1.1 x (by simp at hx ⊢; exact hx.symm), h1.2⟩
theorem Boxes.sub {w W : World} {bs cs : List Nat} {D Z B O A : Int} (h : Boxes w W bs D Z B O A) (hs : ∀ x ∈ cs, x ∈ bs) : Boxes w W cs D Z B O A := ⟨fun x hx => h.1 x (hs x hx), h.2⟩

end Go.Proofs.Ytflkkmiehioejaa
