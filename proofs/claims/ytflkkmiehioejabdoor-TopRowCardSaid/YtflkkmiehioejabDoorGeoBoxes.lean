/- Boxes of one geometry. -/
import Derived.Test.YtflkkmiehioejabDoorGeoPlace
namespace Go.Proofs.YtflkkmiehioejabDoor
open Go.RowKit

/-- Boxes of one geometry, in a world that has only grown. -/
def Boxes (w W : World) (bs : List Nat) (D Z B O A : Int) : Prop := (∀ b ∈ bs, GeoAt W b D Z B O A) ∧ Below w.heap.size w W
theorem Boxes.below {w W W' : World} {bs : List Nat} {D Z B O A : Int} (h : Boxes w W bs D Z B O A) (hb : Below W.heap.size W W') : Boxes w W' bs D Z B O A :=
  ⟨fun b hx => (h.1 b hx).below hb, bmore h.2 hb⟩
theorem Boxes.one {w W : World} {b : Nat} {D Z B O A : Int} (h : GeoAt W b D Z B O A) (hb : Below w.heap.size w W) : Boxes w W [b] D Z B O A :=
  ⟨fun x hx => by rw [List.mem_singleton.1 hx]; exact h, hb⟩
theorem Boxes.more {w W : World} {bs : List Nat} {D Z B O A : Int} (h : Boxes w W bs D Z B O A) (t : TypeId) :
    Boxes w (W.alloc (.cells #[.int .i64 D, .int .i64 Z, .int .i64 B, .int .i64 O, .int .i64 A] t)) (W.heap.size :: bs) D Z B O A := by
  have hs := h.2.size
  refine ⟨fun x hx => ?_, h.2.alloc hs _⟩
  rcases List.mem_cons.1 hx with rfl | hx
  · exact GeoAt.new W D Z B O A t
  · exact (h.1 x hx).below ((Below.refl _ _).alloc (Nat.le_refl _) _)
theorem Boxes.two {w W : World} {b : Nat} {D Z B O A : Int} (h : GeoAt W b D Z B O A) (hb : Below w.heap.size w W) (t : TypeId) :
    Boxes w (W.alloc (.cells #[.int .i64 D, .int .i64 Z, .int .i64 B, .int .i64 O, .int .i64 A] t)) [b, W.heap.size] D Z B O A := by
  have h1 := (Boxes.one h hb).more t
  exact ⟨fun x hx => h1.1 x (by simp at hx ⊢; exact hx.symm), h1.2⟩
theorem Boxes.sub {w W : World} {bs cs : List Nat} {D Z B O A : Int} (h : Boxes w W bs D Z B O A) (hs : ∀ x ∈ cs, x ∈ bs) : Boxes w W cs D Z B O A := ⟨fun x hx => h.1 x (hs x hx), h.2⟩

end Go.Proofs.YtflkkmiehioejabDoor
