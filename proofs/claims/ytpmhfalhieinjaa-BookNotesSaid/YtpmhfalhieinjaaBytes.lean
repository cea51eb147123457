/- A string turned into bytes of the call's own, and back; a world of which some facts alone are kept. -/
import Derived.Test.YtpmhfalhieinjaaKit
import Derived.Deep.QuietTactic
import Derived.BigQuiet
import Derived.Handy
import Derived.Deep.RegionWith
import Derived.Deep.DeepCutAuto
import Derived.BigRegion
import Derived.Laws.BitsAllLaws
namespace Go.Proofs.Ytpmhfalhieinjaa
open Go.RowKit

theorem below_drewN {B : Nat} {a w : World} (h : Below B a w) (n : Nat) : Below B a (w.drewN n) := ⟨h.os, h.tape, h.output, h.size, h.block⟩

theorem quiet_add_left {P : Program} {f : FuncId} {args : Array Value} {w : World} {a n : Nat} {v : Value}
    (h : Calls P f args (w.drewN (a + n)) fun e w' => e = .returned v ∧ w.drewN (a + n) = w') :
    Calls P f args (w.drewN (a + n)) fun e w'' => e = .returned v ∧ ∃ m, w'' = w.drewN (a + m) :=
  h.mono fun _ _ ⟨he, hm⟩ => ⟨he, n, hm.symm⟩
theorem quiet_left {P : Program} {f : FuncId} {args : Array Value} {w : World} {n : Nat} {v : Value}
    (h : Calls P f args (w.drewN n) fun e w' => e = .returned v ∧ w.drewN n = w') : Calls P f args (w.drewN n) fun e w'' => e = .returned v ∧ ∃ m, w'' = w.drewN m :=
  h.mono fun _ _ ⟨he, hm⟩ => ⟨he, n, hm.symm⟩

theorem fresh_world {P : Program} {c : Code} {Q : Exit → Act → World → Prop} {a : Act} {W : World} (R : World → Prop) (hR : R W) (h : ∀ W2, R W2 → Code.wp P c Q a W2) : Code.wp P c Q a W := h W hR
theorem fresh_K {K : Act → World → Prop} {a : Act} {W : World} (R : World → Prop) (hR : R W) (h : ∀ W2, R W2 → K a W2) : K a W := h W hR

/-- A block of the call's own whose first cells are the bytes l. -/
def BytesAt (w : World) (g : Nat) (l : List UInt8) : Prop := ∀ j (hj : j < l.length), w.cell? ⟨g, j, none⟩ = some (.int .u8 (l[j].toNat : Int))

theorem BytesAt.new (w : World) (s : ByteArray) (cap : Nat) (t : TypeId) (fr : Nat × Nat) : BytesAt (w.alloc (.cells (bytesRow s cap) t fr)) w.heap.size s.data.toList := fun j hj => by
  rw [World.cell?_alloc_mark, bytesRow_at s cap j (by simpa using hj)]
  simp

theorem BytesAt.below {w w' : World} {g : Nat} {l : List UInt8} (h : BytesAt w g l) (hb : Below w.heap.size w w') : BytesAt w' g l := fun j hj =>
  (hb.cell (p := ⟨g, j, none⟩) (lt_of_cell (h j hj))).trans (h j hj)

theorem BytesAt.set {w : World} {g p : Nat} {l : List UInt8} (h : BytesAt w g l) (hp : p < l.length) (d : UInt8) : BytesAt (w.setCell ⟨g, p, none⟩ (.int .u8 (d.toNat : Int))) g (l.set p d) := fun j hj => by
  have hj' : j < l.length := by simpa using hj
  by_cases e : p = j
  · subst e
    rw [World.cell?_setCell_same' _ _ _ (by rw [h p hp]; rfl)]
    simp
  · rw [World.cell?_setCell_other _ _ _ _ (by intro e'; injection e' with _ e'; omega), h j hj']
    simp [e]

theorem ofList_size (l : List UInt8) : (⟨l.toArray⟩ : ByteArray).size = l.length := List.size_toArray

theorem back {P : Program} {w : World} {g n cap : Nat} {l : List UInt8} (hB : BytesAt w g l) (hn : l.length = n) {src dst e : TypeId} (hs : P.underlying src = some (.slice e)) (he : P.underlying e = some (.int .u8)) (hd : P.underlying dst = some .string) :
    (convert src dst (.slice (some ⟨g, 0, none⟩) n cap)).run P w = .ok (.string ⟨l.toArray⟩) w := by
  subst hn
  exact run_convert_bytes_back w src dst e _ cap l hs he hd (fun j hj => by
    have : (⟨g, 0, none⟩ : Addr).add j = ⟨g, j, none⟩ := by unfold Addr.add; split <;> simp_all
    rw [this]; exact hB j hj)

end Go.Proofs.Ytpmhfalhieinjaa
