/- A slice of texts that came in. -/
import Derived.Test.YtflkkmiehioejaaKit
import Derived.SliceStrings
import Derived.SizedLaws
namespace Go.Proofs.Ytflkkmiehioejaa
open Go.ChangeShapes Go.WideShapes Go.ChangeAt Go.RowKit

/-- A slice that reads as a list of texts. -/
def StrsIn (w : World) (A : Option Addr) (ps : List ByteArray) : Prop := ps = [] ∨ ∃ b off, A = some ⟨b, off, none⟩ ∧ b < w.heap.size ∧ ∀ i (h : i < ps.length), w.cell? ⟨b, off + i, none⟩ = some (.string ps[i])
theorem StrsIn.below {w w' : World} {A : Option Addr} {ps : List ByteArray} (h : StrsIn w A ps) (hb : Below w.heap.size w w') : StrsIn w' A ps := by
  rcases h with h | ⟨b, off, rfl, hlt, hc⟩
  · exact .inl h
  · exact .inr ⟨b, off, rfl, Nat.lt_of_lt_of_le hlt hb.size, fun i hi => (hb.cell (p := ⟨b, off + i, none⟩) hlt).trans (hc i hi)⟩
theorem StrsIn.at_ {w : World} {A : Option Addr} {ps : List ByteArray} (h : StrsIn w A ps) {k : Nat} (hk : k < ps.length) : ∃ b off, A = some ⟨b, off, none⟩ ∧ b < w.heap.size ∧ w.cell? ⟨b, off + k, none⟩ = some (.string ps[k]) := by
  rcases h with rfl | ⟨b, off, rfl, hlt, hc⟩
  · simp at hk
  · exact ⟨b, off, rfl, hlt, hc k hk⟩

section
variable {H : Type} {enc : TypeId × Value → H} {P : Program} {w : World}
theorem weights_strs (e : TypeId) : ∀ (ss : List ByteArray) (s : ByteArray), s ∈ ss → s.data.toList.length ∈ DataW.weightsAll P e (strs (H := H) ss)
  | [], _, h => by cases h
  | s :: ss, t, h => by
    show _ ∈ [s.data.toList.length] ++ DataW.weightsAll P e (strs (H := H) ss)
    rcases List.mem_cons.1 h with rfl | h
    · simp
    · exact List.mem_append_right _ (weights_strs e ss t h)
theorem open_strs {r : Reach} {b0 : Nat} {t e : TypeId} {v : Value} {d : DataW H} {p : List MemPlace} (ht : P.underlying t = some (.slice e)) (he : P.underlying e = some .string) (hce : P.cellsOf e = 1)
    (hv : Value.okWide P w r b0 t v) (h : DataW.Trod enc P w 0 (fun _ => true) true t v d p) (hsz : ∀ n ∈ d.weights P t, n ≤ reachBytes) :
    ∃ (A : Option Addr) (cap : Nat) (ps : List ByteArray), v = .slice A ps.length cap ∧ ps.length ≤ cap ∧ cap ≤ maxLen ∧ StrsIn w A ps ∧ (A = none → cap = 0) ∧ ∀ x ∈ ps, x.size ≤ 140737488351232 := by
  obtain ⟨a0, len, cap, rfl⟩ := okWide_slice ht hv
  obtain ⟨fuel, hf⟩ := h
  rcases open_strings ht he hce hf with ⟨hcs, _⟩ | ⟨a, len', cap', ss, hcs, _, hl, hm, hz, hx, hcell, _⟩
  · have hcs' : a0 = none ∧ len = 0 ∧ cap = 0 := by simpa [Value.cells] using hcs
    obtain ⟨rfl, rfl, rfl⟩ := hcs'
    exact ⟨none, 0, [], rfl, Nat.zero_le _, Nat.zero_le _, .inl rfl, fun _ => rfl, by simp⟩
  · have hcs' : a0 = some a ∧ len = len' ∧ cap = cap' := by simpa [Value.cells] using hcs
    obtain ⟨rfl, rfl, rfl⟩ := hcs'
    simp only [if_true] at hz
    have hd : d = .slice (strs (ss.take len)) (strs (ss.drop len)) := congrArg Prod.fst hx
    have hlen : (ss.take len).length = len := by rw [List.length_take]; omega
    refine ⟨some a, cap, ss.take len, by rw [hlen], by omega, hm, ?_, (fun h => by cases h), fun x hxm => ?_⟩
    · by_cases h0 : ss.take len = []
      · exact .inl h0
      · have hpos : 0 < len := by rw [← hlen]; exact List.length_pos_iff.2 h0
        obtain ⟨b, off, spot⟩ := a
        have h00 := hcell 0 (by omega)
        have hspot : spot = none := by
          have := World.cell?_spot h00
          simpa [Addr.add] using this
        subst hspot
        refine .inr ⟨b, off, rfl, ?_, fun i hi => ?_⟩
        · rw [Go.WideShapes.add_plain] at h00
          exact lt_of_cell h00
        · have hi' : i < ss.length := by rw [List.length_take] at hi; omega
          have h1 := hcell i hi'
          rw [Go.WideShapes.add_plain] at h1
          rw [h1]
          simp [List.getD, hi']
    · have h1 := hsz x.data.toList.length (by
        rw [hd]
        simp only [DataW.weights, ht, List.mem_cons, List.mem_append]
        exact .inr (.inl (weights_strs e _ x hxm)))
      unfold reachBytes at h1
      have h2 : x.size = x.data.toList.length := by rw [Array.length_toList]; rfl
      omega
end
end Go.Proofs.Ytflkkmiehioejaa
