/- A script that came in: numbers that are put, or taken away. -/
import Derived.Test.YtdiefdijhghefaaKit
import Derived.Deep.SlicePairs
namespace Go.Proofs.Ytdiefdijhghefaa
open Go.ChangeShapes Go.WideShapes Go.ChangeAt Go.RowKit

def ActsIn (w : World) (A : Option Addr) (acts : List (Int × Bool)) : Prop :=
  acts = [] ∨ ∃ b off, A = some ⟨b, off, none⟩ ∧ b < w.heap.size ∧ ∀ i (h : i < acts.length), w.cell? ⟨b, off + i * 2, none⟩ = some (.int .i64 acts[i].1) ∧ w.cell? ⟨b, off + i * 2 + 1, none⟩ = some (.bool acts[i].2)
theorem ActsIn.at_ {w : World} {A : Option Addr} {acts : List (Int × Bool)} (h : ActsIn w A acts) {k : Nat} (hk : k < acts.length) :
    ∃ b off, A = some ⟨b, off, none⟩ ∧ b < w.heap.size ∧ w.cell? ⟨b, off + k * 2, none⟩ = some (.int .i64 acts[k].1) ∧ w.cell? ⟨b, off + k * 2 + 1, none⟩ = some (.bool acts[k].2) := by
  rcases h with rfl | ⟨b, off, rfl, hlt, hc⟩
  · simp at hk
  · exact ⟨b, off, rfl, hlt, (hc k hk).1, (hc k hk).2⟩

theorem open_acts {H : Type} {enc : TypeId × Value → H} {P : Program} {w : World} {r : Reach} {b0 : Nat} {t e : TypeId} {f0 f1 : Field} {v : Value} {d : DataW H} {p : List MemPlace} (ht : P.underlying t = some (.slice e)) (he : P.underlying e = some (.struct #[f0, f1]))
    (ce : P.cellsOf e = 2) (o0 : f0.offset = 0) (o1 : f1.offset = 1) (c0 : P.cellsOf f0.type = 1) (c1 : P.cellsOf f1.type = 1) (u0 : P.underlying f0.type = some (.int .i64)) (u1 : P.underlying f1.type = some .bool)
    (hv : Value.okWide P w r b0 t v) (h : DataW.Trod enc P w 0 (fun _ => true) true t v d p) :
    ∃ (A : Option Addr) (cap : Nat) (acts : List (Int × Bool)), v = .slice A acts.length cap ∧ acts.length ≤ cap ∧ cap ≤ maxLen ∧ ActsIn w A acts := by
  obtain ⟨a0, len, cap, rfl⟩ := okWide_slice ht hv
  obtain ⟨fuel, hf⟩ := h
  rcases Deep.open_slice_pairs ht he ce o0 o1 c0 c1 hf with ⟨hcs, _⟩ | ⟨a, len', cap', m, n, V0, V1, D0, D1, P0, P1, hcs, _, hl, hm, hmm, _, hcell⟩
  · have hcs' : a0 = none ∧ len = 0 ∧ cap = 0 := by simpa [Value.cells] using hcs
    obtain ⟨rfl, rfl, rfl⟩ := hcs'
    exact ⟨none, 0, [], rfl, Nat.zero_le _, Nat.zero_le _, .inl rfl⟩
  · have hcs' : a0 = some a ∧ len = len' ∧ cap = cap' := by simpa [Value.cells] using hcs
    obtain ⟨rfl, rfl, rfl⟩ := hcs'
    simp only [if_true] at hmm
    subst hmm
    have hx : ∀ i, i < m → ∃ z y, V0 i = .int .i64 z ∧ V1 i = .bool y := fun i hi => by
      obtain ⟨_, _, h0, h1⟩ := hcell i hi
      obtain ⟨z, hz, _, _⟩ := DataW.trod_int u0 h0
      obtain ⟨y, hy, _⟩ := DataW.trod_bool u1 h1
      exact ⟨z, y, by simpa using hz, by simpa using hy⟩
    refine ⟨some a, m, (List.range len).map fun i => ((match V0 i with | .int _ z => z | _ => 0), (match V1 i with | .bool y => y | _ => false)), by simp, by simpa using hl, hm, ?_⟩
    by_cases h0 : len = 0
    · left; subst h0; rfl
    right
    obtain ⟨b, off, spot⟩ := a
    have hspot : spot = none := by simpa [Addr.add] using World.cell?_spot (hcell 0 (by omega)).1
    subst hspot
    refine ⟨b, off, rfl, ?_, fun i hi => ?_⟩
    · have h1 := (hcell 0 (by omega)).1
      rw [Go.WideShapes.add_plain] at h1
      exact lt_of_cell h1
    · have hi' : i < len := by simpa using hi
      obtain ⟨h1, h2, _, _⟩ := hcell i (by omega)
      obtain ⟨z, y, e0, e1⟩ := hx i (by omega)
      rw [Go.WideShapes.add_plain, e0] at h1
      rw [Go.WideShapes.add_plain, e1, ← Nat.add_assoc] at h2
      simp only [List.getElem_map, List.getElem_range, e0, e1]
      exact ⟨h1, h2⟩
end Go.Proofs.Ytdiefdijhghefaa
