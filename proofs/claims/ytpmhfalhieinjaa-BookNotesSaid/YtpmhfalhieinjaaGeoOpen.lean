/- A struct of integers that came in by value. -/
import Derived.Test.YtpmhfalhieinjaaKit
namespace Go.Proofs.Ytpmhfalhieinjaa
open Go.ChangeShapes Go.WideShapes Go.ChangeAt Go.RowKit

section
variable {H : Type} {enc : TypeId × Value → H} {P : Program} {w : World}
def intFields (P : Program) (fs : Array Field) (k : IntKind) : Bool := (List.range fs.size).all fun i => match fs[i]? with
  | some f => f.offset == i && P.cellsOf f.type == 1 && (match P.underlying f.type with | some (.int k') => k' == k | _ => false)
  | none => false
theorem intFields_at {fs : Array Field} {k : IntKind} (h : intFields P fs k = true) (i : Nat) (f : Field) (hf : fs[i]? = some f) : f.offset = i ∧ P.cellsOf f.type = 1 ∧ P.underlying f.type = some (.int k) := by
  have h1 := List.all_eq_true.1 h i (List.mem_range.2 (Array.getElem?_eq_some_iff.1 hf).1)
  simp only [hf, Bool.and_eq_true, beq_iff_eq] at h1
  obtain ⟨⟨o1, o2⟩, o3⟩ := h1
  refine ⟨o1, o2, ?_⟩
  cases hu : P.underlying f.type with
  | none => rw [hu] at o3; cases o3
  | some u =>
    rw [hu] at o3
    cases u <;> first | (rename_i k'; have : k' = k := by simpa using o3
                         rw [this]) | (cases o3)
/-- A struct whose fields are integers of one kind, one cell each, in their order: its numbers, written out. -/
theorem open_ints_struct {r : Reach} {b0 base : Nat} {spare : Nat → Bool} {held : Bool} {t : TypeId} {fs : Array Field} {k : IntKind} {v : Value} {d : DataW H} {p : List MemPlace}
    (ht : P.underlying t = some (.struct fs)) (hfs : intFields P fs k = true) (hct : P.cellsOf t = fs.size)
    (hv : Value.okWide P w r b0 t v) (h : DataW.Trod enc P w base spare held t v d p) :
    ∃ zs : List Int, zs.length = fs.size ∧ v = .agg (zs.map (Value.int k)).toArray ∧ ∀ z ∈ zs, (Lit.int k z).wf = true := by
  obtain ⟨cs, rfl, hsz⟩ := okWide_struct ht hv
  obtain ⟨fuel, hfu⟩ := h
  obtain ⟨xs, m, rfl, hx, hl, hxl, hall⟩ := DataW.trod_struct ht hfu
  rw [hct] at hsz
  have hc : (Value.agg cs).cells = cs := rfl
  rw [hc] at hall
  have h1 : ∀ i (_ : i < fs.size), ∃ z, cs[i]? = some (.int k z) ∧ (Lit.int k z).wf = true := fun i hi => by
    obtain ⟨o1, o2, o3⟩ := intFields_at hfs i fs[i] (by simp [hi])
    have h2 := hall i fs[i] (by simp [hi])
    rw [o1, o2] at h2
    rw [List.getElem?_eq_getElem (by omega)] at h2
    obtain ⟨z, hz, _, hw⟩ := DataW.trod_int o3 h2
    refine ⟨z, ?_, hw⟩
    have := congrArg (·[0]?) hz
    simpa [List.getElem?_take, List.getElem?_drop] using this
  refine ⟨cs.toList.map (fun v => match v with | .int _ z => z | _ => 0), by simp [hsz], ?_, ?_⟩
  · congr 1
    apply Array.ext
    · simp
    · intro i hi _
      obtain ⟨z, hz, _⟩ := h1 i (by omega)
      rw [Array.getElem?_eq_getElem hi] at hz
      have hz' := Option.some.inj hz
      simp [hz']
  · intro z hz
    obtain ⟨c, hc, rfl⟩ := List.mem_map.1 hz
    obtain ⟨i, hi, rfl⟩ := List.getElem_of_mem hc
    obtain ⟨z, hz, hw⟩ := h1 i (by simpa [hsz] using hi)
    rw [Array.getElem?_eq_getElem (by simpa using hi)] at hz
    have hz' := Option.some.inj hz
    simp [hz', hw]

theorem five_of {zs : List Int} (h : zs.length = 5) : ∃ a b c d e, zs = [a, b, c, d, e] := by
  match zs, h with
  | [a, b, c, d, e], _ => exact ⟨a, b, c, d, e, rfl⟩
end
end Go.Proofs.Ytpmhfalhieinjaa
