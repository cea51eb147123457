/- Records that came in. -/
import Derived.Test.YtbgkmppngnedlabDoorORcD
namespace Go.Proofs.YtbgkmppngnedlabDoor
open Go.ChangeShapes Go.WideShapes Go.ChangeAt Go.RowKit Rec
section
variable {H : Type} {enc : TypeId × Value → H} {P : Program} {w : World}
def recFields (P : Program) (fs : Array Field) : Bool := fs.size == 7 && (List.range 7).all fun i => match fs[i]? with
  | some f => f.offset == i && P.cellsOf f.type == 1 && (match P.underlying f.type with | some (.int k') => k' == .i64 && decide (i < 6) | some .string => decide (i = 6) | _ => false)
  | none => false
theorem recFields_at {fs : Array Field} (h : recFields P fs = true) : fs.size = 7 ∧ ∀ (i : Nat) (f : Field), fs[i]? = some f → f.offset = i ∧ P.cellsOf f.type = 1 ∧ (i < 6 → P.underlying f.type = some (.int .i64)) ∧ (i = 6 → P.underlying f.type = some .string) := by
  unfold recFields at h
  simp only [Bool.and_eq_true, beq_iff_eq] at h
  refine ⟨h.1, fun i f hf => ?_⟩
  have hi := (Array.getElem?_eq_some_iff.1 hf).1
  have h1 := List.all_eq_true.1 h.2 i (List.mem_range.2 (by omega))
  simp only [hf, Bool.and_eq_true, beq_iff_eq] at h1
  obtain ⟨⟨o1, o2⟩, o3⟩ := h1
  refine ⟨o1, o2, fun hlt => ?_, fun he => ?_⟩
  · cases hu : P.underlying f.type with
    | none => rw [hu] at o3; cases o3
    | some u =>
      rw [hu] at o3
      cases u <;> first | (rename_i k'; have : k' = .i64 := by simp at o3; exact o3.1
                           rw [this]) | (simp at o3; omega) | (cases o3)
  · cases hu : P.underlying f.type with
    | none => rw [hu] at o3; cases o3
    | some u =>
      rw [hu] at o3
      cases u <;> first | rfl | (simp at o3; omega) | (cases o3)
theorem open_rec {r : Reach} {b0 base : Nat} {spare : Nat → Bool} {held : Bool} {t : TypeId} {fs : Array Field} {v : Value} {d : DataW H} {p : List MemPlace}
    (ht : P.underlying t = some (.struct fs)) (hfs : recFields P fs = true) (hct : P.cellsOf t = 7)
    (hv : Value.okWide P w r b0 t v) (h : DataW.Trod enc P w base spare held t v d p) (hwt : ∀ n ∈ DataW.weights P t d, n ≤ reachBytes) :
    ∃ x : Rc, v = .agg #[.int .i64 x.k, .int .i64 x.s, .int .i64 x.a, .int .i64 x.b, .int .i64 x.c, .int .i64 x.d, .string x.body] ∧ x.body.size ≤ reachBytes := by
  obtain ⟨hs7, hat⟩ := recFields_at hfs
  obtain ⟨cs, rfl, hsz⟩ := okWide_struct ht hv
  obtain ⟨fuel, hfu⟩ := h
  obtain ⟨xs, m, rfl, hx, hl, hxl, hall⟩ := DataW.trod_struct ht hfu
  rw [hct] at hsz
  have hc : (Value.agg cs).cells = cs := rfl
  rw [hc] at hall
  have h1 : ∀ i, i < 6 → ∃ z, cs[i]? = some (.int .i64 z) := fun i hi => by
    obtain ⟨o1, o2, o3, _⟩ := hat i fs[i] (by simp [show i < fs.size by omega])
    have h2 := hall i fs[i] (by simp [show i < fs.size by omega])
    rw [o1, o2] at h2
    rw [List.getElem?_eq_getElem (by omega)] at h2
    obtain ⟨z, hz, _, hw⟩ := DataW.trod_int (o3 hi) h2
    refine ⟨z, ?_⟩
    have := congrArg (·[0]?) hz
    simpa [List.getElem?_take, List.getElem?_drop] using this
  have h6 : ∃ s : ByteArray, cs[6]? = some (.string s) ∧ s.size ≤ reachBytes := by
    obtain ⟨o1, o2, _, o4⟩ := hat 6 fs[6] (by simp [show 6 < fs.size by omega])
    have h2 := hall 6 fs[6] (by simp [show 6 < fs.size by omega])
    rw [o1, o2] at h2
    rw [List.getElem?_eq_getElem (by omega)] at h2
    obtain ⟨z, hz, hx6, _⟩ := DataW.trod_string (o4 rfl) h2
    have hw : z.size ≤ reachBytes := by
      refine hwt z.size ?_
      have h3 : z.size ∈ DataW.weights P fs[6].type (DataW.lit (.string z.data.toList) : DataW H) := by
        simp only [DataW.weights, List.mem_singleton]
        exact Array.length_toList.symm
      have h4 := DataW.weights_mem_each (P := P) (j := 6) (t := fs[6].type) (ts := fs.toList.map (·.type)) (ds := xs.map (·.1)) (d := DataW.lit (.string z.data.toList)) (by simp [show 6 < fs.size by omega]) (by
        rw [List.getElem?_map, List.getElem?_eq_getElem (by omega), hx6]; rfl) z.size h3
      rw [show d = DataW.agg (xs.map (·.1)) from congrArg Prod.fst hx]
      unfold DataW.weights
      rw [ht]
      exact h4
    refine ⟨z, ?_, hw⟩
    have := congrArg (·[0]?) hz
    simpa [List.getElem?_take, List.getElem?_drop] using this
  obtain ⟨z0, e0⟩ := h1 0 (by omega)
  obtain ⟨z1, e1⟩ := h1 1 (by omega)
  obtain ⟨z2, e2⟩ := h1 2 (by omega)
  obtain ⟨z3, e3⟩ := h1 3 (by omega)
  obtain ⟨z4, e4⟩ := h1 4 (by omega)
  obtain ⟨z5, e5⟩ := h1 5 (by omega)
  obtain ⟨s6, e6, hs6⟩ := h6
  refine ⟨⟨z0, z1, z2, z3, z4, z5, s6⟩, ?_, hs6⟩
  congr 1
  apply Array.ext_getElem?
  intro i
  by_cases hi : i < 7
  · rcases (by omega : i = 0 ∨ i = 1 ∨ i = 2 ∨ i = 3 ∨ i = 4 ∨ i = 5 ∨ i = 6) with rfl | rfl | rfl | rfl | rfl | rfl | rfl <;> simp_all
  · rw [Array.getElem?_eq_none (by omega), Array.getElem?_eq_none (by simp; omega)]
end
end Go.Proofs.YtbgkmppngnedlabDoor
