/- Lists of plain records that came in. -/
import Derived.Test.YtpmhfalhieinjaaBkGivI
import Derived.Test.YtpmhfalhieinjaaGeoOpen
import Derived.Deep.SlicePairs
import Derived.Deep.Matrix
namespace Go.Proofs.Ytpmhfalhieinjaa
open Go.ChangeShapes Go.WideShapes Go.ChangeAt Go.RowKit

section
variable {H : Type} {enc : TypeId × Value → H} {P : Program} {w : World}
/-- One list of records, as cells. -/
theorem open_prow {t e : TypeId} {fs : Array Field} {fuel : Nat} {cs : List Value} {x : DataW H × List MemPlace} (ht : P.underlying t = some (.slice e)) (he : P.underlying e = some (.struct fs))
    (hfs : intFields P fs .i64 = true) (h6 : fs.size = 6) (ce : P.cellsOf e = 6) (h : DataW.trod enc P w 0 (fun _ => true) true fuel t cs = some x) :
    ∃ r : PRow, cs = [.slice r.A r.xs.length r.cap] ∧ prE.In w r.A r.xs := by
  rcases Deep.open_slice ht h with ⟨rfl, _⟩ | ⟨a, len, cap, m, n, D, Pl, rfl, hb, hl, hm, hmm, _, hx⟩
  · exact ⟨⟨none, 0, []⟩, rfl, .inl rfl⟩
  · simp only [if_true] at hmm
    subst hmm
    have each : ∀ i, i < m → ∃ c : PR, ∀ j, j < 6 → w.cell? (a.add (i * 6 + j)) = (prE.c c)[j]? := fun i hi => by
      obtain ⟨cs', h1, h2⟩ := hx i hi
      rw [ce] at h1
      obtain ⟨_, hlen, hcell⟩ := World.cells?_some h1
      obtain ⟨xs, k, hk, hxy, _, hxl, hff⟩ := DataW.trod_struct he h2
      have hz : ∀ j, j < 6 → ∃ z, cs'[j]? = some (.int .i64 z) := fun j hj => by
        obtain ⟨o1, o2, o3⟩ := intFields_at hfs j fs[j] (by simp [show j < fs.size by omega])
        have h3 := hff j fs[j] (by simp [show j < fs.size by omega])
        rw [o1, o2, List.getElem?_eq_getElem (by omega)] at h3
        obtain ⟨z, hz, _, hw⟩ := DataW.trod_int o3 h3
        refine ⟨z, ?_⟩
        have := congrArg (·[0]?) hz
        simpa [List.getElem?_take, List.getElem?_drop] using this
      obtain ⟨z0, e0⟩ := hz 0 (by omega)
      obtain ⟨z1, e1⟩ := hz 1 (by omega)
      obtain ⟨z2, e2⟩ := hz 2 (by omega)
      obtain ⟨z3, e3⟩ := hz 3 (by omega)
      obtain ⟨z4, e4⟩ := hz 4 (by omega)
      obtain ⟨z5, e5⟩ := hz 5 (by omega)
      refine ⟨⟨z0, z1, z2, z3, z4, z5⟩, fun j hj => ?_⟩
      have g := hcell j (by omega)
      rw [Deep.add_add] at g
      rw [g]
      rcases (by omega : j = 0 ∨ j = 1 ∨ j = 2 ∨ j = 3 ∨ j = 4 ∨ j = 5) with rfl | rfl | rfl | rfl | rfl | rfl
      · exact e0
      · exact e1
      · exact e2
      · exact e3
      · exact e4
      · exact e5
    obtain ⟨q, hq⟩ := Deep.choose_lt each
    refine ⟨⟨some a, m, (List.range len).map q⟩, by simp, ?_⟩
    by_cases h0 : len = 0
    · left; subst h0; rfl
    right
    obtain ⟨b, off, spot⟩ := a
    have hc0 : w.cell? (Addr.add ⟨b, off, spot⟩ (0 * 6 + 0)) = some (.int .i64 (q 0).k) := hq 0 (by omega) 0 (by omega)
    have hspot : spot = none := by simpa [Addr.add] using World.cell?_spot hc0
    subst hspot
    refine ⟨b, off, rfl, ?_, fun i hi j hj => ?_⟩
    · rw [Go.WideShapes.add_plain] at hc0
      exact lt_of_cell hc0
    · have hi' : i < len := by simpa using hi
      have h1 := hq i (by omega) j hj
      rw [Go.WideShapes.add_plain] at h1
      show w.cell? ⟨b, off + i * 6 + j, none⟩ = _
      simp only [List.getElem_map, List.getElem_range]
      rw [Nat.add_assoc]
      exact h1
/-- A list of records that came in. -/
theorem open_prs {r : Reach} {b0 : Nat} {t e : TypeId} {fs : Array Field} {v : Value} {d : DataW H} {p : List MemPlace} (ht : P.underlying t = some (.slice e)) (he : P.underlying e = some (.struct fs))
    (hfs : intFields P fs .i64 = true) (h6 : fs.size = 6) (ce : P.cellsOf e = 6) (hv : Value.okWide P w r b0 t v) (h : DataW.Trod enc P w 0 (fun _ => true) true t v d p) :
    ∃ (A : Option Addr) (cap : Nat) (xs : List PR), v = .slice A xs.length cap ∧ prE.In w A xs := by
  obtain ⟨a0, len, cap, rfl⟩ := okWide_slice ht hv
  obtain ⟨fuel, hf⟩ := h
  obtain ⟨r, hr, hI⟩ := open_prow ht he hfs h6 ce hf
  have hcs : a0 = r.A ∧ len = r.xs.length ∧ cap = r.cap := by simpa [Value.cells] using hr
  obtain ⟨rfl, rfl, rfl⟩ := hcs
  exact ⟨r.A, r.cap, r.xs, rfl, hI⟩
/-- Lists of records that came in. -/
theorem open_plists {r : Reach} {b0 : Nat} {t e q : TypeId} {fs : Array Field} {v : Value} {d : DataW H} {p : List MemPlace} (ht : P.underlying t = some (.slice e)) (he : P.underlying e = some (.slice q)) (hq : P.underlying q = some (.struct fs))
    (hfs : intFields P fs .i64 = true) (h6 : fs.size = 6) (ce : P.cellsOf e = 1) (cq : P.cellsOf q = 6) (hv : Value.okWide P w r b0 t v) (h : DataW.Trod enc P w 0 (fun _ => true) true t v d p) :
    ∃ (A : Option Addr) (cap : Nat) (ls : List PRow), v = .slice A ls.length cap ∧ PIn w A ls := by
  obtain ⟨a0, len, cap, rfl⟩ := okWide_slice ht hv
  obtain ⟨fuel, hf⟩ := h
  rcases Deep.open_slice ht hf with ⟨hcs, _⟩ | ⟨a, len', cap', m, n, D, Pl, hcs, hb, hl, hm, hmm, _, hx⟩
  · have hcs' : a0 = none ∧ len = 0 ∧ cap = 0 := by simpa [Value.cells] using hcs
    obtain ⟨rfl, rfl, rfl⟩ := hcs'
    exact ⟨none, 0, [], rfl, .inl rfl⟩
  · have hcs' : a0 = some a ∧ len = len' ∧ cap = cap' := by simpa [Value.cells] using hcs
    obtain ⟨rfl, rfl, rfl⟩ := hcs'
    simp only [if_true] at hmm
    subst hmm
    have each : ∀ i, i < m → ∃ c : PRow, w.cell? (a.add i) = some (.slice c.A c.xs.length c.cap) ∧ prE.In w c.A c.xs := fun i hi => by
      obtain ⟨cs', h1, h2⟩ := hx i hi
      rw [ce, Nat.mul_one] at h1
      obtain ⟨_, hlen, hcell⟩ := World.cells?_some h1
      obtain ⟨r6, e6, i6⟩ := open_prow he hq hfs h6 cq h2
      have g0 := hcell 0 (by omega)
      rw [e6, Deep.add_add] at g0
      exact ⟨r6, by simpa using g0, i6⟩
    obtain ⟨c, hc⟩ := Deep.choose_lt each
    refine ⟨some a, m, (List.range len).map c, by simp, ?_⟩
    by_cases h0 : len = 0
    · left; subst h0; rfl
    right
    obtain ⟨b, off, spot⟩ := a
    have hspot : spot = none := by simpa [Addr.add] using World.cell?_spot (hc 0 (by omega)).1
    subst hspot
    refine ⟨b, off, rfl, ?_, fun i hi => ?_⟩
    · have h1 := (hc 0 (by omega)).1
      rw [Go.WideShapes.add_plain] at h1
      exact lt_of_cell h1
    · have hi' : i < len := by simpa using hi
      obtain ⟨h1, h8⟩ := hc i (by omega)
      rw [Go.WideShapes.add_plain] at h1
      simp only [List.getElem_map, List.getElem_range]
      exact ⟨h1, h8⟩
end
end Go.Proofs.Ytpmhfalhieinjaa
