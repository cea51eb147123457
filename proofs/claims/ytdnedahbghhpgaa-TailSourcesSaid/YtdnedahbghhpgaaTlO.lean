/- A view that came in. -/
import Derived.Test.YtdnedahbghhpgaaTlVw
namespace Go.Proofs.Ytdnedahbghhpgaa
open Go.ChangeShapes Go.WideShapes Go.ChangeAt Go.RowKit Tl

section
variable {H : Type} {enc : TypeId × Value → H} {P : Program} {w : World}
/-- A field's row of numbers. -/
theorem open_irowN {t e : TypeId} {fuel : Nat} {cs : List Value} {x : DataW H × List MemPlace} (ht : P.underlying t = some (.slice e)) (he : P.underlying e = some (.int .i64)) (hce : P.cellsOf e = 1)
    (h : DataW.trod enc P w 0 (fun _ => true) true fuel t cs = some x) :
    ∃ (A : Option Addr) (zs : List Int) (cap : Nat), cs = [.slice A zs.length cap] ∧ IntsIn w A zs ∧ (A = none → cap = 0) := by
  rcases open_ints ht he hce h with ⟨rfl, _⟩ | ⟨a, len, cap, zs, rfl, _, hl, hm, hz, hx, hcell, hwz⟩
  · exact ⟨none, [], 0, rfl, .inl rfl, fun _ => rfl⟩
  · simp only [if_true] at hz
    have hlen : (zs.take len).length = len := by rw [List.length_take]; omega
    refine ⟨some a, zs.take len, cap, by rw [hlen], ?_, fun h => (by cases h)⟩
    by_cases h0 : zs.take len = []
    · exact .inl h0
    · have hpos : 0 < zs.length := by
        cases zs with
        | nil => simp at h0
        | cons _ _ => simp
      obtain ⟨b, off, rfl, hc⟩ := ints_at hcell hpos
      refine .inr ⟨b, off, rfl, lt_of_cell (hc 0 hpos), fun i hi => ?_⟩
      have hi' : i < zs.length := by rw [List.length_take] at hi; omega
      rw [hc i hi']
      simp [List.getD, hi']
/-- A field's row of pairs. -/
theorem open_nrow {t e ti : TypeId} {fuel : Nat} {cs : List Value} {x : DataW H × List MemPlace} (ht : P.underlying t = some (.slice e)) (he : P.underlying e = some (.array 2 ti)) (hi : P.underlying ti = some (.int .i64))
    (ci : P.cellsOf ti = 1) (ce : P.cellsOf e = 2) (h : DataW.trod enc P w 0 (fun _ => true) true fuel t cs = some x) :
    ∃ (A : Option Addr) (xs : List (Int × Int)) (cap : Nat), cs = [.slice A xs.length cap] ∧ ntE.In w A xs := by
  rcases Deep.open_slice ht h with ⟨rfl, _⟩ | ⟨a, len, cap, m, n, D, Pl, rfl, hb, hl, hm, hmm, _, hx⟩
  · exact ⟨none, [], 0, rfl, .inl rfl⟩
  · simp only [if_true] at hmm
    subst hmm
    have each : ∀ i, i < m → ∃ c : Int × Int, ∀ j, j < 2 → w.cell? (a.add (i * 2 + j)) = (ntE.c c)[j]? := fun i hi2 => by
      obtain ⟨cs', h1, h2⟩ := hx i hi2
      rw [ce] at h1
      obtain ⟨_, hlen, hcell⟩ := World.cells?_some h1
      obtain ⟨xs, k, hk, hxy, _, hxl, hff⟩ := DataW.trod_array he h2
      rw [ci] at hff
      have hz : ∀ j, j < 2 → ∃ z, cs'[j]? = some (.int .i64 z) := fun j hj => by
        have h3 := hff j hj
        rw [List.getElem?_eq_getElem (by omega)] at h3
        obtain ⟨z, hz, _, hw⟩ := DataW.trod_int hi h3
        refine ⟨z, ?_⟩
        have := congrArg (·[0]?) hz
        simpa [List.getElem?_take, List.getElem?_drop] using this
      obtain ⟨z0, e0⟩ := hz 0 (by omega)
      obtain ⟨z1, e1⟩ := hz 1 (by omega)
      refine ⟨(z0, z1), fun j hj => ?_⟩
      have g := hcell j (by omega)
      rw [Deep.add_add] at g
      rw [g]
      rcases (by omega : j = 0 ∨ j = 1) with rfl | rfl
      · exact e0
      · exact e1
    obtain ⟨q, hq⟩ := Deep.choose_lt each
    refine ⟨some a, (List.range len).map q, m, by simp, ?_⟩
    by_cases h0 : len = 0
    · left; subst h0; rfl
    right
    obtain ⟨b, off, spot⟩ := a
    have hc0 : w.cell? (Addr.add ⟨b, off, spot⟩ (0 * 2 + 0)) = some (.int .i64 (q 0).1) := hq 0 (by omega) 0 (by omega)
    have hspot : spot = none := by simpa [Addr.add] using World.cell?_spot hc0
    subst hspot
    refine ⟨b, off, rfl, ?_, fun i hi j hj => ?_⟩
    · rw [Go.WideShapes.add_plain] at hc0
      exact lt_of_cell hc0
    · have hi' : i < len := by simpa using hi
      have h1 := hq i (by omega) j hj
      rw [Go.WideShapes.add_plain] at h1
      show w.cell? ⟨b, off + i * 2 + j, none⟩ = _
      simp only [List.getElem_map, List.getElem_range]
      rw [Nat.add_assoc]
      exact h1
theorem open_view {r : Reach} {b0 : Nat} {t tl tn e ti : TypeId} {f0 f1 f2 : Field} {v : Value} {d : DataW H} {p : List MemPlace} (ht : P.underlying t = some (.struct #[f0, f1, f2]))
    (ho : [f0, f1, f2].map (fun f => (f.offset, f.type)) = [(0, tl), (1, ti), (2, tn)]) (ul : P.underlying tl = some (.slice ti)) (ui : P.underlying ti = some (.int .i64)) (un : P.underlying tn = some (.slice e)) (ue : P.underlying e = some (.array 2 ti))
    (ct : P.cellsOf t = 3) (cl : P.cellsOf tl = 1) (ci : P.cellsOf ti = 1) (cn : P.cellsOf tn = 1) (ce : P.cellsOf e = 2)
    (hv : Value.okWide P w r b0 t v) (h : DataW.Trod enc P w 0 (fun _ => true) true t v d p) :
    ∃ (A : Option Addr) (ls : List Int) (ca : Nat) (m : Int) (B : Option Addr) (ns : List (Int × Int)) (cb : Nat), v = .agg #[.slice A ls.length ca, .int .i64 m, .slice B ns.length cb] ∧ IntsIn w A ls ∧ (A = none → ca = 0) ∧ ntE.In w B ns := by
  simp only [List.map_cons, List.map_nil, List.cons.injEq, Prod.mk.injEq, and_true] at ho
  obtain ⟨⟨o0, t0⟩, ⟨o1, t1⟩, ⟨o2, t2⟩⟩ := ho
  obtain ⟨cs, rfl, hsz⟩ := okWide_struct ht hv
  obtain ⟨fuel, hfu⟩ := h
  obtain ⟨xs, k, hk, hxy, _, hxl, hff⟩ := DataW.trod_struct ht hfu
  rw [ct] at hsz
  have hc : (Value.agg cs).cells = cs := rfl
  rw [hc] at hff
  have hxl' : xs.length = 3 := hxl
  have hone : ∀ j (f : Field) (hj : j < 3), #[f0, f1, f2][j]? = some f → f.offset = j → P.cellsOf f.type = 1 → DataW.trod enc P w 0 (fun _ => true) true k f.type [cs[j]'(by omega)] = some (xs[j]'(by omega)) := fun j f hj hfj ho hc => by
    have h3 := hff j f hfj
    rw [ho, hc, List.getElem?_eq_getElem (by omega)] at h3
    rw [← h3, List.drop_eq_getElem_cons (by simpa using (by omega : j < cs.size))]
    simp
  obtain ⟨A, ls, ca, e0, i0, n0⟩ := open_irowN (by rw [t0]; exact ul) ui ci (hone 0 f0 (by omega) rfl o0 (by rw [t0]; exact cl))
  obtain ⟨m, e1, _, _⟩ := DataW.trod_int (by rw [t1]; exact ui) (hone 1 f1 (by omega) rfl o1 (by rw [t1]; exact ci))
  obtain ⟨B, ns, cb, e2, i2⟩ := open_nrow (by rw [t2]; exact un) ue ui ci ce (hone 2 f2 (by omega) rfl o2 (by rw [t2]; exact cn))
  refine ⟨A, ls, ca, m, B, ns, cb, ?_, i0, n0, i2⟩
  congr 1
  apply Array.ext
  · simp [hsz]
  · intro i h1 h2
    match i, h1 with
    | 0, _ => simpa using e0
    | 1, _ => simpa using e1
    | 2, _ => simpa using e2
    | n + 3, h => omega
end
end Go.Proofs.Ytdnedahbghhpgaa
