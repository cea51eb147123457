/- Zones that came in as plain data. -/
import Derived.Test.YtbgkmppngnedlaaPkM
import Derived.Test.YtbgkmppngnedlaaORows
namespace Go.Proofs.Ytbgkmppngnedlaa
open Go.ChangeShapes Go.WideShapes Go.ChangeAt Go.RowKit

def pzE : Enc Pz := ⟨fun x => [.int .i64 x.l, .int .i64 x.v, .bool x.o], 3, fun _ => rfl, fun x u hu => by
  simp only [List.mem_cons, List.not_mem_nil, or_false] at hu
  rcases hu with rfl | rfl | rfl <;> rfl⟩
def Pz.Ok (z : Pz) : Prop := (-9223372036854775808 ≤ z.l ∧ z.l ≤ 9223372036854775807) ∧ (-9223372036854775808 ≤ z.v ∧ z.v ≤ 9223372036854775807)
theorem pz_at {W : World} {A : Option Addr} {l : List Pz} (h : pzE.In W A l) {i : Nat} (hi : i < l.length) : ∃ b off, A = some ⟨b, off, none⟩ ∧ b < W.heap.size ∧ W.cell? ⟨b, off + i * 3, none⟩ = some (.int .i64 l[i].l) ∧ W.cell? ⟨b, off + i * 3 + 1, none⟩ = some (.int .i64 l[i].v) ∧ W.cell? ⟨b, off + i * 3 + 2, none⟩ = some (.bool l[i].o) := by
  obtain ⟨b, off, e, hlt, h⟩ := h.at_ hi
  exact ⟨b, off, e, hlt, h 0 (by decide), h 1 (by decide), h 2 (by decide)⟩
section
variable {H : Type} {enc : TypeId × Value → H} {P : Program} {w : World}
theorem open_pzs {r : Reach} {b0 : Nat} {t e ti tb : TypeId} {f0 f1 f2 : Field} {v : Value} {d : DataW H} {p : List MemPlace} (ht : P.underlying t = some (.slice e)) (he : P.underlying e = some (.struct #[f0, f1, f2]))
    (ce : P.cellsOf e = 3) (ho : [f0, f1, f2].map (fun f => (f.offset, f.type)) = [(0, ti), (1, ti), (2, tb)]) (ui : P.underlying ti = some (.int .i64)) (ub : P.underlying tb = some .bool)
    (ci : P.cellsOf ti = 1) (cb : P.cellsOf tb = 1)
    (hv : Value.okWide P w r b0 t v) (h : DataW.Trod enc P w 0 (fun _ => true) true t v d p) :
    ∃ (A : Option Addr) (cap : Nat) (l : List Pz), v = .slice A l.length cap ∧ l.length ≤ cap ∧ cap ≤ maxLen ∧ pzE.In w A l ∧ ∀ z ∈ l, z.Ok := by
  simp only [List.map_cons, List.map_nil, List.cons.injEq, Prod.mk.injEq, and_true] at ho
  obtain ⟨⟨o0, t0⟩, ⟨o1, t1⟩, ⟨o2, t2⟩⟩ := ho
  obtain ⟨a0, len, cap, rfl⟩ := okWide_slice ht hv
  obtain ⟨fuel, hf⟩ := h
  rcases Deep.open_slice ht hf with ⟨hcs, _⟩ | ⟨a, len', cap', m, n, D, Pl, hcs, hb, hl, hm, hmm, _, hx⟩
  · have hcs' : a0 = none ∧ len = 0 ∧ cap = 0 := by simpa [Value.cells] using hcs
    obtain ⟨rfl, rfl, rfl⟩ := hcs'
    exact ⟨none, 0, [], rfl, Nat.zero_le _, Nat.zero_le _, .inl rfl, by simp⟩
  · have hcs' : a0 = some a ∧ len = len' ∧ cap = cap' := by simpa [Value.cells] using hcs
    obtain ⟨rfl, rfl, rfl⟩ := hcs'
    simp only [if_true] at hmm
    subst hmm
    have each : ∀ i, i < m → ∃ c : Pz, w.cell? (a.add (i * 3)) = some (.int .i64 c.l) ∧ w.cell? (a.add (i * 3 + 1)) = some (.int .i64 c.v) ∧ w.cell? (a.add (i * 3 + 2)) = some (.bool c.o) ∧ c.Ok := fun i hi => by
      obtain ⟨cs', h1, h2⟩ := hx i hi
      rw [ce] at h1
      obtain ⟨_, hlen, hcell⟩ := World.cells?_some h1
      obtain ⟨xs, k, hk, hxy, _, hxl, hff⟩ := DataW.trod_struct he h2
      have hxl' : xs.length = 3 := hxl
      have hone : ∀ j (f : Field) (hj : j < 3), #[f0, f1, f2][j]? = some f → f.offset = j → P.cellsOf f.type = 1 → DataW.trod enc P w 0 (fun _ => true) true k f.type [cs'[j]'(by omega)] = some (xs[j]'(by omega)) := fun j f hj hfj ho hc => by
        have h3 := hff j f hfj
        rw [ho, hc, List.getElem?_eq_getElem (by omega)] at h3
        rw [← h3, List.drop_eq_getElem_cons (by omega)]
        rfl
      have hint : ∀ j (f : Field) (hj : j < 3), #[f0, f1, f2][j]? = some f → f.offset = j → f.type = ti → ∃ z, cs'[j]'(by omega) = .int .i64 z ∧ (-9223372036854775808 ≤ z ∧ z ≤ 9223372036854775807) := fun j f hj hfj ho hc => by
        obtain ⟨z, hz, _, hw⟩ := DataW.trod_int (by rw [hc]; exact ui) (hone j f hj hfj ho (by rw [hc]; exact ci))
        exact ⟨z, by simpa using hz, bounds_i64 hw⟩
      obtain ⟨z0, e0, w0⟩ := hint 0 f0 (by omega) rfl o0 t0
      obtain ⟨z1, e1, w1⟩ := hint 1 f1 (by omega) rfl o1 t1
      obtain ⟨z2, hz2, _⟩ := DataW.trod_bool (by rw [t2]; exact ub) (hone 2 f2 (by omega) rfl o2 (by rw [t2]; exact cb))
      have e2 : cs'[2]'(by omega) = .bool z2 := by simpa using hz2
      have g := fun j (hj : j < 3) => hcell j (by omega)
      have g0 := g 0 (by omega)
      have g1 := g 1 (by omega)
      have g2 := g 2 (by omega)
      rw [Deep.add_add, List.getElem?_eq_getElem (by omega)] at g0 g1 g2
      rw [e0] at g0
      rw [e1] at g1
      rw [e2] at g2
      exact ⟨⟨z0, z1, z2⟩, by simpa using g0, by simpa using g1, by simpa using g2, w0, w1⟩
    obtain ⟨c, hc⟩ := Deep.choose_lt each
    refine ⟨some a, m, (List.range len).map c, by simp, by simpa using hl, hm, ?_, fun x hx => ?_⟩
    · by_cases h0 : len = 0
      · left; subst h0; rfl
      right
      obtain ⟨b, off, spot⟩ := a
      have hspot : spot = none := by simpa [Addr.add] using World.cell?_spot (hc 0 (by omega)).1
      subst hspot
      refine ⟨b, off, rfl, ?_, fun i hi j hj => ?_⟩
      · have h1 := (hc 0 (by omega)).1
        rw [Go.WideShapes.add_plain] at h1
        exact lt_of_cell h1
      · have hi' : i < len := by simpa using hi
        obtain ⟨h1, h2, h3, _⟩ := hc i (by omega)
        rw [Go.WideShapes.add_plain] at h1 h2 h3
        simp only [List.getElem_map, List.getElem_range]
        have hj3 : j < 3 := hj
        show w.cell? ⟨b, off + i * 3 + j, none⟩ = [Value.int .i64 (c i).l, .int .i64 (c i).v, .bool (c i).o][j]?
        match j, hj3 with
        | 0, _ => exact h1
        | 1, _ => exact (by rw [Nat.add_assoc]; exact h2)
        | 2, _ => exact (by rw [Nat.add_assoc]; exact h3)
    · obtain ⟨i, hi, rfl⟩ := List.mem_map.1 hx
      exact (hc i (by have := List.mem_range.1 hi; omega)).2.2.2
end
end Go.Proofs.Ytbgkmppngnedlaa
