/- A script of commands that came in; rows of numbers that came in. -/
import Derived.Test.YtncbkegflkjlfaaGeoOpen
import Derived.Deep.SlicePairs
import Derived.Deep.Matrix
namespace Go.Proofs.Ytncbkegflkjlfaa
open Go.ChangeShapes Go.WideShapes Go.ChangeAt Go.RowKit

/-- A command as plain data. -/
structure Cm where
  k : Int
  z : Int
  a : Int
  n : Int
instance : Inhabited Cm := ⟨⟨0, 0, 0, 0⟩⟩
def CmdsIn (w : World) (A : Option Addr) (cs : List Cm) : Prop :=
  cs = [] ∨ ∃ b off, A = some ⟨b, off, none⟩ ∧ b < w.heap.size ∧ ∀ i (h : i < cs.length), w.cell? ⟨b, off + i * 4, none⟩ = some (.int .i64 cs[i].k) ∧ w.cell? ⟨b, off + i * 4 + 1, none⟩ = some (.int .i64 cs[i].z) ∧ w.cell? ⟨b, off + i * 4 + 2, none⟩ = some (.int .i64 cs[i].a) ∧ w.cell? ⟨b, off + i * 4 + 3, none⟩ = some (.int .i64 cs[i].n)
theorem CmdsIn.below {w w' : World} {A : Option Addr} {cs : List Cm} (h : CmdsIn w A cs) (hb : Below w.heap.size w w') : CmdsIn w' A cs := by
  rcases h with h | ⟨b, off, rfl, hlt, hc⟩
  · exact .inl h
  · exact .inr ⟨b, off, rfl, Nat.lt_of_lt_of_le hlt hb.size, fun i hi => by
      obtain ⟨h1, h2, h3, h4⟩ := hc i hi
      exact ⟨(hb.cell (p := ⟨b, _, none⟩) hlt).trans h1, (hb.cell (p := ⟨b, _, none⟩) hlt).trans h2, (hb.cell (p := ⟨b, _, none⟩) hlt).trans h3, (hb.cell (p := ⟨b, _, none⟩) hlt).trans h4⟩⟩
theorem CmdsIn.at_ {w : World} {A : Option Addr} {cs : List Cm} (h : CmdsIn w A cs) {i : Nat} (hi : i < cs.length) :
    ∃ b off, A = some ⟨b, off, none⟩ ∧ b < w.heap.size ∧ w.cell? ⟨b, off + i * 4, none⟩ = some (.int .i64 cs[i].k) ∧ w.cell? ⟨b, off + i * 4 + 1, none⟩ = some (.int .i64 cs[i].z) ∧ w.cell? ⟨b, off + i * 4 + 2, none⟩ = some (.int .i64 cs[i].a) ∧ w.cell? ⟨b, off + i * 4 + 3, none⟩ = some (.int .i64 cs[i].n) := by
  rcases h with rfl | ⟨b, off, rfl, hlt, hc⟩
  · simp at hi
  · obtain ⟨h1, h2, h3, h4⟩ := hc i hi
    exact ⟨b, off, rfl, hlt, h1, h2, h3, h4⟩
/-- The numbers of a command are numbers of the machine's. -/
def CmOk (c : Cm) : Prop := -9223372036854775808 ≤ c.a ∧ c.a ≤ 9223372036854775807

theorem four_of {zs : List Int} (h : zs.length = 4) : ∃ a b c d, zs = [a, b, c, d] := by
  match zs, h with
  | [a, b, c, d], _ => exact ⟨a, b, c, d, rfl⟩

section
variable {H : Type} {enc : TypeId × Value → H} {P : Program} {w : World}
theorem open_cmds {r : Reach} {b0 : Nat} {t e : TypeId} {fs : Array Field} {v : Value} {d : DataW H} {p : List MemPlace} (ht : P.underlying t = some (.slice e)) (he : P.underlying e = some (.struct fs))
    (hfs : intFields P fs .i64 = true) (h4 : fs.size = 4) (ce : P.cellsOf e = 4)
    (hv : Value.okWide P w r b0 t v) (h : DataW.Trod enc P w 0 (fun _ => true) true t v d p) :
    ∃ (A : Option Addr) (cap : Nat) (cs : List Cm), v = .slice A cs.length cap ∧ cs.length ≤ cap ∧ cap ≤ maxLen ∧ CmdsIn w A cs ∧ ∀ c ∈ cs, CmOk c := by
  obtain ⟨a0, len, cap, rfl⟩ := okWide_slice ht hv
  obtain ⟨fuel, hf⟩ := h
  rcases Deep.open_slice ht hf with ⟨hcs, _⟩ | ⟨a, len', cap', m, n, D, Pl, hcs, hb, hl, hm, hmm, _, hx⟩
  · have hcs' : a0 = none ∧ len = 0 ∧ cap = 0 := by simpa [Value.cells] using hcs
    obtain ⟨rfl, rfl, rfl⟩ := hcs'
    exact ⟨none, 0, [], rfl, Nat.zero_le _, Nat.zero_le _, .inl rfl, by simp⟩
  · have hcs' : a0 = some a ∧ len = len' ∧ cap = cap' := by simpa [Value.cells] using hcs
    obtain ⟨rfl, rfl, rfl⟩ := hcs'
    simp only [if_true] at hmm
    subst hmm
    have each : ∀ i, i < m → ∃ c : Cm, w.cell? (a.add (i * 4)) = some (.int .i64 c.k) ∧ w.cell? (a.add (i * 4 + 1)) = some (.int .i64 c.z) ∧ w.cell? (a.add (i * 4 + 2)) = some (.int .i64 c.a) ∧ w.cell? (a.add (i * 4 + 3)) = some (.int .i64 c.n) ∧ CmOk c := fun i hi => by
      obtain ⟨cs', h1, h2⟩ := hx i hi
      rw [ce] at h1
      obtain ⟨_, hlen, hcell⟩ := World.cells?_some h1
      obtain ⟨xs, k, hk, hxy, _, hxl, hff⟩ := DataW.trod_struct he h2
      have hz : ∀ j, j < 4 → ∃ z, cs'[j]? = some (.int .i64 z) ∧ (Lit.int .i64 z).wf = true := fun j hj => by
        obtain ⟨o1, o2, o3⟩ := intFields_at hfs j fs[j] (by simp [show j < fs.size by omega])
        have h3 := hff j fs[j] (by simp [show j < fs.size by omega])
        rw [o1, o2, List.getElem?_eq_getElem (by omega)] at h3
        obtain ⟨z, hz, _, hw⟩ := DataW.trod_int o3 h3
        refine ⟨z, ?_, hw⟩
        have := congrArg (·[0]?) hz
        simpa [List.getElem?_take, List.getElem?_drop] using this
      obtain ⟨z0, e0, _⟩ := hz 0 (by omega)
      obtain ⟨z1, e1, _⟩ := hz 1 (by omega)
      obtain ⟨z2, e2, w2⟩ := hz 2 (by omega)
      obtain ⟨z3, e3, _⟩ := hz 3 (by omega)
      have g := fun j (hj : j < 4) => hcell j (by omega)
      have g0 := g 0 (by omega)
      have g1 := g 1 (by omega)
      have g2 := g 2 (by omega)
      have g3 := g 3 (by omega)
      rw [Deep.add_add] at g0 g1 g2 g3
      rw [e0] at g0
      rw [e1] at g1
      rw [e2] at g2
      rw [e3] at g3
      exact ⟨⟨z0, z1, z2, z3⟩, by simpa using g0, by simpa using g1, by simpa using g2, by simpa using g3, bounds_i64 w2⟩
    obtain ⟨q, hq⟩ := Deep.choose_lt each
    refine ⟨some a, m, (List.range len).map q, by simp, by simpa using hl, hm, ?_, fun c hc => ?_⟩
    · by_cases h0 : len = 0
      · left; subst h0; rfl
      right
      obtain ⟨b, off, spot⟩ := a
      have hspot : spot = none := by simpa [Addr.add] using World.cell?_spot (hq 0 (by omega)).1
      subst hspot
      refine ⟨b, off, rfl, ?_, fun i hi => ?_⟩
      · have h1 := (hq 0 (by omega)).1
        rw [Go.WideShapes.add_plain] at h1
        exact lt_of_cell h1
      · have hi' : i < len := by simpa using hi
        obtain ⟨h1, h2, h3, h4, _⟩ := hq i (by omega)
        rw [Go.WideShapes.add_plain] at h1 h2 h3 h4
        simp only [List.getElem_map, List.getElem_range]
        exact ⟨h1, by rw [Nat.add_assoc]; exact h2, by rw [Nat.add_assoc]; exact h3, by rw [Nat.add_assoc]; exact h4⟩
    · obtain ⟨i, hi, rfl⟩ := List.mem_map.1 hc
      exact (hq i (by have := List.mem_range.1 hi; omega)).2.2.2.2
end
end Go.Proofs.Ytncbkegflkjlfaa
