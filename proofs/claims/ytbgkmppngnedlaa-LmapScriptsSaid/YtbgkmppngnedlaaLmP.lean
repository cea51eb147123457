/- Groups that came in as plain data: a zone, a place, a Seq, a row of blocks each. -/
import Derived.Test.YtbgkmppngnedlaaORows
namespace Go.Proofs.Ytbgkmppngnedlaa
open Go.ChangeShapes Go.WideShapes Go.ChangeAt Go.RowKit

/-- A group as plain data. -/
structure GA where
  z : Int
  a : Int
  s : Int
  ks : IRow
instance : Inhabited GA := ⟨⟨0, 0, 0, default⟩⟩
/-- Its numbers are numbers of the machine's. -/
def Rng (x : Int) : Prop := -9223372036854775808 ≤ x ∧ x ≤ 9223372036854775807
structure GA.Ok (c : GA) : Prop where
  z : Rng c.z
  a : Rng c.a
  s : Rng c.s
  ks : ∀ x ∈ c.ks.zs, Rng x
/-- Its four cells. -/
structure GA.At (w : World) (b o : Nat) (c : GA) : Prop where
  z : w.cell? ⟨b, o, none⟩ = some (.int .i64 c.z)
  a : w.cell? ⟨b, o + 1, none⟩ = some (.int .i64 c.a)
  s : w.cell? ⟨b, o + 2, none⟩ = some (.int .i64 c.s)
  ks : w.cell? ⟨b, o + 3, none⟩ = some (.slice c.ks.A c.ks.zs.length c.ks.cap)
theorem GA.At.below {w w' : World} {b o : Nat} {a : GA} (h : GA.At w b o a) (hb : Below w.heap.size w w') (hl : b < w.heap.size) : GA.At w' b o a :=
  ⟨(hb.cell (p := ⟨b, _, none⟩) hl).trans h.z, (hb.cell (p := ⟨b, _, none⟩) hl).trans h.a, (hb.cell (p := ⟨b, _, none⟩) hl).trans h.s, (hb.cell (p := ⟨b, _, none⟩) hl).trans h.ks⟩
def GActsIn (w : World) (A : Option Addr) (acs : List GA) : Prop :=
  acs = [] ∨ ∃ b off, A = some ⟨b, off, none⟩ ∧ b < w.heap.size ∧ ∀ i (h : i < acs.length), GA.At w b (off + i * 4) acs[i] ∧ acs[i].ks.In w
theorem GActsIn.at_ {w : World} {A : Option Addr} {acs : List GA} (h : GActsIn w A acs) {i : Nat} (hi : i < acs.length) :
    ∃ b off, A = some ⟨b, off, none⟩ ∧ b < w.heap.size ∧ GA.At w b (off + i * 4) acs[i] ∧ acs[i].ks.In w := by
  rcases h with rfl | ⟨b, off, rfl, hlt, hc⟩
  · simp at hi
  · exact ⟨b, off, rfl, hlt, (hc i hi).1, (hc i hi).2⟩
theorem GActsIn.below {w w' : World} {A : Option Addr} {acs : List GA} (h : GActsIn w A acs) (hb : Below w.heap.size w w') : GActsIn w' A acs := by
  rcases h with h | ⟨b, off, rfl, hlt, hc⟩
  · exact .inl h
  · exact .inr ⟨b, off, rfl, Nat.lt_of_lt_of_le hlt hb.size, fun i hi => ⟨(hc i hi).1.below hb hlt, ⟨(hc i hi).2.1.below hb, (hc i hi).2.2⟩⟩⟩

section
variable {H : Type} {enc : TypeId × Value → H} {P : Program} {w : World}
/-- A field's row. -/
theorem open_irow {t e : TypeId} {fuel : Nat} {cs : List Value} {x : DataW H × List MemPlace} (ht : P.underlying t = some (.slice e)) (he : P.underlying e = some (.int .i64)) (hce : P.cellsOf e = 1) (hbe : P.bytesOf e = 8)
    (h : DataW.trod enc P w 0 (fun _ => true) true fuel t cs = some x) (hsz : ∀ n ∈ x.1.weights P t, n ≤ reachBytes) :
    ∃ r : IRow, cs = [.slice r.A r.zs.length r.cap] ∧ r.In w ∧ ∀ z ∈ r.zs, Rng z := by
  rcases open_ints ht he hce h with ⟨rfl, _⟩ | ⟨a, len, cap, zs, rfl, _, hl, hm, hz, hx, hcell, hwz⟩
  · exact ⟨⟨none, 0, []⟩, rfl, ⟨.inl rfl, Nat.zero_le _, fun _ => rfl⟩, by simp⟩
  · simp only [if_true] at hz
    have hlen : (zs.take len).length = len := by rw [List.length_take]; omega
    have hbig : zs.length ≤ 17592186044416 := by
      have hw := hsz (((zs.take len).length + (zs.drop len).length) * 8) (by
        rw [hx]
        simp only [DataW.weights, ht, List.mem_cons, List.mem_append]
        left
        rw [lits_len, lits_len, hbe])
      unfold reachBytes at hw
      have e1 : (zs.take len).length + (zs.drop len).length = zs.length := by rw [← List.length_append, List.take_append_drop]
      omega
    refine ⟨⟨some a, cap, zs.take len⟩, by rw [hlen], ⟨?_, by rw [hlen]; omega, fun h => (by cases h)⟩, fun z hz => bounds_i64 (hwz z (List.mem_of_mem_take hz))⟩
    by_cases h0 : zs.take len = []
    · exact .inl h0
    · have hpos : 0 < zs.length := by
        cases zs with
        | nil => simp at h0
        | cons _ _ => simp
      obtain ⟨b, off, rfl, hc⟩ := ints_at hcell hpos
      refine .inr ⟨b, off, rfl, lt_of_cell (hc 0 hpos), fun i hi => ?_⟩
      have hi' : i < zs.length := by rw [List.length_take] at hi; omega
      rw [hc i hi']
      simp [List.getD, hi']

theorem open_gacts {r : Reach} {b0 : Nat} {t e q ti : TypeId} {f0 f1 f2 f3 : Field} {v : Value} {d : DataW H} {p : List MemPlace} (ht : P.underlying t = some (.slice e)) (he : P.underlying e = some (.struct #[f0, f1, f2, f3]))
    (ce : P.cellsOf e = 4) (ho : [f0, f1, f2, f3].map (fun f => (f.offset, f.type)) = [(0, ti), (1, ti), (2, ti), (3, q)]) (ui : P.underlying ti = some (.int .i64)) (uq : P.underlying q = some (.slice ti))
    (ci : P.cellsOf ti = 1) (cq : P.cellsOf q = 1) (bi : P.bytesOf ti = 8)
    (hv : Value.okWide P w r b0 t v) (h : DataW.Trod enc P w 0 (fun _ => true) true t v d p) (hsz : ∀ n ∈ d.weights P t, n ≤ reachBytes) :
    ∃ (A : Option Addr) (cap : Nat) (acs : List GA), v = .slice A acs.length cap ∧ acs.length ≤ cap ∧ cap ≤ maxLen ∧ GActsIn w A acs ∧ ∀ a ∈ acs, a.Ok := by
  simp only [List.map_cons, List.map_nil, List.cons.injEq, Prod.mk.injEq, and_true] at ho
  obtain ⟨⟨o0, t0⟩, ⟨o1, t1⟩, ⟨o2, t2⟩, ⟨o3, t3⟩⟩ := ho
  obtain ⟨a0, len, cap, rfl⟩ := okWide_slice ht hv
  obtain ⟨fuel, hf⟩ := h
  rcases Deep.open_slice ht hf with ⟨hcs, _⟩ | ⟨a, len', cap', m, n, D, Pl, hcs, hb, hl, hm, hmm, hd, hx⟩
  · have hcs' : a0 = none ∧ len = 0 ∧ cap = 0 := by simpa [Value.cells] using hcs
    obtain ⟨rfl, rfl, rfl⟩ := hcs'
    exact ⟨none, 0, [], rfl, Nat.zero_le _, Nat.zero_le _, .inl rfl, by simp⟩
  · have hcs' : a0 = some a ∧ len = len' ∧ cap = cap' := by simpa [Value.cells] using hcs
    obtain ⟨rfl, rfl, rfl⟩ := hcs'
    simp only [if_true] at hmm
    subst hmm
    have hde : d = .slice ((List.range len).map D) ((List.range (m - len)).map fun j => D (len + j)) := congrArg Prod.fst hd
    have each : ∀ i, i < len → ∃ c : GA, (w.cell? (a.add (i * 4)) = some (.int .i64 c.z) ∧ w.cell? (a.add (i * 4 + 1)) = some (.int .i64 c.a) ∧ w.cell? (a.add (i * 4 + 2)) = some (.int .i64 c.s) ∧ w.cell? (a.add (i * 4 + 3)) = some (.slice c.ks.A c.ks.zs.length c.ks.cap)) ∧ c.ks.In w ∧ c.Ok := fun i hi => by
      obtain ⟨cs', h1, h2⟩ := hx i (by omega)
      rw [ce] at h1
      obtain ⟨_, hlen, hcell⟩ := World.cells?_some h1
      obtain ⟨xs, k, hk, hxy, _, hxl, hff⟩ := DataW.trod_struct he h2
      have hxl' : xs.length = 4 := hxl
      have hone : ∀ j (f : Field) (hj : j < 4), #[f0, f1, f2, f3][j]? = some f → f.offset = j → P.cellsOf f.type = 1 → DataW.trod enc P w 0 (fun _ => true) true k f.type [cs'[j]'(by omega)] = some (xs[j]'(by omega)) := fun j f hj hfj ho hc => by
        have h3 := hff j f hfj
        rw [ho, hc, List.getElem?_eq_getElem (by omega)] at h3
        rw [← h3, List.drop_eq_getElem_cons (by omega)]
        rfl
      have hint : ∀ j (f : Field) (hj : j < 4), #[f0, f1, f2, f3][j]? = some f → f.offset = j → f.type = ti → ∃ z, cs'[j]'(by omega) = .int .i64 z ∧ Rng z := fun j f hj hfj ho hc => by
        obtain ⟨z, hz, _, hw⟩ := DataW.trod_int (by rw [hc]; exact ui) (hone j f hj hfj ho (by rw [hc]; exact ci))
        exact ⟨z, by simpa using hz, bounds_i64 hw⟩
      obtain ⟨z0, e0, w0⟩ := hint 0 f0 (by omega) rfl o0 t0
      obtain ⟨z1, e1, w1⟩ := hint 1 f1 (by omega) rfl o1 t1
      obtain ⟨z2, e2, w2⟩ := hint 2 f2 (by omega) rfl o2 t2
      have hin : (xs[3]'(by omega)).1 ∈ xs.map (·.1) := List.mem_map.2 ⟨_, List.getElem_mem _, rfl⟩
      obtain ⟨rw6, e6, i6, k6⟩ := open_irow (by rw [t3]; exact uq) ui ci bi (hone 3 f3 (by omega) rfl o3 (by rw [t3]; exact cq)) (fun n hn => hsz n (by
        rw [hde]
        simp only [DataW.weights, ht, List.mem_cons, List.mem_append]
        refine .inr (.inl (weights_in (List.mem_map.2 ⟨i, List.mem_range.2 hi, rfl⟩) n ?_))
        have hD : D i = .agg (xs.map (·.1)) := congrArg Prod.fst hxy
        rw [hD]
        simp only [DataW.weights, he]
        refine DataW.weights_mem_each (j := 3) (t := f3.type) (d := (xs[3]'(by omega)).1) rfl ?_ n hn
        rw [List.getElem?_map, List.getElem?_eq_getElem (by omega)]
        rfl))
      have e6' : cs'[3]'(by omega) = .slice rw6.A rw6.zs.length rw6.cap := by simpa using e6
      have g := fun j (hj : j < 4) => hcell j (by omega)
      have g0 := g 0 (by omega)
      have g1 := g 1 (by omega)
      have g2 := g 2 (by omega)
      have g3 := g 3 (by omega)
      rw [Deep.add_add, List.getElem?_eq_getElem (by omega)] at g0 g1 g2 g3
      rw [e0] at g0
      rw [e1] at g1
      rw [e2] at g2
      rw [e6'] at g3
      exact ⟨⟨z0, z1, z2, rw6⟩, ⟨by simpa using g0, by simpa using g1, by simpa using g2, by simpa using g3⟩, i6, ⟨w0, w1, w2, k6⟩⟩
    obtain ⟨c, hc⟩ := Deep.choose_lt each
    refine ⟨some a, m, (List.range len).map c, by simp, by simpa using hl, hm, ?_, fun x hx => ?_⟩
    · by_cases h0 : len = 0
      · left; subst h0; rfl
      right
      obtain ⟨b, off, spot⟩ := a
      have hspot : spot = none := by simpa [Addr.add] using World.cell?_spot (hc 0 (by omega)).1.1
      subst hspot
      refine ⟨b, off, rfl, ?_, fun i hi => ?_⟩
      · have h1 := (hc 0 (by omega)).1.1
        rw [Go.WideShapes.add_plain] at h1
        exact lt_of_cell h1
      · have hi' : i < len := by simpa using hi
        obtain ⟨⟨h1, h2, h3, h4⟩, h8, _⟩ := hc i hi'
        rw [Go.WideShapes.add_plain] at h1 h2 h3 h4
        simp only [List.getElem_map, List.getElem_range]
        exact ⟨⟨h1, by rw [Nat.add_assoc]; exact h2, by rw [Nat.add_assoc]; exact h3, by rw [Nat.add_assoc]; exact h4⟩, h8⟩
    · obtain ⟨i, hi, rfl⟩ := List.mem_map.1 hx
      exact (hc i (List.mem_range.1 hi)).2.2
end
end Go.Proofs.Ytbgkmppngnedlaa
