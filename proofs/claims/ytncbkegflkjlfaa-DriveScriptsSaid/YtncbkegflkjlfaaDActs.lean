/- A script for a drive that came in: five numbers, a byte, a row of numbers each. -/
import Derived.Test.YtncbkegflkjlfaaRowsIn
namespace Go.Proofs.Ytncbkegflkjlfaa
open Go.ChangeShapes Go.WideShapes Go.ChangeAt Go.RowKit

/-- An act as plain data. -/
structure DA where
  p : Int
  q : Int
  r : Int
  s : Int
  t : Int
  u : Int
  ks : IRow
instance : Inhabited DA := ⟨⟨0, 0, 0, 0, 0, 0, default⟩⟩
/-- Its numbers are numbers of the machine's. -/
def Rng (x : Int) : Prop := -9223372036854775808 ≤ x ∧ x ≤ 9223372036854775807
structure DA.Ok (a : DA) : Prop where
  p : Rng a.p
  q : Rng a.q
  r : Rng a.r
  s : Rng a.s
  t : Rng a.t
  u : 0 ≤ a.u ∧ a.u ≤ 255
  ks : ∀ x ∈ a.ks.zs, Rng x
/-- The seven cells of an act. -/
structure DA.At (w : World) (b o : Nat) (a : DA) : Prop where
  p : w.cell? ⟨b, o, none⟩ = some (.int .i64 a.p)
  q : w.cell? ⟨b, o + 1, none⟩ = some (.int .i64 a.q)
  r : w.cell? ⟨b, o + 2, none⟩ = some (.int .i64 a.r)
  s : w.cell? ⟨b, o + 3, none⟩ = some (.int .i64 a.s)
  t : w.cell? ⟨b, o + 4, none⟩ = some (.int .i64 a.t)
  u : w.cell? ⟨b, o + 5, none⟩ = some (.int .u8 a.u)
  ks : w.cell? ⟨b, o + 6, none⟩ = some (.slice a.ks.A a.ks.zs.length a.ks.cap)
theorem DA.At.below {w w' : World} {b o : Nat} {a : DA} (h : DA.At w b o a) (hb : Below w.heap.size w w') (hl : b < w.heap.size) : DA.At w' b o a :=
  ⟨(hb.cell (p := ⟨b, _, none⟩) hl).trans h.p, (hb.cell (p := ⟨b, _, none⟩) hl).trans h.q, (hb.cell (p := ⟨b, _, none⟩) hl).trans h.r, (hb.cell (p := ⟨b, _, none⟩) hl).trans h.s, (hb.cell (p := ⟨b, _, none⟩) hl).trans h.t, (hb.cell (p := ⟨b, _, none⟩) hl).trans h.u, (hb.cell (p := ⟨b, _, none⟩) hl).trans h.ks⟩
def DActsIn (w : World) (A : Option Addr) (acs : List DA) : Prop :=
  acs = [] ∨ ∃ b off, A = some ⟨b, off, none⟩ ∧ b < w.heap.size ∧ ∀ i (h : i < acs.length), DA.At w b (off + i * 7) acs[i] ∧ acs[i].ks.In w
theorem DActsIn.at_ {w : World} {A : Option Addr} {acs : List DA} (h : DActsIn w A acs) {i : Nat} (hi : i < acs.length) :
    ∃ b off, A = some ⟨b, off, none⟩ ∧ b < w.heap.size ∧ DA.At w b (off + i * 7) acs[i] ∧ acs[i].ks.In w := by
  rcases h with rfl | ⟨b, off, rfl, hlt, hc⟩
  · simp at hi
  · exact ⟨b, off, rfl, hlt, (hc i hi).1, (hc i hi).2⟩

section
variable {H : Type} {enc : TypeId × Value → H} {P : Program} {w : World}
/-- A field's row. -/
theorem open_irow {t e : TypeId} {fuel : Nat} {cs : List Value} {x : DataW H × List MemPlace} (ht : P.underlying t = some (.slice e)) (he : P.underlying e = some (.int .i64)) (hce : P.cellsOf e = 1) (hbe : P.bytesOf e = 8)
    (h : DataW.trod enc P w 0 (fun _ => true) true fuel t cs = some x) (hsz : ∀ n ∈ x.1.weights P t, n ≤ reachBytes) :
    ∃ r : IRow, cs = [.slice r.A r.zs.length r.cap] ∧ r.In w ∧ ∀ z ∈ r.zs, Rng z := by
  rcases open_ints ht he hce h with ⟨rfl, _⟩ | ⟨a, len, cap, zs, rfl, _, hl, hm, hz, hx, hcell, hwz⟩
  · exact ⟨⟨none, 0, []⟩, rfl, ⟨.inl rfl, Nat.zero_le _, fun _ => rfl⟩, by simp⟩
  · simp only [if_true] at hz
    have hlen : (zs.take len).length = len := by rw [List.length_take]; omega
    have hbig : zs.length ≤ 17592186044416 := by
      have hw := hsz (((zs.take len).length + (zs.drop len).length) * 8) (by
        rw [hx]
        simp only [DataW.weights, ht, List.mem_cons, List.mem_append]
        left
        rw [lits_len, lits_len, hbe])
      unfold reachBytes at hw
      have e1 : (zs.take len).length + (zs.drop len).length = zs.length := by rw [← List.length_append, List.take_append_drop]
      omega
    refine ⟨⟨some a, cap, zs.take len⟩, by rw [hlen], ⟨?_, by rw [hlen]; omega, fun h => (by cases h)⟩, fun z hz => bounds_i64 (hwz z (List.mem_of_mem_take hz))⟩
    by_cases h0 : zs.take len = []
    · exact .inl h0
    · have hpos : 0 < zs.length := by
        cases zs with
        | nil => simp at h0
        | cons _ _ => simp
      obtain ⟨b, off, rfl, hc⟩ := ints_at hcell hpos
      refine .inr ⟨b, off, rfl, lt_of_cell (hc 0 hpos), fun i hi => ?_⟩
      have hi' : i < zs.length := by rw [List.length_take] at hi; omega
      rw [hc i hi']
      simp [List.getD, hi']

theorem open_dacts {r : Reach} {b0 : Nat} {t e q tb ti : TypeId} {f0 f1 f2 f3 f4 f5 f6 : Field} {v : Value} {d : DataW H} {p : List MemPlace} (ht : P.underlying t = some (.slice e)) (he : P.underlying e = some (.struct #[f0, f1, f2, f3, f4, f5, f6]))
    (ce : P.cellsOf e = 7) (ho : [f0, f1, f2, f3, f4, f5, f6].map (fun f => (f.offset, f.type)) = [(0, ti), (1, ti), (2, ti), (3, ti), (4, ti), (5, tb), (6, q)]) (ui : P.underlying ti = some (.int .i64)) (ub : P.underlying tb = some (.int .u8)) (uq : P.underlying q = some (.slice ti))
    (ci : P.cellsOf ti = 1) (cb : P.cellsOf tb = 1) (cq : P.cellsOf q = 1) (bi : P.bytesOf ti = 8)
    (hv : Value.okWide P w r b0 t v) (h : DataW.Trod enc P w 0 (fun _ => true) true t v d p) (hsz : ∀ n ∈ d.weights P t, n ≤ reachBytes) :
    ∃ (A : Option Addr) (cap : Nat) (acs : List DA), v = .slice A acs.length cap ∧ acs.length ≤ cap ∧ cap ≤ maxLen ∧ DActsIn w A acs ∧ ∀ a ∈ acs, a.Ok := by
  simp only [List.map_cons, List.map_nil, List.cons.injEq, Prod.mk.injEq, and_true] at ho
  obtain ⟨⟨o0, t0⟩, ⟨o1, t1⟩, ⟨o2, t2⟩, ⟨o3, t3⟩, ⟨o4, t4⟩, ⟨o5, t5⟩, ⟨o6, t6⟩⟩ := ho
  obtain ⟨a0, len, cap, rfl⟩ := okWide_slice ht hv
  obtain ⟨fuel, hf⟩ := h
  rcases Deep.open_slice ht hf with ⟨hcs, _⟩ | ⟨a, len', cap', m, n, D, Pl, hcs, hb, hl, hm, hmm, hd, hx⟩
  · have hcs' : a0 = none ∧ len = 0 ∧ cap = 0 := by simpa [Value.cells] using hcs
    obtain ⟨rfl, rfl, rfl⟩ := hcs'
    exact ⟨none, 0, [], rfl, Nat.zero_le _, Nat.zero_le _, .inl rfl, by simp⟩
  · have hcs' : a0 = some a ∧ len = len' ∧ cap = cap' := by simpa [Value.cells] using hcs
    obtain ⟨rfl, rfl, rfl⟩ := hcs'
    simp only [if_true] at hmm
    subst hmm
    have hde : d = .slice ((List.range len).map D) ((List.range (m - len)).map fun j => D (len + j)) := congrArg Prod.fst hd
    have each : ∀ i, i < len → ∃ c : DA, (w.cell? (a.add (i * 7)) = some (.int .i64 c.p) ∧ w.cell? (a.add (i * 7 + 1)) = some (.int .i64 c.q) ∧ w.cell? (a.add (i * 7 + 2)) = some (.int .i64 c.r) ∧ w.cell? (a.add (i * 7 + 3)) = some (.int .i64 c.s) ∧ w.cell? (a.add (i * 7 + 4)) = some (.int .i64 c.t) ∧
        w.cell? (a.add (i * 7 + 5)) = some (.int .u8 c.u) ∧ w.cell? (a.add (i * 7 + 6)) = some (.slice c.ks.A c.ks.zs.length c.ks.cap)) ∧ c.ks.In w ∧ c.Ok := fun i hi => by
      obtain ⟨cs', h1, h2⟩ := hx i (by omega)
      rw [ce] at h1
      obtain ⟨_, hlen, hcell⟩ := World.cells?_some h1
      obtain ⟨xs, k, hk, hxy, _, hxl, hff⟩ := DataW.trod_struct he h2
      have hxl' : xs.length = 7 := hxl
      have hone : ∀ j (f : Field) (hj : j < 7), #[f0, f1, f2, f3, f4, f5, f6][j]? = some f → f.offset = j → P.cellsOf f.type = 1 → DataW.trod enc P w 0 (fun _ => true) true k f.type [cs'[j]'(by omega)] = some (xs[j]'(by omega)) := fun j f hj hfj ho hc => by
        have h3 := hff j f hfj
        rw [ho, hc, List.getElem?_eq_getElem (by omega)] at h3
        rw [← h3, List.drop_eq_getElem_cons (by omega)]
        rfl
      have hint : ∀ j (f : Field) (hj : j < 7), #[f0, f1, f2, f3, f4, f5, f6][j]? = some f → f.offset = j → f.type = ti → ∃ z, cs'[j]'(by omega) = .int .i64 z ∧ Rng z := fun j f hj hfj ho hc => by
        obtain ⟨z, hz, _, hw⟩ := DataW.trod_int (by rw [hc]; exact ui) (hone j f hj hfj ho (by rw [hc]; exact ci))
        exact ⟨z, by simpa using hz, bounds_i64 hw⟩
      obtain ⟨z0, e0, w0⟩ := hint 0 f0 (by omega) rfl o0 t0
      obtain ⟨z1, e1, w1⟩ := hint 1 f1 (by omega) rfl o1 t1
      obtain ⟨z2, e2, w2⟩ := hint 2 f2 (by omega) rfl o2 t2
      obtain ⟨z3, e3, w3⟩ := hint 3 f3 (by omega) rfl o3 t3
      obtain ⟨z4, e4, w4⟩ := hint 4 f4 (by omega) rfl o4 t4
      obtain ⟨z5, e5, _, w5⟩ := DataW.trod_int (by rw [t5]; exact ub) (hone 5 f5 (by omega) rfl o5 (by rw [t5]; exact cb))
      have e5' : cs'[5]'(by omega) = .int .u8 z5 := by simpa using e5
      have hin : (xs[6]'(by omega)).1 ∈ xs.map (·.1) := List.mem_map.2 ⟨_, List.getElem_mem _, rfl⟩
      obtain ⟨rw6, e6, i6, k6⟩ := open_irow (by rw [t6]; exact uq) ui ci bi (hone 6 f6 (by omega) rfl o6 (by rw [t6]; exact cq)) (fun n hn => hsz n (by
        rw [hde]
        simp only [DataW.weights, ht, List.mem_cons, List.mem_append]
        refine .inr (.inl (weights_in (List.mem_map.2 ⟨i, List.mem_range.2 hi, rfl⟩) n ?_))
        have hD : D i = .agg (xs.map (·.1)) := congrArg Prod.fst hxy
        rw [hD]
        simp only [DataW.weights, he]
        refine DataW.weights_mem_each (j := 6) (t := f6.type) (d := (xs[6]'(by omega)).1) rfl ?_ n hn
        rw [List.getElem?_map, List.getElem?_eq_getElem (by omega)]
        rfl))
      have e6' : cs'[6]'(by omega) = .slice rw6.A rw6.zs.length rw6.cap := by simpa using e6
      have g := fun j (hj : j < 7) => hcell j (by omega)
      have g0 := g 0 (by omega)
      have g1 := g 1 (by omega)
      have g2 := g 2 (by omega)
      have g3 := g 3 (by omega)
      have g4 := g 4 (by omega)
      have g5 := g 5 (by omega)
      have g6 := g 6 (by omega)
      rw [Deep.add_add, List.getElem?_eq_getElem (by omega)] at g0 g1 g2 g3 g4 g5 g6
      rw [e0] at g0
      rw [e1] at g1
      rw [e2] at g2
      rw [e3] at g3
      rw [e4] at g4
      rw [e5'] at g5
      rw [e6'] at g6
      exact ⟨⟨z0, z1, z2, z3, z4, z5, rw6⟩, ⟨by simpa using g0, by simpa using g1, by simpa using g2, by simpa using g3, by simpa using g4, by simpa using g5, by simpa using g6⟩, i6, ⟨w0, w1, w2, w3, w4, bounds_u8 w5, k6⟩⟩
    obtain ⟨c, hc⟩ := Deep.choose_lt each
    refine ⟨some a, m, (List.range len).map c, by simp, by simpa using hl, hm, ?_, fun x hx => ?_⟩
    · by_cases h0 : len = 0
      · left; subst h0; rfl
      right
      obtain ⟨b, off, spot⟩ := a
      have hspot : spot = none := by simpa [Addr.add] using World.cell?_spot (hc 0 (by omega)).1.1
      subst hspot
      refine ⟨b, off, rfl, ?_, fun i hi => ?_⟩
      · have h1 := (hc 0 (by omega)).1.1
        rw [Go.WideShapes.add_plain] at h1
        exact lt_of_cell h1
      · have hi' : i < len := by simpa using hi
        obtain ⟨⟨h1, h2, h3, h4, h5, h6, h7⟩, h8, _⟩ := hc i hi'
        rw [Go.WideShapes.add_plain] at h1 h2 h3 h4 h5 h6 h7
        simp only [List.getElem_map, List.getElem_range]
        exact ⟨⟨h1, by rw [Nat.add_assoc]; exact h2, by rw [Nat.add_assoc]; exact h3, by rw [Nat.add_assoc]; exact h4, by rw [Nat.add_assoc]; exact h5, by rw [Nat.add_assoc]; exact h6, by rw [Nat.add_assoc]; exact h7⟩, h8⟩
    · obtain ⟨i, hi, rfl⟩ := List.mem_map.1 hx
      exact (hc i (List.mem_range.1 hi)).2.2
end
end Go.Proofs.Ytncbkegflkjlfaa
