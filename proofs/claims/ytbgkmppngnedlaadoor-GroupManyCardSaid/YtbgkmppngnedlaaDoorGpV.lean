/- Groups that came in as plain data, in a row; those that may be made. -/
import Derived.Test.YtbgkmppngnedlaaDoorGpO
import Derived.Test.YtbgkmppngnedlaaDoorGpU
namespace Go.Proofs.YtbgkmppngnedlaaDoor
open Go.ChangeShapes Go.WideShapes Go.ChangeAt Go.RowKit Rec

/-- A group as plain data, as it lies in memory. -/
structure Gx where
  q : Int
  AB : Option Addr
  bl : List Int
  kb : Nat
  AT : Option Addr
  tr : List Bool
  kt : Nat
  AD : Option Addr
  ds : List ByteArray
  kd : Nat
instance : Inhabited Gx := ⟨⟨0, none, [], 0, none, [], 0, none, [], 0⟩⟩
def Gx.v (g : Gx) : Array Value := #[.int .i64 g.q, .slice g.AB g.bl.length g.kb, .slice g.AT g.tr.length g.kt, .slice g.AD g.ds.length g.kd]
structure Gx.At (w : World) (k o : Nat) (c : Gx) : Prop where
  q : w.cell? ⟨k, o, none⟩ = some (.int .i64 c.q)
  b : w.cell? ⟨k, o + 1, none⟩ = some (.slice c.AB c.bl.length c.kb)
  t : w.cell? ⟨k, o + 2, none⟩ = some (.slice c.AT c.tr.length c.kt)
  d : w.cell? ⟨k, o + 3, none⟩ = some (.slice c.AD c.ds.length c.kd)
theorem Gx.At.below {w w' : World} {b o : Nat} {a : Gx} (h : Gx.At w b o a) (hb : Below w.heap.size w w') (hl : b < w.heap.size) : Gx.At w' b o a :=
  ⟨(hb.cell (p := ⟨b, _, none⟩) hl).trans h.q, (hb.cell (p := ⟨b, _, none⟩) hl).trans h.b, (hb.cell (p := ⟨b, _, none⟩) hl).trans h.t, (hb.cell (p := ⟨b, _, none⟩) hl).trans h.d⟩
def GxIn (w : World) (A : Option Addr) (l : List Gx) : Prop :=
  l = [] ∨ ∃ b off, A = some ⟨b, off, none⟩ ∧ b < w.heap.size ∧ ∀ i (h : i < l.length), Gx.At w b (off + i * 4) l[i] ∧ GIn w l[i].AB l[i].bl l[i].AT l[i].tr l[i].AD l[i].ds
theorem GxIn.at_ {w : World} {A : Option Addr} {l : List Gx} (h : GxIn w A l) {i : Nat} (hi : i < l.length) :
    ∃ b off, A = some ⟨b, off, none⟩ ∧ b < w.heap.size ∧ Gx.At w b (off + i * 4) l[i] ∧ GIn w l[i].AB l[i].bl l[i].AT l[i].tr l[i].AD l[i].ds := by
  rcases h with rfl | ⟨b, off, rfl, hlt, hc⟩
  · simp at hi
  · exact ⟨b, off, rfl, hlt, (hc i hi).1, (hc i hi).2⟩
theorem GxIn.below {w w' : World} {A : Option Addr} {l : List Gx} (h : GxIn w A l) (hb : Below w.heap.size w w') : GxIn w' A l := by
  rcases h with h | ⟨b, off, rfl, hlt, hc⟩
  · exact .inl h
  · exact .inr ⟨b, off, rfl, Nat.lt_of_lt_of_le hlt hb.size, fun i hi => ⟨(hc i hi).1.below hb hlt, ⟨(hc i hi).2.b.below hb, (hc i hi).2.t.below hb, (hc i hi).2.d.below hb⟩⟩⟩
section
variable {H : Type} {enc : TypeId × Value → H} {P : Program} {w : World}
theorem open_groups {r : Reach} {b0 : Nat} {t e tb tt td ti tw ts : TypeId} {f0 f1 f2 f3 : Field} {v : Value} {d : DataW H} {p : List MemPlace} (ht : P.underlying t = some (.slice e)) (he : P.underlying e = some (.struct #[f0, f1, f2, f3]))
    (ho : [f0, f1, f2, f3].map (fun f => (f.offset, f.type)) = [(0, ti), (1, tb), (2, tt), (3, td)]) (ui : P.underlying ti = some (.int .i64)) (ub : P.underlying tb = some (.slice ti)) (ut : P.underlying tt = some (.slice tw)) (uo : P.underlying tw = some .bool) (ud : P.underlying td = some (.slice ts)) (us : P.underlying ts = some .string)
    (ce : P.cellsOf e = 4) (ci : P.cellsOf ti = 1) (cb : P.cellsOf tb = 1) (cct : P.cellsOf tt = 1) (cd : P.cellsOf td = 1) (co : P.cellsOf tw = 1) (cs_ : P.cellsOf ts = 1)
    (hv : Value.okWide P w r b0 t v) (h : DataW.Trod enc P w 0 (fun _ => true) true t v d p) :
    ∃ (A : Option Addr) (cap : Nat) (l : List Gx), v = .slice A l.length cap ∧ l.length ≤ cap ∧ cap ≤ maxLen ∧ GxIn w A l ∧ ∀ g ∈ l, ∀ s ∈ g.ds, s.size ≤ maxLen := by
  simp only [List.map_cons, List.map_nil, List.cons.injEq, Prod.mk.injEq, and_true] at ho
  obtain ⟨⟨o0, t0⟩, ⟨o1, t1⟩, ⟨o2, t2⟩, ⟨o3, t3⟩⟩ := ho
  obtain ⟨a0, len, cap, rfl⟩ := okWide_slice ht hv
  obtain ⟨fuel, hf⟩ := h
  rcases Deep.open_slice ht hf with ⟨hcs, _⟩ | ⟨a, len', cap', m, n, D, Pl, hcs, hb, hl, hm, hmm, _, hx⟩
  · have hcs' : a0 = none ∧ len = 0 ∧ cap = 0 := by simpa [Value.cells] using hcs
    obtain ⟨rfl, rfl, rfl⟩ := hcs'
    exact ⟨none, 0, [], rfl, Nat.zero_le _, Nat.zero_le _, .inl rfl, by simp⟩
  · have hcs' : a0 = some a ∧ len = len' ∧ cap = cap' := by simpa [Value.cells] using hcs
    obtain ⟨rfl, rfl, rfl⟩ := hcs'
    simp only [if_true] at hmm
    subst hmm
    have each : ∀ i, i < m → ∃ c : Gx, (w.cell? (a.add (i * 4)) = some (.int .i64 c.q) ∧ w.cell? (a.add (i * 4 + 1)) = some (.slice c.AB c.bl.length c.kb) ∧ w.cell? (a.add (i * 4 + 2)) = some (.slice c.AT c.tr.length c.kt) ∧ w.cell? (a.add (i * 4 + 3)) = some (.slice c.AD c.ds.length c.kd)) ∧ GIn w c.AB c.bl c.AT c.tr c.AD c.ds ∧ ∀ s ∈ c.ds, s.size ≤ maxLen := fun i hi => by
      obtain ⟨cs', h1, h2⟩ := hx i hi
      rw [ce] at h1
      obtain ⟨_, hlen, hcell⟩ := World.cells?_some h1
      obtain ⟨xs, k, hk, hxy, _, hxl, hff⟩ := DataW.trod_struct he h2
      have hxl' : xs.length = 4 := hxl
      have hone : ∀ j (f : Field) (hj : j < 4), #[f0, f1, f2, f3][j]? = some f → f.offset = j → P.cellsOf f.type = 1 → DataW.trod enc P w 0 (fun _ => true) true k f.type [cs'[j]'(by omega)] = some (xs[j]'(by omega)) := fun j f hj hfj ho hc => by
        have h3 := hff j f hfj
        rw [ho, hc, List.getElem?_eq_getElem (by omega)] at h3
        rw [← h3, List.drop_eq_getElem_cons (by omega)]
        rfl
      obtain ⟨q0, e0, _, _⟩ := DataW.trod_int (by rw [t0]; exact ui) (hone 0 f0 (by omega) rfl o0 (by rw [t0]; exact ci))
      obtain ⟨AB, bl, kb, e1, i1⟩ := open_inF (by rw [t1]; exact ub) ui ci (hone 1 f1 (by omega) rfl o1 (by rw [t1]; exact cb))
      obtain ⟨AT, tr, kt, e2, i2⟩ := open_boF (by rw [t2]; exact ut) uo co (hone 2 f2 (by omega) rfl o2 (by rw [t2]; exact cct))
      obtain ⟨AD, ds, kd, e3, i3, h3⟩ := open_stF (by rw [t3]; exact ud) us cs_ (hone 3 f3 (by omega) rfl o3 (by rw [t3]; exact cd))
      have e0' : cs'[0]'(by omega) = .int .i64 q0 := by simpa using e0
      have e1' : cs'[1]'(by omega) = .slice AB bl.length kb := by simpa using e1
      have e2' : cs'[2]'(by omega) = .slice AT tr.length kt := by simpa using e2
      have e3' : cs'[3]'(by omega) = .slice AD ds.length kd := by simpa using e3
      have g := fun j (hj : j < 4) => hcell j (by omega)
      have g0 := g 0 (by omega)
      have g1 := g 1 (by omega)
      have g2 := g 2 (by omega)
      have g3 := g 3 (by omega)
      rw [Deep.add_add, List.getElem?_eq_getElem (by omega)] at g0 g1 g2 g3
      rw [e0'] at g0
      rw [e1'] at g1
      rw [e2'] at g2
      rw [e3'] at g3
      exact ⟨⟨q0, AB, bl, kb, AT, tr, kt, AD, ds, kd⟩, ⟨by simpa using g0, by simpa using g1, by simpa using g2, by simpa using g3⟩, ⟨i1, i2, i3⟩, h3⟩
    obtain ⟨c, hc⟩ := Deep.choose_lt each
    refine ⟨some a, m, (List.range len).map c, by simp, by simpa using hl, hm, ?_, fun x hx => ?_⟩
    · by_cases h0 : len = 0
      · left; subst h0; rfl
      right
      obtain ⟨b, off, spot⟩ := a
      have hspot : spot = none := by simpa [Addr.add] using World.cell?_spot (hc 0 (by omega)).1.1
      subst hspot
      refine ⟨b, off, rfl, ?_, fun i hi => ?_⟩
      · have h1 := (hc 0 (by omega)).1.1
        rw [Go.WideShapes.add_plain] at h1
        exact lt_of_cell h1
      · have hi' : i < len := by simpa using hi
        obtain ⟨⟨h1, h2, h3, h4⟩, h5, _⟩ := hc i (by omega)
        rw [Go.WideShapes.add_plain] at h1 h2 h3 h4
        simp only [List.getElem_map, List.getElem_range]
        exact ⟨⟨h1, by rw [Nat.add_assoc]; exact h2, by rw [Nat.add_assoc]; exact h3, by rw [Nat.add_assoc]; exact h4⟩, h5⟩
    · obtain ⟨i, hi, rfl⟩ := List.mem_map.1 hx
      exact (hc i (by have := List.mem_range.1 hi; omega)).2.2
end
def Gx.g (x : Gx) : Gp := givG x.q x.bl x.tr x.ds
/-- The groups of the first k that may be made. -/
def gsK (l : List Gx) : Nat → List Gp
  | 0 => []
  | k + 1 => gsK l k ++ (match l[k]? with | some x => if GoodG x.g then [x.g] else [] | none => [])
theorem gsK_good {l : List Gx} {k : Nat} (h : k < l.length) (hg : GoodG l[k].g) : gsK l (k + 1) = gsK l k ++ [l[k].g] := by
  show gsK l k ++ (match l[k]? with | some x => if GoodG x.g then [x.g] else [] | none => []) = _
  rw [List.getElem?_eq_getElem h]
  simp only
  rw [if_pos hg]
theorem gsK_bad {l : List Gx} {k : Nat} (h : k < l.length) (hg : ¬ GoodG l[k].g) : gsK l (k + 1) = gsK l k := by
  show gsK l k ++ (match l[k]? with | some x => if GoodG x.g then [x.g] else [] | none => []) = _
  rw [List.getElem?_eq_getElem h]
  simp only
  rw [if_neg hg, List.append_nil]
theorem gsK_all (l : List Gx) : ∀ k, (∀ g ∈ gsK l k, GoodG g) ∧ (gsK l k).length ≤ k
  | 0 => ⟨fun g h => (by cases h), Nat.le_refl _⟩
  | k + 1 => by
    obtain ⟨h1, h2⟩ := gsK_all l k
    cases hc : l[k]? with
    | none =>
      have e : gsK l (k + 1) = gsK l k := by
        show gsK l k ++ (match l[k]? with | some x => if GoodG x.g then [x.g] else [] | none => []) = _
        rw [hc]
        exact List.append_nil _
      rw [e]
      exact ⟨h1, by omega⟩
    | some x =>
      have e : gsK l (k + 1) = gsK l k ++ (if GoodG x.g then [x.g] else []) := by
        show gsK l k ++ (match l[k]? with | some x => if GoodG x.g then [x.g] else [] | none => []) = _
        rw [hc]
      rw [e]
      by_cases hg : GoodG x.g
      · rw [if_pos hg]
        refine ⟨fun g h => ?_, by rw [List.length_append]; show _ + 1 ≤ _; omega⟩
        rw [List.mem_append, List.mem_singleton] at h
        rcases h with h | rfl
        · exact h1 g h
        · exact hg
      · rw [if_neg hg, List.append_nil]
        exact ⟨h1, by omega⟩
theorem catG_snoc (gs : List Gp) (g : Gp) : catG (gs ++ [g]) = catG gs ++ encG g := by rw [catG_append]; show catG gs ++ (encG g ++ []) = _; rw [List.append_nil]
/-- Where the groups end. -/
def endG (gs : List Gp) : List Nat := (List.range gs.length).map fun j => 64 * blkG (gs.take (j + 1))
theorem endG_len (gs : List Gp) : (endG gs).length = gs.length := by unfold endG; simp
theorem endG_snoc (gs : List Gp) (g : Gp) : endG (gs ++ [g]) = endG gs ++ [64 * blkG (gs ++ [g])] := by
  unfold endG
  rw [List.length_append, List.length_singleton, List.range_succ, List.map_append]
  congr 1
  · refine List.map_congr_left fun j hj => ?_
    rw [List.take_append_of_le_length (by have := List.mem_range.1 hj; omega)]
  · show [64 * blkG ((gs ++ [g]).take (gs.length + 1))] = [_]
    rw [List.take_of_length_le (by simp)]
theorem endG_at {gs : List Gp} {j : Nat} (h : j < (endG gs).length) : (endG gs)[j] = 64 * blkG (gs.take (j + 1)) := by
  simp only [endG, List.getElem_map, List.getElem_range]
theorem mkN (n : Nat) (hn : n ≤ 1000) (W : World) : (Instr.makeSlice 44 (.int .i64 (n : Int)) (.int .i64 (n : Int))).run Tryd.prog W = .ok (.slice (some ⟨W.heap.size, 0, none⟩) n n) (W.alloc (.cells (madeCells #[.int .u8 0] n) 5)) := by
  obtain ⟨i0, hi, hz0, hz1, hz2⟩ := info_parts infoU8g
  have h := run_make_m (P := Tryd.prog) 44 5 i0 (.int .u8 0) Tryd.underlying44 hi hz0 .i64 .i64 n n (Nat.le_refl _) (by rw [hz2]; omega) (by omega) W
  rw [hz1, Nat.mul_one] at h
  exact h
end Go.Proofs.YtbgkmppngnedlaaDoor
