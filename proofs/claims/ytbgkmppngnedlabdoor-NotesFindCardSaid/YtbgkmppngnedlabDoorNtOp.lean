/- Records that came in, in a slice, with the ranges of their numbers. -/
import Derived.Test.YtbgkmppngnedlabDoorOOp
import Derived.Test.YtbgkmppngnedlabDoorNtK
import Derived.Deep.SlicePairs
import Derived.SizedLaws
namespace Go.Proofs.YtbgkmppngnedlabDoor
open Go.ChangeShapes Go.WideShapes Go.ChangeAt Go.RowKit Rec

def RcWf (x : Rc) : Prop := x.body.size ≤ reachBytes ∧ WfI x.a ∧ WfI x.c ∧ WfI x.b

section
variable {H : Type} {enc : TypeId × Value → H} {P : Program} {w : World}
theorem weights_each {e : TypeId} : ∀ {l : List (DataW H)} {d : DataW H}, d ∈ l → ∀ n ∈ d.weights P e, n ∈ DataW.weightsAll P e l
  | d' :: r, d, hd, n, hn => by
    simp only [DataW.weightsAll, List.mem_append]
    rcases List.mem_cons.1 hd with rfl | h
    · exact Or.inl hn
    · exact Or.inr (weights_each h n hn)
theorem rec_cellsW {base : Nat} {spare : Nat → Bool} {held : Bool} {e : TypeId} {fs : Array Field} {cs : List Value} {d : DataW H} {p : List MemPlace} {fuel : Nat}
    (he : P.underlying e = some (.struct fs)) (hfs : recFields P fs = true) (hlen : cs.length = 7) (h : DataW.trod enc P w base spare held fuel e cs = some (d, p)) (hwt : ∀ n ∈ DataW.weights P e d, n ≤ reachBytes) :
    ∃ x : Rc, cs = x.cellsL ∧ RcWf x := by
  obtain ⟨hs7, hat⟩ := recFields_at hfs
  obtain ⟨xs, k, hk, hx, _, hxl, hall⟩ := DataW.trod_struct he h
  have h1 : ∀ i, i < 6 → ∃ z, cs[i]? = some (.int .i64 z) ∧ WfI z := fun i hi => by
    obtain ⟨o1, o2, o3, _⟩ := hat i fs[i] (by simp [show i < fs.size by omega])
    have h2 := hall i fs[i] (by simp [show i < fs.size by omega])
    rw [o1, o2, List.getElem?_eq_getElem (by omega)] at h2
    obtain ⟨z, hz, _, hw⟩ := DataW.trod_int (o3 hi) h2
    refine ⟨z, ?_, hw⟩
    have := congrArg (·[0]?) hz
    simpa [List.getElem?_take, List.getElem?_drop] using this
  have h6 : ∃ s : ByteArray, cs[6]? = some (.string s) ∧ s.size ≤ reachBytes := by
    obtain ⟨o1, o2, _, o4⟩ := hat 6 fs[6] (by simp [show 6 < fs.size by omega])
    have h2 := hall 6 fs[6] (by simp [show 6 < fs.size by omega])
    rw [o1, o2, List.getElem?_eq_getElem (by omega)] at h2
    obtain ⟨z, hz, hx6, _⟩ := DataW.trod_string (o4 rfl) h2
    have hw : z.size ≤ reachBytes := by
      refine hwt z.size ?_
      have h3 : z.size ∈ DataW.weights P fs[6].type (DataW.lit (.string z.data.toList) : DataW H) := by
        simp only [DataW.weights, List.mem_singleton]
        exact Array.length_toList.symm
      have h4 := DataW.weights_mem_each (P := P) (j := 6) (t := fs[6].type) (ts := fs.toList.map (·.type)) (ds := xs.map (·.1)) (d := DataW.lit (.string z.data.toList)) (by simp [show 6 < fs.size by omega]) (by
        rw [List.getElem?_map, List.getElem?_eq_getElem (by omega), hx6]; rfl) z.size h3
      rw [show d = DataW.agg (xs.map (·.1)) from congrArg Prod.fst hx]
      unfold DataW.weights
      rw [he]
      exact h4
    refine ⟨z, ?_, hw⟩
    have := congrArg (·[0]?) hz
    simpa [List.getElem?_take, List.getElem?_drop] using this
  obtain ⟨z0, e0, w0⟩ := h1 0 (by omega)
  obtain ⟨z1, e1, w1⟩ := h1 1 (by omega)
  obtain ⟨z2, e2, w2⟩ := h1 2 (by omega)
  obtain ⟨z3, e3, w3⟩ := h1 3 (by omega)
  obtain ⟨z4, e4, w4⟩ := h1 4 (by omega)
  obtain ⟨z5, e5, w5⟩ := h1 5 (by omega)
  obtain ⟨s6, e6, hs6⟩ := h6
  refine ⟨⟨z0, z1, z2, z3, z4, z5, s6⟩, ?_, hs6, w2, w4, w3⟩
  apply List.ext_getElem?
  intro i
  by_cases hi : i < 7
  · rcases (by omega : i = 0 ∨ i = 1 ∨ i = 2 ∨ i = 3 ∨ i = 4 ∨ i = 5 ∨ i = 6) with rfl | rfl | rfl | rfl | rfl | rfl | rfl <;> simp_all [Rec.Rc.cellsL]
  · rw [List.getElem?_eq_none (by omega), List.getElem?_eq_none (by simp [Rec.Rc.cellsL]; omega)]
theorem open_recsW {r : Reach} {b0 : Nat} {t e : TypeId} {fs : Array Field} {v : Value} {d : DataW H} {p : List MemPlace} (ht : P.underlying t = some (.slice e)) (he : P.underlying e = some (.struct fs))
    (hfs : recFields P fs = true) (ce : P.cellsOf e = 7)
    (hv : Value.okWide P w r b0 t v) (h : DataW.Trod enc P w 0 (fun _ => true) true t v d p) (hsz : ∀ n ∈ d.weights P t, n ≤ reachBytes) :
    ∃ (A : Option Addr) (cap : Nat) (rs : List Rc), v = .slice A rs.length cap ∧ rs.length ≤ cap ∧ cap ≤ maxLen ∧ RecsAt w A rs ∧ ∀ x ∈ rs, RcWf x := by
  obtain ⟨a0, len, cap, rfl⟩ := okWide_slice ht hv
  obtain ⟨fuel, hf⟩ := h
  rcases Deep.open_slice ht hf with ⟨hcs, _⟩ | ⟨a, len', cap', m, n, D, Pl, hcs, hb, hl, hm, hmm, hd, hx⟩
  · have hcs' : a0 = none ∧ len = 0 ∧ cap = 0 := by simpa [Value.cells] using hcs
    obtain ⟨rfl, rfl, rfl⟩ := hcs'
    exact ⟨none, 0, [], rfl, Nat.zero_le _, Nat.zero_le _, .inl rfl, by simp⟩
  · have hcs' : a0 = some a ∧ len = len' ∧ cap = cap' := by simpa [Value.cells] using hcs
    obtain ⟨rfl, rfl, rfl⟩ := hcs'
    simp only [if_true] at hmm
    subst hmm
    have each : ∀ i, i < len → ∃ x : Rc, (∀ j, j < 7 → w.cell? (a.add (i * 7 + j)) = (x.cellsL)[j]?) ∧ RcWf x := fun i hi => by
      obtain ⟨cs', h1, h2⟩ := hx i (by omega)
      rw [ce] at h1
      obtain ⟨_, hlen, hcell⟩ := World.cells?_some h1
      obtain ⟨x, hxc, hxb⟩ := rec_cellsW he hfs (by omega) h2 (fun n hn => hsz n (by
        rw [show d = .slice ((List.range len).map D) ((List.range (m - len)).map fun j => D (len + j)) from congrArg Prod.fst hd]
        simp only [DataW.weights, ht, List.mem_cons, List.mem_append]
        exact .inr (.inl (weights_each (List.mem_map.2 ⟨i, List.mem_range.2 hi, rfl⟩) n hn))))
      subst hxc
      refine ⟨x, fun j hj => ?_, hxb⟩
      have h3 := hcell j (by omega)
      rw [Deep.add_add] at h3
      exact h3
    obtain ⟨q, hq⟩ := Deep.choose_lt each
    refine ⟨some a, m, (List.range len).map q, by simp, by simpa using hl, hm, ?_, fun c hc => ?_⟩
    · by_cases h0 : len = 0
      · left; subst h0; rfl
      right
      obtain ⟨b, off, spot⟩ := a
      have h00 := (hq 0 (by omega)).1 0 (by omega)
      have hspot : spot = none := by simpa [Addr.add] using World.cell?_spot (show w.cell? _ = some _ from h00)
      subst hspot
      refine ⟨b, off, rfl, ?_, fun i hi j hj => ?_⟩
      · rw [Go.WideShapes.add_plain] at h00
        exact lt_of_cell (show w.cell? _ = some _ from h00)
      · have hi' : i < len := by simpa using hi
        have h1 := (hq i hi').1 j hj
        rw [Go.WideShapes.add_plain] at h1
        simp only [List.getElem_map, List.getElem_range]
        rw [Nat.add_assoc]
        exact h1
    · obtain ⟨i, hi, rfl⟩ := List.mem_map.1 hc
      exact (hq i (List.mem_range.1 hi)).2
end
end Go.Proofs.YtbgkmppngnedlabDoor
