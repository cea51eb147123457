/- Slices of structs. -/
import Derived.Test.YtbgkmppngnedlabDoorOBase
import Derived.Maps.AppendAt
import Derived.Deep.AppendLies
import Derived.Laws.OwnMore
import Derived.OwnWalk
namespace Go.Proofs.YtbgkmppngnedlabDoor
open Go.RowKit
/-- How an element stands in its cells. -/
structure Enc (α : Type) where
  c : α → List Value
  k : Nat
  len : ∀ x, (c x).length = k
  one : ∀ x, ∀ u ∈ c x, u.oneCell' = true
namespace Enc
def flat {α : Type} (E : Enc α) : List α → List Value
  | [] => []
  | x :: xs => E.c x ++ flat E xs
variable {α : Type} (E : Enc α)
theorem flat_len : ∀ xs : List α, (E.flat xs).length = xs.length * E.k
  | [] => by rw [List.length_nil, Nat.zero_mul]; rfl
  | x :: xs => by
    show (E.c x ++ E.flat xs).length = (xs.length + 1) * E.k
    rw [List.length_append, flat_len xs, E.len, Nat.add_mul, Nat.one_mul, Nat.add_comm]
theorem flat_append : ∀ (xs ys : List α), E.flat (xs ++ ys) = E.flat xs ++ E.flat ys
  | [], _ => rfl
  | x :: xs, ys => by
    show E.c x ++ E.flat (xs ++ ys) = E.c x ++ E.flat xs ++ E.flat ys
    rw [flat_append xs ys, List.append_assoc]
theorem flat_one (x : α) : E.flat [x] = E.c x := by show E.c x ++ [] = _; rw [List.append_nil]
theorem flat_at : ∀ (xs : List α) (i : Nat) (hi : i < xs.length) (j : Nat), j < E.k → (E.flat xs)[i * E.k + j]? = (E.c xs[i])[j]?
  | x :: xs, 0, _, j, hj => by
    show (E.c x ++ E.flat xs)[0 * E.k + j]? = _
    rw [Nat.zero_mul, Nat.zero_add, List.getElem?_append_left (by rw [E.len]; exact hj)]
    rfl
  | x :: xs, i + 1, hi, j, hj => by
    show (E.c x ++ E.flat xs)[(i + 1) * E.k + j]? = _
    rw [Nat.add_mul, Nat.one_mul, List.getElem?_append_right (by rw [E.len]; omega), E.len, show i * E.k + E.k + j - E.k = i * E.k + j by omega]
    exact flat_at xs i (by simpa using hi) j hj
theorem flat_one_cells : ∀ (xs : List α), ∀ u ∈ E.flat xs, u.oneCell' = true
  | [], u, hu => by cases hu
  | x :: xs, u, hu => by
    rcases List.mem_append.1 hu with h | h
    · exact E.one x u h
    · exact flat_one_cells xs u h
/-- A slice that reads as a list. -/
def In (W : World) (A : Option Addr) (xs : List α) : Prop :=
  xs = [] ∨ ∃ b off, A = some ⟨b, off, none⟩ ∧ b < W.heap.size ∧ ∀ (i : Nat) (h : i < xs.length) (j : Nat), j < E.k → W.cell? ⟨b, off + i * E.k + j, none⟩ = (E.c xs[i])[j]?
/-- A slice of the call's own that reads as a list. -/
def Row (W : World) (base : Nat) (t : TypeId) (A : Option Addr) (cap : Nat) (xs : List α) : Prop := W.ownsRow base t E.k (.slice A xs.length cap) xs.length (E.flat xs)
variable {E}
section
variable {W W' : World} {base cap : Nat} {t : TypeId} {A : Option Addr} {xs : List α}
theorem In.below (h : E.In W A xs) (hb : Below W.heap.size W W') : E.In W' A xs := by
  rcases h with h | ⟨b, off, rfl, hlt, hc⟩
  · exact .inl h
  · exact .inr ⟨b, off, rfl, Nat.lt_of_lt_of_le hlt hb.size, fun i hi j hj => (hb.cell (p := ⟨b, off + i * E.k + j, none⟩) hlt).trans (hc i hi j hj)⟩
theorem In.at_ (h : E.In W A xs) {i : Nat} (hi : i < xs.length) : ∃ b off, A = some ⟨b, off, none⟩ ∧ b < W.heap.size ∧ ∀ j, j < E.k → W.cell? ⟨b, off + i * E.k + j, none⟩ = (E.c xs[i])[j]? := by
  rcases h with rfl | ⟨b, off, rfl, hlt, hc⟩
  · simp at hi
  · exact ⟨b, off, rfl, hlt, hc i hi⟩
theorem Row.form (h : E.Row W base t A cap xs) : (A = none ∧ cap = 0 ∧ xs = []) ∨ ∃ g, A = some ⟨g, 0, none⟩ ∧ base ≤ g ∧ g < W.heap.size ∧ xs.length ≤ cap := by
  rcases h.2 with ⟨hv, h0⟩ | ⟨g, cap', cur, hv, hb, hg, hc, _⟩
  · simp only [Value.slice.injEq] at hv
    exact .inl ⟨hv.1, hv.2.2, List.eq_nil_of_length_eq_zero h0⟩
  · simp only [Value.slice.injEq] at hv
    exact .inr ⟨g, hv.1, hb, (Array.getElem?_eq_some_iff.1 hg).1, by omega⟩
theorem Row.in_ (h : E.Row W base t A cap xs) : E.In W A xs := by
  rcases h.form with h0 | ⟨g, rfl, _, hlt, _⟩
  · exact .inl h0.2.2
  · refine .inr ⟨g, 0, rfl, hlt, fun i hi j hj => ?_⟩
    have h1 : i * E.k + j < xs.length * E.k := by
      have : (i + 1) * E.k ≤ xs.length * E.k := Nat.mul_le_mul_right _ hi
      rw [Nat.add_mul, Nat.one_mul] at this
      omega
    rw [Nat.zero_add, h.cellAt (i * E.k + j) h1]
    exact E.flat_at xs i hi j hj
theorem Row.at_ (h : E.Row W base t A cap xs) {i : Nat} (hi : i < xs.length) : ∃ g, A = some ⟨g, 0, none⟩ ∧ base ≤ g ∧ g < W.heap.size ∧ xs.length ≤ cap ∧ (∀ j, j < E.k → W.cell? ⟨g, i * E.k + j, none⟩ = (E.c xs[i])[j]?) ∧ ∀ j, W.frozen? ⟨g, j, none⟩ = false := by
  rcases h.form with h0 | ⟨g, rfl, hb, hlt, hc⟩
  · rw [h0.2.2] at hi; cases hi
  · refine ⟨g, rfl, hb, hlt, hc, fun j hj => ?_, fun j => h.frozenAt j⟩
    obtain ⟨b, off, e, _, h2⟩ := h.in_.at_ hi
    injection e with e
    injection e with e1 e2
    subst e1
    subst e2
    have := h2 j hj
    rwa [Nat.zero_add] at this
theorem Row.nil (W : World) (base : Nat) (t : TypeId) : E.Row W base t none 0 [] := World.ownsRow_nil _ _ _ _
theorem Row.alloc (h : E.Row W base t A cap xs) (o : Obj) : E.Row (W.alloc o) base t A cap xs := World.ownsRow.alloc h o
theorem Row.below (h : E.Row W base t A cap xs) (hb : Below W.heap.size W W') : E.Row W' base t A cap xs := by
  refine ⟨h.1, ?_⟩
  rcases h.2 with hn | ⟨g, cap', cur, hv, hg, hgg, rest⟩
  · exact .inl hn
  · exact .inr ⟨g, cap', cur, hv, hg, by rw [hb.block g (Array.getElem?_eq_some_iff.1 hgg).1]; exact hgg, rest⟩
theorem Row.kept {v : Value} (h : E.Row W base t A cap xs) (hg : W.grownBy W' v.ownBlock) (hne : A = none ∨ (Value.slice A xs.length cap).ownBlock ≠ v.ownBlock) : E.Row W' base t A cap xs := by
  refine World.ownsRow.kept h hg ?_
  rcases hne with rfl | hne
  · left; rfl
  · right; exact hne
/-- What else turned lies in another block. -/
theorem Row.far {o : Option Nat} (h : E.Row W base t A cap xs) (hg : W.grownBy W' o) (hne : ∀ g, A = some ⟨g, 0, none⟩ → o ≠ some g) : E.Row W' base t A cap xs := by
  refine World.ownsRow.kept h hg ?_
  rcases h.form with ⟨rfl, _⟩ | ⟨g, rfl, _⟩
  · left; rfl
  · right; intro e; exact hne g rfl e.symm
theorem Row.mono {base' : Nat} (h : E.Row W base t A cap xs) (hb : base' ≤ base) : E.Row W base' t A cap xs := by
  refine ⟨h.1, ?_⟩
  rcases h.2 with hn | ⟨g, cap', cur, hv, hg, rest⟩
  · exact .inl hn
  · exact .inr ⟨g, cap', cur, hv, Nat.le_trans hb hg, rest⟩
/-- What stood ahead of the call stands. -/
theorem Row.grown (h : E.Row W base t A cap xs) (hg : W.grownBy W' (Value.slice A xs.length cap).ownBlock) (hb : base ≤ W.heap.size) : Below base W W' :=
  (Below.refl _ _).grown hg hb fun _ e => (World.ownsRow.lt h _ e).1
end
/-- The row of a type as append asks it. -/
def Inf (P : Program) (t : TypeId) (k b : Nat) : Prop := (P.info? t).map (fun i => (i.zero.map (·.cells.size), i.size, i.bytes)) = some (some k, k, b)
/-- append of one element to a row of the call's own. -/
theorem Row.append {P : Program} {st t : TypeId} (hst : P.underlying st = some (.slice t)) {by_ : Nat} (hinfo : Inf P t E.k by_) (hby : by_ ≤ 100) (hk : 0 < E.k)
    {W : World} {base cap : Nat} {A : Option Addr} {xs : List α} (hr : E.Row W base t A cap xs) {m : Nat} {x : α} (hm : ∀ j, j < E.k → W.cell? ⟨m, j, none⟩ = (E.c x)[j]?) (hl : xs.length ≤ 1000000) (hb : base ≤ W.heap.size) (ty : TypeId) :
    ∃ A' cap' W', (Builtin.append_ #[st, st] ty #[.slice A xs.length cap, .slice (some ⟨m, 0, none⟩) 1 1]).run P W = .ok (.slice A' (xs.length + 1) cap') W' ∧ E.Row W' base t A' cap' (xs ++ [x]) ∧
      W.grownBy W' (Value.slice A xs.length cap).ownBlock ∧ (A' = A ∨ A' = some ⟨W.heap.size, 0, none⟩) := by
  unfold Inf at hinfo
  rw [Option.map_eq_some_iff] at hinfo
  obtain ⟨i, hi, he⟩ := hinfo
  simp only [Prod.mk.injEq, Option.map_eq_some_iff] at he
  obtain ⟨⟨z0, hz, hzs⟩, hs, hby'⟩ := he
  obtain ⟨v', w', h1, h2, h3, h4, h5⟩ := run_append_own_at (P := P) W base st ty t i z0 E.k by_ hst hi hz hs hby' hzs hk _ _ _ hr ⟨m, 0, none⟩ 1 1 (E.c x) (by rw [E.len, Nat.one_mul]) (by
      intro j u hu
      have hj : j < E.k := by rw [← E.len x]; exact (List.getElem?_eq_some_iff.1 hu).1
      rw [Go.WideShapes.add_plain, Nat.zero_add]
      exact (hm j hj).trans hu)
    (E.one x) (by unfold maxLen; omega) (by
      have : (xs.length + 1) * by_ ≤ 1000001 * 100 := Nat.mul_le_mul (by omega) hby
      omega) hb
  have hf : E.flat (xs ++ [x]) = E.flat xs ++ E.c x := by rw [flat_append, flat_one]
  rw [← hf] at h2
  have hlen : (xs ++ [x]).length = xs.length + 1 := by simp
  rcases h2.2 with ⟨hv, h0⟩ | ⟨g, cap', cur, hv, hrest⟩
  · omega
  · subst hv
    refine ⟨some ⟨g, 0, none⟩, cap', w', h1, by unfold Row; rw [hlen]; exact h2, h3, ?_⟩
    rcases h5 with h5 | h5
    · left
      rcases hr.form with ⟨rfl, _⟩ | ⟨g0, rfl, _⟩
      · simp [Value.ownBlock] at h5
      · simp only [Value.ownBlock, Option.some.injEq] at h5
        rw [h5]
    · right
      simp only [Value.ownBlock, Option.some.injEq] at h5
      rw [h5]
/-- append of a whole slice to an own one. -/
theorem Row.concat {P : Program} {st t : TypeId} (hst : P.underlying st = some (.slice t)) {by_ : Nat} (hinfo : Inf P t E.k by_) (hby : by_ ≤ 100) (hk : 0 < E.k)
    {W : World} {base cap : Nat} {A : Option Addr} {xs : List α} (hr : E.Row W base t A cap xs) {ad : Addr} {c2 : Nat} {ys : List α} (hY : E.In W (some ad) ys) (hl : xs.length ≤ 1000000) (hl2 : ys.length ≤ 1000000) (hb : base ≤ W.heap.size) (ty : TypeId) :
    ∃ A' cap' W', (Builtin.append_ #[st, st] ty #[.slice A xs.length cap, .slice (some ad) ys.length c2]).run P W = .ok (.slice A' (xs.length + ys.length) cap') W' ∧ E.Row W' base t A' cap' (xs ++ ys) ∧
      W.grownBy W' (Value.slice A xs.length cap).ownBlock ∧ (A' = A ∨ A' = some ⟨W.heap.size, 0, none⟩) := by
  unfold Inf at hinfo
  rw [Option.map_eq_some_iff] at hinfo
  obtain ⟨i, hi, he⟩ := hinfo
  simp only [Prod.mk.injEq, Option.map_eq_some_iff] at he
  obtain ⟨⟨z0, hz, hzs⟩, hs, hby'⟩ := he
  obtain ⟨v', w', h1, h2, h3, h4, h5⟩ := run_append_own_at (P := P) W base st ty t i z0 E.k by_ hst hi hz hs hby' hzs hk _ _ _ hr ad ys.length c2 (E.flat ys) (E.flat_len ys) (by
      intro j u hu
      have hj : j < ys.length * E.k := by rw [← E.flat_len]; exact (List.getElem?_eq_some_iff.1 hu).1
      have hd : j / E.k < ys.length := (Nat.div_lt_iff_lt_mul hk).2 hj
      have hm : j % E.k < E.k := Nat.mod_lt _ hk
      have hj2 : j / E.k * E.k + j % E.k = j := by rw [Nat.mul_comm]; exact Nat.div_add_mod j E.k
      obtain ⟨b', off', e, _, h2⟩ := hY.at_ hd
      injection e with e
      subst e
      rw [Go.WideShapes.add_plain]
      have h3 := h2 _ hm
      rw [Nat.add_assoc, hj2] at h3
      rw [h3, ← hu, ← E.flat_at ys _ hd _ hm, hj2])
    (E.flat_one_cells ys) (by unfold maxLen; omega) (by
      have : (xs.length + ys.length) * by_ ≤ 2000000 * 100 := Nat.mul_le_mul (by omega) hby
      omega) hb
  rw [← flat_append] at h2
  have hlen : (xs ++ ys).length = xs.length + ys.length := by simp
  rcases h2.2 with ⟨hv, h0⟩ | ⟨g, cap', cur, hv, hrest⟩
  · have e1 : xs = [] := List.eq_nil_of_length_eq_zero (by omega)
    have e2 : ys = [] := List.eq_nil_of_length_eq_zero (by omega)
    subst e1
    subst e2
    subst hv
    refine ⟨none, 0, w', h1, by unfold Row; exact h2, h3, ?_⟩
    rcases hr.form with ⟨rfl, _⟩ | ⟨g0, rfl, _⟩
    · left; rfl
    · rcases h5 with h5 | h5 <;> simp [Value.ownBlock] at h5
  · subst hv
    refine ⟨some ⟨g, 0, none⟩, cap', w', h1, by unfold Row; rw [hlen]; exact h2, h3, ?_⟩
    rcases h5 with h5 | h5
    · left
      rcases hr.form with ⟨rfl, _⟩ | ⟨g0, rfl, _⟩
      · simp [Value.ownBlock] at h5
      · simp only [Value.ownBlock, Option.some.injEq] at h5
        rw [h5]
    · right
      simp only [Value.ownBlock, Option.some.injEq] at h5
      rw [h5]
/-- The cells of one element behind another. -/
theorem flat_set : ∀ (xs : List α) (i : Nat) (x : α), i < xs.length → E.flat (xs.set i x) = (E.flat xs).take (i * E.k) ++ E.c x ++ (E.flat xs).drop ((i + 1) * E.k)
  | y :: xs, 0, x, _ => by
    show E.c x ++ E.flat xs = (E.c y ++ E.flat xs).take (0 * E.k) ++ E.c x ++ (E.c y ++ E.flat xs).drop ((0 + 1) * E.k)
    rw [Nat.zero_mul, List.take_zero, List.nil_append, Nat.zero_add, Nat.one_mul, List.drop_append, E.len, Nat.sub_self, List.drop_zero, List.drop_eq_nil_of_le (by rw [E.len]; exact Nat.le_refl _), List.nil_append]
  | y :: xs, i + 1, x, h => by
    show E.c y ++ E.flat (xs.set i x) = (E.c y ++ E.flat xs).take ((i + 1) * E.k) ++ E.c x ++ (E.c y ++ E.flat xs).drop ((i + 1 + 1) * E.k)
    have a1 : (E.c y ++ E.flat xs).take ((i + 1) * E.k) = E.c y ++ (E.flat xs).take (i * E.k) := by
      rw [List.take_append, E.len, List.take_of_length_le (l := E.c y) (by rw [E.len, Nat.add_mul, Nat.one_mul]; omega), show (i + 1) * E.k - E.k = i * E.k by rw [Nat.add_mul, Nat.one_mul]; omega]
    have a2 : (E.c y ++ E.flat xs).drop ((i + 1 + 1) * E.k) = (E.flat xs).drop ((i + 1) * E.k) := by
      rw [List.drop_append, E.len, show (E.c y).drop ((i + 1 + 1) * E.k) = [] from List.drop_eq_nil_of_le (by rw [E.len, Nat.add_mul, Nat.one_mul]; omega), List.nil_append, show (i + 1 + 1) * E.k - E.k = (i + 1) * E.k by rw [Nat.add_mul (i + 1), Nat.one_mul]; omega]
    rw [flat_set xs i x (by simpa using h), a1, a2]
    simp only [List.append_assoc]
/-- Storing the cells of x, one by one, over element i. -/
def storeAt (W : World) (g p : Nat) : List Value → World
  | [] => W
  | v :: vs => storeAt (W.setCell ⟨g, p, none⟩ v) g (p + 1) vs
theorem owns_storeAt {base : Nat} {t : TypeId} {k g n cap : Nat} : ∀ (vs : List Value) (W : World) (p : Nat) (ls : List Value), W.ownsRow base t k (.slice (some ⟨g, 0, none⟩) n cap) n ls → p + vs.length ≤ ls.length →
    (storeAt W g p vs).ownsRow base t k (.slice (some ⟨g, 0, none⟩) n cap) n (ls.take p ++ vs ++ ls.drop (p + vs.length))
  | [], W, p, ls, h, _ => by simpa [storeAt] using h
  | v :: vs, W, p, ls, h, hp => by
    have hp' : p + (vs.length + 1) ≤ ls.length := hp
    have h1 := (h.stored p v).1
    have h2 := owns_storeAt vs (W.setCell ⟨g, p, none⟩ v) (p + 1) (ls.set p v) h1 (by rw [List.length_set]; omega)
    have e : (ls.set p v).take (p + 1) ++ vs ++ (ls.set p v).drop (p + 1 + vs.length) = ls.take p ++ (v :: vs) ++ ls.drop (p + (v :: vs).length) := by
      rw [List.take_succ_eq_append_getElem (by rw [List.length_set]; omega), List.getElem_set_self, List.take_set_of_le (Nat.le_refl _), List.drop_set_of_lt (by omega)]
      simp only [List.append_assoc, List.singleton_append, List.length_cons]
      rw [show p + 1 + vs.length = p + (vs.length + 1) by omega]
    rw [e] at h2
    exact h2
theorem Row.store {W : World} {base cap g : Nat} {t : TypeId} {xs : List α} (h : E.Row W base t (some ⟨g, 0, none⟩) cap xs) {i : Nat} (hi : i < xs.length) (x : α) :
    E.Row (storeAt W g (i * E.k) (E.c x)) base t (some ⟨g, 0, none⟩) cap (xs.set i x) := by
  unfold Row
  rw [List.length_set, E.flat_set xs i x hi]
  have h1 : (i + 1) * E.k ≤ xs.length * E.k := Nat.mul_le_mul_right _ hi
  rw [Nat.add_mul, Nat.one_mul] at h1
  have h2 := owns_storeAt (E.c x) W (i * E.k) (E.flat xs) h (by rw [E.len, E.flat_len]; exact h1)
  rw [E.len] at h2
  rw [Nat.add_mul, Nat.one_mul]
  exact h2
theorem grownBy_store (g : Nat) : ∀ (vs : List Value) (W : World) (p : Nat), W.grownBy (storeAt W g p vs) (some g)
  | [], W, p => ⟨rfl, rfl, rfl, Nat.le_refl _, fun _ _ _ => rfl⟩
  | v :: vs, W, p => World.grownBy.trans (⟨rfl, rfl, rfl, by simp [World.setCell], fun k _ hk => Below.heap_setCell _ _ _ _ (fun e => hk (by rw [e]))⟩ : W.grownBy (W.setCell ⟨g, p, none⟩ v) (some g)) (grownBy_store g vs _ _)
end Enc
end Go.Proofs.YtbgkmppngnedlabDoor
