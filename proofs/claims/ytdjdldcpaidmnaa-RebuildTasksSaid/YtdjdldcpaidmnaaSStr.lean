/- Slices of texts of the call's own. -/
import Derived.Test.YtdjdldcpaidmnaaMGeo
import Derived.Maps.AppendAt
import Derived.Deep.AppendLies
import Derived.Laws.OwnMore
import Derived.OwnWalk
namespace Go.Proofs.Ytdjdldcpaidmnaa
open Go.RowKit
theorem infoStr : (Try.prog.info? 9).map (fun i => (i.zero, i.size, i.bytes)) = some (some (.string ByteArray.empty), 1, 16) := by kernel_rfl
/-- A slice of the call's own that reads as a list of texts. -/
def Row (W : World) (base : Nat) (A : Option Addr) (cap : Nat) (ps : List ByteArray) : Prop := W.ownsRow base 9 1 (.slice A ps.length cap) ps.length (ps.map Value.string)
theorem Row.form {W : World} {base cap : Nat} {A : Option Addr} {ps : List ByteArray} (h : Row W base A cap ps) : (A = none ∧ cap = 0 ∧ ps = []) ∨ ∃ g, A = some ⟨g, 0, none⟩ ∧ base ≤ g ∧ g < W.heap.size := by
  rcases h.2 with ⟨hv, h0⟩ | ⟨g, cap', cur, hv, hb, hg, _⟩
  · simp only [Value.slice.injEq] at hv
    exact .inl ⟨hv.1, hv.2.2, List.eq_nil_of_length_eq_zero h0⟩
  · simp only [Value.slice.injEq] at hv
    exact .inr ⟨g, hv.1, hb, (Array.getElem?_eq_some_iff.1 hg).1⟩
theorem Row.none_cap {W : World} {base cap : Nat} {A : Option Addr} {ps : List ByteArray} (h : Row W base A cap ps) : A = none → cap = 0 := by
  rcases h.form with h | ⟨g, h, _⟩
  · exact fun _ => h.2.1
  · intro e; rw [h] at e; cases e
theorem Row.strs {W : World} {base cap : Nat} {A : Option Addr} {ps : List ByteArray} (h : Row W base A cap ps) : StrsIn W A ps := by
  rcases h.form with h0 | ⟨g, rfl, _, hlt⟩
  · exact .inl h0.2.2
  · refine .inr ⟨g, 0, rfl, hlt, fun i hi => ?_⟩
    have h1 := h.cellAt i (by omega)
    rw [Nat.zero_add, h1, List.getElem?_map, List.getElem?_eq_getElem hi]
    rfl
theorem Row.nil (W : World) (base : Nat) : Row W base none 0 [] := World.ownsRow_nil _ _ _ _
theorem Row.fresh {W : World} {base : Nat} (hb : base ≤ W.heap.size) : Row (W.alloc (.cells #[] 9)) base (some ⟨W.heap.size, 0, none⟩) 0 [] :=
  World.ownsRow_made W #[] 0 hb (by unfold maxLen; omega) rfl
theorem Row.alloc {W : World} {base cap : Nat} {A : Option Addr} {ps : List ByteArray} (h : Row W base A cap ps) (o : Obj) : Row (W.alloc o) base A cap ps := World.ownsRow.alloc h o
theorem Row.below {W W' : World} {base cap : Nat} {A : Option Addr} {ps : List ByteArray} (h : Row W base A cap ps) (hb : Below W.heap.size W W') : Row W' base A cap ps := by
  refine ⟨h.1, ?_⟩
  rcases h.2 with hn | ⟨g, cap', cur, hv, hg, hgg, rest⟩
  · exact .inl hn
  · exact .inr ⟨g, cap', cur, hv, hg, by rw [hb.block g (Array.getElem?_eq_some_iff.1 hgg).1]; exact hgg, rest⟩
/-- Another row was appended to. -/
theorem Row.kept {W W' : World} {base cap cap2 n2 : Nat} {A A2 : Option Addr} {ps : List ByteArray} (h : Row W base A cap ps) (hg : W.grownBy W' (Value.ownBlock (.slice A2 n2 cap2))) (hne : A = none ∨ A ≠ A2)
    (h2 : A2 = none ∨ ∃ g, A2 = some ⟨g, 0, none⟩) : Row W' base A cap ps := by
  refine World.ownsRow.kept h hg ?_
  rcases h.form with ⟨rfl, _⟩ | ⟨g, rfl, _⟩
  · left; rfl
  · rcases h2 with rfl | ⟨g2, rfl⟩
    · right; simp [Value.ownBlock]
    · right
      rcases hne with h | h
      · cases h
      · simp only [Value.ownBlock]
        intro e
        exact h (by rw [Option.some.inj e])
theorem strs_cells {W : World} {ad : Addr} {ps : List ByteArray} (h : StrsIn W (some ad) ps) : ∀ j u, (ps.map Value.string)[j]? = some u → W.cell? (ad.add j) = some u := by
  intro j u hu
  rcases h with rfl | ⟨b, off, he, _, hc⟩
  · simp at hu
  · obtain rfl := Option.some.inj he
    rw [List.getElem?_map] at hu
    by_cases hj : j < ps.length
    · rw [List.getElem?_eq_getElem hj] at hu
      simp only [Option.map_some, Option.some.injEq] at hu
      have h2 : (⟨b, off, none⟩ : Addr).add j = ⟨b, off + j, none⟩ := Go.WideShapes.add_plain _ _ _
      rw [h2, hc j hj, hu]
    · rw [List.getElem?_eq_none (by omega)] at hu
      cases hu
/-- append of texts to a row of the call's own. -/
theorem append_row {W : World} {base cap cap2 : Nat} {A A2 : Option Addr} {xs ps : List ByteArray} (hr : Row W base A cap xs) (hS : StrsIn W A2 ps) (hN : A2 = none → cap2 = 0) (hl : xs.length + ps.length ≤ 100000) (hb : base ≤ W.heap.size) (ty : TypeId) :
    ∃ A' cap' W', (Builtin.append_ #[40, 40] ty #[.slice A xs.length cap, .slice A2 ps.length cap2]).run Try.prog W = .ok (.slice A' (xs ++ ps).length cap') W' ∧ Row W' base A' cap' (xs ++ ps) ∧
      W.grownBy W' (Value.ownBlock (.slice A xs.length cap)) ∧ (A' = A ∨ A' = some ⟨W.heap.size, 0, none⟩) := by
  obtain ⟨i0, hi, hz0, hz1, hz2⟩ := info_parts infoStr
  cases A2 with
  | none =>
    obtain rfl := hN rfl
    have hps : ps = [] := by
      rcases hS with h | ⟨b, off, h, _⟩
      · exact h
      · cases h
    subst hps
    refine ⟨A, cap, W, ?_, ?_, World.grownBy.refl W _, .inl rfl⟩
    · rw [List.append_nil]
      exact run_append_owned_none W base 40 ty 9 i0 1 Try.underlying40 hi _ _ _ hr
    · rw [List.append_nil]; exact hr
  | some ad =>
    obtain ⟨v', w', h1, h2, h3, h4, h5⟩ := run_append_own_at (P := Try.prog) W base 40 ty 9 i0 (.string ByteArray.empty) 1 16 Try.underlying40 hi hz0 hz1 hz2 rfl (by decide) _ _ _ hr ad ps.length cap2 (ps.map Value.string) (by simp) (strs_cells hS)
      (by intro u hu; obtain ⟨p, _, rfl⟩ := List.mem_map.1 hu; rfl) (by unfold maxLen; omega) (by omega) hb
    rw [← List.map_append] at h2
    have hlen : xs.length + ps.length = (xs ++ ps).length := (List.length_append ..).symm
    rcases h2.2 with ⟨hv, h0⟩ | ⟨g, cap', cur, hv, hrest⟩
    · obtain ⟨hA, hm⟩ := h4.1 hv
      have hxs : xs = [] := List.eq_nil_of_length_eq_zero (by omega)
      have hps : ps = [] := List.eq_nil_of_length_eq_zero (by omega)
      subst hxs; subst hps
      simp only [Value.slice.injEq] at hA
      refine ⟨none, 0, w', ?_, World.ownsRow_nil _ _ _ _, h3, .inl hA.1.symm⟩
      rw [h1, hv]; rfl
    · subst hv
      refine ⟨some ⟨g, 0, none⟩, cap', w', by rw [h1, hlen], by rw [hlen] at h2; exact h2, h3, ?_⟩
      rcases h5 with h5 | h5
      · left
        rcases hr.form with ⟨rfl, _⟩ | ⟨g0, rfl, _⟩
        · simp [Value.ownBlock] at h5
        · simp only [Value.ownBlock, Option.some.injEq] at h5
          rw [h5]
      · right
        simp only [Value.ownBlock, Option.some.injEq] at h5
        rw [h5]
/-- What stood ahead of the call stands. -/
theorem below_row {W W' : World} {base cap : Nat} {A : Option Addr} {xs : List ByteArray} (hr : Row W base A cap xs) (hg : W.grownBy W' (Value.ownBlock (.slice A xs.length cap))) (hb : base ≤ W.heap.size) : Below base W W' :=
  (Below.refl _ _).grown hg hb fun _ e => (World.ownsRow.lt hr _ e).1
theorem strs_one (W : World) (x : ByteArray) : StrsIn (W.alloc (.cells #[.string x] 9)) (some ⟨W.heap.size, 0, none⟩) [x] := .inr ⟨W.heap.size, 0, rfl, by simp, fun i hi => by
  match i, hi with
  | 0, _ => go_simp⟩
/-- At an append whose run is known. -/
theorem wpList_append_run {P : Program} {ops : Array Oper} {rest : List Oper} {o : Oper} {a : Act} {w w' : World} {Q : Exit → Act → World → Prop} (hw : Region.wanted o (yielded ops a.tmps) = true) (s x : Operand) (t : TypeId)
    (ho : o.op = .call { callee := .builtin .append, args := #[s, x], argTypes := #[t, t] }) {vs vx r : Value} (hs : a.eval s = vs) (hx : a.eval x = vx) (hrun : (Builtin.append_ #[t, t] o.type #[vs, vx]).run P w = .ok r w')
    (h : wpList P ops Q rest (a.put o.dst r) w') : wpList P ops Q (o :: rest) a w :=
  wpList_step fun K hK => by
    rw [if_pos hw]
    unfold Oper.wp execOp
    simp only [ho, resolve, invoke, builtin, Sem.run_bind, Sem.run_pure, Result.andThen_ok, List.map_toArray, List.map_cons, List.map_nil, hs, hx, hrun]
    exact hK _ _ h
/-- The same at a step of a region that draws its order. -/
theorem step_append_run {P : Program} {ops : Array Oper} {o : Oper} {a : Act} {w w' : World} {K : Act → World → Prop} {Q : Exit → Act → World → Prop} {E : Prop} (hg : o.guard = none) (s x : Operand) (t : TypeId)
    (ho : o.op = .call { callee := .builtin .append, args := #[s, x], argTypes := #[t, t] }) {vs vx r : Value} (hs : a.eval s = vs) (hx : a.eval x = vx) (hrun : (Builtin.append_ #[t, t] o.type #[vs, vx]).run P w = .ok r w')
    (h : K (a.put o.dst r) w') : if Region.wanted o (yielded ops a.tmps) = true then Oper.wp P o a w K Q else E := by
  have hw : Region.wanted o (yielded ops a.tmps) = true := by simp [Region.wanted, hg]
  rw [if_pos hw]
  unfold Oper.wp execOp
  simp only [ho, resolve, invoke, builtin, Sem.run_bind, Sem.run_pure, Result.andThen_ok, List.map_toArray, List.map_cons, List.map_nil, hs, hx, hrun]
  exact h
theorem strs_of_cell {W : World} {m : Nat} {x : ByteArray} (h : W.cell? ⟨m, 0, none⟩ = some (.string x)) : StrsIn W (some ⟨m, 0, none⟩) [x] := .inr ⟨m, 0, rfl, lt_of_cell h, fun i hi => by
  match i, hi with
  | 0, _ => exact h⟩
theorem strs_of_two {W : World} {m : Nat} {x y : ByteArray} (h : W.cell? ⟨m, 0, none⟩ = some (.string x)) (h2 : W.cell? ⟨m, 1, none⟩ = some (.string y)) : StrsIn W (some ⟨m, 0, none⟩) [x, y] := .inr ⟨m, 0, rfl, lt_of_cell h, fun i hi => by
  match i, hi with
  | 0, _ => exact h
  | 1, _ => exact h2⟩
end Go.Proofs.Ytdjdldcpaidmnaa
