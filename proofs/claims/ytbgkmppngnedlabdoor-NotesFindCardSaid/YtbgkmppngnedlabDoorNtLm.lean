/- The last notes of rows, in a map. -/
import Derived.Test.YtbgkmppngnedlabDoorNtO
import Derived.Lib.SlKeysI
namespace Go.Proofs.YtbgkmppngnedlabDoor
open Go.RowKit Rec Go.Maps

def ntV (x : Nt) : Value := .agg #[.int .i64 x.r, .int .i64 x.c, .string x.p]
def ntD (x : Nt) : DataW Unit := .agg [.lit (.int .i64 x.r), .lit (.int .i64 x.c), .lit (.string x.p.data.toList)]
theorem ntV_inj {x y : Nt} (h : ntV x = ntV y) : x = y := by
  unfold ntV at h
  cases x; cases y
  simp only [Value.agg.injEq, Array.mk.injEq, List.cons.injEq, Value.int.injEq, Value.string.injEq, true_and, and_true] at h
  obtain ⟨rfl, rfl, rfl⟩ := h
  rfl
theorem ntD_inj {x y : Nt} (h : ntD x = ntD y) : x = y := by
  unfold ntD at h
  obtain ⟨r, c, p⟩ := x
  obtain ⟨r', c', p'⟩ := y
  simp only [DataW.agg.injEq, List.cons.injEq, DataW.lit.injEq, Lit.int.injEq, Lit.string.injEq, true_and, and_true] at h
  obtain ⟨rfl, rfl, h3⟩ := h
  have h4 : p = p' := ByteArray.ext (Array.ext' h3)
  rw [h4]
def ntRdL : List Value → Option (DataW Unit × List MemPlace)
  | [.int .i64 a, .int .i64 b, .string s] => some (ntD ⟨a, b, s⟩, [])
  | _ => none
def ntRd : Value → Option (DataW Unit × List MemPlace)
  | .agg cs => ntRdL cs.toList
  | _ => none
theorem ntRd_mk (x : Nt) : ntRd (ntV x) = some (ntD x, []) := rfl
theorem ntRdL_inv {cs : List Value} {y : DataW Unit × List MemPlace} (h : ntRdL cs = some y) : ∃ x : Nt, cs = [.int .i64 x.r, .int .i64 x.c, .string x.p] ∧ y = (ntD x, []) := by
  unfold ntRdL at h
  split at h
  · injection h with h
    exact ⟨⟨_, _, _⟩, rfl, h.symm⟩
  · cases h
theorem ntRd_inv {v : Value} {y : DataW Unit × List MemPlace} (h : ntRd v = some y) : ∃ x : Nt, v = ntV x ∧ y = (ntD x, []) := by
  cases v with
  | agg cs =>
    obtain ⟨x, h1, h2⟩ := ntRdL_inv h
    refine ⟨x, ?_, h2⟩
    unfold ntV
    rw [← h1]
  | _ => cases h
/-- The map of the last notes. -/
def dOf (l : List Nt) : DataW Unit := l.foldl (fun D x => D.put (.int .i64 x.r) (ntD x)) (.map [])
theorem dOf_snoc (l : List Nt) (x : Nt) : dOf (l ++ [x]) = (dOf l).put (.int .i64 x.r) (ntD x) := by unfold dOf; rw [List.foldl_append]; rfl
/-- The last note of a row. -/
def lastOf (l : List Nt) (r : Int) : Option Nt := l.reverse.find? (fun x => x.r == r)
theorem dOf_isMap : ∀ l : List Nt, IsMap (dOf l.reverse)
  | [] => ⟨[], rfl⟩
  | x :: t => by rw [List.reverse_cons, dOf_snoc]; exact (dOf_isMap t).put _ _
theorem dOf_rev (r : Int) : ∀ l : List Nt, has (dOf l.reverse) (.int .i64 r) = (lastOf l.reverse r).isSome ∧ ∀ z, (dOf l.reverse).atKey (.int .i64 r) z = ((lastOf l.reverse r).map ntD).getD z
  | [] => ⟨rfl, fun _ => rfl⟩
  | x :: t => by
    obtain ⟨h1, h2⟩ := dOf_rev r t
    unfold lastOf at h1 h2 ⊢
    rw [List.reverse_reverse] at h1 h2 ⊢
    rw [List.reverse_cons, dOf_snoc]
    by_cases hr : x.r = r
    · subst hr
      rw [List.find?_cons_of_pos (by simp)]
      exact ⟨has_put_same (dOf_isMap t) (show WideAt.IsKeyLit (.int .i64 x.r) from trivial) _, fun z => atKey_put_same (dOf_isMap t) (show WideAt.IsKeyLit (.int .i64 x.r) from trivial) _ z⟩
    · rw [List.find?_cons_of_neg (by simpa using hr)]
      have hne : (Lit.int .i64 r) ≠ .int .i64 x.r := fun e => hr (by injection e with _ e; exact e.symm)
      rw [has_put_other hne]
      exact ⟨h1, fun z => by rw [atKey_put_other hne]; exact h2 z⟩
theorem dOf_has (l : List Nt) (r : Int) : has (dOf l) (.int .i64 r) = (lastOf l r).isSome := by
  have h := (dOf_rev r l.reverse).1
  rwa [List.reverse_reverse] at h
theorem dOf_at (l : List Nt) (r : Int) (z : DataW Unit) : (dOf l).atKey (.int .i64 r) z = ((lastOf l r).map ntD).getD z := by
  have h := (dOf_rev r l.reverse).2 z
  rwa [List.reverse_reverse] at h
theorem lastOf_row {l : List Nt} {r : Int} {x : Nt} (h : lastOf l r = some x) : x.r = r ∧ x ∈ l := by
  unfold lastOf at h
  exact ⟨by simpa using List.find?_some h, List.mem_reverse.1 (List.mem_of_find?_eq_some h)⟩
theorem lastOf_some {l : List Nt} {x : Nt} (h : x ∈ l) : ∃ y, lastOf l x.r = some y := by
  unfold lastOf
  rw [← Option.isSome_iff_exists, List.find?_isSome]
  exact ⟨x, List.mem_reverse.2 h, by simp⟩
/-- Every value of a map, with its key, once. -/
def ValAt (D : DataW Unit) (p : Int × Nt) : Prop := ∀ z, D.atKey (.int .i64 p.1) z = ntD p.2
def AllOf (D : DataW Unit) (ps : List (Int × Nt)) : Prop := (ps.map (·.1)).Nodup ∧ (∀ x, x ∈ ps.map (·.1) ↔ has D (.int .i64 x) = true) ∧ ∀ p ∈ ps, ValAt D p
theorem AllOf.last {l : List Nt} {ps : List (Int × Nt)} (h : AllOf (dOf l) ps) : ∀ p ∈ ps, lastOf l p.1 = some p.2 := fun p hp => by
  have h1 := h.2.2 p hp
  have h2 := (h.2.1 p.1).1 (List.mem_map.2 ⟨p, hp, rfl⟩)
  rw [dOf_has, Option.isSome_iff_exists] at h2
  obtain ⟨y, hy⟩ := h2
  have h3 := h1 (.map [])
  rw [dOf_at, hy] at h3
  rw [hy, ntD_inj h3]
theorem intKeyed : Keyed Tryd.prog 3 := int_keyed Tryd.underlying3
theorem keyI {r : Int} (h : WfI r) : keyOf Tryd.prog 3 (.int .i64 r) = some (.int .i64 r) := by
  have hi := Tryd.underlying3
  unfold WfI at h
  simp [keyOf, hi, mapKey, h]
/-- The map of the last of these notes. -/
def MapL (W : World) (b n : Nat) (l : List Nt) : Prop := W.ownsMap Tryd.prog 3 ntRd b n (dOf l)
theorem MapL.made (W : World) : MapL (W.alloc (.map #[] 0)) W.heap.size 0 [] := World.ownsMap_made W _ _ _
theorem MapL.below {W W' : World} {b n : Nat} {l : List Nt} (h : MapL W b n l) (hb : Below W.heap.size W W') : MapL W' b n l :=
  h.kept (row := none) ⟨hb.os, hb.tape, hb.output, hb.size, fun k hk _ => hb.block k hk⟩ (by simp)
theorem MapL.lt {W : World} {b n : Nat} {l : List Nt} (h : MapL W b n l) : b < W.heap.size := World.ownsMap.lt h
theorem MapL.step {W : World} {b n : Nat} {l : List Nt} (h : MapL W b n l) (hn : n < maxLen) {x : Nt} (hx : WfI x.r) :
    ∃ W', (Instr.mapUpdate 52 (.map (some b)) (.int .i64 x.r) (ntV x)).run Tryd.prog W = .ok () W' ∧ MapL W' b (n + 1) (l ++ [x]) ∧ W.grownBy W' (some b) := by
  obtain ⟨W', h1, h2, h3⟩ := World.ownsMap.update h intKeyed Tryd.underlying52 hn (keyI hx) (ntRd_mk x)
  exact ⟨W', h1, by unfold MapL; rw [dOf_snoc]; exact h2, h3⟩
end Go.Proofs.YtbgkmppngnedlabDoor
