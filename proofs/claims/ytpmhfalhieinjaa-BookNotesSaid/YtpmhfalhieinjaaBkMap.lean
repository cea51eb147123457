/- The map of the newest records: what a look-up and a store do. -/
import Derived.Test.YtpmhfalhieinjaaBkWalks
import Derived.Test.YtpmhfalhieinjaaRcD
import Derived.Maps.OwnSet
import Derived.DeepKeys4
import Derived.WideKeyArgs
namespace Go.Proofs.Ytpmhfalhieinjaa
open Go.RowKit Rec Bk Go.Maps

theorem subRow : (76 : TypeId) < Try.prog.types.size := of_decide_eq_true (by kernel_rfl)
theorem subWide : (match Try.prog.underlying 76 with | some (.array _ _) | some (.struct _) => true | _ => false) = true := by kernel_rfl
theorem laidOutP : laidOutB Try.prog = true := by kernel_rfl
theorem subLaw : Keyed Try.prog 76 := Keyed.of_law (deep_law_laid laidOutP (m := 2) (by omega) subRow (by kernel_rfl) subWide)
def WfI (n : Int) : Prop := (Lit.int .i64 n).wf = true
def kLit (u : Int × Int) : Lit := .string (keyBytes [.int .i64 u.1, .int .i64 u.2])
theorem subKey {k s : Int} (hk : WfI k) (hs : WfI s) : keyOf Try.prog 76 (.agg #[.int .i64 k, .int .i64 s]) = some (kLit (k, s)) := by
  have hkt : Try.prog.keyType 76 = true := by kernel_rfl
  have hsz : ∃ m, Try.prog.types.size = m + 1 := Nat.exists_eq_succ_of_ne_zero (fun e => by have := subRow; rw [e] at this; exact absurd this (Nat.not_lt_zero _))
  obtain ⟨m, hm⟩ := hsz
  unfold WfI at hk hs
  have hc : Try.prog.cellsOf 76 = 2 := by kernel_rfl
  have hc3 : Try.prog.cellsOf 3 = 1 := by kernel_rfl
  have hu := Try.underlying76
  have hi := Try.underlying3
  unfold keyOf
  simp only [hu]
  rw [if_pos (by simp [hkt, Value.formed, hu, hc]), hm]
  unfold Program.keyLits
  simp only [hu, Value.cells]
  rw [if_pos (by rw [hc]; exact ⟨rfl, by kernel_rfl⟩)]
  simp [hc3, Program.keyLits, hi, hk, hs, kLit]
/-- How a record reads as an element. -/
def recD (x : Rc) : DataW Unit := .agg [.lit (.int .i64 x.k), .lit (.int .i64 x.s), .lit (.int .i64 x.a), .lit (.int .i64 x.b), .lit (.int .i64 x.c), .lit (.int .i64 x.d), .lit (.string x.body.data.toList)]
def recV : List Value → Option Rc
  | [.int .i64 k, .int .i64 s, .int .i64 a, .int .i64 b, .int .i64 c, .int .i64 d, .string t] => some ⟨k, s, a, b, c, d, t⟩
  | _ => none
def recElem (v : Value) : Option (DataW Unit × List MemPlace) := match v with
  | .agg cs => (recV cs.toList).map fun x => (recD x, [])
  | _ => none
theorem recElem_mk (x : Rc) : recElem (.agg #[.int .i64 x.k, .int .i64 x.s, .int .i64 x.a, .int .i64 x.b, .int .i64 x.c, .int .i64 x.d, .string x.body]) = some (recD x, []) := rfl
theorem recD_inj {x y : Rc} (h : recD x = recD y) : x = y := by
  obtain ⟨k, s, a, b, c, d, t⟩ := x
  obtain ⟨k', s', a', b', c', d', t'⟩ := y
  unfold recD at h
  simp only [DataW.agg.injEq, List.cons.injEq, DataW.lit.injEq, Lit.int.injEq, Lit.string.injEq, true_and, and_true] at h
  obtain ⟨h0, h1, h2, h3, h4, h5, h6⟩ := h
  subst h0; subst h1; subst h2; subst h3; subst h4; subst h5
  rw [ByteArray.ext (Array.ext' h6)]
theorem recV_some {l : List Value} {x : Rc} (h : recV l = some x) : l = [.int .i64 x.k, .int .i64 x.s, .int .i64 x.a, .int .i64 x.b, .int .i64 x.c, .int .i64 x.d, .string x.body] := by
  unfold recV at h
  split at h
  · cases h; rfl
  · cases h
theorem recElem_inv {v : Value} {x : Rc} {ps : List MemPlace} (h : recElem v = some (recD x, ps)) : v = .agg #[.int .i64 x.k, .int .i64 x.s, .int .i64 x.a, .int .i64 x.b, .int .i64 x.c, .int .i64 x.d, .string x.body] := by
  unfold recElem at h
  split at h
  · rename_i cs
    rw [Option.map_eq_some_iff] at h
    obtain ⟨y, hy, e⟩ := h
    obtain rfl := recD_inj (Prod.mk.inj e).1
    have h1 := recV_some hy
    congr 1
    exact Array.ext' h1
  · cases h
theorem recZero (W : World) : (zeroValue 53).run Try.prog W = .ok (.agg #[.int .i64 0, .int .i64 0, .int .i64 0, .int .i64 0, .int .i64 0, .int .i64 0, .string ⟨#[]⟩]) W := by kernel_rfl
/-- Block b is the map of the newest records of l, of each subject. -/
def MapIs (W : World) (b n : Nat) (l : List Rc) : Prop := ∃ D : DataW Unit, W.ownsMap Try.prog 76 recElem b n D ∧ ∀ k s, WfI k → WfI s →
  Maps.has D (kLit (k, s)) = (found l (k, s)).isSome ∧ D.atKey (kLit (k, s)) (recD zeroR) = recD (fnd l (k, s))
theorem MapIs.made (W : World) : MapIs (W.alloc (.map #[] 0)) W.heap.size 0 [] := ⟨_, World.ownsMap_made W _ _ _, fun _ _ _ _ => ⟨rfl, rfl⟩⟩
theorem MapIs.kept {W W' : World} {b n : Nat} {l : List Rc} {o : Option Nat} (h : MapIs W b n l) (hg : W.grownBy W' o) (hne : some b ≠ o) : MapIs W' b n l := by
  obtain ⟨D, h1, h2⟩ := h
  exact ⟨D, h1.kept hg hne, h2⟩
theorem MapIs.below {W W' : World} {b n : Nat} {l : List Rc} (h : MapIs W b n l) (hb : Below W.heap.size W W') : MapIs W' b n l :=
  h.kept (o := none) ⟨hb.os, hb.tape, hb.output, hb.size, fun k hk _ => hb.block k hk⟩ (by simp)
theorem MapIs.lt {W : World} {b n : Nat} {l : List Rc} (h : MapIs W b n l) : b < W.heap.size := by obtain ⟨D, h1, _⟩ := h; exact h1.lt
theorem kLit_inj {k s k' s' : Int} (hk : WfI k) (hs : WfI s) (hk' : WfI k') (hs' : WfI s') (h : kLit (k, s) = kLit (k', s')) : k = k' ∧ s = s' := by
  have h1 := subKey hk hs
  have h2 := subKey hk' hs'
  rw [h] at h1
  have h3 := subLaw.inj h1 h2
  simp only [Value.agg.injEq, Array.mk.injEq, List.cons.injEq, Value.int.injEq, true_and, and_true] at h3
  exact h3
/-- A look-up with ok. -/
theorem wpList_look {W : World} {ops : Array Oper} {rest : List Oper} {o : Oper} {a : Act} {Q : Exit → Act → World → Prop} (hg : o.guard = none) (m x : Operand) (hop : o.op = Op.lookup 71 m x true)
    {b n : Nat} {l : List Rc} (h : MapIs W b n l) (hm : a.eval m = .map (some b)) {k s : Int} (hk : WfI k) (hs : WfI s) (hx : a.eval x = .agg #[.int .i64 k, .int .i64 s])
    (hK : wpList Try.prog ops Q rest (a.put o.dst (.tuple #[.agg #[.int .i64 (fnd l (k, s)).k, .int .i64 (fnd l (k, s)).s, .int .i64 (fnd l (k, s)).a, .int .i64 (fnd l (k, s)).b, .int .i64 (fnd l (k, s)).c, .int .i64 (fnd l (k, s)).d, .string (fnd l (k, s)).body], .bool (found l (k, s)).isSome])) W) :
    wpList Try.prog ops Q (o :: rest) a W := by
  refine wpList_plain hg fun K' hK' => ?_
  obtain ⟨D, h1, h2⟩ := h
  obtain ⟨e1, e2⟩ := h2 k s hk hs
  obtain ⟨v, ps, hrun, hv⟩ := h1.look_ok subLaw Try.underlying71 (recZero W) (zd := recD zeroR) (zp := []) rfl (subKey hk hs)
  rw [e2] at hv
  rw [e1] at hrun
  obtain rfl := recElem_inv hv
  unfold Oper.wp
  simp [execOp, hop, hm, hx, hrun, Result.andThen]
  exact hK' _ _ hK
theorem wpList_look2 {W : World} {ops : Array Oper} {rest : List Oper} {o : Oper} {a : Act} {Q : Exit → Act → World → Prop} (hg : o.guard = none) (m x : Operand) (hop : o.op = Op.lookup 71 m x true)
    {b n : Nat} {l : List Rc} (h : MapIs W b n l) (hm : a.eval m = .map (some b)) {k s : Int} (hk : WfI k) (hs : WfI s) (hx : a.eval x = .agg #[.int .i64 k, .int .i64 s]) {y : Rc} {t : Bool} (hy : y = fnd l (k, s)) (ht : t = (found l (k, s)).isSome)
    (hK : wpList Try.prog ops Q rest (a.put o.dst (.tuple #[.agg #[.int .i64 y.k, .int .i64 y.s, .int .i64 y.a, .int .i64 y.b, .int .i64 y.c, .int .i64 y.d, .string y.body], .bool t])) W) :
    wpList Try.prog ops Q (o :: rest) a W := by
  subst hy
  subst ht
  exact wpList_look hg m x hop h hm hk hs hx hK
theorem fnd_snoc_other {l : List Rc} {x : Rc} {u : Int × Int} (h : sub x ≠ u) : found (l ++ [x]) u = found l u := by
  unfold found
  rw [best_snoc]
  unfold bestF
  rw [if_neg (by unfold about; simpa using h)]
theorem fnd_snoc_same {l : List Rc} {x : Rc} : found (l ++ [x]) (sub x) = better (found l (sub x)) x := by
  unfold found
  rw [best_snoc]
  unfold bestF
  rw [if_pos (by unfold about; simp)]
theorem MapIs.skip {W : World} {b n : Nat} {l : List Rc} {x : Rc} (h : MapIs W b n l) (h1 : (found l (sub x)).isSome = true) (h2 : ¬ (fnd l (sub x)).s < x.s) : MapIs W b (n + 1) (l ++ [x]) := by
  obtain ⟨D, h3, h4⟩ := h
  refine ⟨D, h3.mono (Nat.le_succ n), fun k s hk hs => ?_⟩
  have e : found (l ++ [x]) (k, s) = found l (k, s) := by
    by_cases he : sub x = (k, s)
    · rw [← he, fnd_snoc_same]
      unfold fnd at h2
      cases hf : found l (sub x) with
      | none => rw [hf] at h1; cases h1
      | some y =>
        rw [hf] at h2
        exact if_neg h2
    · exact fnd_snoc_other he
  unfold fnd
  rw [e]
  exact h4 k s hk hs
/-- A store. -/
theorem wpList_put {W : World} {ops : Array Oper} {rest : List Oper} {o : Oper} {a : Act} {Q : Exit → Act → World → Prop} (hg : o.guard = none) (m x v : Operand) (hop : o.op = Op.mapUpdate 71 m x v)
    {b n : Nat} {l : List Rc} (h : MapIs W b n l) (hm : a.eval m = .map (some b)) (hn : n < maxLen) {r : Rc} (hk : WfI (sub r).1) (hs : WfI (sub r).2) (hx : a.eval x = .agg #[.int .i64 (sub r).1, .int .i64 (sub r).2])
    (hv : a.eval v = .agg #[.int .i64 r.k, .int .i64 r.s, .int .i64 r.a, .int .i64 r.b, .int .i64 r.c, .int .i64 r.d, .string r.body]) (hlt : (found l (sub r)).isSome = true → (fnd l (sub r)).s < r.s)
    (hK : ∀ W', MapIs W' b (n + 1) (l ++ [r]) → W.grownBy W' (some b) → wpList Try.prog ops Q rest (a.put o.dst undef) W') :
    wpList Try.prog ops Q (o :: rest) a W := by
  refine wpList_plain hg fun K' hK' => ?_
  obtain ⟨D, h1, h2⟩ := h
  obtain ⟨W', hrun, r1, r2⟩ := h1.update subLaw Try.underlying71 hn (subKey hk hs) (recElem_mk r)
  unfold Oper.wp
  simp [execOp, hop, hm, hx, hv, hrun, Result.andThen]
  refine hK' _ _ (hK W' ⟨_, r1, fun k s hk' hs' => ?_⟩ r2)
  have hkey : WideAt.IsKeyLit (kLit ((sub r).1, (sub r).2)) := subLaw.key (subKey hk hs)
  by_cases he : sub r = (k, s)
  · have e1 : found (l ++ [r]) (k, s) = some r := by
      rw [← he, fnd_snoc_same]
      unfold fnd at hlt
      cases hf : found l (sub r) with
      | none => rfl
      | some y =>
        rw [hf] at hlt
        exact if_pos (hlt rfl)
    have e2 : ((sub r).1, (sub r).2) = (k, s) := he
    rw [e2] at hkey ⊢
    unfold fnd
    rw [e1]
    exact ⟨has_put_same h1.isMap hkey _, atKey_put_same h1.isMap hkey _ _⟩
  · have hne : kLit (k, s) ≠ kLit ((sub r).1, (sub r).2) := fun e => he (by
      obtain ⟨e1, e2⟩ := kLit_inj hk' hs' hk hs e
      rw [e1, e2])
    unfold fnd
    rw [fnd_snoc_other he, has_put_other hne, atKey_put_other hne]
    exact h2 k s hk' hs'
end Go.Proofs.Ytpmhfalhieinjaa
