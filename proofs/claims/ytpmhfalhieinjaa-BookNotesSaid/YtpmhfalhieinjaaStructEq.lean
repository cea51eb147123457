/- Structs compared field by field. -/
import Derived.Test.YtpmhfalhieinjaaKit
import Derived.Laws.StructEq
namespace Go.Proofs.Ytpmhfalhieinjaa
open Go.RowKit

section
variable {P : Program}
/-- What of a field is looked at. -/
def fKey (f : Field) : TypeId × Nat × Bool := (f.type, f.offset, f.name != "_")
theorem eqF_nil (d : Nat) (xs ys : Array Value) (w : World) : (Op.eqFields d xs ys []).run P w = .ok true w := by simp [Op.eqFields]
theorem eqF_cons {d : Nat} {xs ys : Array Value} {f : Field} {fs : List Field} {w : World} {t : TypeId} {o : Nat} {a b : Value} {r : Bool} (hk : fKey f = (t, o, true)) (ha : (part t xs o).run P w = .ok a w) (hb : (part t ys o).run P w = .ok b w)
    (hr : (Op.equalIn d t a b).run P w = .ok r w) : (Op.eqFields d xs ys (f :: fs)).run P w = if r = true then (Op.eqFields d xs ys fs).run P w else .ok false w := by
  unfold fKey at hk
  simp only [Prod.mk.injEq] at hk
  obtain ⟨h1, h2, h3⟩ := hk
  subst h1; subst h2
  have h3' : f.name ≠ "_" := by simpa using h3
  simp only [Op.eqFields, if_pos h3', Sem.run_bind, ha, hb, hr, Result.andThen_ok, Sem.run_ite]
  cases r <;> simp
theorem struct_two {t : TypeId} {k0 k1 : TypeId × Nat × Bool} (h : (P.fieldsOf t).toList.map fKey = [k0, k1]) : ∃ f0 f1, (P.fieldsOf t).toList = [f0, f1] ∧ fKey f0 = k0 ∧ fKey f1 = k1 := by
  generalize (P.fieldsOf t).toList = l at h
  match l, h with
  | [a, b], h => simp at h; exact ⟨a, b, rfl, h.1, h.2⟩
theorem struct_seven {t : TypeId} {k0 k1 k2 k3 k4 k5 k6 : TypeId × Nat × Bool} (h : (P.fieldsOf t).toList.map fKey = [k0, k1, k2, k3, k4, k5, k6]) :
    ∃ f0 f1 f2 f3 f4 f5 f6, (P.fieldsOf t).toList = [f0, f1, f2, f3, f4, f5, f6] ∧ fKey f0 = k0 ∧ fKey f1 = k1 ∧ fKey f2 = k2 ∧ fKey f3 = k3 ∧ fKey f4 = k4 ∧ fKey f5 = k5 ∧ fKey f6 = k6 := by
  generalize (P.fieldsOf t).toList = l at h
  match l, h with
  | [a, b, c, d, e, f, g], h => simp at h; exact ⟨a, b, c, d, e, f, g, rfl, h.1, h.2.1, h.2.2.1, h.2.2.2.1, h.2.2.2.2.1, h.2.2.2.2.2.1, h.2.2.2.2.2.2⟩
theorem eql_of {t : TypeId} {xs ys : Array Value} {w : World} {r : Bool} (hf : P.underlying t = some (.struct (P.fieldsOf t))) (hs : P.stoodInHeld t = false) (h : (Op.eqFields 9999 xs ys (P.fieldsOf t).toList).run P w = .ok r w) :
    (binOp .eql t (.agg xs) (.agg ys)).run P w = .ok (.bool r) w ∧ (binOp .neq t (.agg xs) (.agg ys)).run P w = .ok (.bool (!r)) w := by
  rw [run_eql_struct, run_neq_struct, run_equalIn_struct w 9999 t xs ys hf hs, h]
  exact ⟨rfl, rfl⟩
end
end Go.Proofs.Ytpmhfalhieinjaa
