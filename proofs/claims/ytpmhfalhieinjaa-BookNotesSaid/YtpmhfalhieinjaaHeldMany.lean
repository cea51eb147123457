/- A region that draws its order, where two or three operations are ready at once: each order walked. -/
import Derived.Test.YtpmhfalhieinjaaHeldTail
namespace Go.Proofs.Ytpmhfalhieinjaa
open Go

section
variable {P : Program} {Q : Exit → Act → World → Prop} {md : Region.Mode} {S : World → Prop} {c : Nat → Bool}

/-- What is to be shown of one operation that is ready. -/
def StepAt (P : Program) (md : Region.Mode) (l : List Oper) (Q : Exit → Act → World → Prop) (c : Nat → Bool) (S : World → Prop) (fuel : Nat) (listed : Array Bool) (a : Act) (w : World) (i : Nat) (oi : Oper) : Prop :=
  ∀ K : Act → World → Prop, Shut (∀ a' w', (c i = true → S w') → anyC P md l.toArray Q c S fuel (listed.setIfInBounds i true) a' w' → K a' w') → if Region.wanted oi (yielded l.toArray a.tmps) = true then Oper.wp P oi a w K Q else K (a.put oi.dst undef) w
theorem StepAt.wpOp {l rest : List Oper} {i : Nat} {oi : Oper} {fuel : Nat} {listed : Array Bool} {a : Act} {w : World} (hl : l.drop i = oi :: rest) (h : StepAt P md l Q c S fuel listed a w i oi) :
    wpOp P l.toArray Q i (fun a' w' => (c i = true → S w') ∧ anyC P md l.toArray Q c S fuel (listed.setIfInBounds i true) a' w') a w :=
  wpOp_step (at_drop hl) fun K' hK => h K' (fun a' w' hS hW => hK a' w' ⟨hS, hW⟩)

theorem anyL_two {l ri rj : List Oper} (i j : Nat) {oi oj : Oper} {fuel : Nat} {listed : Array Bool} {a : Act} {w : World} (hli : l.drop i = oi :: ri) (hlj : l.drop j = oj :: rj) (hr : decide (Region.ready md l.toArray listed = [i, j]) = true)
    (hi : StepAt P md l Q c S fuel listed a w i oi) (hj : StepAt P md l Q c S fuel listed a w j oj) : anyC P md l.toArray Q c S (fuel + 1) listed a w := by
  have hr' := of_decide_eq_true hr
  refine ⟨fun h0 => (by rw [hr'] at h0; cases h0), fun x hx => ?_⟩
  rw [hr'] at hx
  rcases List.mem_cons.1 hx with rfl | hx
  · exact hi.wpOp hli
  · obtain rfl := List.mem_singleton.1 hx
    exact hj.wpOp hlj
theorem anyL_three {l ri rj rk : List Oper} (i j k : Nat) {oi oj ok : Oper} {fuel : Nat} {listed : Array Bool} {a : Act} {w : World} (hli : l.drop i = oi :: ri) (hlj : l.drop j = oj :: rj) (hlk : l.drop k = ok :: rk)
    (hr : decide (Region.ready md l.toArray listed = [i, j, k]) = true)
    (hi : StepAt P md l Q c S fuel listed a w i oi) (hj : StepAt P md l Q c S fuel listed a w j oj) (hk : StepAt P md l Q c S fuel listed a w k ok) : anyC P md l.toArray Q c S (fuel + 1) listed a w := by
  have hr' := of_decide_eq_true hr
  refine ⟨fun h0 => (by rw [hr'] at h0; cases h0), fun x hx => ?_⟩
  rw [hr'] at hx
  rcases List.mem_cons.1 hx with rfl | hx
  · exact hi.wpOp hli
  · rcases List.mem_cons.1 hx with rfl | hx
    · exact hj.wpOp hlj
    · obtain rfl := List.mem_singleton.1 hx
      exact hk.wpOp hlk
end
end Go.Proofs.Ytpmhfalhieinjaa
