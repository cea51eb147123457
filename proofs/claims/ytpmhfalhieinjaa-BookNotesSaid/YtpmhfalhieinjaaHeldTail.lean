/- A region that draws its order, whose last operations store what its loads have read: loads first under a condition that need not hold behind those last ones. -/
import Derived.OrdersHeld
import Derived.StillTail
import Derived.Deep.RegionHeld
namespace Go.Proofs.Ytpmhfalhieinjaa
open Go

section
variable {P : Program} {ops : Array Oper} {Q : Exit → Act → World → Prop} {md : Region.Mode} {S : World → Prop} {c : Nat → Bool}

/-- Whatever order is picked from here on; behind each operation of which c speaks S holds. -/
def anyC (P : Program) (md : Region.Mode) (ops : Array Oper) (Q : Exit → Act → World → Prop) (c : Nat → Bool) (S : World → Prop) : Nat → Array Bool → Act → World → Prop
  | 0, listed, a, w => Region.ready md ops listed = [] ∧ Q .normal a w
  | fuel + 1, listed, a, w =>
    (Region.ready md ops listed = [] → Q .normal a w) ∧
    ∀ i ∈ Region.ready md ops listed, wpOp P ops Q i (fun a' w' => (c i = true → S w') ∧ anyC P md ops Q c S fuel (listed.setIfInBounds i true) a' w') a w

theorem any_of_anyC : ∀ (fuel : Nat) (listed : Array Bool) (a : Act) (w : World), anyC P md ops Q c S fuel listed a w → wpAny P md ops Q fuel listed a w
  | 0, _, _, _, h => h
  | fuel + 1, _, _, _, h => ⟨h.1, fun i hi => wpOp_mono (fun a' w' h' => any_of_anyC fuel _ a' w' h'.2) (h.2 i hi)⟩

/-- With an operation all that it waits for is listed. -/
def ClosedL (md : Region.Mode) (ops : Array Oper) (listed : Array Bool) : Prop := ∀ j oj, ops[j]? = some oj → listed.getD j false = true → ∀ e ∈ oj.after, Region.binds md e = true → listed.getD e.on false = true
def closedB (md : Region.Mode) (ops : Array Oper) (listed : Array Bool) : Bool :=
  (List.range ops.size).all fun j => !(listed.getD j false) || match ops[j]? with
    | some oj => oj.after.all fun e => !Region.binds md e || listed.getD e.on false
    | none => true
theorem closedB_spec {listed : Array Bool} (h : closedB md ops listed = true) : ClosedL md ops listed := fun j oj hj hl e he hb => by
  have h1 := List.all_eq_true.1 h j (List.mem_range.2 (Array.getElem?_eq_some_iff.1 hj).1)
  simp only [hj, hl, Bool.not_true, Bool.false_or] at h1
  have h2 := Array.all_eq_true_iff_forall_mem.1 h1 e he
  simpa [hb] using h2
theorem ClosedL.set {i : Nat} {listed : Array Bool} (h : ClosedL md ops listed) (hi : i ∈ Region.ready md ops listed) : ClosedL md ops (listed.setIfInBounds i true) := fun j oj hj hl e he hb => by
  obtain ⟨_, oi, hoi, hall⟩ := mem_ready.1 hi
  by_cases hij : i = j
  · subst hij
    have : oj = oi := Option.some.inj (hj.symm.trans hoi)
    subst this
    exact getD_set_true (hall e he hb)
  · rw [getD_set_ne false hij] at hl
    exact getD_set_true (h j oj hj hl e he hb)
/-- j waits for i, by way of others. -/
def deepW (md : Region.Mode) (ops : Array Oper) : Nat → Nat → Nat → Bool
  | 0, j, i => Region.waitsFor md ops j i
  | f + 1, j, i => Region.waitsFor md ops j i || (List.range ops.size).any fun m => Region.waitsFor md ops j m && deepW md ops f m i
theorem deepW_listed {i : Nat} {listed : Array Bool} (hc : ClosedL md ops listed) : ∀ (f j : Nat), deepW md ops f j i = true → (∀ m, Region.waitsFor md ops j m = true → listed.getD m false = true) → listed.getD i false = true
  | 0, _, h, hj => hj _ h
  | f + 1, j, h, hj => by
    simp only [deepW, Bool.or_eq_true] at h
    rcases h with h | h
    · exact hj _ h
    · obtain ⟨m, _, hm⟩ := List.any_eq_true.1 h
      simp only [Bool.and_eq_true] at hm
      refine deepW_listed hc f m hm.2 fun m' hm' => ?_
      obtain ⟨om, hom, e, he, hb, hon⟩ := Region.waitsFor_spec hm'
      have := hc m om hom (hj m hm.1) e he hb
      rwa [hon] at this
/-- Those of which c does not speak wait for number i. -/
def cWaits (md : Region.Mode) (ops : Array Oper) (c : Nat → Bool) (i : Nat) : Bool := (List.range ops.size).all fun j => c j || deepW md ops ops.size j i

theorem anyC_first {i : Nat} {oi : Oper} {v : Value} (hi : ops[i]? = some oi) (hsel : ∀ (j : Nat) (o : Oper) cs b, ops[j]? = some o → o.op ≠ .select cs b)
    (hQ : ∀ c a w, Q (.panic c) (a.put oi.dst v) w → Q (.panic c) a w) (hci : c i = true) (hcw : cWaits md ops c i = true) :
    ∀ (fuel : Nat) (listed : Array Bool) (a : Act) (w : World),
      (∀ j oj, ops[j]? = some oj → j ≠ i → listed.getD j true = false → (∀ e ∈ oj.after, Region.binds md e = true → e.on ≠ i) → oi.apart ops oj = true) →
      ClosedL md ops listed → i ∈ Region.ready md ops listed → YieldsIf P ops S oi v a → S w →
      anyC P md ops Q c S fuel (listed.setIfInBounds i true) (a.put oi.dst v) w → anyC P md ops Q c S (fuel + 1) listed a w := by
  intro fuel
  induction fuel with
  | zero =>
    intro listed a w _ _ hr hy hS H
    refine ⟨fun h => (by rw [h] at hr; cases hr), fun j hj => ?_⟩
    by_cases hji : j = i
    · subst hji; exact hy.wpOp hi hS ⟨fun _ => hS, H⟩
    · have := ready_mono hj hji
      rw [H.1] at this
      cases this
  | succ fuel ih =>
    intro listed a w hfree hcl hr hy hS H
    refine ⟨fun h => (by rw [h] at hr; cases hr), fun j hj => ?_⟩
    by_cases hji : j = i
    · subst hji; exact hy.wpOp hi hS ⟨fun _ => hS, H⟩
    · have h1 := H.2 j (ready_mono hj hji)
      obtain ⟨hjun, oj, hoj, hall⟩ := mem_ready.1 hj
      have hnot : ∀ e ∈ oj.after, Region.binds md e = true → e.on ≠ i := fun e he hb heq => by
        have h1 := hall e he hb
        have h0 := (mem_ready.1 hr).1
        rw [heq] at h1
        rcases Nat.lt_or_ge i listed.size with h' | h'
        · simp [h'] at h0 h1; rw [h0] at h1; cases h1
        · simp [Array.getElem?_eq_none h'] at h1
      have hcj : c j = true := by
        have hjlt : j < ops.size := (Array.getElem?_eq_some_iff.1 hoj).1
        have h2 := List.all_eq_true.1 hcw j (List.mem_range.2 hjlt)
        simp only [Bool.or_eq_true] at h2
        rcases h2 with h2 | h2
        · exact h2
        · have h3 := deepW_listed hcl _ j h2 fun m hm => by
            obtain ⟨o', ho', e, he, hb, hon⟩ := Region.waitsFor_spec hm
            have : o' = oj := Option.some.inj (ho'.symm.trans hoj)
            subst this
            have := hall e he hb
            rwa [hon] at this
          rw [getD_both (mem_ready.1 hr).1] at h3
          cases h3
      have h2 := wpOp_putIf hoj (hfree j oj hoj hji hjun hnot) (fun cs b => hsel i oi cs b hi) (fun cs b => hsel j oj cs b hoj) hQ hy h1
      have hfree' : ∀ k ok, ops[k]? = some ok → k ≠ i → (listed.setIfInBounds j true).getD k true = false →
          (∀ e ∈ ok.after, Region.binds md e = true → e.on ≠ i) → oi.apart ops ok = true := fun k ok hk hki hun hno => by
        refine hfree k ok hk hki ?_ hno
        by_cases hjk : j = k
        · subst hjk; exact hjun
        · rw [getD_set_ne true hjk] at hun; exact hun
      refine wpOp_mono (fun a' w' h3 => ⟨fun _ => h3.2.1 hcj, ih (listed.setIfInBounds j true) a' w' hfree' (hcl.set hj) (ready_mono hr (Ne.symm hji)) h3.1 (h3.2.1 hcj) ?_⟩) h2
      rw [Array.setIfInBounds_comm _ _ hji]
      exact h3.2.2

/-- Take number i first. -/
theorem anyC_take {i : Nat} {oi : Oper} {v : Value} {fuel : Nat} {listed : Array Bool} {a : Act} {w : World} (hi : ops[i]? = some oi)
    (hs : (Region.noSelect ops && Region.free md ops listed i && (Region.ready md ops listed).contains i && c i && cWaits md ops c i && closedB md ops listed) = true)
    (hQ : ∀ c a w, Q (.panic c) (a.put oi.dst v) w → Q (.panic c) a w) (hy : YieldsIf P ops S oi v a) (hS : S w)
    (h : anyC P md ops Q c S fuel (listed.setIfInBounds i true) (a.put oi.dst v) w) : anyC P md ops Q c S (fuel + 1) listed a w := by
  simp only [Bool.and_eq_true] at hs
  obtain ⟨⟨⟨⟨⟨h1, h2⟩, h3⟩, h4⟩, h5⟩, h6⟩ := hs
  exact anyC_first hi (Region.noSelect_spec h1) hQ h4 h5 fuel listed a w (Region.free_spec hi h2) (closedB_spec h6) (by simpa using h3) hy hS h
/-- The one that comes up now. -/
theorem anyC_one {i : Nat} {oi : Oper} {fuel : Nat} {listed : Array Bool} {a : Act} {w : World} (hi : ops[i]? = some oi) (hr : decide (Region.ready md ops listed = [i]) = true)
    (h : ∀ K : Act → World → Prop, Shut (∀ a' w', (c i = true → S w') → anyC P md ops Q c S fuel (listed.setIfInBounds i true) a' w' → K a' w') → if Region.wanted oi (yielded ops a.tmps) = true then Oper.wp P oi a w K Q else K (a.put oi.dst undef) w) :
    anyC P md ops Q c S (fuel + 1) listed a w := by
  have hr' := of_decide_eq_true hr
  refine ⟨fun h0 => (by rw [hr'] at h0; cases h0), fun j hj => ?_⟩
  rw [hr'] at hj
  obtain rfl : j = i := by simpa using hj
  exact wpOp_step hi fun K' hK => h K' (fun a' w' hS hW => hK a' w' ⟨hS, hW⟩)
theorem anyC_done {listed : Array Bool} {a : Act} {w : World} (hr : decide (Region.ready md ops listed = []) = true) (h : Q .normal a w) : ∀ fuel, anyC P md ops Q c S fuel listed a w
  | 0 => ⟨of_decide_eq_true hr, h⟩
  | _ + 1 => ⟨fun _ => h, by rw [of_decide_eq_true hr]; simp⟩
theorem region_anyC {id : Nat} {a : Act} {w : World} (c : Nat → Bool) (S : World → Prop) (hm : P.follows .mixedOrders = true)
    (h : anyC P .any ops Q c S ops.size (Array.replicate ops.size false) a w.drew) : (Code.region id ops true).wp P Q a w :=
  wp_region_any hm (any_of_anyC _ _ _ _ h)

theorem at_drop {l rest : List Oper} {i : Nat} {oi : Oper} (hl : l.drop i = oi :: rest) : l.toArray[i]? = some oi := by
  have h := congrArg (·[0]?) hl
  simpa [List.getElem?_drop] using h
/-- The same, of a region that is written out: the operation is read off its text. -/
theorem anyL_take {l rest : List Oper} (i : Nat) {oi : Oper} {v : Value} {fuel : Nat} {listed : Array Bool} {a : Act} {w : World} (hl : l.drop i = oi :: rest)
    (hs : (Region.noSelect l.toArray && Region.free md l.toArray listed i && (Region.ready md l.toArray listed).contains i && c i && cWaits md l.toArray c i && closedB md l.toArray listed) = true)
    (hQ : ∀ c a w, Q (.panic c) (a.put oi.dst v) w → Q (.panic c) a w) (hy : YieldsIf P l.toArray S oi v a) (hS : S w)
    (h : anyC P md l.toArray Q c S fuel (listed.setIfInBounds i true) (a.put oi.dst v) w) : anyC P md l.toArray Q c S (fuel + 1) listed a w :=
  anyC_take (at_drop hl) hs hQ hy hS h
theorem anyL_one {l rest : List Oper} (i : Nat) {oi : Oper} {fuel : Nat} {listed : Array Bool} {a : Act} {w : World} (hl : l.drop i = oi :: rest) (hr : decide (Region.ready md l.toArray listed = [i]) = true)
    (h : ∀ K : Act → World → Prop, Shut (∀ a' w', (c i = true → S w') → anyC P md l.toArray Q c S fuel (listed.setIfInBounds i true) a' w' → K a' w') → if Region.wanted oi (yielded l.toArray a.tmps) = true then Oper.wp P oi a w K Q else K (a.put oi.dst undef) w) :
    anyC P md l.toArray Q c S (fuel + 1) listed a w := anyC_one (at_drop hl) hr h
end
end Go.Proofs.Ytpmhfalhieinjaa
