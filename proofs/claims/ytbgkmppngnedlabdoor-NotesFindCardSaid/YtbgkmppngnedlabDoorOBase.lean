/- Bytes, made slices, regions, appends, masks, boxes, commands. -/
import Derived.Test.YtbgkmppngnedlabDoorOKit
import Derived.Deep.QuietTactic
import Derived.BigQuiet
import Derived.Handy
import Derived.Deep.RegionWith
import Derived.Deep.DeepCutAuto
import Derived.BigRegion
import Derived.Laws.BitsAllLaws
import Derived.Laws.MakeOwn
import Derived.OrdersHeld
import Derived.StillTail
import Derived.Deep.RegionHeld
import Derived.Laws.StructEq
namespace Go.Proofs.YtbgkmppngnedlabDoor
open Go.RowKit
theorem below_drewN {B : Nat} {a w : World} (h : Below B a w) (n : Nat) : Below B a (w.drewN n) := ⟨h.os, h.tape, h.output, h.size, h.block⟩
theorem quiet_add_left {P : Program} {f : FuncId} {args : Array Value} {w : World} {a n : Nat} {v : Value}
    (h : Calls P f args (w.drewN (a + n)) fun e w' => e = .returned v ∧ w.drewN (a + n) = w') :
    Calls P f args (w.drewN (a + n)) fun e w'' => e = .returned v ∧ ∃ m, w'' = w.drewN (a + m) :=
  h.mono fun _ _ ⟨he, hm⟩ => ⟨he, n, hm.symm⟩
theorem quiet_left {P : Program} {f : FuncId} {args : Array Value} {w : World} {n : Nat} {v : Value}
    (h : Calls P f args (w.drewN n) fun e w' => e = .returned v ∧ w.drewN n = w') : Calls P f args (w.drewN n) fun e w'' => e = .returned v ∧ ∃ m, w'' = w.drewN m :=
  h.mono fun _ _ ⟨he, hm⟩ => ⟨he, n, hm.symm⟩
theorem fresh_world {P : Program} {c : Code} {Q : Exit → Act → World → Prop} {a : Act} {W : World} (R : World → Prop) (hR : R W) (h : ∀ W2, R W2 → Code.wp P c Q a W2) : Code.wp P c Q a W := h W hR
theorem fresh_K {K : Act → World → Prop} {a : Act} {W : World} (R : World → Prop) (hR : R W) (h : ∀ W2, R W2 → K a W2) : K a W := h W hR
/-- A block of the call's own whose first cells are the bytes l. -/
def BytesAt (w : World) (g : Nat) (l : List UInt8) : Prop := ∀ j (hj : j < l.length), w.cell? ⟨g, j, none⟩ = some (.int .u8 (l[j].toNat : Int))
theorem BytesAt.new (w : World) (s : ByteArray) (cap : Nat) (t : TypeId) (fr : Nat × Nat) : BytesAt (w.alloc (.cells (bytesRow s cap) t fr)) w.heap.size s.data.toList := fun j hj => by
  rw [World.cell?_alloc_mark, bytesRow_at s cap j (by simpa using hj)]
  simp
theorem BytesAt.below {w w' : World} {g : Nat} {l : List UInt8} (h : BytesAt w g l) (hb : Below w.heap.size w w') : BytesAt w' g l := fun j hj =>
  (hb.cell (p := ⟨g, j, none⟩) (lt_of_cell (h j hj))).trans (h j hj)
theorem BytesAt.set {w : World} {g p : Nat} {l : List UInt8} (h : BytesAt w g l) (hp : p < l.length) (d : UInt8) : BytesAt (w.setCell ⟨g, p, none⟩ (.int .u8 (d.toNat : Int))) g (l.set p d) := fun j hj => by
  have hj' : j < l.length := by simpa using hj
  by_cases e : p = j
  · subst e
    rw [World.cell?_setCell_same' _ _ _ (by rw [h p hp]; rfl)]
    simp
  · rw [World.cell?_setCell_other _ _ _ _ (by intro e'; injection e' with _ e'; omega), h j hj']
    simp [e]
theorem ofList_size (l : List UInt8) : (⟨l.toArray⟩ : ByteArray).size = l.length := List.size_toArray
theorem back {P : Program} {w : World} {g n cap : Nat} {l : List UInt8} (hB : BytesAt w g l) (hn : l.length = n) {src dst e : TypeId} (hs : P.underlying src = some (.slice e)) (he : P.underlying e = some (.int .u8)) (hd : P.underlying dst = some .string) :
    (convert src dst (.slice (some ⟨g, 0, none⟩) n cap)).run P w = .ok (.string ⟨l.toArray⟩) w := by
  subst hn
  exact run_convert_bytes_back w src dst e _ cap l hs he hd (fun j hj => by
    have : (⟨g, 0, none⟩ : Addr).add j = ⟨g, j, none⟩ := by unfold Addr.add; split <;> simp_all
    rw [this]; exact hB j hj)
end Go.Proofs.YtbgkmppngnedlabDoor
namespace Go.Proofs.YtbgkmppngnedlabDoor
open Go.RowKit
theorem run_make_m {P : Program} (t e : TypeId) (i : TypeInfo) (z : Value) (ht : P.underlying t = some (.slice e)) (hi : P.info? e = some i) (hz : i.zero = some z)
    (kl kc : IntKind) (n c : Nat) (hnc : n ≤ c) (hbytes : i.bytes * c ≤ 281474976710656) (h63 : c ≤ 9223372036854775807) (w : World) :
    (Instr.makeSlice t (.int kl (n : Int)) (.int kc (c : Int))).run P w = .ok (.slice (some ⟨w.heap.size, 0, none⟩) n c) (w.alloc (.cells (madeCells z.cells (c * i.size)) e)) := by
  have hb : (i.bytes : Int) * (c : Int) ≤ 281474976710656 := by
    have h : ((i.bytes * c : Nat) : Int) ≤ 281474976710656 := by omega
    rwa [Int.natCast_mul] at h
  have hr := run_make (P := P) w t e i z ht hi hz kl kc n c (by omega) (by omega) hb (by omega)
  simp only [Int.toNat_natCast] at hr
  exact hr
theorem made_noughts (w : World) (e : TypeId) (v : Value) (k j : Nat) (hj : j < k) : (w.alloc (.cells (madeCells #[v] k) e)).cell? ⟨w.heap.size, j, none⟩ = some v := by
  rw [World.cell?_alloc_new, ← Array.getElem?_toList, toList_madeCells_one]
  simp [hj]
theorem made_free (w : World) (e : TypeId) (v : Value) (k j : Nat) : (w.alloc (.cells (madeCells #[v] k) e)).frozen? ⟨w.heap.size, j, none⟩ = false := by
  have := World.frozen?_alloc_mark w (madeCells #[v] k) e 0 0 j
  exact this.trans (by simp)
end Go.Proofs.YtbgkmppngnedlabDoor
namespace Go.Proofs.YtbgkmppngnedlabDoor
open Go
section
variable {P : Program} {ops : Array Oper} {Q : Exit → Act → World → Prop} {md : Region.Mode} {S : World → Prop} {c : Nat → Bool}
/-- Whatever order is picked from here on; behind each operation of which c speaks S holds. -/
def anyC (P : Program) (md : Region.Mode) (ops : Array Oper) (Q : Exit → Act → World → Prop) (c : Nat → Bool) (S : World → Prop) : Nat → Array Bool → Act → World → Prop
  | 0, listed, a, w => Region.ready md ops listed = [] ∧ Q .normal a w
  | fuel + 1, listed, a, w =>
    (Region.ready md ops listed = [] → Q .normal a w) ∧
    ∀ i ∈ Region.ready md ops listed, wpOp P ops Q i (fun a' w' => (c i = true → S w') ∧ anyC P md ops Q c S fuel (listed.setIfInBounds i true) a' w') a w
theorem any_of_anyC : ∀ (fuel : Nat) (listed : Array Bool) (a : Act) (w : World), anyC P md ops Q c S fuel listed a w → wpAny P md ops Q fuel listed a w
  | 0, _, _, _, h => h
  | fuel + 1, _, _, _, h => ⟨h.1, fun i hi => wpOp_mono (fun a' w' h' => any_of_anyC fuel _ a' w' h'.2) (h.2 i hi)⟩
/-- With an operation all that it waits for is listed. -/
def ClosedL (md : Region.Mode) (ops : Array Oper) (listed : Array Bool) : Prop := ∀ j oj, ops[j]? = some oj → listed.getD j false = true → ∀ e ∈ oj.after, Region.binds md e = true → listed.getD e.on false = true
def closedB (md : Region.Mode) (ops : Array Oper) (listed : Array Bool) : Bool :=
  (List.range ops.size).all fun j => !(listed.getD j false) || match ops[j]? with
    | some oj => oj.after.all fun e => !Region.binds md e || listed.getD e.on false
    | none => true
theorem closedB_spec {listed : Array Bool} (h : closedB md ops listed = true) : ClosedL md ops listed := fun j oj hj hl e he hb => by
  have h1 := List.all_eq_true.1 h j (List.mem_range.2 (Array.getElem?_eq_some_iff.1 hj).1)
  simp only [hj, hl, Bool.not_true, Bool.false_or] at h1
  have h2 := Array.all_eq_true_iff_forall_mem.1 h1 e he
  simpa [hb] using h2
theorem ClosedL.set {i : Nat} {listed : Array Bool} (h : ClosedL md ops listed) (hi : i ∈ Region.ready md ops listed) : ClosedL md ops (listed.setIfInBounds i true) := fun j oj hj hl e he hb => by
  obtain ⟨_, oi, hoi, hall⟩ := mem_ready.1 hi
  by_cases hij : i = j
  · subst hij
    have : oj = oi := Option.some.inj (hj.symm.trans hoi)
    subst this
    exact getD_set_true (hall e he hb)
  · rw [getD_set_ne false hij] at hl
    exact getD_set_true (h j oj hj hl e he hb)
/-- j waits for i, by way of others. -/
def deepW (md : Region.Mode) (ops : Array Oper) : Nat → Nat → Nat → Bool
  | 0, j, i => Region.waitsFor md ops j i
  | f + 1, j, i => Region.waitsFor md ops j i || (List.range ops.size).any fun m => Region.waitsFor md ops j m && deepW md ops f m i
theorem deepW_listed {i : Nat} {listed : Array Bool} (hc : ClosedL md ops listed) : ∀ (f j : Nat), deepW md ops f j i = true → (∀ m, Region.waitsFor md ops j m = true → listed.getD m false = true) → listed.getD i false = true
  | 0, _, h, hj => hj _ h
  | f + 1, j, h, hj => by
    simp only [deepW, Bool.or_eq_true] at h
    rcases h with h | h
    · exact hj _ h
    · obtain ⟨m, _, hm⟩ := List.any_eq_true.1 h
      simp only [Bool.and_eq_true] at hm
      refine deepW_listed hc f m hm.2 fun m' hm' => ?_
      obtain ⟨om, hom, e, he, hb, hon⟩ := Region.waitsFor_spec hm'
      have := hc m om hom (hj m hm.1) e he hb
      rwa [hon] at this
/-- Those of which c does not speak wait for number i. -/
def cWaits (md : Region.Mode) (ops : Array Oper) (c : Nat → Bool) (i : Nat) : Bool := (List.range ops.size).all fun j => c j || deepW md ops ops.size j i
theorem anyC_first {i : Nat} {oi : Oper} {v : Value} (hi : ops[i]? = some oi) (hsel : ∀ (j : Nat) (o : Oper) cs b, ops[j]? = some o → o.op ≠ .select cs b)
    (hQ : ∀ c a w, Q (.panic c) (a.put oi.dst v) w → Q (.panic c) a w) (hci : c i = true) (hcw : cWaits md ops c i = true) :
    ∀ (fuel : Nat) (listed : Array Bool) (a : Act) (w : World),
      (∀ j oj, ops[j]? = some oj → j ≠ i → listed.getD j true = false → (∀ e ∈ oj.after, Region.binds md e = true → e.on ≠ i) → oi.apart ops oj = true) →
      ClosedL md ops listed → i ∈ Region.ready md ops listed → YieldsIf P ops S oi v a → S w →
      anyC P md ops Q c S fuel (listed.setIfInBounds i true) (a.put oi.dst v) w → anyC P md ops Q c S (fuel + 1) listed a w := by
  intro fuel
  induction fuel with
  | zero =>
    intro listed a w _ _ hr hy hS H
    refine ⟨fun h => (by rw [h] at hr; cases hr), fun j hj => ?_⟩
    by_cases hji : j = i
    · subst hji; exact hy.wpOp hi hS ⟨fun _ => hS, H⟩
    · have := ready_mono hj hji
      rw [H.1] at this
      cases this
  | succ fuel ih =>
    intro listed a w hfree hcl hr hy hS H
    refine ⟨fun h => (by rw [h] at hr; cases hr), fun j hj => ?_⟩
    by_cases hji : j = i
    · subst hji; exact hy.wpOp hi hS ⟨fun _ => hS, H⟩
    · have h1 := H.2 j (ready_mono hj hji)
      obtain ⟨hjun, oj, hoj, hall⟩ := mem_ready.1 hj
      have hnot : ∀ e ∈ oj.after, Region.binds md e = true → e.on ≠ i := fun e he hb heq => by
        have h1 := hall e he hb
        have h0 := (mem_ready.1 hr).1
        rw [heq] at h1
        rcases Nat.lt_or_ge i listed.size with h' | h'
        · simp [h'] at h0 h1; rw [h0] at h1; cases h1
        · simp [Array.getElem?_eq_none h'] at h1
      have hcj : c j = true := by
        have hjlt : j < ops.size := (Array.getElem?_eq_some_iff.1 hoj).1
        have h2 := List.all_eq_true.1 hcw j (List.mem_range.2 hjlt)
        simp only [Bool.or_eq_true] at h2
        rcases h2 with h2 | h2
        · exact h2
        · have h3 := deepW_listed hcl _ j h2 fun m hm => by
            obtain ⟨o', ho', e, he, hb, hon⟩ := Region.waitsFor_spec hm
            have : o' = oj := Option.some.inj (ho'.symm.trans hoj)
            subst this
            have := hall e he hb
            rwa [hon] at this
          rw [getD_both (mem_ready.1 hr).1] at h3
          cases h3
      have h2 := wpOp_putIf hoj (hfree j oj hoj hji hjun hnot) (fun cs b => hsel i oi cs b hi) (fun cs b => hsel j oj cs b hoj) hQ hy h1
      have hfree' : ∀ k ok, ops[k]? = some ok → k ≠ i → (listed.setIfInBounds j true).getD k true = false →
          (∀ e ∈ ok.after, Region.binds md e = true → e.on ≠ i) → oi.apart ops ok = true := fun k ok hk hki hun hno => by
        refine hfree k ok hk hki ?_ hno
        by_cases hjk : j = k
        · subst hjk; exact hjun
        · rw [getD_set_ne true hjk] at hun; exact hun
      refine wpOp_mono (fun a' w' h3 => ⟨fun _ => h3.2.1 hcj, ih (listed.setIfInBounds j true) a' w' hfree' (hcl.set hj) (ready_mono hr (Ne.symm hji)) h3.1 (h3.2.1 hcj) ?_⟩) h2
      rw [Array.setIfInBounds_comm _ _ hji]
      exact h3.2.2
/-- Take number i first. -/
theorem anyC_take {i : Nat} {oi : Oper} {v : Value} {fuel : Nat} {listed : Array Bool} {a : Act} {w : World} (hi : ops[i]? = some oi)
    (hs : (Region.noSelect ops && Region.free md ops listed i && (Region.ready md ops listed).contains i && c i && cWaits md ops c i && closedB md ops listed) = true)
    (hQ : ∀ c a w, Q (.panic c) (a.put oi.dst v) w → Q (.panic c) a w) (hy : YieldsIf P ops S oi v a) (hS : S w)
    (h : anyC P md ops Q c S fuel (listed.setIfInBounds i true) (a.put oi.dst v) w) : anyC P md ops Q c S (fuel + 1) listed a w := by
  simp only [Bool.and_eq_true] at hs
  obtain ⟨⟨⟨⟨⟨h1, h2⟩, h3⟩, h4⟩, h5⟩, h6⟩ := hs
  exact anyC_first hi (Region.noSelect_spec h1) hQ h4 h5 fuel listed a w (Region.free_spec hi h2) (closedB_spec h6) (by simpa using h3) hy hS h
/-- The one that comes up now. -/
theorem anyC_one {i : Nat} {oi : Oper} {fuel : Nat} {listed : Array Bool} {a : Act} {w : World} (hi : ops[i]? = some oi) (hr : decide (Region.ready md ops listed = [i]) = true)
    (h : ∀ K : Act → World → Prop, Shut (∀ a' w', (c i = true → S w') → anyC P md ops Q c S fuel (listed.setIfInBounds i true) a' w' → K a' w') → if Region.wanted oi (yielded ops a.tmps) = true then Oper.wp P oi a w K Q else K (a.put oi.dst undef) w) :
    anyC P md ops Q c S (fuel + 1) listed a w := by
  have hr' := of_decide_eq_true hr
  refine ⟨fun h0 => (by rw [hr'] at h0; cases h0), fun j hj => ?_⟩
  rw [hr'] at hj
  obtain rfl : j = i := by simpa using hj
  exact wpOp_step hi fun K' hK => h K' (fun a' w' hS hW => hK a' w' ⟨hS, hW⟩)
theorem anyC_done {listed : Array Bool} {a : Act} {w : World} (hr : decide (Region.ready md ops listed = []) = true) (h : Q .normal a w) : ∀ fuel, anyC P md ops Q c S fuel listed a w
  | 0 => ⟨of_decide_eq_true hr, h⟩
  | _ + 1 => ⟨fun _ => h, by rw [of_decide_eq_true hr]; simp⟩
theorem region_anyC {id : Nat} {a : Act} {w : World} (c : Nat → Bool) (S : World → Prop) (hm : P.follows .mixedOrders = true)
    (h : anyC P .any ops Q c S ops.size (Array.replicate ops.size false) a w.drew) : (Code.region id ops true).wp P Q a w :=
  wp_region_any hm (any_of_anyC _ _ _ _ h)
theorem at_drop {l rest : List Oper} {i : Nat} {oi : Oper} (hl : l.drop i = oi :: rest) : l.toArray[i]? = some oi := by
  have h := congrArg (·[0]?) hl
  simpa [List.getElem?_drop] using h
/-- The same, of a region that is written out: the operation is read off its text. -/
theorem anyL_take {l rest : List Oper} (i : Nat) {oi : Oper} {v : Value} {fuel : Nat} {listed : Array Bool} {a : Act} {w : World} (hl : l.drop i = oi :: rest)
    (hs : (Region.noSelect l.toArray && Region.free md l.toArray listed i && (Region.ready md l.toArray listed).contains i && c i && cWaits md l.toArray c i && closedB md l.toArray listed) = true)
    (hQ : ∀ c a w, Q (.panic c) (a.put oi.dst v) w → Q (.panic c) a w) (hy : YieldsIf P l.toArray S oi v a) (hS : S w)
    (h : anyC P md l.toArray Q c S fuel (listed.setIfInBounds i true) (a.put oi.dst v) w) : anyC P md l.toArray Q c S (fuel + 1) listed a w :=
  anyC_take (at_drop hl) hs hQ hy hS h
theorem anyL_one {l rest : List Oper} (i : Nat) {oi : Oper} {fuel : Nat} {listed : Array Bool} {a : Act} {w : World} (hl : l.drop i = oi :: rest) (hr : decide (Region.ready md l.toArray listed = [i]) = true)
    (h : ∀ K : Act → World → Prop, Shut (∀ a' w', (c i = true → S w') → anyC P md l.toArray Q c S fuel (listed.setIfInBounds i true) a' w' → K a' w') → if Region.wanted oi (yielded l.toArray a.tmps) = true then Oper.wp P oi a w K Q else K (a.put oi.dst undef) w) :
    anyC P md l.toArray Q c S (fuel + 1) listed a w := anyC_one (at_drop hl) hr h
end
end Go.Proofs.YtbgkmppngnedlabDoor
namespace Go.Proofs.YtbgkmppngnedlabDoor
open Go
section
variable {P : Program} {Q : Exit → Act → World → Prop} {md : Region.Mode} {S : World → Prop} {c : Nat → Bool}
/-- What is to be shown of one operation that is ready. -/
def StepAt (P : Program) (md : Region.Mode) (l : List Oper) (Q : Exit → Act → World → Prop) (c : Nat → Bool) (S : World → Prop) (fuel : Nat) (listed : Array Bool) (a : Act) (w : World) (i : Nat) (oi : Oper) : Prop :=
  ∀ K : Act → World → Prop, Shut (∀ a' w', (c i = true → S w') → anyC P md l.toArray Q c S fuel (listed.setIfInBounds i true) a' w' → K a' w') → if Region.wanted oi (yielded l.toArray a.tmps) = true then Oper.wp P oi a w K Q else K (a.put oi.dst undef) w
theorem StepAt.wpOp {l rest : List Oper} {i : Nat} {oi : Oper} {fuel : Nat} {listed : Array Bool} {a : Act} {w : World} (hl : l.drop i = oi :: rest) (h : StepAt P md l Q c S fuel listed a w i oi) :
    wpOp P l.toArray Q i (fun a' w' => (c i = true → S w') ∧ anyC P md l.toArray Q c S fuel (listed.setIfInBounds i true) a' w') a w :=
  wpOp_step (at_drop hl) fun K' hK => h K' (fun a' w' hS hW => hK a' w' ⟨hS, hW⟩)
theorem anyL_two {l ri rj : List Oper} (i j : Nat) {oi oj : Oper} {fuel : Nat} {listed : Array Bool} {a : Act} {w : World} (hli : l.drop i = oi :: ri) (hlj : l.drop j = oj :: rj) (hr : decide (Region.ready md l.toArray listed = [i, j]) = true)
    (hi : StepAt P md l Q c S fuel listed a w i oi) (hj : StepAt P md l Q c S fuel listed a w j oj) : anyC P md l.toArray Q c S (fuel + 1) listed a w := by
  have hr' := of_decide_eq_true hr
  refine ⟨fun h0 => (by rw [hr'] at h0; cases h0), fun x hx => ?_⟩
  rw [hr'] at hx
  rcases List.mem_cons.1 hx with rfl | hx
  · exact hi.wpOp hli
  · obtain rfl := List.mem_singleton.1 hx
    exact hj.wpOp hlj
theorem anyL_three {l ri rj rk : List Oper} (i j k : Nat) {oi oj ok : Oper} {fuel : Nat} {listed : Array Bool} {a : Act} {w : World} (hli : l.drop i = oi :: ri) (hlj : l.drop j = oj :: rj) (hlk : l.drop k = ok :: rk)
    (hr : decide (Region.ready md l.toArray listed = [i, j, k]) = true)
    (hi : StepAt P md l Q c S fuel listed a w i oi) (hj : StepAt P md l Q c S fuel listed a w j oj) (hk : StepAt P md l Q c S fuel listed a w k ok) : anyC P md l.toArray Q c S (fuel + 1) listed a w := by
  have hr' := of_decide_eq_true hr
  refine ⟨fun h0 => (by rw [hr'] at h0; cases h0), fun x hx => ?_⟩
  rw [hr'] at hx
  rcases List.mem_cons.1 hx with rfl | hx
  · exact hi.wpOp hli
  · rcases List.mem_cons.1 hx with rfl | hx
    · exact hj.wpOp hlj
    · obtain rfl := List.mem_singleton.1 hx
      exact hk.wpOp hlk
end
end Go.Proofs.YtbgkmppngnedlabDoor
namespace Go.Proofs.YtbgkmppngnedlabDoor
open Go.RowKit
theorem append_run_wp {P : Program} {ops : Array Oper} {rest : List Oper} {o : Oper} {a : Act} {w w' : World} {Q : Exit → Act → World → Prop} (hw : Region.wanted o (yielded ops a.tmps) = true) (s x : Operand) (t : TypeId)
    (ho : o.op = .call { callee := .builtin .append, args := #[s, x], argTypes := #[t, t] }) {vs vx r : Value} (hs : a.eval s = vs) (hx : a.eval x = vx) (hrun : (Builtin.append_ #[t, t] o.type #[vs, vx]).run P w = .ok r w')
    (h : wpList P ops Q rest (a.put o.dst r) w') : wpList P ops Q (o :: rest) a w :=
  wpList_step fun K hK => by
    rw [if_pos hw]
    unfold Oper.wp execOp
    simp only [ho, resolve, invoke, builtin, Sem.run_bind, Sem.run_pure, Result.andThen_ok, List.map_toArray, List.map_cons, List.map_nil, hs, hx, hrun]
    exact hK _ _ h
/-- The same at a step of a region that draws its order. -/
theorem append_run_step {P : Program} {ops : Array Oper} {o : Oper} {a : Act} {w w' : World} {K : Act → World → Prop} {Q : Exit → Act → World → Prop} {E : Prop} (hg : o.guard = none) (s x : Operand) (t : TypeId)
    (ho : o.op = .call { callee := .builtin .append, args := #[s, x], argTypes := #[t, t] }) {vs vx r : Value} (hs : a.eval s = vs) (hx : a.eval x = vx) (hrun : (Builtin.append_ #[t, t] o.type #[vs, vx]).run P w = .ok r w')
    (h : K (a.put o.dst r) w') : if Region.wanted o (yielded ops a.tmps) = true then Oper.wp P o a w K Q else E := by
  have hw : Region.wanted o (yielded ops a.tmps) = true := by simp [Region.wanted, hg]
  rw [if_pos hw]
  unfold Oper.wp execOp
  simp only [ho, resolve, invoke, builtin, Sem.run_bind, Sem.run_pure, Result.andThen_ok, List.map_toArray, List.map_cons, List.map_nil, hs, hx, hrun]
  exact h
end Go.Proofs.YtbgkmppngnedlabDoor
namespace Go.Proofs.YtbgkmppngnedlabDoor
open Go.RowKit
section
variable {P : Program}
/-- What of a field is looked at. -/
def fKey (f : Field) : TypeId × Nat × Bool := (f.type, f.offset, f.name != "_")
theorem eqF_nil (d : Nat) (xs ys : Array Value) (w : World) : (Op.eqFields d xs ys []).run P w = .ok true w := by simp [Op.eqFields]
theorem eqF_cons {d : Nat} {xs ys : Array Value} {f : Field} {fs : List Field} {w : World} {t : TypeId} {o : Nat} {a b : Value} {r : Bool} (hk : fKey f = (t, o, true)) (ha : (part t xs o).run P w = .ok a w) (hb : (part t ys o).run P w = .ok b w)
    (hr : (Op.equalIn d t a b).run P w = .ok r w) : (Op.eqFields d xs ys (f :: fs)).run P w = if r = true then (Op.eqFields d xs ys fs).run P w else .ok false w := by
  unfold fKey at hk
  simp only [Prod.mk.injEq] at hk
  obtain ⟨h1, h2, h3⟩ := hk
  subst h1; subst h2
  have h3' : f.name ≠ "_" := by simpa using h3
  simp only [Op.eqFields, if_pos h3', Sem.run_bind, ha, hb, hr, Result.andThen_ok, Sem.run_ite]
  cases r <;> simp
theorem struct_two {t : TypeId} {k0 k1 : TypeId × Nat × Bool} (h : (P.fieldsOf t).toList.map fKey = [k0, k1]) : ∃ f0 f1, (P.fieldsOf t).toList = [f0, f1] ∧ fKey f0 = k0 ∧ fKey f1 = k1 := by
  generalize (P.fieldsOf t).toList = l at h
  match l, h with
  | [a, b], h => simp at h; exact ⟨a, b, rfl, h.1, h.2⟩
theorem struct_seven {t : TypeId} {k0 k1 k2 k3 k4 k5 k6 : TypeId × Nat × Bool} (h : (P.fieldsOf t).toList.map fKey = [k0, k1, k2, k3, k4, k5, k6]) :
    ∃ f0 f1 f2 f3 f4 f5 f6, (P.fieldsOf t).toList = [f0, f1, f2, f3, f4, f5, f6] ∧ fKey f0 = k0 ∧ fKey f1 = k1 ∧ fKey f2 = k2 ∧ fKey f3 = k3 ∧ fKey f4 = k4 ∧ fKey f5 = k5 ∧ fKey f6 = k6 := by
  generalize (P.fieldsOf t).toList = l at h
  match l, h with
  | [a, b, c, d, e, f, g], h => simp at h; exact ⟨a, b, c, d, e, f, g, rfl, h.1, h.2.1, h.2.2.1, h.2.2.2.1, h.2.2.2.2.1, h.2.2.2.2.2.1, h.2.2.2.2.2.2⟩
theorem eql_of {t : TypeId} {xs ys : Array Value} {w : World} {r : Bool} (hf : P.underlying t = some (.struct (P.fieldsOf t))) (hs : P.stoodInHeld t = false) (h : (Op.eqFields 9999 xs ys (P.fieldsOf t).toList).run P w = .ok r w) :
    (binOp .eql t (.agg xs) (.agg ys)).run P w = .ok (.bool r) w ∧ (binOp .neq t (.agg xs) (.agg ys)).run P w = .ok (.bool (!r)) w := by
  rw [run_eql_struct, run_neq_struct, run_equalIn_struct w 9999 t xs ys hf hs, h]
  exact ⟨rfl, rfl⟩
end
end Go.Proofs.YtbgkmppngnedlabDoor
namespace Go.Proofs.YtbgkmppngnedlabDoor
open Go.RowKit
theorem wrap_in {x : Int} (h : -9223372036854775808 ≤ x ∧ x ≤ 9223372036854775807) : IntKind.i64.wrap x = x := by
  rw [IntKind.wrap_i64]; omega
theorem mod_in (x n : Int) (hn : 0 < n) (hb : n ≤ 1000000) : ∃ t y : Int, x.tmod n = t ∧ (t + n).tmod n = y ∧ 0 ≤ y ∧ y < n ∧ -1000000 ≤ t ∧ t ≤ 1000000 ∧ IntKind.i64.wrap t = t ∧ IntKind.i64.wrap (t + n) = t + n ∧ IntKind.i64.wrap y = y := by
  have h1 := Int.tmod_lt_of_pos x hn
  have h2 := Int.tmod_lt_of_pos (-x) hn
  rw [Int.neg_tmod] at h2
  have h3 : (x.tmod n + n).tmod n = (x.tmod n + n) % n := Int.tmod_eq_emod_of_nonneg (by omega)
  have h4 := Int.emod_nonneg (x.tmod n + n) (show n ≠ 0 by omega)
  have h5 := Int.emod_lt_of_pos (x.tmod n + n) hn
  exact ⟨_, _, rfl, h3, h4, h5, by omega, by omega, wrap_in (by omega), wrap_in (by omega), wrap_in (by omega)⟩
end Go.Proofs.YtbgkmppngnedlabDoor
namespace Go.Proofs.YtbgkmppngnedlabDoor
open Go.RowKit
theorem and_mask2 (n : Int) (k M : Nat) (hM : M = 2 ^ k - 1) (hk : k ≤ 62) : bits .and .i64 n (M : Int) = n % ((2 ^ k : Nat) : Int) := by
  have h62 : 2 ^ k ≤ 2 ^ 62 := Nat.pow_le_pow_right (by omega) hk
  have hpos : 0 < 2 ^ k := Nat.two_pow_pos k
  have hdvd : 2 ^ k ∣ 2 ^ 64 := Nat.pow_dvd_pow 2 (by omega)
  show IntKind.i64.wrap ((BitVec.ofInt 64 n &&& BitVec.ofInt 64 (M : Int)).toNat : Int) = _
  have h2 : (BitVec.ofInt 64 (M : Int)).toNat = M := by
    rw [BitVec.ofInt_natCast, BitVec.toNat_ofNat]; exact Nat.mod_eq_of_lt (by omega)
  have h1 : ((BitVec.ofInt 64 n).toNat : Int) = n % ((2 ^ 64 : Nat) : Int) := by
    rw [BitVec.toNat_ofInt]; exact Int.toNat_of_nonneg (Int.emod_nonneg _ (by decide))
  rw [BitVec.toNat_and, h2, hM, Nat.and_two_pow_sub_one_eq_mod, Int.natCast_emod, h1, Int.emod_emod_of_dvd _ (by exact_mod_cast hdvd), IntKind.wrap_i64]
  generalize hP : 2 ^ k = P at *
  have := Int.emod_nonneg n (b := (P : Int)) (by omega)
  have := Int.emod_lt_of_pos n (b := (P : Int)) (by omega)
  omega
theorem mask_nat2 (n : Int) (k M : Nat) (hM : M = 2 ^ k - 1) (hk : k ≤ 62) : ∃ m : Nat, m < 2 ^ k ∧ bits .and .i64 n (M : Int) = (m : Int) := by
  have hpos : 0 < 2 ^ k := Nat.two_pow_pos k
  have h1 := Int.emod_nonneg n (b := ((2 ^ k : Nat) : Int)) (by omega)
  have h2 := Int.emod_lt_of_pos n (b := ((2 ^ k : Nat) : Int)) (by omega)
  refine ⟨(n % ((2 ^ k : Nat) : Int)).toNat, by omega, ?_⟩
  rw [and_mask2 n k M hM hk]; omega
end Go.Proofs.YtbgkmppngnedlabDoor
