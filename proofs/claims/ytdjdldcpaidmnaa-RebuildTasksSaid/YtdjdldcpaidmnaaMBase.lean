/- Bytes, made slices, regions, appends, masks, boxes, commands. -/
import Derived.Test.YtdjdldcpaidmnaaMKit
import Derived.Deep.QuietTactic
import Derived.BigQuiet
import Derived.Handy
import Derived.Deep.RegionWith
import Derived.Deep.DeepCutAuto
import Derived.BigRegion
import Derived.Laws.BitsAllLaws
import Derived.Laws.MakeOwn
import Derived.OrdersHeld
import Derived.StillTail
import Derived.Deep.RegionHeld
import Derived.Laws.StructEq
import Derived.Deep.SlicePairs
import Derived.Deep.Matrix
import Derived.Maps.AppendAt
import Derived.Laws.OwnMore
import Derived.OwnWalk
import Derived.SizedLaws
namespace Go.Proofs.Ytdjdldcpaidmnaa
open Go.RowKit
theorem below_drewN {B : Nat} {a w : World} (h : Below B a w) (n : Nat) : Below B a (w.drewN n) := ⟨h.os, h.tape, h.output, h.size, h.block⟩
theorem quiet_add_left {P : Program} {f : FuncId} {args : Array Value} {w : World} {a n : Nat} {v : Value}
    (h : Calls P f args (w.drewN (a + n)) fun e w' => e = .returned v ∧ w.drewN (a + n) = w') :
    Calls P f args (w.drewN (a + n)) fun e w'' => e = .returned v ∧ ∃ m, w'' = w.drewN (a + m) :=
  h.mono fun _ _ ⟨he, hm⟩ => ⟨he, n, hm.symm⟩
theorem quiet_left {P : Program} {f : FuncId} {args : Array Value} {w : World} {n : Nat} {v : Value}
    (h : Calls P f args (w.drewN n) fun e w' => e = .returned v ∧ w.drewN n = w') : Calls P f args (w.drewN n) fun e w'' => e = .returned v ∧ ∃ m, w'' = w.drewN m :=
  h.mono fun _ _ ⟨he, hm⟩ => ⟨he, n, hm.symm⟩
theorem fresh_world {P : Program} {c : Code} {Q : Exit → Act → World → Prop} {a : Act} {W : World} (R : World → Prop) (hR : R W) (h : ∀ W2, R W2 → Code.wp P c Q a W2) : Code.wp P c Q a W := h W hR
theorem fresh_K {K : Act → World → Prop} {a : Act} {W : World} (R : World → Prop) (hR : R W) (h : ∀ W2, R W2 → K a W2) : K a W := h W hR
/-- A block of the call's own whose first cells are the bytes l. -/
def BytesAt (w : World) (g : Nat) (l : List UInt8) : Prop := ∀ j (hj : j < l.length), w.cell? ⟨g, j, none⟩ = some (.int .u8 (l[j].toNat : Int))
theorem BytesAt.new (w : World) (s : ByteArray) (cap : Nat) (t : TypeId) (fr : Nat × Nat) : BytesAt (w.alloc (.cells (bytesRow s cap) t fr)) w.heap.size s.data.toList := fun j hj => by
  rw [World.cell?_alloc_mark, bytesRow_at s cap j (by simpa using hj)]
  simp
theorem BytesAt.below {w w' : World} {g : Nat} {l : List UInt8} (h : BytesAt w g l) (hb : Below w.heap.size w w') : BytesAt w' g l := fun j hj =>
  (hb.cell (p := ⟨g, j, none⟩) (lt_of_cell (h j hj))).trans (h j hj)
theorem BytesAt.set {w : World} {g p : Nat} {l : List UInt8} (h : BytesAt w g l) (hp : p < l.length) (d : UInt8) : BytesAt (w.setCell ⟨g, p, none⟩ (.int .u8 (d.toNat : Int))) g (l.set p d) := fun j hj => by
  have hj' : j < l.length := by simpa using hj
  by_cases e : p = j
  · subst e
    rw [World.cell?_setCell_same' _ _ _ (by rw [h p hp]; rfl)]
    simp
  · rw [World.cell?_setCell_other _ _ _ _ (by intro e'; injection e' with _ e'; omega), h j hj']
    simp [e]
theorem ofList_size (l : List UInt8) : (⟨l.toArray⟩ : ByteArray).size = l.length := List.size_toArray
theorem back {P : Program} {w : World} {g n cap : Nat} {l : List UInt8} (hB : BytesAt w g l) (hn : l.length = n) {src dst e : TypeId} (hs : P.underlying src = some (.slice e)) (he : P.underlying e = some (.int .u8)) (hd : P.underlying dst = some .string) :
    (convert src dst (.slice (some ⟨g, 0, none⟩) n cap)).run P w = .ok (.string ⟨l.toArray⟩) w := by
  subst hn
  exact run_convert_bytes_back w src dst e _ cap l hs he hd (fun j hj => by
    have : (⟨g, 0, none⟩ : Addr).add j = ⟨g, j, none⟩ := by unfold Addr.add; split <;> simp_all
    rw [this]; exact hB j hj)
end Go.Proofs.Ytdjdldcpaidmnaa
namespace Go.Proofs.Ytdjdldcpaidmnaa
open Go.RowKit
theorem run_make_m {P : Program} (t e : TypeId) (i : TypeInfo) (z : Value) (ht : P.underlying t = some (.slice e)) (hi : P.info? e = some i) (hz : i.zero = some z)
    (kl kc : IntKind) (n c : Nat) (hnc : n ≤ c) (hbytes : i.bytes * c ≤ 281474976710656) (h63 : c ≤ 9223372036854775807) (w : World) :
    (Instr.makeSlice t (.int kl (n : Int)) (.int kc (c : Int))).run P w = .ok (.slice (some ⟨w.heap.size, 0, none⟩) n c) (w.alloc (.cells (madeCells z.cells (c * i.size)) e)) := by
  have hb : (i.bytes : Int) * (c : Int) ≤ 281474976710656 := by
    have h : ((i.bytes * c : Nat) : Int) ≤ 281474976710656 := by omega
    rwa [Int.natCast_mul] at h
  have hr := run_make (P := P) w t e i z ht hi hz kl kc n c (by omega) (by omega) hb (by omega)
  simp only [Int.toNat_natCast] at hr
  exact hr
theorem made_noughts (w : World) (e : TypeId) (v : Value) (k j : Nat) (hj : j < k) : (w.alloc (.cells (madeCells #[v] k) e)).cell? ⟨w.heap.size, j, none⟩ = some v := by
  rw [World.cell?_alloc_new, ← Array.getElem?_toList, toList_madeCells_one]
  simp [hj]
theorem made_free (w : World) (e : TypeId) (v : Value) (k j : Nat) : (w.alloc (.cells (madeCells #[v] k) e)).frozen? ⟨w.heap.size, j, none⟩ = false := by
  have := World.frozen?_alloc_mark w (madeCells #[v] k) e 0 0 j
  exact this.trans (by simp)
end Go.Proofs.Ytdjdldcpaidmnaa
namespace Go.Proofs.Ytdjdldcpaidmnaa
open Go
section
variable {P : Program} {ops : Array Oper} {Q : Exit → Act → World → Prop} {md : Region.Mode} {S : World → Prop} {c : Nat → Bool}
/-- Whatever order is picked from here on; behind each operation of which c speaks S holds. -/
def anyC (P : Program) (md : Region.Mode) (ops : Array Oper) (Q : Exit → Act → World → Prop) (c : Nat → Bool) (S : World → Prop) : Nat → Array Bool → Act → World → Prop
  | 0, listed, a, w => Region.ready md ops listed = [] ∧ Q .normal a w
  | fuel + 1, listed, a, w =>
    (Region.ready md ops listed = [] → Q .normal a w) ∧
    ∀ i ∈ Region.ready md ops listed, wpOp P ops Q i (fun a' w' => (c i = true → S w') ∧ anyC P md ops Q c S fuel (listed.setIfInBounds i true) a' w') a w
theorem any_of_anyC : ∀ (fuel : Nat) (listed : Array Bool) (a : Act) (w : World), anyC P md ops Q c S fuel listed a w → wpAny P md ops Q fuel listed a w
  | 0, _, _, _, h => h
  | fuel + 1, _, _, _, h => ⟨h.1, fun i hi => wpOp_mono (fun a' w' h' => any_of_anyC fuel _ a' w' h'.2) (h.2 i hi)⟩
/-- With an operation all that it waits for is listed. -/
def ClosedL (md : Region.Mode) (ops : Array Oper) (listed : Array Bool) : Prop := ∀ j oj, ops[j]? = some oj → listed.getD j false = true → ∀ e ∈ oj.after, Region.binds md e = true → listed.getD e.on false = true
def closedB (md : Region.Mode) (ops : Array Oper) (listed : Array Bool) : Bool :=
  (List.range ops.size).all fun j => !(listed.getD j false) || match ops[j]? with
    | some oj => oj.after.all fun e => !Region.binds md e || listed.getD e.on false
    | none => true
theorem closedB_spec {listed : Array Bool} (h : closedB md ops listed = true) : ClosedL md ops listed := fun j oj hj hl e he hb => by
  have h1 := List.all_eq_true.1 h j (List.mem_range.2 (Array.getElem?_eq_some_iff.1 hj).1)
  simp only [hj, hl, Bool.not_true, Bool.false_or] at h1
  have h2 := Array.all_eq_true_iff_forall_mem.1 h1 e he
  simpa [hb] using h2
theorem ClosedL.set {i : Nat} {listed : Array Bool} (h : ClosedL md ops listed) (hi : i ∈ Region.ready md ops listed) : ClosedL md ops (listed.setIfInBounds i true) := fun j oj hj hl e he hb => by
  obtain ⟨_, oi, hoi, hall⟩ := mem_ready.1 hi
  by_cases hij : i = j
  · subst hij
    have : oj = oi := Option.some.inj (hj.symm.trans hoi)
    subst this
    exact getD_set_true (hall e he hb)
  · rw [getD_set_ne false hij] at hl
    exact getD_set_true (h j oj hj hl e he hb)
/-- j waits for i, by way of others. -/
def deepW (md : Region.Mode) (ops : Array Oper) : Nat → Nat → Nat → Bool
  | 0, j, i => Region.waitsFor md ops j i
  | f + 1, j, i => Region.waitsFor md ops j i || (List.range ops.size).any fun m => Region.waitsFor md ops j m && deepW md ops f m i
theorem deepW_listed {i : Nat} {listed : Array Bool} (hc : ClosedL md ops listed) : ∀ (f j : Nat), deepW md ops f j i = true → (∀ m, Region.waitsFor md ops j m = true → listed.getD m false = true) → listed.getD i false = true
  | 0, _, h, hj => hj _ h
  | f + 1, j, h, hj => by
    simp only [deepW, Bool.or_eq_true] at h
    rcases h with h | h
    · exact hj _ h
    · obtain ⟨m, _, hm⟩ := List.any_eq_true.1 h
      simp only [Bool.and_eq_true] at hm
      refine deepW_listed hc f m hm.2 fun m' hm' => ?_
      obtain ⟨om, hom, e, he, hb, hon⟩ := Region.waitsFor_spec hm'
      have := hc m om hom (hj m hm.1) e he hb
      rwa [hon] at this
/-- Those of which c does not speak wait for number i. -/
def cWaits (md : Region.Mode) (ops : Array Oper) (c : Nat → Bool) (i : Nat) : Bool := (List.range ops.size).all fun j => c j || deepW md ops ops.size j i
theorem anyC_first {i : Nat} {oi : Oper} {v : Value} (hi : ops[i]? = some oi) (hsel : ∀ (j : Nat) (o : Oper) cs b, ops[j]? = some o → o.op ≠ .select cs b)
    (hQ : ∀ c a w, Q (.panic c) (a.put oi.dst v) w → Q (.panic c) a w) (hci : c i = true) (hcw : cWaits md ops c i = true) :
    ∀ (fuel : Nat) (listed : Array Bool) (a : Act) (w : World),
      (∀ j oj, ops[j]? = some oj → j ≠ i → listed.getD j true = false → (∀ e ∈ oj.after, Region.binds md e = true → e.on ≠ i) → oi.apart ops oj = true) →
      ClosedL md ops listed → i ∈ Region.ready md ops listed → YieldsIf P ops S oi v a → S w →
      anyC P md ops Q c S fuel (listed.setIfInBounds i true) (a.put oi.dst v) w → anyC P md ops Q c S (fuel + 1) listed a w := by
  intro fuel
  induction fuel with
  | zero =>
    intro listed a w _ _ hr hy hS H
    refine ⟨fun h => (by rw [h] at hr; cases hr), fun j hj => ?_⟩
    by_cases hji : j = i
    · subst hji; exact hy.wpOp hi hS ⟨fun _ => hS, H⟩
    · have := ready_mono hj hji
      rw [H.1] at this
      cases this
  | succ fuel ih =>
    intro listed a w hfree hcl hr hy hS H
    refine ⟨fun h => (by rw [h] at hr; cases hr), fun j hj => ?_⟩
    by_cases hji : j = i
    · subst hji; exact hy.wpOp hi hS ⟨fun _ => hS, H⟩
    · have h1 := H.2 j (ready_mono hj hji)
      obtain ⟨hjun, oj, hoj, hall⟩ := mem_ready.1 hj
      have hnot : ∀ e ∈ oj.after, Region.binds md e = true → e.on ≠ i := fun e he hb heq => by
        have h1 := hall e he hb
        have h0 := (mem_ready.1 hr).1
        rw [heq] at h1
        rcases Nat.lt_or_ge i listed.size with h' | h'
        · simp [h'] at h0 h1; rw [h0] at h1; cases h1
        · simp [Array.getElem?_eq_none h'] at h1
      have hcj : c j = true := by
        have hjlt : j < ops.size := (Array.getElem?_eq_some_iff.1 hoj).1
        have h2 := List.all_eq_true.1 hcw j (List.mem_range.2 hjlt)
        simp only [Bool.or_eq_true] at h2
        rcases h2 with h2 | h2
        · exact h2
        · have h3 := deepW_listed hcl _ j h2 fun m hm => by
            obtain ⟨o', ho', e, he, hb, hon⟩ := Region.waitsFor_spec hm
            have : o' = oj := Option.some.inj (ho'.symm.trans hoj)
            subst this
            have := hall e he hb
            rwa [hon] at this
          rw [getD_both (mem_ready.1 hr).1] at h3
          cases h3
      have h2 := wpOp_putIf hoj (hfree j oj hoj hji hjun hnot) (fun cs b => hsel i oi cs b hi) (fun cs b => hsel j oj cs b hoj) hQ hy h1
      have hfree' : ∀ k ok, ops[k]? = some ok → k ≠ i → (listed.setIfInBounds j true).getD k true = false →
          (∀ e ∈ ok.after, Region.binds md e = true → e.on ≠ i) → oi.apart ops ok = true := fun k ok hk hki hun hno => by
        refine hfree k ok hk hki ?_ hno
        by_cases hjk : j = k
        · subst hjk; exact hjun
        · rw [getD_set_ne true hjk] at hun; exact hun
      refine wpOp_mono (fun a' w' h3 => ⟨fun _ => h3.2.1 hcj, ih (listed.setIfInBounds j true) a' w' hfree' (hcl.set hj) (ready_mono hr (Ne.symm hji)) h3.1 (h3.2.1 hcj) ?_⟩) h2
      rw [Array.setIfInBounds_comm _ _ hji]
      exact h3.2.2
/-- Take number i first. -/
theorem anyC_take {i : Nat} {oi : Oper} {v : Value} {fuel : Nat} {listed : Array Bool} {a : Act} {w : World} (hi : ops[i]? = some oi)
    (hs : (Region.noSelect ops && Region.free md ops listed i && (Region.ready md ops listed).contains i && c i && cWaits md ops c i && closedB md ops listed) = true)
    (hQ : ∀ c a w, Q (.panic c) (a.put oi.dst v) w → Q (.panic c) a w) (hy : YieldsIf P ops S oi v a) (hS : S w)
    (h : anyC P md ops Q c S fuel (listed.setIfInBounds i true) (a.put oi.dst v) w) : anyC P md ops Q c S (fuel + 1) listed a w := by
  simp only [Bool.and_eq_true] at hs
  obtain ⟨⟨⟨⟨⟨h1, h2⟩, h3⟩, h4⟩, h5⟩, h6⟩ := hs
  exact anyC_first hi (Region.noSelect_spec h1) hQ h4 h5 fuel listed a w (Region.free_spec hi h2) (closedB_spec h6) (by simpa using h3) hy hS h
/-- The one that comes up now. -/
theorem anyC_one {i : Nat} {oi : Oper} {fuel : Nat} {listed : Array Bool} {a : Act} {w : World} (hi : ops[i]? = some oi) (hr : decide (Region.ready md ops listed = [i]) = true)
    (h : ∀ K : Act → World → Prop, Shut (∀ a' w', (c i = true → S w') → anyC P md ops Q c S fuel (listed.setIfInBounds i true) a' w' → K a' w') → if Region.wanted oi (yielded ops a.tmps) = true then Oper.wp P oi a w K Q else K (a.put oi.dst undef) w) :
    anyC P md ops Q c S (fuel + 1) listed a w := by
  have hr' := of_decide_eq_true hr
  refine ⟨fun h0 => (by rw [hr'] at h0; cases h0), fun j hj => ?_⟩
  rw [hr'] at hj
  obtain rfl : j = i := by simpa using hj
  exact wpOp_step hi fun K' hK => h K' (fun a' w' hS hW => hK a' w' ⟨hS, hW⟩)
theorem anyC_done {listed : Array Bool} {a : Act} {w : World} (hr : decide (Region.ready md ops listed = []) = true) (h : Q .normal a w) : ∀ fuel, anyC P md ops Q c S fuel listed a w
  | 0 => ⟨of_decide_eq_true hr, h⟩
  | _ + 1 => ⟨fun _ => h, by rw [of_decide_eq_true hr]; simp⟩
theorem region_anyC {id : Nat} {a : Act} {w : World} (c : Nat → Bool) (S : World → Prop) (hm : P.follows .mixedOrders = true)
    (h : anyC P .any ops Q c S ops.size (Array.replicate ops.size false) a w.drew) : (Code.region id ops true).wp P Q a w :=
  wp_region_any hm (any_of_anyC _ _ _ _ h)
theorem at_drop {l rest : List Oper} {i : Nat} {oi : Oper} (hl : l.drop i = oi :: rest) : l.toArray[i]? = some oi := by
  have h := congrArg (·[0]?) hl
  simpa [List.getElem?_drop] using h
/-- The same, of a region that is written out: the operation is read off its text. -/
theorem anyL_take {l rest : List Oper} (i : Nat) {oi : Oper} {v : Value} {fuel : Nat} {listed : Array Bool} {a : Act} {w : World} (hl : l.drop i = oi :: rest)
    (hs : (Region.noSelect l.toArray && Region.free md l.toArray listed i && (Region.ready md l.toArray listed).contains i && c i && cWaits md l.toArray c i && closedB md l.toArray listed) = true)
    (hQ : ∀ c a w, Q (.panic c) (a.put oi.dst v) w → Q (.panic c) a w) (hy : YieldsIf P l.toArray S oi v a) (hS : S w)
    (h : anyC P md l.toArray Q c S fuel (listed.setIfInBounds i true) (a.put oi.dst v) w) : anyC P md l.toArray Q c S (fuel + 1) listed a w :=
  anyC_take (at_drop hl) hs hQ hy hS h
theorem anyL_one {l rest : List Oper} (i : Nat) {oi : Oper} {fuel : Nat} {listed : Array Bool} {a : Act} {w : World} (hl : l.drop i = oi :: rest) (hr : decide (Region.ready md l.toArray listed = [i]) = true)
    (h : ∀ K : Act → World → Prop, Shut (∀ a' w', (c i = true → S w') → anyC P md l.toArray Q c S fuel (listed.setIfInBounds i true) a' w' → K a' w') → if Region.wanted oi (yielded l.toArray a.tmps) = true then Oper.wp P oi a w K Q else K (a.put oi.dst undef) w) :
    anyC P md l.toArray Q c S (fuel + 1) listed a w := anyC_one (at_drop hl) hr h
end
end Go.Proofs.Ytdjdldcpaidmnaa
namespace Go.Proofs.Ytdjdldcpaidmnaa
open Go
section
variable {P : Program} {Q : Exit → Act → World → Prop} {md : Region.Mode} {S : World → Prop} {c : Nat → Bool}
/-- What is to be shown of one operation that is ready. -/
def StepAt (P : Program) (md : Region.Mode) (l : List Oper) (Q : Exit → Act → World → Prop) (c : Nat → Bool) (S : World → Prop) (fuel : Nat) (listed : Array Bool) (a : Act) (w : World) (i : Nat) (oi : Oper) : Prop :=
  ∀ K : Act → World → Prop, Shut (∀ a' w', (c i = true → S w') → anyC P md l.toArray Q c S fuel (listed.setIfInBounds i true) a' w' → K a' w') → if Region.wanted oi (yielded l.toArray a.tmps) = true then Oper.wp P oi a w K Q else K (a.put oi.dst undef) w
theorem StepAt.wpOp {l rest : List Oper} {i : Nat} {oi : Oper} {fuel : Nat} {listed : Array Bool} {a : Act} {w : World} (hl : l.drop i = oi :: rest) (h : StepAt P md l Q c S fuel listed a w i oi) :
    wpOp P l.toArray Q i (fun a' w' => (c i = true → S w') ∧ anyC P md l.toArray Q c S fuel (listed.setIfInBounds i true) a' w') a w :=
  wpOp_step (at_drop hl) fun K' hK => h K' (fun a' w' hS hW => hK a' w' ⟨hS, hW⟩)
theorem anyL_two {l ri rj : List Oper} (i j : Nat) {oi oj : Oper} {fuel : Nat} {listed : Array Bool} {a : Act} {w : World} (hli : l.drop i = oi :: ri) (hlj : l.drop j = oj :: rj) (hr : decide (Region.ready md l.toArray listed = [i, j]) = true)
    (hi : StepAt P md l Q c S fuel listed a w i oi) (hj : StepAt P md l Q c S fuel listed a w j oj) : anyC P md l.toArray Q c S (fuel + 1) listed a w := by
  have hr' := of_decide_eq_true hr
  refine ⟨fun h0 => (by rw [hr'] at h0; cases h0), fun x hx => ?_⟩
  rw [hr'] at hx
  rcases List.mem_cons.1 hx with rfl | hx
  · exact hi.wpOp hli
  · obtain rfl := List.mem_singleton.1 hx
    exact hj.wpOp hlj
theorem anyL_three {l ri rj rk : List Oper} (i j k : Nat) {oi oj ok : Oper} {fuel : Nat} {listed : Array Bool} {a : Act} {w : World} (hli : l.drop i = oi :: ri) (hlj : l.drop j = oj :: rj) (hlk : l.drop k = ok :: rk)
    (hr : decide (Region.ready md l.toArray listed = [i, j, k]) = true)
    (hi : StepAt P md l Q c S fuel listed a w i oi) (hj : StepAt P md l Q c S fuel listed a w j oj) (hk : StepAt P md l Q c S fuel listed a w k ok) : anyC P md l.toArray Q c S (fuel + 1) listed a w := by
  have hr' := of_decide_eq_true hr
  refine ⟨fun h0 => (by rw [hr'] at h0; cases h0), fun x hx => ?_⟩
  rw [hr'] at hx
  rcases List.mem_cons.1 hx with rfl | hx
  · exact hi.wpOp hli
  · rcases List.mem_cons.1 hx with rfl | hx
    · exact hj.wpOp hlj
    · obtain rfl := List.mem_singleton.1 hx
      exact hk.wpOp hlk
end
end Go.Proofs.Ytdjdldcpaidmnaa
namespace Go.Proofs.Ytdjdldcpaidmnaa
open Go.RowKit
theorem append_run_wp {P : Program} {ops : Array Oper} {rest : List Oper} {o : Oper} {a : Act} {w w' : World} {Q : Exit → Act → World → Prop} (hw : Region.wanted o (yielded ops a.tmps) = true) (s x : Operand) (t : TypeId)
    (ho : o.op = .call { callee := .builtin .append, args := #[s, x], argTypes := #[t, t] }) {vs vx r : Value} (hs : a.eval s = vs) (hx : a.eval x = vx) (hrun : (Builtin.append_ #[t, t] o.type #[vs, vx]).run P w = .ok r w')
    (h : wpList P ops Q rest (a.put o.dst r) w') : wpList P ops Q (o :: rest) a w :=
  wpList_step fun K hK => by
    rw [if_pos hw]
    unfold Oper.wp execOp
    simp only [ho, resolve, invoke, builtin, Sem.run_bind, Sem.run_pure, Result.andThen_ok, List.map_toArray, List.map_cons, List.map_nil, hs, hx, hrun]
    exact hK _ _ h
/-- The same at a step of a region that draws its order. -/
theorem append_run_step {P : Program} {ops : Array Oper} {o : Oper} {a : Act} {w w' : World} {K : Act → World → Prop} {Q : Exit → Act → World → Prop} {E : Prop} (hg : o.guard = none) (s x : Operand) (t : TypeId)
    (ho : o.op = .call { callee := .builtin .append, args := #[s, x], argTypes := #[t, t] }) {vs vx r : Value} (hs : a.eval s = vs) (hx : a.eval x = vx) (hrun : (Builtin.append_ #[t, t] o.type #[vs, vx]).run P w = .ok r w')
    (h : K (a.put o.dst r) w') : if Region.wanted o (yielded ops a.tmps) = true then Oper.wp P o a w K Q else E := by
  have hw : Region.wanted o (yielded ops a.tmps) = true := by simp [Region.wanted, hg]
  rw [if_pos hw]
  unfold Oper.wp execOp
  simp only [ho, resolve, invoke, builtin, Sem.run_bind, Sem.run_pure, Result.andThen_ok, List.map_toArray, List.map_cons, List.map_nil, hs, hx, hrun]
  exact h
end Go.Proofs.Ytdjdldcpaidmnaa
namespace Go.Proofs.Ytdjdldcpaidmnaa
open Go.RowKit
section
variable {P : Program}
/-- What of a field is looked at. -/
def fKey (f : Field) : TypeId × Nat × Bool := (f.type, f.offset, f.name != "_")
theorem eqF_nil (d : Nat) (xs ys : Array Value) (w : World) : (Op.eqFields d xs ys []).run P w = .ok true w := by simp [Op.eqFields]
theorem eqF_cons {d : Nat} {xs ys : Array Value} {f : Field} {fs : List Field} {w : World} {t : TypeId} {o : Nat} {a b : Value} {r : Bool} (hk : fKey f = (t, o, true)) (ha : (part t xs o).run P w = .ok a w) (hb : (part t ys o).run P w = .ok b w)
    (hr : (Op.equalIn d t a b).run P w = .ok r w) : (Op.eqFields d xs ys (f :: fs)).run P w = if r = true then (Op.eqFields d xs ys fs).run P w else .ok false w := by
  unfold fKey at hk
  simp only [Prod.mk.injEq] at hk
  obtain ⟨h1, h2, h3⟩ := hk
  subst h1; subst h2
  have h3' : f.name ≠ "_" := by simpa using h3
  simp only [Op.eqFields, if_pos h3', Sem.run_bind, ha, hb, hr, Result.andThen_ok, Sem.run_ite]
  cases r <;> simp
theorem struct_two {t : TypeId} {k0 k1 : TypeId × Nat × Bool} (h : (P.fieldsOf t).toList.map fKey = [k0, k1]) : ∃ f0 f1, (P.fieldsOf t).toList = [f0, f1] ∧ fKey f0 = k0 ∧ fKey f1 = k1 := by
  generalize (P.fieldsOf t).toList = l at h
  match l, h with
  | [a, b], h => simp at h; exact ⟨a, b, rfl, h.1, h.2⟩
theorem struct_seven {t : TypeId} {k0 k1 k2 k3 k4 k5 k6 : TypeId × Nat × Bool} (h : (P.fieldsOf t).toList.map fKey = [k0, k1, k2, k3, k4, k5, k6]) :
    ∃ f0 f1 f2 f3 f4 f5 f6, (P.fieldsOf t).toList = [f0, f1, f2, f3, f4, f5, f6] ∧ fKey f0 = k0 ∧ fKey f1 = k1 ∧ fKey f2 = k2 ∧ fKey f3 = k3 ∧ fKey f4 = k4 ∧ fKey f5 = k5 ∧ fKey f6 = k6 := by
  generalize (P.fieldsOf t).toList = l at h
  match l, h with
  | [a, b, c, d, e, f, g], h => simp at h; exact ⟨a, b, c, d, e, f, g, rfl, h.1, h.2.1, h.2.2.1, h.2.2.2.1, h.2.2.2.2.1, h.2.2.2.2.2.1, h.2.2.2.2.2.2⟩
theorem eql_of {t : TypeId} {xs ys : Array Value} {w : World} {r : Bool} (hf : P.underlying t = some (.struct (P.fieldsOf t))) (hs : P.stoodInHeld t = false) (h : (Op.eqFields 9999 xs ys (P.fieldsOf t).toList).run P w = .ok r w) :
    (binOp .eql t (.agg xs) (.agg ys)).run P w = .ok (.bool r) w ∧ (binOp .neq t (.agg xs) (.agg ys)).run P w = .ok (.bool (!r)) w := by
  rw [run_eql_struct, run_neq_struct, run_equalIn_struct w 9999 t xs ys hf hs, h]
  exact ⟨rfl, rfl⟩
end
end Go.Proofs.Ytdjdldcpaidmnaa
namespace Go.Proofs.Ytdjdldcpaidmnaa
open Go.RowKit
theorem wrap_in {x : Int} (h : -9223372036854775808 ≤ x ∧ x ≤ 9223372036854775807) : IntKind.i64.wrap x = x := by
  rw [IntKind.wrap_i64]; omega
theorem mod_in (x n : Int) (hn : 0 < n) (hb : n ≤ 1000000) : ∃ t y : Int, x.tmod n = t ∧ (t + n).tmod n = y ∧ 0 ≤ y ∧ y < n ∧ -1000000 ≤ t ∧ t ≤ 1000000 ∧ IntKind.i64.wrap t = t ∧ IntKind.i64.wrap (t + n) = t + n ∧ IntKind.i64.wrap y = y := by
  have h1 := Int.tmod_lt_of_pos x hn
  have h2 := Int.tmod_lt_of_pos (-x) hn
  rw [Int.neg_tmod] at h2
  have h3 : (x.tmod n + n).tmod n = (x.tmod n + n) % n := Int.tmod_eq_emod_of_nonneg (by omega)
  have h4 := Int.emod_nonneg (x.tmod n + n) (show n ≠ 0 by omega)
  have h5 := Int.emod_lt_of_pos (x.tmod n + n) hn
  exact ⟨_, _, rfl, h3, h4, h5, by omega, by omega, wrap_in (by omega), wrap_in (by omega), wrap_in (by omega)⟩
end Go.Proofs.Ytdjdldcpaidmnaa
namespace Go.Proofs.Ytdjdldcpaidmnaa
open Go.RowKit
theorem and_mask2 (n : Int) (k M : Nat) (hM : M = 2 ^ k - 1) (hk : k ≤ 62) : bits .and .i64 n (M : Int) = n % ((2 ^ k : Nat) : Int) := by
  have h62 : 2 ^ k ≤ 2 ^ 62 := Nat.pow_le_pow_right (by omega) hk
  have hpos : 0 < 2 ^ k := Nat.two_pow_pos k
  have hdvd : 2 ^ k ∣ 2 ^ 64 := Nat.pow_dvd_pow 2 (by omega)
  show IntKind.i64.wrap ((BitVec.ofInt 64 n &&& BitVec.ofInt 64 (M : Int)).toNat : Int) = _
  have h2 : (BitVec.ofInt 64 (M : Int)).toNat = M := by
    rw [BitVec.ofInt_natCast, BitVec.toNat_ofNat]; exact Nat.mod_eq_of_lt (by omega)
  have h1 : ((BitVec.ofInt 64 n).toNat : Int) = n % ((2 ^ 64 : Nat) : Int) := by
    rw [BitVec.toNat_ofInt]; exact Int.toNat_of_nonneg (Int.emod_nonneg _ (by decide))
  rw [BitVec.toNat_and, h2, hM, Nat.and_two_pow_sub_one_eq_mod, Int.natCast_emod, h1, Int.emod_emod_of_dvd _ (by exact_mod_cast hdvd), IntKind.wrap_i64]
  generalize hP : 2 ^ k = P at *
  have := Int.emod_nonneg n (b := (P : Int)) (by omega)
  have := Int.emod_lt_of_pos n (b := (P : Int)) (by omega)
  omega
theorem mask_nat2 (n : Int) (k M : Nat) (hM : M = 2 ^ k - 1) (hk : k ≤ 62) : ∃ m : Nat, m < 2 ^ k ∧ bits .and .i64 n (M : Int) = (m : Int) := by
  have hpos : 0 < 2 ^ k := Nat.two_pow_pos k
  have h1 := Int.emod_nonneg n (b := ((2 ^ k : Nat) : Int)) (by omega)
  have h2 := Int.emod_lt_of_pos n (b := ((2 ^ k : Nat) : Int)) (by omega)
  refine ⟨(n % ((2 ^ k : Nat) : Int)).toNat, by omega, ?_⟩
  rw [and_mask2 n k M hM hk]; omega
end Go.Proofs.Ytdjdldcpaidmnaa
namespace Go.Proofs.Ytdjdldcpaidmnaa
open Go.ChangeShapes Go.WideShapes Go.ChangeAt Go.RowKit
section
variable {H : Type} {enc : TypeId × Value → H} {P : Program} {w : World}
def intFields (P : Program) (fs : Array Field) (k : IntKind) : Bool := (List.range fs.size).all fun i => match fs[i]? with
  | some f => f.offset == i && P.cellsOf f.type == 1 && (match P.underlying f.type with | some (.int k') => k' == k | _ => false)
  | none => false
theorem intFields_at {fs : Array Field} {k : IntKind} (h : intFields P fs k = true) (i : Nat) (f : Field) (hf : fs[i]? = some f) : f.offset = i ∧ P.cellsOf f.type = 1 ∧ P.underlying f.type = some (.int k) := by
  have h1 := List.all_eq_true.1 h i (List.mem_range.2 (Array.getElem?_eq_some_iff.1 hf).1)
  simp only [hf, Bool.and_eq_true, beq_iff_eq] at h1
  obtain ⟨⟨o1, o2⟩, o3⟩ := h1
  refine ⟨o1, o2, ?_⟩
  cases hu : P.underlying f.type with
  | none => rw [hu] at o3; cases o3
  | some u =>
    rw [hu] at o3
    cases u <;> first | (rename_i k'; have : k' = k := by simpa using o3
                         rw [this]) | (cases o3)
/-- A struct whose fields are integers of one kind, one cell each, in their order: its numbers, written out. -/
theorem open_ints_struct {r : Reach} {b0 base : Nat} {spare : Nat → Bool} {held : Bool} {t : TypeId} {fs : Array Field} {k : IntKind} {v : Value} {d : DataW H} {p : List MemPlace}
    (ht : P.underlying t = some (.struct fs)) (hfs : intFields P fs k = true) (hct : P.cellsOf t = fs.size)
    (hv : Value.okWide P w r b0 t v) (h : DataW.Trod enc P w base spare held t v d p) :
    ∃ zs : List Int, zs.length = fs.size ∧ v = .agg (zs.map (Value.int k)).toArray ∧ ∀ z ∈ zs, (Lit.int k z).wf = true := by
  obtain ⟨cs, rfl, hsz⟩ := okWide_struct ht hv
  obtain ⟨fuel, hfu⟩ := h
  obtain ⟨xs, m, rfl, hx, hl, hxl, hall⟩ := DataW.trod_struct ht hfu
  rw [hct] at hsz
  have hc : (Value.agg cs).cells = cs := rfl
  rw [hc] at hall
  have h1 : ∀ i (_ : i < fs.size), ∃ z, cs[i]? = some (.int k z) ∧ (Lit.int k z).wf = true := fun i hi => by
    obtain ⟨o1, o2, o3⟩ := intFields_at hfs i fs[i] (by simp [hi])
    have h2 := hall i fs[i] (by simp [hi])
    rw [o1, o2] at h2
    rw [List.getElem?_eq_getElem (by omega)] at h2
    obtain ⟨z, hz, _, hw⟩ := DataW.trod_int o3 h2
    refine ⟨z, ?_, hw⟩
    have := congrArg (·[0]?) hz
    simpa [List.getElem?_take, List.getElem?_drop] using this
  refine ⟨cs.toList.map (fun v => match v with | .int _ z => z | _ => 0), by simp [hsz], ?_, ?_⟩
  · congr 1
    apply Array.ext
    · simp
    · intro i hi _
      obtain ⟨z, hz, _⟩ := h1 i (by omega)
      rw [Array.getElem?_eq_getElem hi] at hz
      have hz' := Option.some.inj hz
      simp [hz']
  · intro z hz
    obtain ⟨c, hc, rfl⟩ := List.mem_map.1 hz
    obtain ⟨i, hi, rfl⟩ := List.getElem_of_mem hc
    obtain ⟨z, hz, hw⟩ := h1 i (by simpa [hsz] using hi)
    rw [Array.getElem?_eq_getElem (by simpa using hi)] at hz
    have hz' := Option.some.inj hz
    simp [hz', hw]
theorem five_of {zs : List Int} (h : zs.length = 5) : ∃ a b c d e, zs = [a, b, c, d, e] := by
  match zs, h with
  | [a, b, c, d, e], _ => exact ⟨a, b, c, d, e, rfl⟩
end
end Go.Proofs.Ytdjdldcpaidmnaa
namespace Go.Proofs.Ytdjdldcpaidmnaa
open Go.ChangeShapes Go.WideShapes Go.ChangeAt Go.RowKit
/-- A command as plain data. -/
structure Cm where
  k : Int
  z : Int
  a : Int
  n : Int
instance : Inhabited Cm := ⟨⟨0, 0, 0, 0⟩⟩
def CmdsIn (w : World) (A : Option Addr) (cs : List Cm) : Prop :=
  cs = [] ∨ ∃ b off, A = some ⟨b, off, none⟩ ∧ b < w.heap.size ∧ ∀ i (h : i < cs.length), w.cell? ⟨b, off + i * 4, none⟩ = some (.int .i64 cs[i].k) ∧ w.cell? ⟨b, off + i * 4 + 1, none⟩ = some (.int .i64 cs[i].z) ∧ w.cell? ⟨b, off + i * 4 + 2, none⟩ = some (.int .i64 cs[i].a) ∧ w.cell? ⟨b, off + i * 4 + 3, none⟩ = some (.int .i64 cs[i].n)
theorem CmdsIn.below {w w' : World} {A : Option Addr} {cs : List Cm} (h : CmdsIn w A cs) (hb : Below w.heap.size w w') : CmdsIn w' A cs := by
  rcases h with h | ⟨b, off, rfl, hlt, hc⟩
  · exact .inl h
  · exact .inr ⟨b, off, rfl, Nat.lt_of_lt_of_le hlt hb.size, fun i hi => by
      obtain ⟨h1, h2, h3, h4⟩ := hc i hi
      exact ⟨(hb.cell (p := ⟨b, _, none⟩) hlt).trans h1, (hb.cell (p := ⟨b, _, none⟩) hlt).trans h2, (hb.cell (p := ⟨b, _, none⟩) hlt).trans h3, (hb.cell (p := ⟨b, _, none⟩) hlt).trans h4⟩⟩
theorem CmdsIn.at_ {w : World} {A : Option Addr} {cs : List Cm} (h : CmdsIn w A cs) {i : Nat} (hi : i < cs.length) :
    ∃ b off, A = some ⟨b, off, none⟩ ∧ b < w.heap.size ∧ w.cell? ⟨b, off + i * 4, none⟩ = some (.int .i64 cs[i].k) ∧ w.cell? ⟨b, off + i * 4 + 1, none⟩ = some (.int .i64 cs[i].z) ∧ w.cell? ⟨b, off + i * 4 + 2, none⟩ = some (.int .i64 cs[i].a) ∧ w.cell? ⟨b, off + i * 4 + 3, none⟩ = some (.int .i64 cs[i].n) := by
  rcases h with rfl | ⟨b, off, rfl, hlt, hc⟩
  · simp at hi
  · obtain ⟨h1, h2, h3, h4⟩ := hc i hi
    exact ⟨b, off, rfl, hlt, h1, h2, h3, h4⟩
/-- The numbers of a command are numbers of the machine's. -/
def CmOk (c : Cm) : Prop := -9223372036854775808 ≤ c.a ∧ c.a ≤ 9223372036854775807
theorem four_of {zs : List Int} (h : zs.length = 4) : ∃ a b c d, zs = [a, b, c, d] := by
  match zs, h with
  | [a, b, c, d], _ => exact ⟨a, b, c, d, rfl⟩
section
variable {H : Type} {enc : TypeId × Value → H} {P : Program} {w : World}
theorem open_cmds {r : Reach} {b0 : Nat} {t e : TypeId} {fs : Array Field} {v : Value} {d : DataW H} {p : List MemPlace} (ht : P.underlying t = some (.slice e)) (he : P.underlying e = some (.struct fs))
    (hfs : intFields P fs .i64 = true) (h4 : fs.size = 4) (ce : P.cellsOf e = 4)
    (hv : Value.okWide P w r b0 t v) (h : DataW.Trod enc P w 0 (fun _ => true) true t v d p) :
    ∃ (A : Option Addr) (cap : Nat) (cs : List Cm), v = .slice A cs.length cap ∧ cs.length ≤ cap ∧ cap ≤ maxLen ∧ CmdsIn w A cs ∧ ∀ c ∈ cs, CmOk c := by
  obtain ⟨a0, len, cap, rfl⟩ := okWide_slice ht hv
  obtain ⟨fuel, hf⟩ := h
  rcases Deep.open_slice ht hf with ⟨hcs, _⟩ | ⟨a, len', cap', m, n, D, Pl, hcs, hb, hl, hm, hmm, _, hx⟩
  · have hcs' : a0 = none ∧ len = 0 ∧ cap = 0 := by simpa [Value.cells] using hcs
    obtain ⟨rfl, rfl, rfl⟩ := hcs'
    exact ⟨none, 0, [], rfl, Nat.zero_le _, Nat.zero_le _, .inl rfl, by simp⟩
  · have hcs' : a0 = some a ∧ len = len' ∧ cap = cap' := by simpa [Value.cells] using hcs
    obtain ⟨rfl, rfl, rfl⟩ := hcs'
    simp only [if_true] at hmm
    subst hmm
    have each : ∀ i, i < m → ∃ c : Cm, w.cell? (a.add (i * 4)) = some (.int .i64 c.k) ∧ w.cell? (a.add (i * 4 + 1)) = some (.int .i64 c.z) ∧ w.cell? (a.add (i * 4 + 2)) = some (.int .i64 c.a) ∧ w.cell? (a.add (i * 4 + 3)) = some (.int .i64 c.n) ∧ CmOk c := fun i hi => by
      obtain ⟨cs', h1, h2⟩ := hx i hi
      rw [ce] at h1
      obtain ⟨_, hlen, hcell⟩ := World.cells?_some h1
      obtain ⟨xs, k, hk, hxy, _, hxl, hff⟩ := DataW.trod_struct he h2
      have hz : ∀ j, j < 4 → ∃ z, cs'[j]? = some (.int .i64 z) ∧ (Lit.int .i64 z).wf = true := fun j hj => by
        obtain ⟨o1, o2, o3⟩ := intFields_at hfs j fs[j] (by simp [show j < fs.size by omega])
        have h3 := hff j fs[j] (by simp [show j < fs.size by omega])
        rw [o1, o2, List.getElem?_eq_getElem (by omega)] at h3
        obtain ⟨z, hz, _, hw⟩ := DataW.trod_int o3 h3
        refine ⟨z, ?_, hw⟩
        have := congrArg (·[0]?) hz
        simpa [List.getElem?_take, List.getElem?_drop] using this
      obtain ⟨z0, e0, _⟩ := hz 0 (by omega)
      obtain ⟨z1, e1, _⟩ := hz 1 (by omega)
      obtain ⟨z2, e2, w2⟩ := hz 2 (by omega)
      obtain ⟨z3, e3, _⟩ := hz 3 (by omega)
      have g := fun j (hj : j < 4) => hcell j (by omega)
      have g0 := g 0 (by omega)
      have g1 := g 1 (by omega)
      have g2 := g 2 (by omega)
      have g3 := g 3 (by omega)
      rw [Deep.add_add] at g0 g1 g2 g3
      rw [e0] at g0
      rw [e1] at g1
      rw [e2] at g2
      rw [e3] at g3
      exact ⟨⟨z0, z1, z2, z3⟩, by simpa using g0, by simpa using g1, by simpa using g2, by simpa using g3, bounds_i64 w2⟩
    obtain ⟨q, hq⟩ := Deep.choose_lt each
    refine ⟨some a, m, (List.range len).map q, by simp, by simpa using hl, hm, ?_, fun c hc => ?_⟩
    · by_cases h0 : len = 0
      · left; subst h0; rfl
      right
      obtain ⟨b, off, spot⟩ := a
      have hspot : spot = none := by simpa [Addr.add] using World.cell?_spot (hq 0 (by omega)).1
      subst hspot
      refine ⟨b, off, rfl, ?_, fun i hi => ?_⟩
      · have h1 := (hq 0 (by omega)).1
        rw [Go.WideShapes.add_plain] at h1
        exact lt_of_cell h1
      · have hi' : i < len := by simpa using hi
        obtain ⟨h1, h2, h3, h4, _⟩ := hq i (by omega)
        rw [Go.WideShapes.add_plain] at h1 h2 h3 h4
        simp only [List.getElem_map, List.getElem_range]
        exact ⟨h1, by rw [Nat.add_assoc]; exact h2, by rw [Nat.add_assoc]; exact h3, by rw [Nat.add_assoc]; exact h4⟩
    · obtain ⟨i, hi, rfl⟩ := List.mem_map.1 hc
      exact (hq i (by have := List.mem_range.1 hi; omega)).2.2.2.2
end
end Go.Proofs.Ytdjdldcpaidmnaa
namespace Go.Proofs.Ytdjdldcpaidmnaa
open Go.ChangeShapes Go.WideShapes Go.ChangeAt Go.RowKit
/-- A row of numbers: where it lies, its capacity, its numbers. -/
structure IRow where
  A : Option Addr
  cap : Nat
  zs : List Int
instance : Inhabited IRow := ⟨⟨none, 0, []⟩⟩
def IRow.In (w : World) (r : IRow) : Prop := IntsIn w r.A r.zs ∧ r.zs.length ≤ 17592186044416 ∧ (r.A = none → r.cap = 0)
def RowsIn (w : World) (A : Option Addr) (rs : List IRow) : Prop :=
  rs = [] ∨ ∃ b off, A = some ⟨b, off, none⟩ ∧ b < w.heap.size ∧ ∀ i (h : i < rs.length), w.cell? ⟨b, off + i, none⟩ = some (.slice rs[i].A rs[i].zs.length rs[i].cap) ∧ rs[i].In w
theorem RowsIn.at_ {w : World} {A : Option Addr} {rs : List IRow} (h : RowsIn w A rs) {i : Nat} (hi : i < rs.length) :
    ∃ b off, A = some ⟨b, off, none⟩ ∧ b < w.heap.size ∧ w.cell? ⟨b, off + i, none⟩ = some (.slice rs[i].A rs[i].zs.length rs[i].cap) ∧ rs[i].In w := by
  rcases h with rfl | ⟨b, off, rfl, hlt, hc⟩
  · simp at hi
  · obtain ⟨h1, h2⟩ := hc i hi
    exact ⟨b, off, rfl, hlt, h1, h2⟩
section
variable {H : Type} {enc : TypeId × Value → H} {P : Program} {w : World}
theorem weights_in {e : TypeId} : ∀ {l : List (DataW H)} {d : DataW H}, d ∈ l → ∀ n ∈ d.weights P e, n ∈ DataW.weightsAll P e l
  | d' :: r, d, hd, n, hn => by
    simp only [DataW.weightsAll, List.mem_append]
    rcases List.mem_cons.1 hd with rfl | h
    · exact Or.inl hn
    · exact Or.inr (weights_in h n hn)
theorem lits_len (k : IntKind) : ∀ zs : List Int, (lits (H := H) k zs).length = zs.length
  | [] => rfl
  | _ :: zs => congrArg (· + 1) (lits_len k zs)
theorem open_rows {r : Reach} {b0 : Nat} {t e q : TypeId} {v : Value} {d : DataW H} {p : List MemPlace} (ht : P.underlying t = some (.slice e)) (he : P.underlying e = some (.slice q)) (hq : P.underlying q = some (.int .i64))
    (ce : P.cellsOf e = 1) (cq : P.cellsOf q = 1) (bq : P.bytesOf q = 8) (hv : Value.okWide P w r b0 t v) (h : DataW.Trod enc P w 0 (fun _ => true) true t v d p) (hsz : ∀ n ∈ d.weights P t, n ≤ reachBytes) :
    ∃ (A : Option Addr) (cap : Nat) (rs : List IRow), v = .slice A rs.length cap ∧ rs.length ≤ cap ∧ cap ≤ maxLen ∧ RowsIn w A rs := by
  obtain ⟨a0, len, cap, rfl⟩ := okWide_slice ht hv
  obtain ⟨fuel, hf⟩ := h
  rcases Deep.open_int_rows ht he hq ce cq hf with ⟨hcs, _⟩ | ⟨a, len', cap', A, L, C, Z, hcs, hb, hl, hm, hd, hx⟩
  · have hcs' : a0 = none ∧ len = 0 ∧ cap = 0 := by simpa [Value.cells] using hcs
    obtain ⟨rfl, rfl, rfl⟩ := hcs'
    exact ⟨none, 0, [], rfl, Nat.zero_le _, Nat.zero_le _, .inl rfl⟩
  · have hcs' : a0 = some a ∧ len = len' ∧ cap = cap' := by simpa [Value.cells] using hcs
    obtain ⟨rfl, rfl, rfl⟩ := hcs'
    refine ⟨some a, cap, (List.range len).map fun i => ⟨A i, C i, (Z i).take (L i)⟩, by simp, by simpa using hl, hm, ?_⟩
    by_cases h0 : len = 0
    · left; subst h0; rfl
    right
    obtain ⟨b, off, spot⟩ := a
    have hspot : spot = none := by simpa [Addr.add] using World.cell?_spot (hx 0 (by omega)).1
    subst hspot
    refine ⟨b, off, rfl, ?_, fun i hi => ?_⟩
    · have h1 := (hx 0 (by omega)).1
      rw [Go.WideShapes.add_plain] at h1
      exact lt_of_cell h1
    · have hi' : i < len := by simpa using hi
      obtain ⟨h1, h2, h3, h4, _, h6, h7⟩ := hx i (by omega)
      rw [Go.WideShapes.add_plain] at h1
      simp only [List.getElem_map, List.getElem_range]
      have hlen : ((Z i).take (L i)).length = L i := by rw [List.length_take]; omega
      have hbig : (Z i).length ≤ 17592186044416 := by
        cases hA : A i with
        | none => have := h6 hA; omega
        | some a' =>
          have hde : d = .slice ((List.range len).map fun r => Deep.intRow .i64 (A r) (L r) (Z r)) ((List.range (cap - len)).map fun j => Deep.intRow .i64 (A (len + j)) (L (len + j)) (Z (len + j))) := congrArg Prod.fst hd
          have hin : Deep.intRow (H := H) .i64 (A i) (L i) (Z i) ∈ (List.range len).map fun r => Deep.intRow (H := H) .i64 (A r) (L r) (Z r) := List.mem_map.2 ⟨i, List.mem_range.2 hi', rfl⟩
          have hrow : Deep.intRow (H := H) .i64 (A i) (L i) (Z i) = .slice (lits .i64 ((Z i).take (L i))) (lits .i64 ((Z i).drop (L i))) := by unfold Deep.intRow; rw [hA]
          have hw := hsz (((Z i).take (L i)).length * 8 + ((Z i).drop (L i)).length * 8) (by
            rw [hde]
            simp only [DataW.weights, ht, List.mem_cons, List.mem_append]
            refine .inr (.inl (weights_in hin _ ?_))
            rw [hrow]
            simp only [DataW.weights, he, List.mem_cons, List.mem_append]
            left
            rw [lits_len, lits_len, bq, Nat.add_mul])
          unfold reachBytes at hw
          have e1 : ((Z i).take (L i)).length + ((Z i).drop (L i)).length = (Z i).length := by rw [← List.length_append, List.take_append_drop]
          omega
      refine ⟨by rw [hlen]; exact h1, ?_, by rw [hlen]; omega, h6⟩
      by_cases hz : (Z i).take (L i) = []
      · exact .inl hz
      · have hpos : 0 < L i := by rw [← hlen]; exact List.length_pos_iff.2 hz
        cases hA : A i with
        | none => have := h6 hA; omega
        | some a' =>
          obtain ⟨_, g⟩ := h7 a' hA
          obtain ⟨b', off', spot'⟩ := a'
          have hspot' : spot' = none := by simpa [Addr.add] using World.cell?_spot (g 0 (by omega))
          subst hspot'
          refine .inr ⟨b', off', rfl, ?_, fun j hj => ?_⟩
          · have := g 0 (by omega)
            rw [Go.WideShapes.add_plain] at this
            exact lt_of_cell this
          · rw [hlen] at hj
            have := g j (by omega)
            rw [Go.WideShapes.add_plain] at this
            rw [this, List.getElem_take]
            simp [List.getD, show j < (Z i).length by omega]
end
theorem infoI2 : (Try.prog.info? 3).map (fun i => (i.zero, i.size, i.bytes)) = some (some (.int .i64 0), 1, 8) := by kernel_rfl
/-- A copy of a row: append([]int{}, row...). -/
theorem copy_ints (W : World) (A : Option Addr) (cap : Nat) (zs : List Int) (hI : IntsIn W A zs) (hN : A = none → cap = 0) (hl : zs.length ≤ 17592186044416) :
    ∃ A' cap' W', (Builtin.append_ #[26, 26] 26 #[.slice (some ⟨W.heap.size, 0, none⟩) 0 0, .slice A zs.length cap]).run Try.prog (W.alloc (.cells #[] 3)) = .ok (.slice A' zs.length cap') W' ∧ IntsIn W' A' zs ∧ Below W.heap.size W W' ∧ (zs ≠ [] → ∀ b off, A' = some ⟨b, off, none⟩ → W.heap.size ≤ b) := by
  obtain ⟨i0, hi, hz0, hz1, hz2⟩ := info_parts infoI2
  have hnew : (W.alloc (.cells #[] 3)).ownsRow W.heap.size 3 1 (.slice (some ⟨W.heap.size, 0, none⟩) 0 0) 0 [] := World.ownsRow_made W #[] 0 (Nat.le_refl _) (by unfold maxLen; omega) rfl
  have hb : Below W.heap.size W (W.alloc (.cells #[] 3)) := (Below.refl _ _).alloc (Nat.le_refl _) _
  cases A with
  | none =>
    obtain rfl := hN rfl
    have hzs : zs = [] := by
      rcases hI with h | ⟨b, off, h, _⟩
      · exact h
      · cases h
    subst hzs
    refine ⟨some ⟨W.heap.size, 0, none⟩, 0, _, ?_, .inl rfl, hb, fun h => absurd rfl h⟩
    exact run_append_owned_none _ W.heap.size 26 26 3 i0 1 Try.underlying26 hi _ _ _ hnew
  | some ad =>
    have hI' := hI.below hb
    have hcells : ∀ j u, (zs.map (Value.int .i64))[j]? = some u → (W.alloc (.cells #[] 3)).cell? (ad.add j) = some u := by
      intro j u hu
      rcases hI' with rfl | ⟨b, off, he, _, hc⟩
      · simp at hu
      · obtain rfl := Option.some.inj he
        rw [List.getElem?_map] at hu
        by_cases hj : j < zs.length
        · rw [List.getElem?_eq_getElem hj] at hu
          simp only [Option.map_some, Option.some.injEq] at hu
          rw [Go.WideShapes.add_plain, hc j hj, hu]
        · rw [List.getElem?_eq_none (by omega)] at hu
          cases hu
    obtain ⟨v', w', h1, h2, h3, h4, h5⟩ := run_append_own_at (P := Try.prog) (W.alloc (.cells #[] 3)) W.heap.size 26 26 3 i0 (.int .i64 0) 1 8 Try.underlying26 hi hz0 hz1 hz2 rfl (by decide) _ _ _ hnew ad zs.length cap (zs.map (Value.int .i64)) (by simp) hcells
      (by intro u hu; obtain ⟨p, _, rfl⟩ := List.mem_map.1 hu; rfl) (by unfold maxLen; omega) (by omega) (by simp)
    have hb2 : Below W.heap.size W w' := hb.grown h3 (by simp) (fun k hk => by simp [Value.ownBlock] at hk; omega)
    rw [Nat.zero_add, List.nil_append] at h2
    rcases h2.2 with ⟨hv, h0⟩ | ⟨g, cap', cur, hv, hg, hgg, _⟩
    · have hzs : zs = [] := List.eq_nil_of_length_eq_zero h0
      subst hzs
      exact ⟨none, 0, w', by rw [h1, hv]; rfl, .inl rfl, hb2, fun h => absurd rfl h⟩
    · subst hv
      refine ⟨some ⟨g, 0, none⟩, cap', w', h1, ?_, hb2, fun _ b off e => ?_⟩
      · by_cases h0 : zs = []
        · exact .inl h0
        · refine .inr ⟨g, 0, rfl, (Array.getElem?_eq_some_iff.1 hgg).1, fun j hj => ?_⟩
          rw [Nat.zero_add, h2.cellAt j (by omega), List.getElem?_map, List.getElem?_eq_getElem hj]
          rfl
      · injection e with e
        injection e with e1 _
        omega
end Go.Proofs.Ytdjdldcpaidmnaa
