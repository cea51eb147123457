/- Two rows of the call's own that lie apart, and one element more in either. -/
import Derived.Test.YtbgkmppngnedlabDoorOBase
import Derived.Test.YtbgkmppngnedlabDoorOKRow
namespace Go.Proofs.YtbgkmppngnedlabDoor
open Go.RowKit

/-- A row: where it lies, its room, what it says. -/
structure SlT (α : Type) where
  A : Option Addr
  c : Nat
  xs : List α
def slT0 {α : Type} : SlT α := ⟨none, 0, []⟩
def ApT (A B : Option Addr) : Prop := ∀ r, A = some ⟨r, 0, none⟩ → B ≠ some ⟨r, 0, none⟩
theorem ApT.symm {A B : Option Addr} (h : ApT A B) : ApT B A := fun r e e2 => h r e2 e
theorem pushT_to {P : Program} {α : Type} {E : Enc α} {st t : TypeId} (hst : P.underlying st = some (.slice t)) {by_ : Nat} (hinfo : Enc.Inf P t E.k by_) (hby : by_ ≤ 100) (hk : 0 < E.k)
    {W : World} {base : Nat} {s : SlT α} (hr : E.Row W base t s.A s.c s.xs) {m : Nat} {x : α} (hm : ∀ j, j < E.k → W.cell? ⟨m, j, none⟩ = (E.c x)[j]?) (hl : s.xs.length ≤ 1000000) (hb : base ≤ W.heap.size) :
    ∃ (s' : SlT α) (W' : World), (Builtin.append_ #[st, st] st #[.slice s.A s.xs.length s.c, .slice (some ⟨m, 0, none⟩) 1 1]).run P W = .ok (.slice s'.A s'.xs.length s'.c) W' ∧ s'.xs = s.xs ++ [x] ∧ E.Row W' base t s'.A s'.c s'.xs ∧ Below base W W' ∧
      (∀ {β : Type} (G : Enc β) (t2 : TypeId) (o : SlT β), ApT s.A o.A → G.Row W base t2 o.A o.c o.xs → ApT s'.A o.A ∧ G.Row W' base t2 o.A o.c o.xs) ∧
      (∀ m2, m2 < W.heap.size → (∀ r, s.A = some ⟨r, 0, none⟩ → r < m2) → ∀ o, W'.cell? ⟨m2, o, none⟩ = W.cell? ⟨m2, o, none⟩) := by
  obtain ⟨A', c', W', hrun, hrow, hgr, hor⟩ := hr.append (P := P) hst hinfo hby hk hm hl hb st
  refine ⟨⟨A', c', s.xs ++ [x]⟩, W', by rw [hrun]; simp, rfl, hrow, hr.grown hgr hb, fun G t2 o ha ho => ⟨fun r e e2 => ?_, ho.far hgr fun g e e2 => ?_⟩, fun m2 hm2 hne o => World.cell?_of_block (a := ⟨m2, o, none⟩) (hgr.block m2 hm2 fun e => ?_)⟩
  · dsimp only at e
    rcases hor with h | h
    · rw [h] at e; exact ha r e e2
    · rw [h] at e
      injection e with e
      injection e with e _ _
      rcases ho.form with ⟨e3, _⟩ | ⟨g, e3, _, h4, _⟩
      · rw [e3] at e2; cases e2
      · rw [e3] at e2; injection e2 with e2; injection e2 with e2 _ _; omega
  · rcases hr.form with ⟨e1, _⟩ | ⟨g', e1, _⟩
    · rw [e1] at e2; simp [Value.ownBlock] at e2
    · rw [e1] at e2
      simp only [Value.ownBlock, Option.some.injEq] at e2
      subst e2
      exact ha g' e1 e
  · rcases hr.form with ⟨e1, _⟩ | ⟨g', e1, _⟩
    · rw [e1] at e; simp [Value.ownBlock] at e
    · rw [e1] at e
      simp only [Value.ownBlock, Option.some.injEq] at e
      have := hne g' e1
      omega
structure TwR {α β : Type} (E1 : Enc α) (E2 : Enc β) (t1 t2 : TypeId) (W : World) (base : Nat) (X : SlT α) (Y : SlT β) : Prop where
  rX : E1.Row W base t1 X.A X.c X.xs
  rY : E2.Row W base t2 Y.A Y.c Y.xs
  ap : ApT X.A Y.A
  bs : base ≤ W.heap.size
section
variable {α β : Type} {E1 : Enc α} {E2 : Enc β} {t1 t2 : TypeId} {W W' : World} {base : Nat} {X : SlT α} {Y : SlT β}
theorem TwR.nil (W : World) (h : base ≤ W.heap.size) : TwR E1 E2 t1 t2 W base slT0 slT0 := ⟨Enc.Row.nil _ _ _, Enc.Row.nil _ _ _, fun r e => (by cases e), h⟩
theorem TwR.below (h : TwR E1 E2 t1 t2 W base X Y) (hb : Below W.heap.size W W') : TwR E1 E2 t1 t2 W' base X Y := ⟨h.rX.below hb, h.rY.below hb, h.ap, Nat.le_trans h.bs hb.size⟩
theorem TwR.pushX {P : Program} {st : TypeId} (hst : P.underlying st = some (.slice t1)) {by_ : Nat} (hinfo : Enc.Inf P t1 E1.k by_) (hby : by_ ≤ 100) (hk : 0 < E1.k)
    (h : TwR E1 E2 t1 t2 W base X Y) {m : Nat} {x : α} (hm : ∀ j, j < E1.k → W.cell? ⟨m, j, none⟩ = (E1.c x)[j]?) (hl : X.xs.length ≤ 1000000) :
    ∃ (s' : SlT α) (W' : World), (Builtin.append_ #[st, st] st #[.slice X.A X.xs.length X.c, .slice (some ⟨m, 0, none⟩) 1 1]).run P W = .ok (.slice s'.A s'.xs.length s'.c) W' ∧ s'.xs = X.xs ++ [x] ∧ TwR E1 E2 t1 t2 W' base s' Y ∧ Below base W W' ∧
      (∀ m2, m2 < W.heap.size → (∀ r, X.A = some ⟨r, 0, none⟩ → r < m2) → ∀ o, W'.cell? ⟨m2, o, none⟩ = W.cell? ⟨m2, o, none⟩) := by
  obtain ⟨s', W', hrun, hxs, hrow, hb, hot, hfar⟩ := pushT_to hst hinfo hby hk h.rX hm hl h.bs
  have kY := hot E2 t2 Y h.ap h.rY
  exact ⟨s', W', hrun, hxs, ⟨hrow, kY.2, kY.1, Nat.le_trans h.bs hb.size⟩, hb, hfar⟩
theorem TwR.pushY {P : Program} {st : TypeId} (hst : P.underlying st = some (.slice t2)) {by_ : Nat} (hinfo : Enc.Inf P t2 E2.k by_) (hby : by_ ≤ 100) (hk : 0 < E2.k)
    (h : TwR E1 E2 t1 t2 W base X Y) {m : Nat} {x : β} (hm : ∀ j, j < E2.k → W.cell? ⟨m, j, none⟩ = (E2.c x)[j]?) (hl : Y.xs.length ≤ 1000000) :
    ∃ (s' : SlT β) (W' : World), (Builtin.append_ #[st, st] st #[.slice Y.A Y.xs.length Y.c, .slice (some ⟨m, 0, none⟩) 1 1]).run P W = .ok (.slice s'.A s'.xs.length s'.c) W' ∧ s'.xs = Y.xs ++ [x] ∧ TwR E1 E2 t1 t2 W' base X s' ∧ Below base W W' ∧
      (∀ m2, m2 < W.heap.size → (∀ r, Y.A = some ⟨r, 0, none⟩ → r < m2) → ∀ o, W'.cell? ⟨m2, o, none⟩ = W.cell? ⟨m2, o, none⟩) := by
  obtain ⟨s', W', hrun, hxs, hrow, hb, hot, hfar⟩ := pushT_to hst hinfo hby hk h.rY hm hl h.bs
  have kX := hot E1 t1 X h.ap.symm h.rX
  exact ⟨s', W', hrun, hxs, ⟨kX.2, hrow, kX.1.symm, Nat.le_trans h.bs hb.size⟩, hb, hfar⟩
end
theorem row_ltT {α : Type} {E : Enc α} {W : World} {base cap : Nat} {t : TypeId} {A : Option Addr} {xs : List α} (h : E.Row W base t A cap xs) : ∀ r, A = some ⟨r, 0, none⟩ → r < W.heap.size := fun r e => by
  rcases h.form with ⟨e1, _⟩ | ⟨g, e1, _, hlt, _⟩
  · rw [e1] at e; cases e
  · rw [e1] at e; injection e with e; injection e with e _ _; omega
theorem fresh_anyT {P : Program} {md : Region.Mode} {ops : Array Oper} {Q : Exit → Act → World → Prop} {c : Nat → Bool} {S : World → Prop} {fuel : Nat} {listed : Array Bool} {a : Act} {W : World} (R : World → Prop) (hR : R W) (h : ∀ W2, R W2 → anyC P md ops Q c S fuel listed a W2) : anyC P md ops Q c S fuel listed a W := h W hR
end Go.Proofs.YtbgkmppngnedlabDoor
