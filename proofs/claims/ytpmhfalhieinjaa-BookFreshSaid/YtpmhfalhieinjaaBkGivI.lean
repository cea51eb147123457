/- The world within given's inner loop. -/
import Derived.Test.YtpmhfalhieinjaaBkGivW
namespace Go.Proofs.Ytpmhfalhieinjaa
open Go.RowKit Rec Bk

structure GvI (wo W : World) (Ax : Option Addr) (cx : Nat) (xs : List Rc) (Ay : Option Addr) (cy : Nat) (ys : List Rc) : Prop where
  x : RRow W wo.heap.size 53 Ax cx xs
  y : RRow W wo.heap.size 52 Ay cy ys
  d : ∀ g, Ax = some ⟨g, 0, none⟩ → Ay ≠ some ⟨g, 0, none⟩
  bo : Below wo.heap.size wo W
section
variable {wo W W' : World} {Ax : Option Addr} {cx : Nat} {xs : List Rc} {Ay : Option Addr} {cy : Nat} {ys : List Rc}
theorem GvI.below (h : GvI wo W Ax cx xs Ay cy ys) (hb : Below W.heap.size W W') : GvI wo W' Ax cx xs Ay cy ys :=
  ⟨h.x.below hb, h.y.below hb, h.d, h.bo.trans (hb.mono h.bo.size)⟩
theorem GvI.start (wo : World) : GvI wo wo none 0 [] none 0 [] :=
  ⟨RRow.nil _ _ _, RRow.nil _ _ _, (fun g e => by cases e), Below.refl _ _⟩
theorem GvI.pushX (h : GvI wo W Ax cx xs Ay cy ys) (r : Rc) (hl : xs.length ≤ 1000) :
    ∃ A' cap' W2, (Builtin.append_ #[46, 46] 46 #[.slice Ax xs.length cx, .slice (some ⟨W.heap.size, 0, none⟩) 1 1]).run Try.prog (W.alloc (.cells #[.int .i64 r.k, .int .i64 r.s, .int .i64 r.a, .int .i64 r.b, .int .i64 r.c, .int .i64 r.d, .string r.body] 53)) = .ok (.slice A' (xs.length + 1) cap') W2 ∧
      GvI wo W2 A' cap' (xs ++ [r]) Ay cy ys := by
  have h1 := h.below (W' := W.alloc (.cells #[.int .i64 r.k, .int .i64 r.s, .int .i64 r.a, .int .i64 r.b, .int .i64 r.c, .int .i64 r.d, .string r.body] 53)) ((Below.refl _ _).alloc (Nat.le_refl _) _)
  obtain ⟨A', cap', W2, hrun, hrow, hg, hA⟩ := h1.x.app (RcAt.new W r _) (by omega) h1.bo.size
  refine ⟨A', cap', W2, hrun, hrow, h1.y.far hg (fun g e e' => h.d g (h1.x.cell e').2 e), fun g e e' => ?_, h1.bo.trans (h1.x.grown hg h1.bo.size)⟩
  rcases hA with rfl | rfl
  · exact h.d g e e'
  · rcases h1.y.form with ⟨e2, _⟩ | ⟨g2, e2, _, hl2, _⟩
    · rw [e2] at e'; cases e'
    · rw [e2] at e'
      injection e with e
      injection e with e
      injection e' with e'
      injection e' with e'
      omega
theorem GvI.pushY (h : GvI wo W Ax cx xs Ay cy ys) (r : Rc) (hl : ys.length ≤ 1000) :
    ∃ A' cap' W2, (Builtin.append_ #[49, 49] 49 #[.slice Ay ys.length cy, .slice (some ⟨W.heap.size, 0, none⟩) 1 1]).run Try.prog (W.alloc (.cells #[.int .i64 r.k, .int .i64 r.s, .int .i64 r.a, .int .i64 r.b, .int .i64 r.c, .int .i64 r.d, .string r.body] 52)) = .ok (.slice A' (ys.length + 1) cap') W2 ∧
      GvI wo W2 Ax cx xs A' cap' (ys ++ [r]) := by
  have h1 := h.below (W' := W.alloc (.cells #[.int .i64 r.k, .int .i64 r.s, .int .i64 r.a, .int .i64 r.b, .int .i64 r.c, .int .i64 r.d, .string r.body] 52)) ((Below.refl _ _).alloc (Nat.le_refl _) _)
  obtain ⟨A', cap', W2, hrun, hrow, hg, hA⟩ := h1.y.app6 (RcAt.new W r _) (by omega) h1.bo.size
  refine ⟨A', cap', W2, hrun, h1.x.far hg (fun g e e' => h.d g e (h1.y.cell e').2), hrow, fun g e e' => ?_, h1.bo.trans (h1.y.grown hg h1.bo.size)⟩
  rcases hA with rfl | rfl
  · exact h.d g e e'
  · rcases h1.x.form with ⟨e2, _⟩ | ⟨g2, e2, _, hl2, _⟩
    · rw [e2] at e; cases e
    · rw [e2] at e
      injection e with e
      injection e with e
      injection e' with e'
      injection e' with e'
      omega
theorem RRow.at0 {base cap : Nat} {t : TypeId} {A : Option Addr} {rs : List Rc} (h : RRow W base t A cap rs) : RecsAt W A rs := by
  rcases h.recs with h0 | ⟨b, e, hlt, hc⟩
  · exact .inl h0
  · exact .inr ⟨b, 0, e, hlt, fun i hi j hj => by rw [Nat.zero_add]; exact hc i hi j hj⟩
/-- Both rows are done: they lie in no block of the outer rows. -/
theorem GvI.fins {w : World} {Aa Ab : Option Addr} {ca cb : Nat} {la lb : List LRow} (h : GvI wo W Ax cx xs Ay cy ys) (ho : GvO w wo Aa ca la Ab cb lb) : Fin W Aa Ab ⟨Ax, cx, xs⟩ ∧ Fin W Aa Ab ⟨Ay, cy, ys⟩ := by
  have hne : ∀ g, wo.heap.size ≤ g → Aa ≠ some ⟨g, 0, none⟩ ∧ Ab ≠ some ⟨g, 0, none⟩ := fun g hg => by
    refine ⟨fun e => ?_, fun e => ?_⟩
    · rcases ho.a.form with ⟨e2, _⟩ | ⟨g2, e2, _, hl2, _⟩
      · rw [e2] at e; cases e
      · rw [e2] at e; injection e with e; injection e with e; omega
    · rcases ho.b.form with ⟨e2, _⟩ | ⟨g2, e2, _, hl2, _⟩
      · rw [e2] at e; cases e
      · rw [e2] at e; injection e with e; injection e with e; omega
  refine ⟨⟨h.x.at0, fun g off e => ?_⟩, ⟨h.y.at0, fun g off e => ?_⟩⟩
  · have e : Ax = some ⟨g, off, none⟩ := e
    rcases h.x.form with ⟨e2, _⟩ | ⟨g2, e2, hb2, hl2, _⟩
    · rw [e2] at e; cases e
    · rw [e2] at e; injection e with e; injection e with e
      exact ⟨by omega, hne g (by omega)⟩
  · have e : Ay = some ⟨g, off, none⟩ := e
    rcases h.y.form with ⟨e2, _⟩ | ⟨g2, e2, hb2, hl2, _⟩
    · rw [e2] at e; cases e
    · rw [e2] at e; injection e with e; injection e with e
      exact ⟨by omega, hne g (by omega)⟩
end
end Go.Proofs.Ytpmhfalhieinjaa
