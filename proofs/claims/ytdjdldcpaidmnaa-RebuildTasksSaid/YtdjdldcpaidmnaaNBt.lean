/- What Note and Has do. -/
import Derived.Test.YtdjdldcpaidmnaaNBm
import Derived.Test.YtdjdldcpaidmnaaMBase
import Derived.Lib.MinMax
namespace Go.Proofs.Ytdjdldcpaidmnaa
open Go.RowKit Rec Bk
/-- The blocks F may have turned, others not; new ones may be there. -/
structure Chg (w w' : World) (F : Nat → Prop) : Prop where
  os : w'.os = w.os
  tape : w'.tape = w.tape
  output : w'.output = w.output
  size : w.heap.size ≤ w'.heap.size
  block : ∀ k, k < w.heap.size → ¬ F k → w'.heap[k]? = w.heap[k]?
theorem Chg.refl (w : World) (F : Nat → Prop) : Chg w w F := ⟨rfl, rfl, rfl, Nat.le_refl _, fun _ _ _ => rfl⟩
theorem Chg.trans {a b c : World} {F : Nat → Prop} (h : Chg a b F) (k : Chg b c F) : Chg a c F :=
  ⟨k.os.trans h.os, k.tape.trans h.tape, k.output.trans h.output, Nat.le_trans h.size k.size, fun i hi hn => (k.block i (Nat.lt_of_lt_of_le hi h.size) hn).trans (h.block i hi hn)⟩
theorem Chg.of_below {w w' : World} (h : Below w.heap.size w w') (F : Nat → Prop) : Chg w w' F := ⟨h.os, h.tape, h.output, h.size, fun k hk _ => h.block k hk⟩
theorem Chg.of_grown {w w' : World} {row : Option Nat} (h : w.grownBy w' row) {F : Nat → Prop} (hF : ∀ k, row = some k → F k) : Chg w w' F := ⟨h.os, h.tape, h.output, h.size, fun k hk hn => h.block k hk fun e => hn (hF k e.symm)⟩
theorem Chg.below {w w' : World} {F : Nat → Prop} (h : Chg w w' F) {B : Nat} (hF : ∀ k, F k → B ≤ k) (hw : B ≤ w.heap.size) : Below B w w' := ⟨h.os, h.tape, h.output, h.size, fun k hk => h.block k (by omega) (fun hf => by have := hF k hf; omega)⟩
theorem Chg.grown {w w' : World} {F : Nat → Prop} (h : Chg w w' F) {k : Nat} (hF : ∀ i, F i → i = k ∨ w.heap.size ≤ i) : w.grownBy w' (some k) :=
  ⟨h.os, h.tape, h.output, h.size, fun i hi hn => h.block i hi (fun hf => (hF i hf).elim (fun e => hn (by rw [e])) (fun h' => by omega))⟩
/-- The blocks of a book in box r. -/
def bkF (r : Nat) (A1 A2 : Option Addr) (k : Nat) : Prop := k = r ∨ A1 = some ⟨k, 0, none⟩ ∨ A2 = some ⟨k, 0, none⟩
/-- A book in a box, of the call's own. -/
structure BkB (W : World) (B r : Nat) (A1 : Option Addr) (c1 : Nat) (A2 : Option Addr) (c2 : Nat) (b : Bo) : Prop where
  a : BkAt W r A1 c1 A2 c2 b
  o : BkO W B A1 c1 A2 c2 b
  n1 : A1 ≠ some ⟨r, 0, none⟩
  n2 : A2 ≠ some ⟨r, 0, none⟩
section
variable {W W' : World} {B r : Nat} {A1 : Option Addr} {c1 : Nat} {A2 : Option Addr} {c2 : Nat} {b : Bo}
theorem BkB.below (h : BkB W B r A1 c1 A2 c2 b) (hb : Below W.heap.size W W') : BkB W' B r A1 c1 A2 c2 b := ⟨h.a.below hb, h.o.below hb, h.n1, h.n2⟩
theorem BkB.far {o : Option Nat} (h : BkB W B r A1 c1 A2 c2 b) (hg : W.grownBy W' o) (hr : ∀ k, o = some k → ¬ bkF r A1 A2 k) : BkB W' B r A1 c1 A2 c2 b := by
  have e1 : ∀ g, A1 = some ⟨g, 0, none⟩ → o ≠ some g := fun g e e' => hr g e' (.inr (.inl e))
  have e2 : ∀ g, A2 = some ⟨g, 0, none⟩ → o ≠ some g := fun g e e' => hr g e' (.inr (.inr e))
  exact ⟨h.a.far hg (fun e => hr r e (.inl rfl)), ⟨h.o.z.far hg e1, h.o.m.far hg e2, h.o.d, h.o.zl, h.o.ml⟩, h.n1, h.n2⟩
theorem BkB.chg {F : Nat → Prop} (h : BkB W B r A1 c1 A2 c2 b) (hc : Chg W W' F) (hF : ∀ k, F k → ¬ bkF r A1 A2 k) : BkB W' B r A1 c1 A2 c2 b := by
  have e0 : ∀ k, k < W.heap.size → bkF r A1 A2 k → W'.heap[k]? = W.heap[k]? := fun k hk hb => hc.block k hk (fun hf => hF k hf hb)
  refine ⟨h.a.of (e0 r h.a.lt (.inl rfl)), ⟨⟨h.o.z.1, ?_⟩, ⟨h.o.m.1, ?_⟩, h.o.d, h.o.zl, h.o.ml⟩, h.n1, h.n2⟩
  · rcases h.o.z.2 with hn | ⟨g, cap', cur, hv, hg, hgg, rest⟩
    · exact .inl hn
    · refine .inr ⟨g, cap', cur, hv, hg, ?_, rest⟩
      simp only [Value.slice.injEq] at hv
      rw [e0 g (Array.getElem?_eq_some_iff.1 hgg).1 (.inr (.inl hv.1))]; exact hgg
  · rcases h.o.m.2 with hn | ⟨g, cap', cur, hv, hg, hgg, rest⟩
    · exact .inl hn
    · refine .inr ⟨g, cap', cur, hv, hg, ?_, rest⟩
      simp only [Value.slice.injEq] at hv
      rw [e0 g (Array.getElem?_eq_some_iff.1 hgg).1 (.inr (.inr hv.1))]; exact hgg
end
/-- What take leaves. -/
def TPost (W : World) (B r : Nat) (A1 : Option Addr) (c1 : Nat) (A2 : Option Addr) (c2 : Nat) (b : Bo) (e : Ending) (w' : World) : Prop := e = .returned (.tuple #[]) ∧ BkB w' B r A1 c1 A2 c2 b ∧ Chg W w' (bkF r A1 A2)
theorem Enc.In.grown {α : Type} {E : Enc α} {W W' : World} {A : Option Addr} {xs : List α} (h : E.In W A xs) (hb : Below W.heap.size W W') : E.In W' A xs := h.below hb
section
variable {W : World} {B r : Nat} {A1 : Option Addr} {c1 : Nat} {A2 : Option Addr} {c2 : Nat} {b : Bo}
/-- The stores. -/
theorem BkB.set_zone {g : Nat} (h : BkB W B r (some ⟨g, 0, none⟩) c1 A2 c2 b) {i : Nat} (hi : i < b.zs.length) (z : Zo) :
    BkB (((W.setCell ⟨g, i * 3, none⟩ (.int .i64 z.p)).setCell ⟨g, i * 3 + 1, none⟩ (.int .i64 z.g)).setCell ⟨g, i * 3 + 2, none⟩ (.int .i64 z.s)) B r (some ⟨g, 0, none⟩) c1 A2 c2 { b with zs := b.zs.set i z } ∧
    W.grownBy (((W.setCell ⟨g, i * 3, none⟩ (.int .i64 z.p)).setCell ⟨g, i * 3 + 1, none⟩ (.int .i64 z.g)).setCell ⟨g, i * 3 + 2, none⟩ (.int .i64 z.s)) (some g) := by
  have hg : W.grownBy (((W.setCell ⟨g, i * 3, none⟩ (.int .i64 z.p)).setCell ⟨g, i * 3 + 1, none⟩ (.int .i64 z.g)).setCell ⟨g, i * 3 + 2, none⟩ (.int .i64 z.s)) (some g) := ((grownBy_one W g _ _).trans (grownBy_one _ g _ _)).trans (grownBy_one _ g _ _)
  have hz : zoE.Row (((W.setCell ⟨g, i * 3, none⟩ (.int .i64 z.p)).setCell ⟨g, i * 3 + 1, none⟩ (.int .i64 z.g)).setCell ⟨g, i * 3 + 2, none⟩ (.int .i64 z.s)) B 69 (some ⟨g, 0, none⟩) c1 (b.zs.set i z) := h.o.z.store hi z
  have ha := h.a.far hg (by intro e; injection e with e; exact h.n1 (by rw [e]))
  refine ⟨⟨⟨ha.c0, ?_, ha.c2, ha.c3, ha.c4, ha.fr⟩, ⟨hz, h.o.m.far hg (fun g' e e' => by injection e' with e'; subst e'; exact h.o.d _ rfl e), h.o.d, ?_, h.o.ml⟩, h.n1, h.n2⟩, hg⟩
  · show _ = some (Value.slice _ (b.zs.set i z).length c1)
    rw [List.length_set]; exact ha.c1
  · show (b.zs.set i z).length ≤ 64
    rw [List.length_set]; exact h.o.zl
theorem BkB.set_mem {g : Nat} (h : BkB W B r A1 c1 (some ⟨g, 0, none⟩) c2 b) (i : Nat) (x : Int) :
    BkB (W.setCell ⟨g, i, none⟩ (.int .i64 x)) B r A1 c1 (some ⟨g, 0, none⟩) c2 { b with ms := b.ms.set i x } ∧ W.grownBy (W.setCell ⟨g, i, none⟩ (.int .i64 x)) (some g) := by
  have hg := grownBy_one W g i (.int .i64 x)
  have ha := h.a.far hg (by intro e; injection e with e; exact h.n2 (by rw [e]))
  refine ⟨⟨⟨ha.c0, ha.c1, ?_, ha.c3, ha.c4, ha.fr⟩, ⟨h.o.z.far hg (fun g' e e' => by injection e' with e'; subst e'; exact h.o.d _ e rfl), h.o.m.store i x, h.o.d, h.o.zl, ?_⟩, h.n1, h.n2⟩, hg⟩
  · show _ = some (Value.slice _ (b.ms.set i x).length c2)
    rw [List.length_set]; exact ha.c2
  · show (b.ms.set i x).length ≤ 64
    rw [List.length_set]; exact h.o.ml
theorem BkB.set_q (h : BkB W B r A1 c1 A2 c2 b) (x : Int) : BkB (W.setCell ⟨r, 0, none⟩ (.int .i64 x)) B r A1 c1 A2 c2 { b with q := x } :=
  ⟨h.a.set0 x, (h.o.far (grownBy_one W r 0 _) h.n1 h.n2).same rfl rfl, h.n1, h.n2⟩
theorem BkB.set_sl (h : BkB W B r A1 c1 A2 c2 b) (x : Int) : BkB (W.setCell ⟨r, 3, none⟩ (.int .i64 x)) B r A1 c1 A2 c2 { b with sl := x } :=
  ⟨h.a.set3 x, (h.o.far (grownBy_one W r 3 _) h.n1 h.n2).same rfl rfl, h.n1, h.n2⟩
theorem BkB.set_cu (h : BkB W B r A1 c1 A2 c2 b) (x : Int) : BkB (W.setCell ⟨r, 4, none⟩ (.int .i64 x)) B r A1 c1 A2 c2 { b with cu := x } :=
  ⟨h.a.set4 x, (h.o.far (grownBy_one W r 4 _) h.n1 h.n2).same rfl rfl, h.n1, h.n2⟩
end
end Go.Proofs.Ytdjdldcpaidmnaa
namespace Go.Proofs.Ytdjdldcpaidmnaa
open Go.RowKit Rec Bk
theorem quiet_here {P : Program} {f : FuncId} {args : Array Value} {w : World} {v : Value}
    (h : Calls P f args w fun e w' => e = .returned v ∧ w = w') : Calls P f args w fun e w'' => e = .returned v ∧ ∃ m, w'' = w.drewN m :=
  h.mono fun _ _ ⟨he, hm⟩ => ⟨he, 0, by rw [← hm]; rfl⟩
section
variable {W : World} {B r : Nat} {A1 : Option Addr} {c1 : Nat} {A2 : Option Addr} {c2 : Nat} {b : Bo}
/-- Behind the box. -/
def TakeW (W : World) (B r : Nat) (A1 : Option Addr) (c1 : Nat) (A2 : Option Addr) (c2 : Nat) (b : Bo) (x : Rc) (W1 : World) : Prop := BkB W1 B r A1 c1 A2 c2 b ∧ RcAt W1 W.heap.size x ∧ Chg W W1 (bkF r A1 A2)
theorem takeW_new (h : BkB W B r A1 c1 A2 c2 b) (x : Rc) : TakeW W B r A1 c1 A2 c2 b x (W.alloc (.cells #[.int .i64 x.k, .int .i64 x.s, .int .i64 x.a, .int .i64 x.b, .int .i64 x.c, .int .i64 x.d, .string x.body] 62)) :=
  ⟨h.below ((Below.refl _ _).alloc (Nat.le_refl _) _), RcAt.new W x _, Chg.of_below ((Below.refl _ _).alloc (Nat.le_refl _) _) _⟩
theorem TakeW.drewN {x : Rc} {W1 : World} (h : TakeW W B r A1 c1 A2 c2 b x W1) (n : Nat) : TakeW W B r A1 c1 A2 c2 b x (W1.drewN n) :=
  have hb : Below W1.heap.size W1 (W1.drewN n) := below_drewN (Below.refl _ _) n
  ⟨h.1.below hb, h.2.1.below hb, h.2.2.trans (Chg.of_below hb _)⟩
/-- What the rest of take wants of the world. -/
structure TakeF (W1 : World) (X r : Nat) (A1 : Option Addr) (c1 : Nat) (A2 : Option Addr) (c2 : Nat) (b : Bo) (x : Rc) : Prop where
  b1 : W1.cell? ⟨r, 1, none⟩ = some (.slice A1 b.zs.length c1)
  b2 : W1.cell? ⟨r, 2, none⟩ = some (.slice A2 b.ms.length c2)
  b3 : ∃ v, W1.cell? ⟨r, 3, none⟩ = some (.int .i64 v)
  b4 : ∃ v, W1.cell? ⟨r, 4, none⟩ = some (.int .i64 v)
  f3 : W1.frozen? ⟨r, 3, none⟩ = false
  f4 : W1.frozen? ⟨r, 4, none⟩ = false
theorem TakeW.facts {x : Rc} {W1 : World} (h : TakeW W B r A1 c1 A2 c2 b x W1) : TakeF W1 W.heap.size r A1 c1 A2 c2 b x := ⟨h.1.a.c1, h.1.a.c2, ⟨_, h.1.a.c3⟩, ⟨_, h.1.a.c4⟩, h.1.a.fr 3, h.1.a.fr 4⟩
theorem TakeW.stored {x : Rc} {W3 : World} (h : TakeW W B r A1 c1 A2 c2 b x W3) (v u v' : Int) :
    (BkB ((W3.setCell ⟨r, 3, none⟩ (.int .i64 v)).setCell ⟨r, 4, none⟩ (.int .i64 u)).drew B r A1 c1 A2 c2 { b with sl := v, cu := u } ∧ Chg W ((W3.setCell ⟨r, 3, none⟩ (.int .i64 v)).setCell ⟨r, 4, none⟩ (.int .i64 u)).drew (bkF r A1 A2)) ∧
    (BkB (((W3.setCell ⟨r, 3, none⟩ (.int .i64 v)).setCell ⟨r, 4, none⟩ (.int .i64 u)).setCell ⟨r, 3, none⟩ (.int .i64 v')).drew B r A1 c1 A2 c2 { b with sl := v', cu := u } ∧ Chg W (((W3.setCell ⟨r, 3, none⟩ (.int .i64 v)).setCell ⟨r, 4, none⟩ (.int .i64 u)).setCell ⟨r, 3, none⟩ (.int .i64 v')).drew (bkF r A1 A2)) := by
  have c3 : ∀ (V : World) (o : Nat) (y : Value), Chg V (V.setCell ⟨r, o, none⟩ y) (bkF r A1 A2) := fun V o y => Chg.of_grown (grownBy_one V r o y) (fun k e => by injection e with e; exact .inl e.symm)
  have hd : ∀ V : World, Chg V V.drew (bkF r A1 A2) := fun V => ⟨rfl, rfl, rfl, Nat.le_refl _, fun _ _ _ => rfl⟩
  have hD : ∀ V : World, Below V.heap.size V V.drew := fun V => (Below.refl _ _).drew
  refine ⟨⟨((h.1.set_sl v).set_cu u).below (hD _), ((h.2.2.trans (c3 _ _ _)).trans (c3 _ _ _)).trans (hd _)⟩, ⟨(((h.1.set_sl v).set_cu u).set_sl v').below (hD _), (((h.2.2.trans (c3 _ _ _)).trans (c3 _ _ _)).trans (c3 _ _ _)).trans (hd _)⟩⟩
theorem TakeW.zone {x : Rc} {W3 : World} {g : Nat} (h : TakeW W B r (some ⟨g, 0, none⟩) c1 A2 c2 b x W3) {i : Nat} (hi : i < b.zs.length) (z : Zo) :
    BkB (((W3.setCell ⟨g, i * 3, none⟩ (.int .i64 z.p)).setCell ⟨g, i * 3 + 1, none⟩ (.int .i64 z.g)).setCell ⟨g, i * 3 + 2, none⟩ (.int .i64 z.s)).drew B r (some ⟨g, 0, none⟩) c1 A2 c2 { b with zs := b.zs.set i z } ∧
    Chg W (((W3.setCell ⟨g, i * 3, none⟩ (.int .i64 z.p)).setCell ⟨g, i * 3 + 1, none⟩ (.int .i64 z.g)).setCell ⟨g, i * 3 + 2, none⟩ (.int .i64 z.s)).drew (bkF r (some ⟨g, 0, none⟩) A2) := by
  obtain ⟨h1, h2⟩ := h.1.set_zone hi z
  exact ⟨h1.below (Below.refl _ _).drew, (h.2.2.trans (Chg.of_grown h2 (fun k e => by injection e with e; subst e; exact .inr (.inl rfl)))).trans ⟨rfl, rfl, rfl, Nat.le_refl _, fun _ _ _ => rfl⟩⟩
theorem TakeW.mem {x : Rc} {W3 : World} {g : Nat} (h : TakeW W B r A1 c1 (some ⟨g, 0, none⟩) c2 b x W3) (i : Nat) (d : Int) :
    BkB (W3.setCell ⟨g, i, none⟩ (.int .i64 d)).drew B r A1 c1 (some ⟨g, 0, none⟩) c2 { b with ms := b.ms.set i d } ∧ Chg W (W3.setCell ⟨g, i, none⟩ (.int .i64 d)).drew (bkF r A1 (some ⟨g, 0, none⟩)) := by
  obtain ⟨h1, h2⟩ := h.1.set_mem i d
  exact ⟨h1.below (Below.refl _ _).drew, (h.2.2.trans (Chg.of_grown h2 (fun k e => by injection e with e; subst e; exact .inr (.inr rfl)))).trans ⟨rfl, rfl, rfl, Nat.le_refl _, fun _ _ _ => rfl⟩⟩
set_option maxRecDepth 100000 in
theorem take_none (x : Rc) (h : BkB W B r A1 c1 A2 c2 b) (h3 : ¬ x.k = 3) (h5 : ¬ x.k = 5) (h6 : ¬ x.k = 6) :
    Calls Try.prog 52 #[.pointer (some ⟨r, 0, none⟩), .agg #[.int .i64 x.k, .int .i64 x.s, .int .i64 x.a, .int .i64 x.b, .int .i64 x.c, .int .i64 x.d, .string x.body]] W (TPost W B r A1 c1 A2 c2 b) := by
  have k3 : (x.k == 3) = false := by simp [h3]
  have k5 : (x.k == 5) = false := by simp [h5]
  have k6 : (x.k == 6) = false := by simp [h6]
  have hX := Lib.hid (takeW_new h x)
  clear h h3 h5 h6
  go_enter Try.func52, Try.ntmps52
  go_wp2_with fail
  refine fresh_world (TakeW W B r A1 c1 A2 c2 b x) hX.out ?_
  clear hX
  rintro W1 hW
  have hWH := Lib.hid hW
  obtain ⟨x0, x1, x2, x3, x4, x5, x6⟩ := hW.2.1
  clear hW
  go_quiet (fail)
  go_wp2_with fail
  refine fresh_world (TakeW W B r A1 c1 A2 c2 b x) (hWH.out.drewN _) ?_
  clear hWH x0 x1 x2 x3 x4 x5 x6
  rintro W2 hW
  have hWH := Lib.hid hW
  obtain ⟨x0, x1, x2, x3, x4, x5, x6⟩ := hW.2.1
  clear hW
  go_quiet (fail)
  go_wp2_with fail
  have hWD := Lib.hid (hWH.out.drewN nq)
  go_end0
  exact ⟨rfl, hWD.out.1, hWD.out.2.2⟩
set_option maxRecDepth 100000 in
set_option maxHeartbeats 1000000 in
theorem take_cur (x : Rc) (sl : Int) (hs : Hid (sl = if x.a = 65535 then -1 else x.a)) (h : BkB W B r A1 c1 A2 c2 b) (h6 : x.k = 6) :
    Calls Try.prog 52 #[.pointer (some ⟨r, 0, none⟩), .agg #[.int .i64 x.k, .int .i64 x.s, .int .i64 x.a, .int .i64 x.b, .int .i64 x.c, .int .i64 x.d, .string x.body]] W (TPost W B r A1 c1 A2 c2 { b with sl := sl, cu := x.b }) := by
  have k3 : (x.k == 3) = false := by simp [h6]
  have k5 : (x.k == 5) = false := by simp [h6]
  have k6 : (x.k == 6) = true := by simp [h6]
  have hX := Lib.hid (takeW_new h x)
  have hr : r < W.heap.size := h.a.lt
  have hr1 : ¬ r = W.heap.size := by omega
  have hr2 : ¬ W.heap.size = r := by omega
  obtain ⟨V, rfl⟩ : ∃ V, V = W := ⟨W, rfl⟩
  clear h h6
  go_enter Try.func52, Try.ntmps52
  go_wp2_with fail
  refine fresh_world (TakeW V B r A1 c1 A2 c2 b x) hX.out ?_
  clear hX
  rintro W1 hW
  have hWH := Lib.hid hW
  obtain ⟨x0, x1, x2, x3, x4, x5, x6⟩ := hW.2.1
  clear hW
  go_quiet (fail)
  go_wp2_with fail
  refine fresh_world (TakeW V B r A1 c1 A2 c2 b x) (hWH.out.drewN _) ?_
  clear hWH x0 x1 x2 x3 x4 x5 x6
  rintro W2 hW
  have hWH := Lib.hid hW
  obtain ⟨x0, x1, x2, x3, x4, x5, x6⟩ := hW.2.1
  clear hW
  go_quiet (fail)
  go_wp2_with fail
  refine fresh_world (TakeW V B r A1 c1 A2 c2 b x) (hWH.out.drewN _) ?_
  clear hWH x0 x1 x2 x3 x4 x5 x6
  rintro W3 hW
  have hWH := Lib.hid hW
  obtain ⟨x0, x1, x2, x3, x4, x5, x6⟩ := hW.2.1
  obtain ⟨_, _, ⟨v3, b3⟩, ⟨v4, b4⟩, f3, f4⟩ := hW.facts
  clear hW
  by_cases ha : x.a = 65535
  · have ha' : (x.a == 65535) = true := by simp [ha]
    have hE := hs.out
    rw [if_pos ha] at hE
    subst hE
    clear ha hs
    have hfin := Lib.hid (hWH.out.stored x.a x.b (-1)).2
    clear hWH
    go_region
    go_wp2_with fail
    refine fresh_post (fun W => BkB W B r A1 c1 A2 c2 { b with sl := -1, cu := x.b } ∧ Chg V W (bkF r A1 A2)) hfin.out ?_
    rintro W5 ⟨h1, h2⟩
    go_end0
    exact ⟨rfl, h1, h2⟩
  · have ha' : (x.a == 65535) = false := by simp [ha]
    have hE := hs.out
    rw [if_neg ha] at hE
    subst hE
    clear ha hs
    have hfin := Lib.hid (hWH.out.stored x.a x.b 0).1
    clear hWH
    go_region
    go_wp2_with fail
    refine fresh_post (fun W => BkB W B r A1 c1 A2 c2 { b with sl := x.a, cu := x.b } ∧ Chg V W (bkF r A1 A2)) hfin.out ?_
    rintro W5 ⟨h1, h2⟩
    go_end0
    exact ⟨rfl, h1, h2⟩
set_option maxRecDepth 100000 in
set_option maxHeartbeats 1000000 in
theorem take_zone (s p gn st : Int) (body : ByteArray) (i : Nat) (h : BkB W B r A1 c1 A2 c2 b) (hil : i < b.zs.length) :
    Calls Try.prog 52 #[.pointer (some ⟨r, 0, none⟩), .agg #[.int .i64 3, .int .i64 s, .int .i64 (i : Int), .int .i64 p, .int .i64 gn, .int .i64 st, .string body]] W (TPost W B r A1 c1 A2 c2 { b with zs := b.zs.set i ⟨p, gn, st⟩ }) := by
  have hzl := h.o.zl
  have hml := h.o.ml
  have hz1 : ∀ g, A1 = some ⟨g, 0, none⟩ → g < W.heap.size := fun g e => by
    rcases h.o.z.form with ⟨e', _⟩ | ⟨g', e', _, hl, _⟩
    · rw [e] at e'; cases e'
    · rw [e] at e'; injection e' with e'; injection e' with e'; omega
  have hz2 : ∀ g, A2 = some ⟨g, 0, none⟩ → g < W.heap.size := fun g e => by
    rcases h.o.m.form with ⟨e', _⟩ | ⟨g', e', _, hl, _⟩
    · rw [e] at e'; cases e'
    · rw [e] at e'; injection e' with e'; injection e' with e'; omega
  have hz1H := Lib.hid hz1
  have hz2H := Lib.hid hz2
  clear hz1 hz2
  obtain ⟨x, hxe⟩ : ∃ x : Rc, x = ⟨3, s, (i : Int), p, gn, st, body⟩ := ⟨_, rfl⟩
  have hX := Lib.hid (takeW_new h ⟨3, s, (i : Int), p, gn, st, body⟩)
  rw [← hxe] at hX
  have hii := Lib.hid (fun W => isIndex_any (i : Int) b.zs.length W)
  rw [decide_eq_true (show 0 ≤ (i : Int) ∧ (i : Int) < b.zs.length by omega)] at hii
  have hx := Lib.hid (fun W X (h : RcAt W X x) => (by rw [hxe] at h; exact ⟨h.c0, h.c1, h.c2, h.c3, h.c4, h.c5⟩ : W.cell? ⟨X, 0, none⟩ = some (.int .i64 3) ∧ W.cell? ⟨X, 1, none⟩ = some (.int .i64 s) ∧ W.cell? ⟨X, 2, none⟩ = some (.int .i64 (i : Int)) ∧ W.cell? ⟨X, 3, none⟩ = some (.int .i64 p) ∧ W.cell? ⟨X, 4, none⟩ = some (.int .i64 gn) ∧ W.cell? ⟨X, 5, none⟩ = some (.int .i64 st)))
  obtain ⟨V, rfl⟩ : ∃ V, V = W := ⟨W, rfl⟩
  have hXV := Lib.hid hX
  subst hxe
  clear h hX
  go_enter Try.func52, Try.ntmps52
  go_wp2_with fail
  refine fresh_world (TakeW V B r A1 c1 A2 c2 b _) hXV.out.out ?_
  clear hXV
  rintro W1 hW
  have hWH := Lib.hid hW
  obtain ⟨x0, x1, x2, x3, x4, x5⟩ := hx.out _ _ hW.2.1
  obtain ⟨b1, b2, _, _, _, _⟩ := hW.facts
  clear hW
  go_quiet ((go_at_call 60; exact quiet_left (hii.out _)))
  go_wp2_with fail
  refine fresh_world (TakeW V B r A1 c1 A2 c2 b _) (hWH.out.drewN _) ?_
  clear hWH x0 x1 x2 x3 x4 x5 b1 b2
  rintro W2 hW
  obtain ⟨g, rfl, _, hg, hcap, z0, z1, z2, zf⟩ := zo_own hW.1.o.z hil
  have n1 : ¬ V.heap.size = g := by have := hz1H.out g rfl; omega
  have hfin := Lib.hid (hW.zone hil ⟨p, gn, st⟩)
  have hWH := Lib.hid hW
  obtain ⟨x0, x1, x2, x3, x4, x5⟩ := hx.out _ _ hW.2.1
  obtain ⟨b1, b2, _, _, _, _⟩ := hW.facts
  have f0 := zf (i * 3)
  have f1 := zf (i * 3 + 1)
  have f2 := zf (i * 3 + 2)
  have l1 : (i : Int) < (b.zs.length : Int) := by omega
  clear hW zf hWH
  go_region
  go_wp2_with fail
  refine fresh_post (fun W => BkB W B r (some ⟨g, 0, none⟩) c1 A2 c2 { b with zs := b.zs.set i ⟨p, gn, st⟩ } ∧ Chg V W (bkF r (some ⟨g, 0, none⟩) A2)) hfin.out ?_
  rintro W5 ⟨h1, h2⟩
  go_end0
  exact ⟨rfl, h1, h2⟩
set_option maxRecDepth 100000 in
set_option maxHeartbeats 1000000 in
theorem take_zone_no (s p gn st : Int) (body : ByteArray) (a : Int) (h : BkB W B r A1 c1 A2 c2 b) (hil : ¬ (0 ≤ a ∧ a < b.zs.length)) :
    Calls Try.prog 52 #[.pointer (some ⟨r, 0, none⟩), .agg #[.int .i64 3, .int .i64 s, .int .i64 a, .int .i64 p, .int .i64 gn, .int .i64 st, .string body]] W (TPost W B r A1 c1 A2 c2 b) := by
  have hzl := h.o.zl
  have hml := h.o.ml
  have hz1 : ∀ g, A1 = some ⟨g, 0, none⟩ → g < W.heap.size := fun g e => by
    rcases h.o.z.form with ⟨e', _⟩ | ⟨g', e', _, hl, _⟩
    · rw [e] at e'; cases e'
    · rw [e] at e'; injection e' with e'; injection e' with e'; omega
  have hz2 : ∀ g, A2 = some ⟨g, 0, none⟩ → g < W.heap.size := fun g e => by
    rcases h.o.m.form with ⟨e', _⟩ | ⟨g', e', _, hl, _⟩
    · rw [e] at e'; cases e'
    · rw [e] at e'; injection e' with e'; injection e' with e'; omega
  have hz1H := Lib.hid hz1
  have hz2H := Lib.hid hz2
  clear hz1 hz2
  obtain ⟨x, hxe⟩ : ∃ x : Rc, x = ⟨3, s, a, p, gn, st, body⟩ := ⟨_, rfl⟩
  have hX := Lib.hid (takeW_new h ⟨3, s, a, p, gn, st, body⟩)
  rw [← hxe] at hX
  have hii := Lib.hid (fun W => isIndex_any a b.zs.length W)
  rw [decide_eq_false hil] at hii
  have hx := Lib.hid (fun W X (h : RcAt W X x) => (by rw [hxe] at h; exact ⟨h.c0, h.c1, h.c2, h.c3, h.c4, h.c5⟩ : W.cell? ⟨X, 0, none⟩ = some (.int .i64 3) ∧ W.cell? ⟨X, 1, none⟩ = some (.int .i64 s) ∧ W.cell? ⟨X, 2, none⟩ = some (.int .i64 a) ∧ W.cell? ⟨X, 3, none⟩ = some (.int .i64 p) ∧ W.cell? ⟨X, 4, none⟩ = some (.int .i64 gn) ∧ W.cell? ⟨X, 5, none⟩ = some (.int .i64 st)))
  obtain ⟨V, rfl⟩ : ∃ V, V = W := ⟨W, rfl⟩
  have hXV := Lib.hid hX
  subst hxe
  clear h hX
  go_enter Try.func52, Try.ntmps52
  go_wp2_with fail
  refine fresh_world (TakeW V B r A1 c1 A2 c2 b _) hXV.out.out ?_
  clear hXV
  rintro W1 hW
  have hWH := Lib.hid hW
  obtain ⟨x0, x1, x2, x3, x4, x5⟩ := hx.out _ _ hW.2.1
  obtain ⟨b1, b2, _, _, _, _⟩ := hW.facts
  clear hW
  go_quiet ((go_at_call 60; exact quiet_left (hii.out _)))
  go_wp2_with fail
  refine fresh_world (TakeW V B r A1 c1 A2 c2 b _) (hWH.out.drewN _) ?_
  clear hWH x0 x1 x2 x3 x4 x5 b1 b2
  rintro W2 hW
  have hWH := Lib.hid hW
  obtain ⟨x0, x1, x2, x3, x4, x5⟩ := hx.out _ _ hW.2.1
  obtain ⟨b1, b2, _, _, _, _⟩ := hW.facts
  clear hW
  go_quiet (fail)
  go_wp2_with fail
  have hWD := Lib.hid (hWH.out.drewN nq)
  go_end0
  exact ⟨rfl, hWD.out.1, hWD.out.2.2⟩
set_option maxRecDepth 100000 in
set_option maxHeartbeats 1000000 in
theorem take_mem_no (s p gn st : Int) (body : ByteArray) (a : Int) (h : BkB W B r A1 c1 A2 c2 b) (hil : ¬ (0 ≤ a ∧ a < b.ms.length)) :
    Calls Try.prog 52 #[.pointer (some ⟨r, 0, none⟩), .agg #[.int .i64 5, .int .i64 s, .int .i64 a, .int .i64 p, .int .i64 gn, .int .i64 st, .string body]] W (TPost W B r A1 c1 A2 c2 b) := by
  have hzl := h.o.zl
  have hml := h.o.ml
  have hz1 : ∀ g, A1 = some ⟨g, 0, none⟩ → g < W.heap.size := fun g e => by
    rcases h.o.z.form with ⟨e', _⟩ | ⟨g', e', _, hl, _⟩
    · rw [e] at e'; cases e'
    · rw [e] at e'; injection e' with e'; injection e' with e'; omega
  have hz2 : ∀ g, A2 = some ⟨g, 0, none⟩ → g < W.heap.size := fun g e => by
    rcases h.o.m.form with ⟨e', _⟩ | ⟨g', e', _, hl, _⟩
    · rw [e] at e'; cases e'
    · rw [e] at e'; injection e' with e'; injection e' with e'; omega
  have hz1H := Lib.hid hz1
  have hz2H := Lib.hid hz2
  clear hz1 hz2
  obtain ⟨x, hxe⟩ : ∃ x : Rc, x = ⟨5, s, a, p, gn, st, body⟩ := ⟨_, rfl⟩
  have hX := Lib.hid (takeW_new h ⟨5, s, a, p, gn, st, body⟩)
  rw [← hxe] at hX
  have hii := Lib.hid (fun W => isIndex_any a b.ms.length W)
  rw [decide_eq_false hil] at hii
  have hx := Lib.hid (fun W X (h : RcAt W X x) => (by rw [hxe] at h; exact ⟨h.c0, h.c1, h.c2, h.c3, h.c4, h.c5⟩ : W.cell? ⟨X, 0, none⟩ = some (.int .i64 5) ∧ W.cell? ⟨X, 1, none⟩ = some (.int .i64 s) ∧ W.cell? ⟨X, 2, none⟩ = some (.int .i64 a) ∧ W.cell? ⟨X, 3, none⟩ = some (.int .i64 p) ∧ W.cell? ⟨X, 4, none⟩ = some (.int .i64 gn) ∧ W.cell? ⟨X, 5, none⟩ = some (.int .i64 st)))
  obtain ⟨V, rfl⟩ : ∃ V, V = W := ⟨W, rfl⟩
  have hXV := Lib.hid hX
  subst hxe
  clear h hX
  go_enter Try.func52, Try.ntmps52
  go_wp2_with fail
  refine fresh_world (TakeW V B r A1 c1 A2 c2 b _) hXV.out.out ?_
  clear hXV
  rintro W1 hW
  have hWH := Lib.hid hW
  obtain ⟨x0, x1, x2, x3, x4, x5⟩ := hx.out _ _ hW.2.1
  obtain ⟨b1, b2, _, _, _, _⟩ := hW.facts
  clear hW
  go_quiet (fail)
  go_wp2_with fail
  refine fresh_world (TakeW V B r A1 c1 A2 c2 b _) (hWH.out.drewN _) ?_
  clear hWH x0 x1 x2 x3 x4 x5 b1 b2
  rintro W2 hW
  have hWH := Lib.hid hW
  obtain ⟨x0, x1, x2, x3, x4, x5⟩ := hx.out _ _ hW.2.1
  obtain ⟨b1, b2, _, _, _, _⟩ := hW.facts
  clear hW
  go_quiet ((go_at_call 60; exact quiet_left (hii.out _)))
  go_wp2_with fail
  have hWD := Lib.hid (hWH.out.drewN nq)
  go_end0
  exact ⟨rfl, hWD.out.1, hWD.out.2.2⟩
set_option maxRecDepth 100000 in
set_option maxHeartbeats 1000000 in
theorem take_mem (s p gn st : Int) (body : ByteArray) (i : Nat) (h : BkB W B r A1 c1 A2 c2 b) (hil : i < b.ms.length) :
    Calls Try.prog 52 #[.pointer (some ⟨r, 0, none⟩), .agg #[.int .i64 5, .int .i64 s, .int .i64 (i : Int), .int .i64 p, .int .i64 gn, .int .i64 st, .string body]] W (TPost W B r A1 c1 A2 c2 { b with ms := b.ms.set i p }) := by
  have hzl := h.o.zl
  have hml := h.o.ml
  have hz1 : ∀ g, A1 = some ⟨g, 0, none⟩ → g < W.heap.size := fun g e => by
    rcases h.o.z.form with ⟨e', _⟩ | ⟨g', e', _, hl, _⟩
    · rw [e] at e'; cases e'
    · rw [e] at e'; injection e' with e'; injection e' with e'; omega
  have hz2 : ∀ g, A2 = some ⟨g, 0, none⟩ → g < W.heap.size := fun g e => by
    rcases h.o.m.form with ⟨e', _⟩ | ⟨g', e', _, hl, _⟩
    · rw [e] at e'; cases e'
    · rw [e] at e'; injection e' with e'; injection e' with e'; omega
  have hz1H := Lib.hid hz1
  have hz2H := Lib.hid hz2
  clear hz1 hz2
  obtain ⟨x, hxe⟩ : ∃ x : Rc, x = ⟨5, s, (i : Int), p, gn, st, body⟩ := ⟨_, rfl⟩
  have hX := Lib.hid (takeW_new h ⟨5, s, (i : Int), p, gn, st, body⟩)
  rw [← hxe] at hX
  have hii := Lib.hid (fun W => isIndex_any (i : Int) b.ms.length W)
  rw [decide_eq_true (show 0 ≤ (i : Int) ∧ (i : Int) < b.ms.length by omega)] at hii
  have hx := Lib.hid (fun W X (h : RcAt W X x) => (by rw [hxe] at h; exact ⟨h.c0, h.c1, h.c2, h.c3, h.c4, h.c5⟩ : W.cell? ⟨X, 0, none⟩ = some (.int .i64 5) ∧ W.cell? ⟨X, 1, none⟩ = some (.int .i64 s) ∧ W.cell? ⟨X, 2, none⟩ = some (.int .i64 (i : Int)) ∧ W.cell? ⟨X, 3, none⟩ = some (.int .i64 p) ∧ W.cell? ⟨X, 4, none⟩ = some (.int .i64 gn) ∧ W.cell? ⟨X, 5, none⟩ = some (.int .i64 st)))
  obtain ⟨V, rfl⟩ : ∃ V, V = W := ⟨W, rfl⟩
  have hXV := Lib.hid hX
  subst hxe
  clear h hX
  go_enter Try.func52, Try.ntmps52
  go_wp2_with fail
  refine fresh_world (TakeW V B r A1 c1 A2 c2 b _) hXV.out.out ?_
  clear hXV
  rintro W1 hW
  have hWH := Lib.hid hW
  obtain ⟨x0, x1, x2, x3, x4, x5⟩ := hx.out _ _ hW.2.1
  obtain ⟨b1, b2, _, _, _, _⟩ := hW.facts
  clear hW
  go_quiet (fail)
  go_wp2_with fail
  refine fresh_world (TakeW V B r A1 c1 A2 c2 b _) (hWH.out.drewN _) ?_
  clear hWH x0 x1 x2 x3 x4 x5 b1 b2
  rintro W2 hW
  have hWH := Lib.hid hW
  obtain ⟨x0, x1, x2, x3, x4, x5⟩ := hx.out _ _ hW.2.1
  obtain ⟨b1, b2, _, _, _, _⟩ := hW.facts
  clear hW
  go_quiet ((go_at_call 60; exact quiet_left (hii.out _)))
  go_wp2_with fail
  refine fresh_world (TakeW V B r A1 c1 A2 c2 b _) (hWH.out.drewN _) ?_
  clear hWH x0 x1 x2 x3 x4 x5 b1 b2
  rintro W3 hW
  obtain ⟨g, rfl, hg, z0⟩ := hW.1.o.m.at_ hil
  have zf := World.ownsRow.frozenAt hW.1.o.m
  have n1 : ¬ V.heap.size = g := by have := hz2H.out g rfl; omega
  have hfin := Lib.hid (hW.mem i p)
  have hWH := Lib.hid hW
  obtain ⟨x0, x1, x2, x3, x4, x5⟩ := hx.out _ _ hW.2.1
  obtain ⟨b1, b2, _, _, _, _⟩ := hW.facts
  have f0 := zf i
  have l1 : (i : Int) < (b.ms.length : Int) := by omega
  clear hW zf hWH
  go_region
  go_wp2_with fail
  refine fresh_post (fun W => BkB W B r A1 c1 (some ⟨g, 0, none⟩) c2 { b with ms := b.ms.set i p } ∧ Chg V W (bkF r A1 (some ⟨g, 0, none⟩))) hfin.out ?_
  rintro W5 ⟨h1, h2⟩
  go_end0
  exact ⟨rfl, h1, h2⟩
theorem take_any (x : Rc) (h : BkB W B r A1 c1 A2 c2 b) :
    Calls Try.prog 52 #[.pointer (some ⟨r, 0, none⟩), .agg #[.int .i64 x.k, .int .i64 x.s, .int .i64 x.a, .int .i64 x.b, .int .i64 x.c, .int .i64 x.d, .string x.body]] W (TPost W B r A1 c1 A2 c2 (takeB b x)) := by
  obtain ⟨k, s, a, p, gn, st, body⟩ := x
  unfold takeB
  dsimp only
  by_cases h3 : k = 3
  · subst h3
    by_cases ha : 0 ≤ a ∧ a < (b.zs.length : Int)
    · rw [if_pos ⟨rfl, ha⟩]
      obtain ⟨i, rfl⟩ := Int.eq_ofNat_of_zero_le ha.1
      rw [Int.toNat_natCast]
      exact take_zone s p gn st body i h (by omega)
    · rw [if_neg (fun e => ha e.2), if_neg (by omega), if_neg (by omega)]
      exact take_zone_no s p gn st body a h ha
  · rw [if_neg (fun e => h3 e.1)]
    by_cases h5 : k = 5
    · subst h5
      by_cases ha : 0 ≤ a ∧ a < (b.ms.length : Int)
      · rw [if_pos ⟨rfl, ha⟩]
        obtain ⟨i, rfl⟩ := Int.eq_ofNat_of_zero_le ha.1
        rw [Int.toNat_natCast]
        exact take_mem s p gn st body i h (by omega)
      · rw [if_neg (fun e => ha e.2), if_neg (by omega)]
        exact take_mem_no s p gn st body a h ha
    · rw [if_neg (fun e => h5 e.1)]
      by_cases h6 : k = 6
      · rw [if_pos h6]
        exact take_cur ⟨k, s, a, p, gn, st, body⟩ _ (Lib.hid rfl) h h6
      · rw [if_neg h6]
        exact take_none ⟨k, s, a, p, gn, st, body⟩ h h3 h5 h6
end
end Go.Proofs.Ytdjdldcpaidmnaa
namespace Go.Proofs.Ytdjdldcpaidmnaa
open Go.RowKit Rec Bk
theorem fresh_C {P : Program} {f : FuncId} {args : Array Value} {w : World} {post : Ending → World → Prop} (R : World → Prop) (hR : R w) (h : ∀ W2, R W2 → Calls P f args W2 post) : Calls P f args w post := h w hR
theorem BkB.of {W : World} {B r : Nat} {A1 A2 : Option Addr} {c1 c2 : Nat} {b : Bo} (ha : BkAt W r A1 c1 A2 c2 b) (ho : BkO W B A1 c1 A2 c2 b) (hr : r < B) : BkB W B r A1 c1 A2 c2 b := ⟨ha, ho, (ho.off hr).1, (ho.off hr).2⟩
/-- A book in a box behind a book put there. -/
theorem put_book {w W : World} {r B : Nat} {A1 A2 X1 X2 : Option Addr} {c1 c2 x1 x2 : Nat} {b b0 : Bo} (hX : BkAt W r X1 x1 X2 x2 b0) (hO : BkO W B A1 c1 A2 c2 b) (hr : r < B) (hw : w.heap.size ≤ r) (hb : Below w.heap.size w W) :
    BkB (((((W.setCell ⟨r, 0, none⟩ (.int .i64 b.q)).setCell ⟨r, 1, none⟩ (.slice A1 b.zs.length c1)).setCell ⟨r, 2, none⟩ (.slice A2 b.ms.length c2)).setCell ⟨r, 3, none⟩ (.int .i64 b.sl)).setCell ⟨r, 4, none⟩ (.int .i64 b.cu)) B r A1 c1 A2 c2 b ∧
    Below w.heap.size w (((((W.setCell ⟨r, 0, none⟩ (.int .i64 b.q)).setCell ⟨r, 1, none⟩ (.slice A1 b.zs.length c1)).setCell ⟨r, 2, none⟩ (.slice A2 b.ms.length c2)).setCell ⟨r, 3, none⟩ (.int .i64 b.sl)).setCell ⟨r, 4, none⟩ (.int .i64 b.cu)) ∧
    ∀ k, k < W.heap.size → k ≠ r → (((((W.setCell ⟨r, 0, none⟩ (.int .i64 b.q)).setCell ⟨r, 1, none⟩ (.slice A1 b.zs.length c1)).setCell ⟨r, 2, none⟩ (.slice A2 b.ms.length c2)).setCell ⟨r, 3, none⟩ (.int .i64 b.sl)).setCell ⟨r, 4, none⟩ (.int .i64 b.cu)).heap[k]? = W.heap[k]? := by
  obtain ⟨h1, h2, h3⟩ := book_out hX hO hr hw hb
  have hg := grownBy_put W r (.int .i64 b.q) (.slice A1 b.zs.length c1) (.slice A2 b.ms.length c2) (.int .i64 b.sl) (.int .i64 b.cu)
  obtain ⟨n1, n2⟩ := hO.off hr
  exact ⟨⟨h1, hO.far hg n1 n2, n1, n2⟩, h3, fun k hk hn => hg.block k hk (by simpa using hn)⟩
theorem RcAt.of {W W' : World} {B : Nat} {r : Rc} (h : RcAt W B r) (hs : W'.heap[B]? = W.heap[B]?) : RcAt W' B r :=
  ⟨(World.cell?_of_block (a := ⟨B, 0, none⟩) hs).trans h.c0, (World.cell?_of_block (a := ⟨B, 1, none⟩) hs).trans h.c1, (World.cell?_of_block (a := ⟨B, 2, none⟩) hs).trans h.c2, (World.cell?_of_block (a := ⟨B, 3, none⟩) hs).trans h.c3, (World.cell?_of_block (a := ⟨B, 4, none⟩) hs).trans h.c4, (World.cell?_of_block (a := ⟨B, 5, none⟩) hs).trans h.c5, (World.cell?_of_block (a := ⟨B, 6, none⟩) hs).trans h.c6⟩
/-- The world within Note: the book's box, the record's, the result's. -/
structure NoteW (w W : World) (B : Nat) (A1 : Option Addr) (c1 : Nat) (A2 : Option Addr) (c2 : Nat) (b : Bo) (x : Rc) : Prop where
  k : BkB W B w.heap.size A1 c1 A2 c2 b
  x : RcAt W (w.heap.size + 1) x
  o : BkAt W (w.heap.size + 1 + 1) none 0 none 0 noB
  bw : Below w.heap.size w W
  bb : w.heap.size + 1 + 1 < B
theorem NoteW.moved {w W W' : World} {B : Nat} {A1 A2 : Option Addr} {c1 c2 : Nat} {b b' : Bo} {x : Rc} (h : NoteW w W B A1 c1 A2 c2 b x) (hk : BkB W' B w.heap.size A1 c1 A2 c2 b') (hc : Chg W W' (bkF w.heap.size A1 A2)) : NoteW w W' B A1 c1 A2 c2 b' x := by
  have hlt := h.o.lt
  have hn : ∀ k, k < B → k ≠ w.heap.size → ¬ bkF w.heap.size A1 A2 k := fun k hk1 hk2 hf => by
    rcases hf with h1 | h1 | h1
    · exact hk2 h1
    · exact (h.k.o.off hk1).1 h1
    · exact (h.k.o.off hk1).2 h1
  have hbb := h.bb
  refine ⟨hk, h.x.of (hc.block _ (by omega) (hn _ (by omega) (by omega))), h.o.of (hc.block _ (by omega) (hn _ (by omega) (by omega))), ⟨hc.os.trans h.bw.os, hc.tape.trans h.bw.tape, hc.output.trans h.bw.output, Nat.le_trans h.bw.size hc.size, fun k hk2 => ?_⟩, hbb⟩
  exact (hc.block k (by omega) (hn k (by omega) (by omega))).trans (h.bw.block k hk2)
theorem NoteW.set_q {w W : World} {B : Nat} {A1 A2 : Option Addr} {c1 c2 : Nat} {b : Bo} {x : Rc} (h : NoteW w W B A1 c1 A2 c2 b x) (q : Int) : NoteW w (W.setCell ⟨w.heap.size, 0, none⟩ (.int .i64 q)) B A1 c1 A2 c2 { b with q := q } x :=
  h.moved (h.k.set_q q) (Chg.of_grown (grownBy_one W w.heap.size 0 _) (fun k e => by injection e with e; exact .inl e.symm))
theorem three_new (w : World) (A1 : Option Addr) (c1 : Nat) (A2 : Option Addr) (c2 : Nat) (b : Bo) (x : Rc) :
    (fun W => BkAt W w.heap.size A1 c1 A2 c2 b ∧ RcAt W (w.heap.size + 1) x ∧ BkAt W (w.heap.size + 1 + 1) none 0 none 0 noB ∧ Below w.heap.size w W)
      (((w.alloc (.cells #[.int .i64 b.q, .slice A1 b.zs.length c1, .slice A2 b.ms.length c2, .int .i64 b.sl, .int .i64 b.cu] 58)).alloc (.cells #[.int .i64 x.k, .int .i64 x.s, .int .i64 x.a, .int .i64 x.b, .int .i64 x.c, .int .i64 x.d, .string x.body] 62)).alloc (.cells #[.int .i64 0, .slice none 0 0, .slice none 0 0, .int .i64 0, .int .i64 0] 58)) := by
  have h1 := BkAt.new w A1 c1 A2 c2 b 58
  generalize hW1 : w.alloc _ = W1 at h1 ⊢
  have e1 : W1.heap.size = w.heap.size + 1 := by rw [← hW1, World.size_alloc]
  have hb1 : Below w.heap.size w W1 := by rw [← hW1]; exact (Below.refl _ _).alloc (Nat.le_refl _) _
  have h2 := RcAt.new W1 x 62
  generalize hW2 : W1.alloc _ = W2 at h2 ⊢
  have e2 : W2.heap.size = w.heap.size + 1 + 1 := by rw [← hW2, World.size_alloc, e1]
  have hb2 : Below W1.heap.size W1 W2 := by rw [← hW2]; exact (Below.refl _ _).alloc (Nat.le_refl _) _
  have h3 := BkAt.new W2 none 0 none 0 noB 58
  have hb3 : Below W2.heap.size W2 (W2.alloc (.cells #[.int .i64 noB.q, .slice none noB.zs.length 0, .slice none noB.ms.length 0, .int .i64 noB.sl, .int .i64 noB.cu] 58)) := (Below.refl _ _).alloc (Nat.le_refl _) _
  rw [e1] at h2
  rw [e2] at h3
  exact ⟨(h1.below hb2).below hb3, h2.below hb3, h3, (hb1.trans (hb2.mono hb1.size)).trans (hb3.mono (by omega))⟩
set_option maxRecDepth 100000 in
set_option maxHeartbeats 2000000 in
theorem note_any (w : World) (A1 : Option Addr) (c1 : Nat) (A2 : Option Addr) (c2 : Nat) (b : Bo) (x : Rc) (h : BkIn w A1 c1 A2 c2 b) :
    Calls Try.prog 19 #[.agg #[.int .i64 b.q, .slice A1 b.zs.length c1, .slice A2 b.ms.length c2, .int .i64 b.sl, .int .i64 b.cu], .agg #[.int .i64 x.k, .int .i64 x.s, .int .i64 x.a, .int .i64 x.b, .int .i64 x.c, .int .i64 x.d, .string x.body]] w (BPost w (noteB b x)) := by
  have hcl := Lib.hid (fun W (hb : Below w.heap.size w W) => bclone_any W A1 c1 A2 c2 b (h.below hb))
  have htk := Lib.hid (fun W B r A1 c1 A2 c2 b (h : BkB W B r A1 c1 A2 c2 b) => take_any x h)
  have hNb : Hid (takeB { b with q := max b.q x.s } x = noteB b x) := Lib.hid rfl
  generalize noteB b x = b' at hNb ⊢
  clear h
  go_enter Try.func19, Try.ntmps19
  go_wp2_with fail
  refine fresh_C (fun W => BkAt W w.heap.size A1 c1 A2 c2 b ∧ RcAt W (w.heap.size + 1) x ∧ BkAt W (w.heap.size + 1 + 1) none 0 none 0 noB ∧ Below w.heap.size w W) (three_new w A1 c1 A2 c2 b x) ?_
  rintro W ⟨hB, hx, hX, hb⟩
  have hl0 := hX.lt
  have hBH := Lib.hid hB
  have hxH := Lib.hid hx
  have hXH := Lib.hid hX
  clear hB hx hX
  refine (hcl.out W hb).mono ?_
  rintro e w1 ⟨A1', c1', A2', c2', rfl, hO1, hb1⟩
  have hp := put_book (hBH.out.below hb1) hO1 (by omega) (Nat.le_refl _) (hb.trans (hb1.mono hb.size))
  have hN : NoteW w _ W.heap.size A1' c1' A2' c2' b x := ⟨hp.1, (hxH.out.below hb1).of (hp.2.2 _ (by have := hb1.size; omega) (by omega)), (hXH.out.below hb1).of (hp.2.2 _ (by have := hb1.size; omega) (by omega)), hp.2.1, hl0⟩
  obtain ⟨b0, b1, b2, b3, b4, bf⟩ := hBH.out.below hb1
  have hNH := Lib.hid hN
  clear hp hN hcl hO1 hb1 hBH hxH hXH
  go_upto_region 2 with fail
  refine fresh_world (fun W1 => NoteW w W1 W.heap.size A1' c1' A2' c2' b x) hNH.out ?_
  clear hNH b0 b1 b2 b3 b4 bf
  rintro W1 hN
  have hNH := Lib.hid hN
  have hN2H := Lib.hid (hN.set_q (max b.q x.s))
  obtain ⟨b0, b1, b2, b3, b4, bf⟩ := hN.k.a
  obtain ⟨x0, x1, x2, x3, x4, x5, x6⟩ := hN.x
  clear hN
  go_upto_region 3 with fail
  refine fresh_world (fun W1 => NoteW w W1 W.heap.size A1' c1' A2' c2' { b with q := max b.q x.s } x) hN2H.out ?_
  clear hNH hN2H b0 b1 b2 b3 b4 bf x0 x1 x2 x3 x4 x5 x6
  rintro W2 hN
  have hNH := Lib.hid hN
  obtain ⟨x0, x1, x2, x3, x4, x5, x6⟩ := hN.x
  have htH := Lib.hid (htk.out _ _ _ _ _ _ _ _ hN.k)
  clear hN htk
  go_wp2_with fail
  refine htH.out.mono ?_
  rintro e w3 ⟨rfl, hk3, hc3⟩
  have hN3 := hNH.out.moved hk3 hc3
  rw [hNb.out] at hN3
  have hout := Lib.hid (book_out hN3.o hN3.k.o hN3.bb (by omega) hN3.bw)
  obtain ⟨b0, b1, b2, b3, b4, bf⟩ := hN3.k.a
  obtain ⟨y0, y1, y2, y3, y4, yf⟩ := hN3.o
  clear hN3 hNb hNH htH x0 x1 x2 x3 x4 x5 x6 hk3 hc3
  go_wp2_with fail
  refine fresh_post (fun W => BkAt W (w.heap.size + 1 + 1) A1' c1' A2' c2' b' ∧ BkO W w.heap.size A1' c1' A2' c2' b' ∧ Below w.heap.size w W) hout.out ?_
  rintro W10 ⟨⟨z0, z1, z2, z3, z4, _⟩, hO10, hb10⟩
  refine bodyPost_ret (v := .agg #[.int .i64 b'.q, .slice A1' b'.zs.length c1', .slice A2' b'.ms.length c2', .int .i64 b'.sl, .int .i64 b'.cu]) (by simp [results, Try.results19, go_sem, z0, z1, z2, z3, z4]) rfl ⟨A1', c1', A2', c2', rfl, hO10, hb10⟩
end Go.Proofs.Ytdjdldcpaidmnaa
namespace Go.Proofs.Ytdjdldcpaidmnaa
open Go.RowKit Rec Bk
set_option maxRecDepth 100000 in
theorem has_anyB (w : World) (A1 : Option Addr) (c1 : Nat) (A2 : Option Addr) (c2 : Nat) (b : Bo) (s p : Int) :
    Calls Try.prog 23 #[.agg #[.int .i64 b.q, .slice A1 b.zs.length c1, .slice A2 b.ms.length c2, .int .i64 b.sl, .int .i64 b.cu], .int .i64 s, .int .i64 p] w fun e w' => e = .returned (.bool (hasB b s p)) ∧ Below w.heap.size w w' := by
  have hii := Lib.hid (fun W => isIndex_any s b.ms.length W)
  unfold hasB
  generalize b.zs.length = n1
  generalize b.ms.length = n2 at hii ⊢
  by_cases h1 : 0 ≤ s ∧ s < (n2 : Int)
  · rw [decide_eq_true h1] at hii
    by_cases h2 : s = b.sl
    · have h2' : (s != b.sl) = false := by simp [h2]
      by_cases h3 : p < b.cu
      · rw [decide_eq_true ⟨h1.1, h1.2, .inr h3⟩]
        have h3' : decide (p < b.cu) = true := decide_eq_true h3
        clear h1 h2
        go_enter Try.func23, Try.ntmps23
        go_wp2_with (go_at_call 60; refine (hii.out _).mono ?_; rintro e w1 ⟨rfl, rfl⟩)
        go_ret
        exact ⟨rfl, (Below.refl _ _).alloc (Nat.le_refl _) _⟩
      · rw [decide_eq_false (by rintro ⟨_, _, h | h⟩; exact h h2; exact h3 h)]
        have h3' : decide (p < b.cu) = false := decide_eq_false h3
        clear h1 h2
        go_enter Try.func23, Try.ntmps23
        go_wp2_with (go_at_call 60; refine (hii.out _).mono ?_; rintro e w1 ⟨rfl, rfl⟩)
        go_ret
        exact ⟨rfl, (Below.refl _ _).alloc (Nat.le_refl _) _⟩
    · rw [decide_eq_true ⟨h1.1, h1.2, .inl h2⟩]
      have h2' : (s != b.sl) = true := by simp [h2]
      clear h1 h2
      go_enter Try.func23, Try.ntmps23
      go_wp2_with (go_at_call 60; refine (hii.out _).mono ?_; rintro e w1 ⟨rfl, rfl⟩)
      go_ret
      exact ⟨rfl, (Below.refl _ _).alloc (Nat.le_refl _) _⟩
  · rw [decide_eq_false h1] at hii
    rw [decide_eq_false (fun h => h1 ⟨h.1, h.2.1⟩)]
    clear h1
    go_enter Try.func23, Try.ntmps23
    go_wp2_with (go_at_call 60; refine (hii.out _).mono ?_; rintro e w1 ⟨rfl, rfl⟩)
    go_ret
    exact ⟨rfl, (Below.refl _ _).alloc (Nat.le_refl _) _⟩
end Go.Proofs.Ytdjdldcpaidmnaa
