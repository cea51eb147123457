/- What take leaves of a book in a box. -/
import Derived.Test.YtpmhfalhieinjaaBkWalks
namespace Go.Proofs.Ytpmhfalhieinjaa
open Go.RowKit Rec Bk

/-- The blocks F may have turned, others not; new ones may be there. -/
structure Chg (w w' : World) (F : Nat → Prop) : Prop where
  os : w'.os = w.os
  tape : w'.tape = w.tape
  output : w'.output = w.output
  size : w.heap.size ≤ w'.heap.size
  block : ∀ k, k < w.heap.size → ¬ F k → w'.heap[k]? = w.heap[k]?
theorem Chg.refl (w : World) (F : Nat → Prop) : Chg w w F := ⟨rfl, rfl, rfl, Nat.le_refl _, fun _ _ _ => rfl⟩
theorem Chg.trans {a b c : World} {F : Nat → Prop} (h : Chg a b F) (k : Chg b c F) : Chg a c F :=
  ⟨k.os.trans h.os, k.tape.trans h.tape, k.output.trans h.output, Nat.le_trans h.size k.size, fun i hi hn => (k.block i (Nat.lt_of_lt_of_le hi h.size) hn).trans (h.block i hi hn)⟩
theorem Chg.of_below {w w' : World} (h : Below w.heap.size w w') (F : Nat → Prop) : Chg w w' F := ⟨h.os, h.tape, h.output, h.size, fun k hk _ => h.block k hk⟩
theorem Chg.of_grown {w w' : World} {row : Option Nat} (h : w.grownBy w' row) {F : Nat → Prop} (hF : ∀ k, row = some k → F k) : Chg w w' F := ⟨h.os, h.tape, h.output, h.size, fun k hk hn => h.block k hk fun e => hn (hF k e.symm)⟩
theorem Chg.below {w w' : World} {F : Nat → Prop} (h : Chg w w' F) {B : Nat} (hF : ∀ k, F k → B ≤ k) (hw : B ≤ w.heap.size) : Below B w w' := ⟨h.os, h.tape, h.output, h.size, fun k hk => h.block k (by omega) (fun hf => by have := hF k hf; omega)⟩
theorem Chg.grown {w w' : World} {F : Nat → Prop} (h : Chg w w' F) {k : Nat} (hF : ∀ i, F i → i = k ∨ w.heap.size ≤ i) : w.grownBy w' (some k) :=
  ⟨h.os, h.tape, h.output, h.size, fun i hi hn => h.block i hi (fun hf => (hF i hf).elim (fun e => hn (by rw [e])) (fun h' => by omega))⟩
/-- The blocks of a book in box r. -/
def bkF (r : Nat) (A1 A2 : Option Addr) (k : Nat) : Prop := k = r ∨ A1 = some ⟨k, 0, none⟩ ∨ A2 = some ⟨k, 0, none⟩
/-- A book in a box, of the call's own. -/
structure BkB (W : World) (B r : Nat) (A1 : Option Addr) (c1 : Nat) (A2 : Option Addr) (c2 : Nat) (b : Bo) : Prop where
  a : BkAt W r A1 c1 A2 c2 b
  o : BkO W B A1 c1 A2 c2 b
  n1 : A1 ≠ some ⟨r, 0, none⟩
  n2 : A2 ≠ some ⟨r, 0, none⟩
section
variable {W W' : World} {B r : Nat} {A1 : Option Addr} {c1 : Nat} {A2 : Option Addr} {c2 : Nat} {b : Bo}
theorem BkB.below (h : BkB W B r A1 c1 A2 c2 b) (hb : Below W.heap.size W W') : BkB W' B r A1 c1 A2 c2 b := ⟨h.a.below hb, h.o.below hb, h.n1, h.n2⟩
theorem BkB.far {o : Option Nat} (h : BkB W B r A1 c1 A2 c2 b) (hg : W.grownBy W' o) (hr : ∀ k, o = some k → ¬ bkF r A1 A2 k) : BkB W' B r A1 c1 A2 c2 b := by
  have e1 : ∀ g, A1 = some ⟨g, 0, none⟩ → o ≠ some g := fun g e e' => hr g e' (.inr (.inl e))
  have e2 : ∀ g, A2 = some ⟨g, 0, none⟩ → o ≠ some g := fun g e e' => hr g e' (.inr (.inr e))
  exact ⟨h.a.far hg (fun e => hr r e (.inl rfl)), ⟨h.o.z.far hg e1, h.o.m.far hg e2, h.o.d, h.o.zl, h.o.ml⟩, h.n1, h.n2⟩
theorem BkB.chg {F : Nat → Prop} (h : BkB W B r A1 c1 A2 c2 b) (hc : Chg W W' F) (hF : ∀ k, F k → ¬ bkF r A1 A2 k) : BkB W' B r A1 c1 A2 c2 b := by
  have e0 : ∀ k, k < W.heap.size → bkF r A1 A2 k → W'.heap[k]? = W.heap[k]? := fun k hk hb => hc.block k hk (fun hf => hF k hf hb)
  refine ⟨h.a.of (e0 r h.a.lt (.inl rfl)), ⟨⟨h.o.z.1, ?_⟩, ⟨h.o.m.1, ?_⟩, h.o.d, h.o.zl, h.o.ml⟩, h.n1, h.n2⟩
  · rcases h.o.z.2 with hn | ⟨g, cap', cur, hv, hg, hgg, rest⟩
    · exact .inl hn
    · refine .inr ⟨g, cap', cur, hv, hg, ?_, rest⟩
      simp only [Value.slice.injEq] at hv
      rw [e0 g (Array.getElem?_eq_some_iff.1 hgg).1 (.inr (.inl hv.1))]; exact hgg
  · rcases h.o.m.2 with hn | ⟨g, cap', cur, hv, hg, hgg, rest⟩
    · exact .inl hn
    · refine .inr ⟨g, cap', cur, hv, hg, ?_, rest⟩
      simp only [Value.slice.injEq] at hv
      rw [e0 g (Array.getElem?_eq_some_iff.1 hgg).1 (.inr (.inr hv.1))]; exact hgg
end
/-- What take leaves. -/
def TPost (W : World) (B r : Nat) (A1 : Option Addr) (c1 : Nat) (A2 : Option Addr) (c2 : Nat) (b : Bo) (e : Ending) (w' : World) : Prop := e = .returned (.tuple #[]) ∧ BkB w' B r A1 c1 A2 c2 b ∧ Chg W w' (bkF r A1 A2)
theorem Enc.In.grown {α : Type} {E : Enc α} {W W' : World} {A : Option Addr} {xs : List α} (h : E.In W A xs) (hb : Below W.heap.size W W') : E.In W' A xs := h.below hb

section
variable {W : World} {B r : Nat} {A1 : Option Addr} {c1 : Nat} {A2 : Option Addr} {c2 : Nat} {b : Bo}
/-- The stores. -/
theorem BkB.set_zone {g : Nat} (h : BkB W B r (some ⟨g, 0, none⟩) c1 A2 c2 b) {i : Nat} (hi : i < b.zs.length) (z : Zo) :
    BkB (((W.setCell ⟨g, i * 3, none⟩ (.int .i64 z.p)).setCell ⟨g, i * 3 + 1, none⟩ (.int .i64 z.g)).setCell ⟨g, i * 3 + 2, none⟩ (.int .i64 z.s)) B r (some ⟨g, 0, none⟩) c1 A2 c2 { b with zs := b.zs.set i z } ∧
    W.grownBy (((W.setCell ⟨g, i * 3, none⟩ (.int .i64 z.p)).setCell ⟨g, i * 3 + 1, none⟩ (.int .i64 z.g)).setCell ⟨g, i * 3 + 2, none⟩ (.int .i64 z.s)) (some g) := by
  have hg : W.grownBy (((W.setCell ⟨g, i * 3, none⟩ (.int .i64 z.p)).setCell ⟨g, i * 3 + 1, none⟩ (.int .i64 z.g)).setCell ⟨g, i * 3 + 2, none⟩ (.int .i64 z.s)) (some g) := ((grownBy_one W g _ _).trans (grownBy_one _ g _ _)).trans (grownBy_one _ g _ _)
  have hz : zoE.Row (((W.setCell ⟨g, i * 3, none⟩ (.int .i64 z.p)).setCell ⟨g, i * 3 + 1, none⟩ (.int .i64 z.g)).setCell ⟨g, i * 3 + 2, none⟩ (.int .i64 z.s)) B 60 (some ⟨g, 0, none⟩) c1 (b.zs.set i z) := h.o.z.store hi z
  have ha := h.a.far hg (by intro e; injection e with e; exact h.n1 (by rw [e]))
  refine ⟨⟨⟨ha.c0, ?_, ha.c2, ha.c3, ha.c4, ha.fr⟩, ⟨hz, h.o.m.far hg (fun g' e e' => by injection e' with e'; subst e'; exact h.o.d _ rfl e), h.o.d, ?_, h.o.ml⟩, h.n1, h.n2⟩, hg⟩
  · show _ = some (Value.slice _ (b.zs.set i z).length c1)
    rw [List.length_set]; exact ha.c1
  · show (b.zs.set i z).length ≤ 64
    rw [List.length_set]; exact h.o.zl
theorem BkB.set_mem {g : Nat} (h : BkB W B r A1 c1 (some ⟨g, 0, none⟩) c2 b) (i : Nat) (x : Int) :
    BkB (W.setCell ⟨g, i, none⟩ (.int .i64 x)) B r A1 c1 (some ⟨g, 0, none⟩) c2 { b with ms := b.ms.set i x } ∧ W.grownBy (W.setCell ⟨g, i, none⟩ (.int .i64 x)) (some g) := by
  have hg := grownBy_one W g i (.int .i64 x)
  have ha := h.a.far hg (by intro e; injection e with e; exact h.n2 (by rw [e]))
  refine ⟨⟨⟨ha.c0, ha.c1, ?_, ha.c3, ha.c4, ha.fr⟩, ⟨h.o.z.far hg (fun g' e e' => by injection e' with e'; subst e'; exact h.o.d _ e rfl), h.o.m.store i x, h.o.d, h.o.zl, ?_⟩, h.n1, h.n2⟩, hg⟩
  · show _ = some (Value.slice _ (b.ms.set i x).length c2)
    rw [List.length_set]; exact ha.c2
  · show (b.ms.set i x).length ≤ 64
    rw [List.length_set]; exact h.o.ml
theorem BkB.set_q (h : BkB W B r A1 c1 A2 c2 b) (x : Int) : BkB (W.setCell ⟨r, 0, none⟩ (.int .i64 x)) B r A1 c1 A2 c2 { b with q := x } :=
  ⟨h.a.set0 x, (h.o.far (grownBy_one W r 0 _) h.n1 h.n2).same rfl rfl, h.n1, h.n2⟩
theorem BkB.set_sl (h : BkB W B r A1 c1 A2 c2 b) (x : Int) : BkB (W.setCell ⟨r, 3, none⟩ (.int .i64 x)) B r A1 c1 A2 c2 { b with sl := x } :=
  ⟨h.a.set3 x, (h.o.far (grownBy_one W r 3 _) h.n1 h.n2).same rfl rfl, h.n1, h.n2⟩
theorem BkB.set_cu (h : BkB W B r A1 c1 A2 c2 b) (x : Int) : BkB (W.setCell ⟨r, 4, none⟩ (.int .i64 x)) B r A1 c1 A2 c2 { b with cu := x } :=
  ⟨h.a.set4 x, (h.o.far (grownBy_one W r 4 _) h.n1 h.n2).same rfl rfl, h.n1, h.n2⟩
end
end Go.Proofs.Ytpmhfalhieinjaa
