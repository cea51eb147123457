/- take, walked. -/
import Derived.Test.YtpmhfalhieinjaaBkTake
import Derived.Test.YtpmhfalhieinjaaBytes
namespace Go.Proofs.Ytpmhfalhieinjaa
open Go.RowKit Rec Bk

theorem quiet_here {P : Program} {f : FuncId} {args : Array Value} {w : World} {v : Value}
    (h : Calls P f args w fun e w' => e = .returned v ∧ w = w') : Calls P f args w fun e w'' => e = .returned v ∧ ∃ m, w'' = w.drewN m :=
  h.mono fun _ _ ⟨he, hm⟩ => ⟨he, 0, by rw [← hm]; rfl⟩
section
variable {W : World} {B r : Nat} {A1 : Option Addr} {c1 : Nat} {A2 : Option Addr} {c2 : Nat} {b : Bo}
/-- Behind the box. -/
def TakeW (W : World) (B r : Nat) (A1 : Option Addr) (c1 : Nat) (A2 : Option Addr) (c2 : Nat) (b : Bo) (x : Rc) (W1 : World) : Prop := BkB W1 B r A1 c1 A2 c2 b ∧ RcAt W1 W.heap.size x ∧ Chg W W1 (bkF r A1 A2)
theorem takeW_new (h : BkB W B r A1 c1 A2 c2 b) (x : Rc) : TakeW W B r A1 c1 A2 c2 b x (W.alloc (.cells #[.int .i64 x.k, .int .i64 x.s, .int .i64 x.a, .int .i64 x.b, .int .i64 x.c, .int .i64 x.d, .string x.body] 53)) :=
  ⟨h.below ((Below.refl _ _).alloc (Nat.le_refl _) _), RcAt.new W x _, Chg.of_below ((Below.refl _ _).alloc (Nat.le_refl _) _) _⟩

theorem TakeW.drewN {x : Rc} {W1 : World} (h : TakeW W B r A1 c1 A2 c2 b x W1) (n : Nat) : TakeW W B r A1 c1 A2 c2 b x (W1.drewN n) :=
  have hb : Below W1.heap.size W1 (W1.drewN n) := below_drewN (Below.refl _ _) n
  ⟨h.1.below hb, h.2.1.below hb, h.2.2.trans (Chg.of_below hb _)⟩
/-- What the rest of take wants of the world. -/
structure TakeF (W1 : World) (X r : Nat) (A1 : Option Addr) (c1 : Nat) (A2 : Option Addr) (c2 : Nat) (b : Bo) (x : Rc) : Prop where
  b1 : W1.cell? ⟨r, 1, none⟩ = some (.slice A1 b.zs.length c1)
  b2 : W1.cell? ⟨r, 2, none⟩ = some (.slice A2 b.ms.length c2)
  b3 : ∃ v, W1.cell? ⟨r, 3, none⟩ = some (.int .i64 v)
  b4 : ∃ v, W1.cell? ⟨r, 4, none⟩ = some (.int .i64 v)
  f3 : W1.frozen? ⟨r, 3, none⟩ = false
  f4 : W1.frozen? ⟨r, 4, none⟩ = false
theorem TakeW.facts {x : Rc} {W1 : World} (h : TakeW W B r A1 c1 A2 c2 b x W1) : TakeF W1 W.heap.size r A1 c1 A2 c2 b x := ⟨h.1.a.c1, h.1.a.c2, ⟨_, h.1.a.c3⟩, ⟨_, h.1.a.c4⟩, h.1.a.fr 3, h.1.a.fr 4⟩
theorem TakeW.stored {x : Rc} {W3 : World} (h : TakeW W B r A1 c1 A2 c2 b x W3) (v u v' : Int) :
    (BkB ((W3.setCell ⟨r, 3, none⟩ (.int .i64 v)).setCell ⟨r, 4, none⟩ (.int .i64 u)).drew B r A1 c1 A2 c2 { b with sl := v, cu := u } ∧ Chg W ((W3.setCell ⟨r, 3, none⟩ (.int .i64 v)).setCell ⟨r, 4, none⟩ (.int .i64 u)).drew (bkF r A1 A2)) ∧
    (BkB (((W3.setCell ⟨r, 3, none⟩ (.int .i64 v)).setCell ⟨r, 4, none⟩ (.int .i64 u)).setCell ⟨r, 3, none⟩ (.int .i64 v')).drew B r A1 c1 A2 c2 { b with sl := v', cu := u } ∧ Chg W (((W3.setCell ⟨r, 3, none⟩ (.int .i64 v)).setCell ⟨r, 4, none⟩ (.int .i64 u)).setCell ⟨r, 3, none⟩ (.int .i64 v')).drew (bkF r A1 A2)) := by
  have c3 : ∀ (V : World) (o : Nat) (y : Value), Chg V (V.setCell ⟨r, o, none⟩ y) (bkF r A1 A2) := fun V o y => Chg.of_grown (grownBy_one V r o y) (fun k e => by injection e with e; exact .inl e.symm)
  have hd : ∀ V : World, Chg V V.drew (bkF r A1 A2) := fun V => ⟨rfl, rfl, rfl, Nat.le_refl _, fun _ _ _ => rfl⟩
  have hD : ∀ V : World, Below V.heap.size V V.drew := fun V => (Below.refl _ _).drew
  refine ⟨⟨((h.1.set_sl v).set_cu u).below (hD _), ((h.2.2.trans (c3 _ _ _)).trans (c3 _ _ _)).trans (hd _)⟩, ⟨(((h.1.set_sl v).set_cu u).set_sl v').below (hD _), (((h.2.2.trans (c3 _ _ _)).trans (c3 _ _ _)).trans (c3 _ _ _)).trans (hd _)⟩⟩
theorem TakeW.zone {x : Rc} {W3 : World} {g : Nat} (h : TakeW W B r (some ⟨g, 0, none⟩) c1 A2 c2 b x W3) {i : Nat} (hi : i < b.zs.length) (z : Zo) :
    BkB (((W3.setCell ⟨g, i * 3, none⟩ (.int .i64 z.p)).setCell ⟨g, i * 3 + 1, none⟩ (.int .i64 z.g)).setCell ⟨g, i * 3 + 2, none⟩ (.int .i64 z.s)).drew B r (some ⟨g, 0, none⟩) c1 A2 c2 { b with zs := b.zs.set i z } ∧
    Chg W (((W3.setCell ⟨g, i * 3, none⟩ (.int .i64 z.p)).setCell ⟨g, i * 3 + 1, none⟩ (.int .i64 z.g)).setCell ⟨g, i * 3 + 2, none⟩ (.int .i64 z.s)).drew (bkF r (some ⟨g, 0, none⟩) A2) := by
  obtain ⟨h1, h2⟩ := h.1.set_zone hi z
  exact ⟨h1.below (Below.refl _ _).drew, (h.2.2.trans (Chg.of_grown h2 (fun k e => by injection e with e; subst e; exact .inr (.inl rfl)))).trans ⟨rfl, rfl, rfl, Nat.le_refl _, fun _ _ _ => rfl⟩⟩
theorem TakeW.mem {x : Rc} {W3 : World} {g : Nat} (h : TakeW W B r A1 c1 (some ⟨g, 0, none⟩) c2 b x W3) (i : Nat) (d : Int) :
    BkB (W3.setCell ⟨g, i, none⟩ (.int .i64 d)).drew B r A1 c1 (some ⟨g, 0, none⟩) c2 { b with ms := b.ms.set i d } ∧ Chg W (W3.setCell ⟨g, i, none⟩ (.int .i64 d)).drew (bkF r A1 (some ⟨g, 0, none⟩)) := by
  obtain ⟨h1, h2⟩ := h.1.set_mem i d
  exact ⟨h1.below (Below.refl _ _).drew, (h.2.2.trans (Chg.of_grown h2 (fun k e => by injection e with e; subst e; exact .inr (.inr rfl)))).trans ⟨rfl, rfl, rfl, Nat.le_refl _, fun _ _ _ => rfl⟩⟩
set_option maxRecDepth 100000 in
theorem take_none (x : Rc) (h : BkB W B r A1 c1 A2 c2 b) (h3 : ¬ x.k = 3) (h5 : ¬ x.k = 5) (h6 : ¬ x.k = 6) :
    Calls Try.prog 23 #[.pointer (some ⟨r, 0, none⟩), .agg #[.int .i64 x.k, .int .i64 x.s, .int .i64 x.a, .int .i64 x.b, .int .i64 x.c, .int .i64 x.d, .string x.body]] W (TPost W B r A1 c1 A2 c2 b) := by
  have k3 : (x.k == 3) = false := by simp [h3]
  have k5 : (x.k == 5) = false := by simp [h5]
  have k6 : (x.k == 6) = false := by simp [h6]
  have hX := Lib.hid (takeW_new h x)
  clear h h3 h5 h6
  go_enter Try.func23, Try.ntmps23
  go_wp2_with fail
  refine fresh_world (TakeW W B r A1 c1 A2 c2 b x) hX.out ?_
  clear hX
  rintro W1 hW
  have hWH := Lib.hid hW
  obtain ⟨x0, x1, x2, x3, x4, x5, x6⟩ := hW.2.1
  clear hW
  go_quiet (fail)
  go_wp2_with fail
  refine fresh_world (TakeW W B r A1 c1 A2 c2 b x) (hWH.out.drewN _) ?_
  clear hWH x0 x1 x2 x3 x4 x5 x6
  rintro W2 hW
  have hWH := Lib.hid hW
  obtain ⟨x0, x1, x2, x3, x4, x5, x6⟩ := hW.2.1
  clear hW
  go_quiet (fail)
  go_wp2_with fail
  have hWD := Lib.hid (hWH.out.drewN nq)
  go_end0
  exact ⟨rfl, hWD.out.1, hWD.out.2.2⟩
set_option maxRecDepth 100000 in
set_option maxHeartbeats 1000000 in
theorem take_cur (x : Rc) (sl : Int) (hs : Hid (sl = if x.a = 65535 then -1 else x.a)) (h : BkB W B r A1 c1 A2 c2 b) (h6 : x.k = 6) :
    Calls Try.prog 23 #[.pointer (some ⟨r, 0, none⟩), .agg #[.int .i64 x.k, .int .i64 x.s, .int .i64 x.a, .int .i64 x.b, .int .i64 x.c, .int .i64 x.d, .string x.body]] W (TPost W B r A1 c1 A2 c2 { b with sl := sl, cu := x.b }) := by
  have k3 : (x.k == 3) = false := by simp [h6]
  have k5 : (x.k == 5) = false := by simp [h6]
  have k6 : (x.k == 6) = true := by simp [h6]
  have hX := Lib.hid (takeW_new h x)
  have hr : r < W.heap.size := h.a.lt
  have hr1 : ¬ r = W.heap.size := by omega
  have hr2 : ¬ W.heap.size = r := by omega
  obtain ⟨V, rfl⟩ : ∃ V, V = W := ⟨W, rfl⟩
  clear h h6
  go_enter Try.func23, Try.ntmps23
  go_wp2_with fail
  refine fresh_world (TakeW V B r A1 c1 A2 c2 b x) hX.out ?_
  clear hX
  rintro W1 hW
  have hWH := Lib.hid hW
  obtain ⟨x0, x1, x2, x3, x4, x5, x6⟩ := hW.2.1
  clear hW
  go_quiet (fail)
  go_wp2_with fail
  refine fresh_world (TakeW V B r A1 c1 A2 c2 b x) (hWH.out.drewN _) ?_
  clear hWH x0 x1 x2 x3 x4 x5 x6
  rintro W2 hW
  have hWH := Lib.hid hW
  obtain ⟨x0, x1, x2, x3, x4, x5, x6⟩ := hW.2.1
  clear hW
  go_quiet (fail)
  go_wp2_with fail
  refine fresh_world (TakeW V B r A1 c1 A2 c2 b x) (hWH.out.drewN _) ?_
  clear hWH x0 x1 x2 x3 x4 x5 x6
  rintro W3 hW
  have hWH := Lib.hid hW
  obtain ⟨x0, x1, x2, x3, x4, x5, x6⟩ := hW.2.1
  obtain ⟨_, _, ⟨v3, b3⟩, ⟨v4, b4⟩, f3, f4⟩ := hW.facts
  clear hW
  by_cases ha : x.a = 65535
  · have ha' : (x.a == 65535) = true := by simp [ha]
    have hE := hs.out
    rw [if_pos ha] at hE
    subst hE
    clear ha hs
    have hfin := Lib.hid (hWH.out.stored x.a x.b (-1)).2
    clear hWH
    go_region
    go_wp2_with fail
    refine fresh_post (fun W => BkB W B r A1 c1 A2 c2 { b with sl := -1, cu := x.b } ∧ Chg V W (bkF r A1 A2)) hfin.out ?_
    rintro W5 ⟨h1, h2⟩
    go_end0
    exact ⟨rfl, h1, h2⟩
  · have ha' : (x.a == 65535) = false := by simp [ha]
    have hE := hs.out
    rw [if_neg ha] at hE
    subst hE
    clear ha hs
    have hfin := Lib.hid (hWH.out.stored x.a x.b 0).1
    clear hWH
    go_region
    go_wp2_with fail
    refine fresh_post (fun W => BkB W B r A1 c1 A2 c2 { b with sl := x.a, cu := x.b } ∧ Chg V W (bkF r A1 A2)) hfin.out ?_
    rintro W5 ⟨h1, h2⟩
    go_end0
    exact ⟨rfl, h1, h2⟩
set_option maxRecDepth 100000 in
set_option maxHeartbeats 1000000 in
theorem take_zone (s p gn st : Int) (body : ByteArray) (i : Nat) (h : BkB W B r A1 c1 A2 c2 b) (hil : i < b.zs.length) :
    Calls Try.prog 23 #[.pointer (some ⟨r, 0, none⟩), .agg #[.int .i64 3, .int .i64 s, .int .i64 (i : Int), .int .i64 p, .int .i64 gn, .int .i64 st, .string body]] W (TPost W B r A1 c1 A2 c2 { b with zs := b.zs.set i ⟨p, gn, st⟩ }) := by
  have hzl := h.o.zl
  have hml := h.o.ml
  have hz1 : ∀ g, A1 = some ⟨g, 0, none⟩ → g < W.heap.size := fun g e => by
    rcases h.o.z.form with ⟨e', _⟩ | ⟨g', e', _, hl, _⟩
    · rw [e] at e'; cases e'
    · rw [e] at e'; injection e' with e'; injection e' with e'; omega
  have hz2 : ∀ g, A2 = some ⟨g, 0, none⟩ → g < W.heap.size := fun g e => by
    rcases h.o.m.form with ⟨e', _⟩ | ⟨g', e', _, hl, _⟩
    · rw [e] at e'; cases e'
    · rw [e] at e'; injection e' with e'; injection e' with e'; omega
  have hz1H := Lib.hid hz1
  have hz2H := Lib.hid hz2
  clear hz1 hz2
  obtain ⟨x, hxe⟩ : ∃ x : Rc, x = ⟨3, s, (i : Int), p, gn, st, body⟩ := ⟨_, rfl⟩
  have hX := Lib.hid (takeW_new h ⟨3, s, (i : Int), p, gn, st, body⟩)
  rw [← hxe] at hX
  have hii := Lib.hid (fun W => isIndex_any (i : Int) b.zs.length W)
  rw [decide_eq_true (show 0 ≤ (i : Int) ∧ (i : Int) < b.zs.length by omega)] at hii
  have hx := Lib.hid (fun W X (h : RcAt W X x) => (by rw [hxe] at h; exact ⟨h.c0, h.c1, h.c2, h.c3, h.c4, h.c5⟩ : W.cell? ⟨X, 0, none⟩ = some (.int .i64 3) ∧ W.cell? ⟨X, 1, none⟩ = some (.int .i64 s) ∧ W.cell? ⟨X, 2, none⟩ = some (.int .i64 (i : Int)) ∧ W.cell? ⟨X, 3, none⟩ = some (.int .i64 p) ∧ W.cell? ⟨X, 4, none⟩ = some (.int .i64 gn) ∧ W.cell? ⟨X, 5, none⟩ = some (.int .i64 st)))
  obtain ⟨V, rfl⟩ : ∃ V, V = W := ⟨W, rfl⟩
  have hXV := Lib.hid hX
  subst hxe
  clear h hX
  go_enter Try.func23, Try.ntmps23
  go_wp2_with fail
  refine fresh_world (TakeW V B r A1 c1 A2 c2 b _) hXV.out.out ?_
  clear hXV
  rintro W1 hW
  have hWH := Lib.hid hW
  obtain ⟨x0, x1, x2, x3, x4, x5⟩ := hx.out _ _ hW.2.1
  obtain ⟨b1, b2, _, _, _, _⟩ := hW.facts
  clear hW
  go_quiet ((go_at_call 30; exact quiet_left (hii.out _)))
  go_wp2_with fail
  refine fresh_world (TakeW V B r A1 c1 A2 c2 b _) (hWH.out.drewN _) ?_
  clear hWH x0 x1 x2 x3 x4 x5 b1 b2
  rintro W2 hW
  obtain ⟨g, rfl, _, hg, hcap, z0, z1, z2, zf⟩ := zo_own hW.1.o.z hil
  have n1 : ¬ V.heap.size = g := by have := hz1H.out g rfl; omega
  have hfin := Lib.hid (hW.zone hil ⟨p, gn, st⟩)
  have hWH := Lib.hid hW
  obtain ⟨x0, x1, x2, x3, x4, x5⟩ := hx.out _ _ hW.2.1
  obtain ⟨b1, b2, _, _, _, _⟩ := hW.facts
  have f0 := zf (i * 3)
  have f1 := zf (i * 3 + 1)
  have f2 := zf (i * 3 + 2)
  have l1 : (i : Int) < (b.zs.length : Int) := by omega
  clear hW zf hWH
  go_region
  go_wp2_with fail
  refine fresh_post (fun W => BkB W B r (some ⟨g, 0, none⟩) c1 A2 c2 { b with zs := b.zs.set i ⟨p, gn, st⟩ } ∧ Chg V W (bkF r (some ⟨g, 0, none⟩) A2)) hfin.out ?_
  rintro W5 ⟨h1, h2⟩
  go_end0
  exact ⟨rfl, h1, h2⟩
set_option maxRecDepth 100000 in
set_option maxHeartbeats 1000000 in
theorem take_zone_no (s p gn st : Int) (body : ByteArray) (a : Int) (h : BkB W B r A1 c1 A2 c2 b) (hil : ¬ (0 ≤ a ∧ a < b.zs.length)) :
    Calls Try.prog 23 #[.pointer (some ⟨r, 0, none⟩), .agg #[.int .i64 3, .int .i64 s, .int .i64 a, .int .i64 p, .int .i64 gn, .int .i64 st, .string body]] W (TPost W B r A1 c1 A2 c2 b) := by
  have hzl := h.o.zl
  have hml := h.o.ml
  have hz1 : ∀ g, A1 = some ⟨g, 0, none⟩ → g < W.heap.size := fun g e => by
    rcases h.o.z.form with ⟨e', _⟩ | ⟨g', e', _, hl, _⟩
    · rw [e] at e'; cases e'
    · rw [e] at e'; injection e' with e'; injection e' with e'; omega
  have hz2 : ∀ g, A2 = some ⟨g, 0, none⟩ → g < W.heap.size := fun g e => by
    rcases h.o.m.form with ⟨e', _⟩ | ⟨g', e', _, hl, _⟩
    · rw [e] at e'; cases e'
    · rw [e] at e'; injection e' with e'; injection e' with e'; omega
  have hz1H := Lib.hid hz1
  have hz2H := Lib.hid hz2
  clear hz1 hz2
  obtain ⟨x, hxe⟩ : ∃ x : Rc, x = ⟨3, s, a, p, gn, st, body⟩ := ⟨_, rfl⟩
  have hX := Lib.hid (takeW_new h ⟨3, s, a, p, gn, st, body⟩)
  rw [← hxe] at hX
  have hii := Lib.hid (fun W => isIndex_any a b.zs.length W)
  rw [decide_eq_false hil] at hii
  have hx := Lib.hid (fun W X (h : RcAt W X x) => (by rw [hxe] at h; exact ⟨h.c0, h.c1, h.c2, h.c3, h.c4, h.c5⟩ : W.cell? ⟨X, 0, none⟩ = some (.int .i64 3) ∧ W.cell? ⟨X, 1, none⟩ = some (.int .i64 s) ∧ W.cell? ⟨X, 2, none⟩ = some (.int .i64 a) ∧ W.cell? ⟨X, 3, none⟩ = some (.int .i64 p) ∧ W.cell? ⟨X, 4, none⟩ = some (.int .i64 gn) ∧ W.cell? ⟨X, 5, none⟩ = some (.int .i64 st)))
  obtain ⟨V, rfl⟩ : ∃ V, V = W := ⟨W, rfl⟩
  have hXV := Lib.hid hX
  subst hxe
  clear h hX
  go_enter Try.func23, Try.ntmps23
  go_wp2_with fail
  refine fresh_world (TakeW V B r A1 c1 A2 c2 b _) hXV.out.out ?_
  clear hXV
  rintro W1 hW
  have hWH := Lib.hid hW
  obtain ⟨x0, x1, x2, x3, x4, x5⟩ := hx.out _ _ hW.2.1
  obtain ⟨b1, b2, _, _, _, _⟩ := hW.facts
  clear hW
  go_quiet ((go_at_call 30; exact quiet_left (hii.out _)))
  go_wp2_with fail
  refine fresh_world (TakeW V B r A1 c1 A2 c2 b _) (hWH.out.drewN _) ?_
  clear hWH x0 x1 x2 x3 x4 x5 b1 b2
  rintro W2 hW
  have hWH := Lib.hid hW
  obtain ⟨x0, x1, x2, x3, x4, x5⟩ := hx.out _ _ hW.2.1
  obtain ⟨b1, b2, _, _, _, _⟩ := hW.facts
  clear hW
  go_quiet (fail)
  go_wp2_with fail
  have hWD := Lib.hid (hWH.out.drewN nq)
  go_end0
  exact ⟨rfl, hWD.out.1, hWD.out.2.2⟩
set_option maxRecDepth 100000 in
set_option maxHeartbeats 1000000 in
theorem take_mem_no (s p gn st : Int) (body : ByteArray) (a : Int) (h : BkB W B r A1 c1 A2 c2 b) (hil : ¬ (0 ≤ a ∧ a < b.ms.length)) :
    Calls Try.prog 23 #[.pointer (some ⟨r, 0, none⟩), .agg #[.int .i64 5, .int .i64 s, .int .i64 a, .int .i64 p, .int .i64 gn, .int .i64 st, .string body]] W (TPost W B r A1 c1 A2 c2 b) := by
  have hzl := h.o.zl
  have hml := h.o.ml
  have hz1 : ∀ g, A1 = some ⟨g, 0, none⟩ → g < W.heap.size := fun g e => by
    rcases h.o.z.form with ⟨e', _⟩ | ⟨g', e', _, hl, _⟩
    · rw [e] at e'; cases e'
    · rw [e] at e'; injection e' with e'; injection e' with e'; omega
  have hz2 : ∀ g, A2 = some ⟨g, 0, none⟩ → g < W.heap.size := fun g e => by
    rcases h.o.m.form with ⟨e', _⟩ | ⟨g', e', _, hl, _⟩
    · rw [e] at e'; cases e'
    · rw [e] at e'; injection e' with e'; injection e' with e'; omega
  have hz1H := Lib.hid hz1
  have hz2H := Lib.hid hz2
  clear hz1 hz2
  obtain ⟨x, hxe⟩ : ∃ x : Rc, x = ⟨5, s, a, p, gn, st, body⟩ := ⟨_, rfl⟩
  have hX := Lib.hid (takeW_new h ⟨5, s, a, p, gn, st, body⟩)
  rw [← hxe] at hX
  have hii := Lib.hid (fun W => isIndex_any a b.ms.length W)
  rw [decide_eq_false hil] at hii
  have hx := Lib.hid (fun W X (h : RcAt W X x) => (by rw [hxe] at h; exact ⟨h.c0, h.c1, h.c2, h.c3, h.c4, h.c5⟩ : W.cell? ⟨X, 0, none⟩ = some (.int .i64 5) ∧ W.cell? ⟨X, 1, none⟩ = some (.int .i64 s) ∧ W.cell? ⟨X, 2, none⟩ = some (.int .i64 a) ∧ W.cell? ⟨X, 3, none⟩ = some (.int .i64 p) ∧ W.cell? ⟨X, 4, none⟩ = some (.int .i64 gn) ∧ W.cell? ⟨X, 5, none⟩ = some (.int .i64 st)))
  obtain ⟨V, rfl⟩ : ∃ V, V = W := ⟨W, rfl⟩
  have hXV := Lib.hid hX
  subst hxe
  clear h hX
  go_enter Try.func23, Try.ntmps23
  go_wp2_with fail
  refine fresh_world (TakeW V B r A1 c1 A2 c2 b _) hXV.out.out ?_
  clear hXV
  rintro W1 hW
  have hWH := Lib.hid hW
  obtain ⟨x0, x1, x2, x3, x4, x5⟩ := hx.out _ _ hW.2.1
  obtain ⟨b1, b2, _, _, _, _⟩ := hW.facts
  clear hW
  go_quiet (fail)
  go_wp2_with fail
  refine fresh_world (TakeW V B r A1 c1 A2 c2 b _) (hWH.out.drewN _) ?_
  clear hWH x0 x1 x2 x3 x4 x5 b1 b2
  rintro W2 hW
  have hWH := Lib.hid hW
  obtain ⟨x0, x1, x2, x3, x4, x5⟩ := hx.out _ _ hW.2.1
  obtain ⟨b1, b2, _, _, _, _⟩ := hW.facts
  clear hW
  go_quiet ((go_at_call 30; exact quiet_left (hii.out _)))
  go_wp2_with fail
  have hWD := Lib.hid (hWH.out.drewN nq)
  go_end0
  exact ⟨rfl, hWD.out.1, hWD.out.2.2⟩
set_option maxRecDepth 100000 in
set_option maxHeartbeats 1000000 in
theorem take_mem (s p gn st : Int) (body : ByteArray) (i : Nat) (h : BkB W B r A1 c1 A2 c2 b) (hil : i < b.ms.length) :
    Calls Try.prog 23 #[.pointer (some ⟨r, 0, none⟩), .agg #[.int .i64 5, .int .i64 s, .int .i64 (i : Int), .int .i64 p, .int .i64 gn, .int .i64 st, .string body]] W (TPost W B r A1 c1 A2 c2 { b with ms := b.ms.set i p }) := by
  have hzl := h.o.zl
  have hml := h.o.ml
  have hz1 : ∀ g, A1 = some ⟨g, 0, none⟩ → g < W.heap.size := fun g e => by
    rcases h.o.z.form with ⟨e', _⟩ | ⟨g', e', _, hl, _⟩
    · rw [e] at e'; cases e'
    · rw [e] at e'; injection e' with e'; injection e' with e'; omega
  have hz2 : ∀ g, A2 = some ⟨g, 0, none⟩ → g < W.heap.size := fun g e => by
    rcases h.o.m.form with ⟨e', _⟩ | ⟨g', e', _, hl, _⟩
    · rw [e] at e'; cases e'
    · rw [e] at e'; injection e' with e'; injection e' with e'; omega
  have hz1H := Lib.hid hz1
  have hz2H := Lib.hid hz2
  clear hz1 hz2
  obtain ⟨x, hxe⟩ : ∃ x : Rc, x = ⟨5, s, (i : Int), p, gn, st, body⟩ := ⟨_, rfl⟩
  have hX := Lib.hid (takeW_new h ⟨5, s, (i : Int), p, gn, st, body⟩)
  rw [← hxe] at hX
  have hii := Lib.hid (fun W => isIndex_any (i : Int) b.ms.length W)
  rw [decide_eq_true (show 0 ≤ (i : Int) ∧ (i : Int) < b.ms.length by omega)] at hii
  have hx := Lib.hid (fun W X (h : RcAt W X x) => (by rw [hxe] at h; exact ⟨h.c0, h.c1, h.c2, h.c3, h.c4, h.c5⟩ : W.cell? ⟨X, 0, none⟩ = some (.int .i64 5) ∧ W.cell? ⟨X, 1, none⟩ = some (.int .i64 s) ∧ W.cell? ⟨X, 2, none⟩ = some (.int .i64 (i : Int)) ∧ W.cell? ⟨X, 3, none⟩ = some (.int .i64 p) ∧ W.cell? ⟨X, 4, none⟩ = some (.int .i64 gn) ∧ W.cell? ⟨X, 5, none⟩ = some (.int .i64 st)))
  obtain ⟨V, rfl⟩ : ∃ V, V = W := ⟨W, rfl⟩
  have hXV := Lib.hid hX
  subst hxe
  clear h hX
  go_enter Try.func23, Try.ntmps23
  go_wp2_with fail
  refine fresh_world (TakeW V B r A1 c1 A2 c2 b _) hXV.out.out ?_
  clear hXV
  rintro W1 hW
  have hWH := Lib.hid hW
  obtain ⟨x0, x1, x2, x3, x4, x5⟩ := hx.out _ _ hW.2.1
  obtain ⟨b1, b2, _, _, _, _⟩ := hW.facts
  clear hW
  go_quiet (fail)
  go_wp2_with fail
  refine fresh_world (TakeW V B r A1 c1 A2 c2 b _) (hWH.out.drewN _) ?_
  clear hWH x0 x1 x2 x3 x4 x5 b1 b2
  rintro W2 hW
  have hWH := Lib.hid hW
  obtain ⟨x0, x1, x2, x3, x4, x5⟩ := hx.out _ _ hW.2.1
  obtain ⟨b1, b2, _, _, _, _⟩ := hW.facts
  clear hW
  go_quiet ((go_at_call 30; exact quiet_left (hii.out _)))
  go_wp2_with fail
  refine fresh_world (TakeW V B r A1 c1 A2 c2 b _) (hWH.out.drewN _) ?_
  clear hWH x0 x1 x2 x3 x4 x5 b1 b2
  rintro W3 hW
  obtain ⟨g, rfl, hg, z0⟩ := hW.1.o.m.at_ hil
  have zf := World.ownsRow.frozenAt hW.1.o.m
  have n1 : ¬ V.heap.size = g := by have := hz2H.out g rfl; omega
  have hfin := Lib.hid (hW.mem i p)
  have hWH := Lib.hid hW
  obtain ⟨x0, x1, x2, x3, x4, x5⟩ := hx.out _ _ hW.2.1
  obtain ⟨b1, b2, _, _, _, _⟩ := hW.facts
  have f0 := zf i
  have l1 : (i : Int) < (b.ms.length : Int) := by omega
  clear hW zf hWH
  go_region
  go_wp2_with fail
  refine fresh_post (fun W => BkB W B r A1 c1 (some ⟨g, 0, none⟩) c2 { b with ms := b.ms.set i p } ∧ Chg V W (bkF r A1 (some ⟨g, 0, none⟩))) hfin.out ?_
  rintro W5 ⟨h1, h2⟩
  go_end0
  exact ⟨rfl, h1, h2⟩
theorem take_any (x : Rc) (h : BkB W B r A1 c1 A2 c2 b) :
    Calls Try.prog 23 #[.pointer (some ⟨r, 0, none⟩), .agg #[.int .i64 x.k, .int .i64 x.s, .int .i64 x.a, .int .i64 x.b, .int .i64 x.c, .int .i64 x.d, .string x.body]] W (TPost W B r A1 c1 A2 c2 (takeB b x)) := by
  obtain ⟨k, s, a, p, gn, st, body⟩ := x
  unfold takeB
  dsimp only
  by_cases h3 : k = 3
  · subst h3
    by_cases ha : 0 ≤ a ∧ a < (b.zs.length : Int)
    · rw [if_pos ⟨rfl, ha⟩]
      obtain ⟨i, rfl⟩ := Int.eq_ofNat_of_zero_le ha.1
      rw [Int.toNat_natCast]
      exact take_zone s p gn st body i h (by omega)
    · rw [if_neg (fun e => ha e.2), if_neg (by omega), if_neg (by omega)]
      exact take_zone_no s p gn st body a h ha
  · rw [if_neg (fun e => h3 e.1)]
    by_cases h5 : k = 5
    · subst h5
      by_cases ha : 0 ≤ a ∧ a < (b.ms.length : Int)
      · rw [if_pos ⟨rfl, ha⟩]
        obtain ⟨i, rfl⟩ := Int.eq_ofNat_of_zero_le ha.1
        rw [Int.toNat_natCast]
        exact take_mem s p gn st body i h (by omega)
      · rw [if_neg (fun e => ha e.2), if_neg (by omega)]
        exact take_mem_no s p gn st body a h ha
    · rw [if_neg (fun e => h5 e.1)]
      by_cases h6 : k = 6
      · rw [if_pos h6]
        exact take_cur ⟨k, s, a, p, gn, st, body⟩ _ (Lib.hid rfl) h h6
      · rw [if_neg h6]
        exact take_none ⟨k, s, a, p, gn, st, body⟩ h h3 h5 h6
end
end Go.Proofs.Ytpmhfalhieinjaa
