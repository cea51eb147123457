/- The rows that given of group's laws fills. -/
import Derived.Test.YtbgkmppngnedlaaDoorGpH
import Derived.Lib.MinMax
namespace Go.Proofs.YtbgkmppngnedlaaDoor
open Go.RowKit Rec Crc Num Xor

structure Sl (α : Type) where
  A : Option Addr
  c : Nat
  xs : List α
def sl0 {α : Type} : Sl α := ⟨none, 0, []⟩
def inE : Enc Int := ⟨fun x => [.int .i64 x], 1, fun _ => rfl, fun _ u hu => by
  simp only [List.mem_cons, List.not_mem_nil, or_false] at hu
  subst hu; rfl⟩
def boE : Enc Bool := ⟨fun x => [.bool x], 1, fun _ => rfl, fun _ u hu => by
  simp only [List.mem_cons, List.not_mem_nil, or_false] at hu
  subst hu; rfl⟩
theorem infIn : Enc.Inf Tryd.prog 3 1 8 := by unfold Enc.Inf; kernel_rfl
theorem infBo : Enc.Inf Tryd.prog 4 1 1 := by unfold Enc.Inf; kernel_rfl
theorem one_at {α : Type} {E : Enc α} (hk : E.k = 1) {W : World} {A : Option Addr} {l : List α} (h : E.In W A l) {i : Nat} (hi : i < l.length) : ∃ b off, A = some ⟨b, off, none⟩ ∧ b < W.heap.size ∧ W.cell? ⟨b, off + i, none⟩ = (E.c l[i])[0]? := by
  obtain ⟨b, off, e, hlt, h⟩ := h.at_ hi
  have h1 := h 0 (by omega)
  rw [hk, Nat.mul_one, Nat.add_zero] at h1
  exact ⟨b, off, e, hlt, h1⟩
def Ap (A B : Option Addr) : Prop := ∀ r, A = some ⟨r, 0, none⟩ → B ≠ some ⟨r, 0, none⟩
theorem Ap.symm {A B : Option Addr} (h : Ap A B) : Ap B A := fun r e e2 => h r e2 e
/-- One element more in a row; every other row stands, and lies apart. -/
theorem push_to {α : Type} {E : Enc α} {st t : TypeId} (hst : Tryd.prog.underlying st = some (.slice t)) {by_ : Nat} (hinfo : Enc.Inf Tryd.prog t E.k by_) (hby : by_ ≤ 100) (hk : 0 < E.k)
    {W : World} {base : Nat} {s : Sl α} (hr : E.Row W base t s.A s.c s.xs) {m : Nat} {x : α} (hm : ∀ j, j < E.k → W.cell? ⟨m, j, none⟩ = (E.c x)[j]?) (hl : s.xs.length ≤ 1000) (hb : base ≤ W.heap.size) :
    ∃ (s' : Sl α) (W' : World), (Builtin.append_ #[st, st] st #[.slice s.A s.xs.length s.c, .slice (some ⟨m, 0, none⟩) 1 1]).run Tryd.prog W = .ok (.slice s'.A s'.xs.length s'.c) W' ∧ s'.xs = s.xs ++ [x] ∧ E.Row W' base t s'.A s'.c s'.xs ∧ Below base W W' ∧
      (∀ {β : Type} (G : Enc β) (t2 : TypeId) (o : Sl β), Ap s.A o.A → G.Row W base t2 o.A o.c o.xs → Ap s'.A o.A ∧ G.Row W' base t2 o.A o.c o.xs) ∧
      (∀ m2, m2 < W.heap.size → (∀ r, s.A = some ⟨r, 0, none⟩ → r < m2) → ∀ o, W'.cell? ⟨m2, o, none⟩ = W.cell? ⟨m2, o, none⟩) := by
  obtain ⟨A', c', W', hrun, hrow, hgr, hor⟩ := hr.append (P := Tryd.prog) hst hinfo hby hk hm (by omega) hb st
  refine ⟨⟨A', c', s.xs ++ [x]⟩, W', by rw [hrun]; simp, rfl, hrow, hr.grown hgr hb, fun G t2 o ha ho => ⟨fun r e e2 => ?_, ho.far hgr fun g e e2 => ?_⟩, fun m2 hm2 hne o => World.cell?_of_block (a := ⟨m2, o, none⟩) (hgr.block m2 hm2 fun e => ?_)⟩
  · dsimp only at e
    rcases hor with h | h
    · rw [h] at e; exact ha r e e2
    · rw [h] at e
      injection e with e
      injection e with e _ _
      rcases ho.form with ⟨e3, _⟩ | ⟨g, e3, _, h4, _⟩
      · rw [e3] at e2; cases e2
      · rw [e3] at e2; injection e2 with e2; injection e2 with e2 _ _; omega
  · rcases hr.form with ⟨e1, _⟩ | ⟨g', e1, _⟩
    · rw [e1] at e2; simp [Value.ownBlock] at e2
    · rw [e1] at e2
      simp only [Value.ownBlock, Option.some.injEq] at e2
      subst e2
      exact ha g' e1 e
  · rcases hr.form with ⟨e1, _⟩ | ⟨g', e1, _⟩
    · rw [e1] at e; simp [Value.ownBlock] at e
    · rw [e1] at e
      simp only [Value.ownBlock, Option.some.injEq] at e
      have := hne g' e1
      omega
structure GvR (W : World) (base : Nat) (E : Sl (Int × Bool)) (B : Sl Int) (T : Sl Bool) (D F : Sl ByteArray) : Prop where
  rE : geE.Row W base 47 E.A E.c E.xs
  rB : inE.Row W base 3 B.A B.c B.xs
  rT : boE.Row W base 4 T.A T.c T.xs
  rD : stE.Row W base 9 D.A D.c D.xs
  rF : stE.Row W base 9 F.A F.c F.xs
  eb : Ap E.A B.A
  et : Ap E.A T.A
  ed : Ap E.A D.A
  ef : Ap E.A F.A
  bt : Ap B.A T.A
  bd : Ap B.A D.A
  bf : Ap B.A F.A
  td : Ap T.A D.A
  tf : Ap T.A F.A
  df : Ap D.A F.A
  bs : base ≤ W.heap.size
theorem GvR.below {W W' : World} {base : Nat} {E : Sl (Int × Bool)} {B : Sl Int} {T : Sl Bool} {D F : Sl ByteArray} (h : GvR W base E B T D F) (hb : Below W.heap.size W W') : GvR W' base E B T D F :=
  ⟨h.rE.below hb, h.rB.below hb, h.rT.below hb, h.rD.below hb, h.rF.below hb, h.eb, h.et, h.ed, h.ef, h.bt, h.bd, h.bf, h.td, h.tf, h.df, Nat.le_trans h.bs hb.size⟩
theorem GvR.set {W : World} {base : Nat} {E : Sl (Int × Bool)} {B : Sl Int} {T : Sl Bool} {D F : Sl ByteArray} (h : GvR W base E B T D F) {X : Nat} (hX : X < base) (i : Nat) (v : Value) : GvR (W.setCell ⟨X, i, none⟩ v) base E B T D F := by
  have hg := grownBy_setG W X i v
  have nE : ∀ g, E.A = some ⟨g, 0, none⟩ → some X ≠ some g := fun g e e2 => by
    rcases h.rE.form with ⟨e1, _⟩ | ⟨g', e1, hb, _⟩
    · rw [e1] at e; cases e
    · rw [e1] at e; injection e with e; injection e with e _ _; injection e2 with e2; omega
  have nB : ∀ g, B.A = some ⟨g, 0, none⟩ → some X ≠ some g := fun g e e2 => by
    rcases h.rB.form with ⟨e1, _⟩ | ⟨g', e1, hb, _⟩
    · rw [e1] at e; cases e
    · rw [e1] at e; injection e with e; injection e with e _ _; injection e2 with e2; omega
  have nT : ∀ g, T.A = some ⟨g, 0, none⟩ → some X ≠ some g := fun g e e2 => by
    rcases h.rT.form with ⟨e1, _⟩ | ⟨g', e1, hb, _⟩
    · rw [e1] at e; cases e
    · rw [e1] at e; injection e with e; injection e with e _ _; injection e2 with e2; omega
  have nD : ∀ g, D.A = some ⟨g, 0, none⟩ → some X ≠ some g := fun g e e2 => by
    rcases h.rD.form with ⟨e1, _⟩ | ⟨g', e1, hb, _⟩
    · rw [e1] at e; cases e
    · rw [e1] at e; injection e with e; injection e with e _ _; injection e2 with e2; omega
  have nF : ∀ g, F.A = some ⟨g, 0, none⟩ → some X ≠ some g := fun g e e2 => by
    rcases h.rF.form with ⟨e1, _⟩ | ⟨g', e1, hb, _⟩
    · rw [e1] at e; cases e
    · rw [e1] at e; injection e with e; injection e with e _ _; injection e2 with e2; omega
  exact ⟨h.rE.far hg nE, h.rB.far hg nB, h.rT.far hg nT, h.rD.far hg nD, h.rF.far hg nF, h.eb, h.et, h.ed, h.ef, h.bt, h.bd, h.bf, h.td, h.tf, h.df, Nat.le_trans h.bs hg.size⟩
theorem GvR.pushE {W : World} {base : Nat} {E : Sl (Int × Bool)} {B : Sl Int} {T : Sl Bool} {D F : Sl ByteArray} (h : GvR W base E B T D F) {m : Nat} {x : Int × Bool} (hm : ∀ j, j < geE.k → W.cell? ⟨m, j, none⟩ = (geE.c x)[j]?) (hl : E.xs.length ≤ 1000) :
    ∃ (s' : Sl (Int × Bool)) (W' : World), (Builtin.append_ #[28, 28] 28 #[.slice E.A E.xs.length E.c, .slice (some ⟨m, 0, none⟩) 1 1]).run Tryd.prog W = .ok (.slice s'.A s'.xs.length s'.c) W' ∧ s'.xs = E.xs ++ [x] ∧ GvR W' base s' B T D F ∧ Below base W W' ∧ (∀ m2, m2 < W.heap.size → (∀ r, E.A = some ⟨r, 0, none⟩ → r < m2) → ∀ o, W'.cell? ⟨m2, o, none⟩ = W.cell? ⟨m2, o, none⟩) := by
  obtain ⟨s', W', hrun, hxs, hrow, hb, hot, hfar⟩ := push_to Tryd.underlying28 infGe (by decide) (by decide) h.rE hm hl h.bs
  have kB := hot inE 3 B h.eb h.rB
  have kT := hot boE 4 T h.et h.rT
  have kD := hot stE 9 D h.ed h.rD
  have kF := hot stE 9 F h.ef h.rF
  exact ⟨s', W', hrun, hxs, ⟨hrow, kB.2, kT.2, kD.2, kF.2, kB.1, kT.1, kD.1, kF.1, h.bt, h.bd, h.bf, h.td, h.tf, h.df, Nat.le_trans h.bs hb.size⟩, hb, hfar⟩
theorem GvR.pushB {W : World} {base : Nat} {E : Sl (Int × Bool)} {B : Sl Int} {T : Sl Bool} {D F : Sl ByteArray} (h : GvR W base E B T D F) {m : Nat} {x : Int} (hm : ∀ j, j < inE.k → W.cell? ⟨m, j, none⟩ = (inE.c x)[j]?) (hl : B.xs.length ≤ 1000) :
    ∃ (s' : Sl (Int)) (W' : World), (Builtin.append_ #[22, 22] 22 #[.slice B.A B.xs.length B.c, .slice (some ⟨m, 0, none⟩) 1 1]).run Tryd.prog W = .ok (.slice s'.A s'.xs.length s'.c) W' ∧ s'.xs = B.xs ++ [x] ∧ GvR W' base E s' T D F ∧ Below base W W' ∧ (∀ m2, m2 < W.heap.size → (∀ r, B.A = some ⟨r, 0, none⟩ → r < m2) → ∀ o, W'.cell? ⟨m2, o, none⟩ = W.cell? ⟨m2, o, none⟩) := by
  obtain ⟨s', W', hrun, hxs, hrow, hb, hot, hfar⟩ := push_to Tryd.underlying22 infIn (by decide) (by decide) h.rB hm hl h.bs
  have kE := hot geE 47 E h.eb.symm h.rE
  have kT := hot boE 4 T h.bt h.rT
  have kD := hot stE 9 D h.bd h.rD
  have kF := hot stE 9 F h.bf h.rF
  exact ⟨s', W', hrun, hxs, ⟨kE.2, hrow, kT.2, kD.2, kF.2, kE.1.symm, h.et, h.ed, h.ef, kT.1, kD.1, kF.1, h.td, h.tf, h.df, Nat.le_trans h.bs hb.size⟩, hb, hfar⟩
theorem GvR.pushT {W : World} {base : Nat} {E : Sl (Int × Bool)} {B : Sl Int} {T : Sl Bool} {D F : Sl ByteArray} (h : GvR W base E B T D F) {m : Nat} {x : Bool} (hm : ∀ j, j < boE.k → W.cell? ⟨m, j, none⟩ = (boE.c x)[j]?) (hl : T.xs.length ≤ 1000) :
    ∃ (s' : Sl (Bool)) (W' : World), (Builtin.append_ #[23, 23] 23 #[.slice T.A T.xs.length T.c, .slice (some ⟨m, 0, none⟩) 1 1]).run Tryd.prog W = .ok (.slice s'.A s'.xs.length s'.c) W' ∧ s'.xs = T.xs ++ [x] ∧ GvR W' base E B s' D F ∧ Below base W W' ∧ (∀ m2, m2 < W.heap.size → (∀ r, T.A = some ⟨r, 0, none⟩ → r < m2) → ∀ o, W'.cell? ⟨m2, o, none⟩ = W.cell? ⟨m2, o, none⟩) := by
  obtain ⟨s', W', hrun, hxs, hrow, hb, hot, hfar⟩ := push_to Tryd.underlying23 infBo (by decide) (by decide) h.rT hm hl h.bs
  have kE := hot geE 47 E h.et.symm h.rE
  have kB := hot inE 3 B h.bt.symm h.rB
  have kD := hot stE 9 D h.td h.rD
  have kF := hot stE 9 F h.tf h.rF
  exact ⟨s', W', hrun, hxs, ⟨kE.2, kB.2, hrow, kD.2, kF.2, h.eb, kE.1.symm, h.ed, h.ef, kB.1.symm, h.bd, h.bf, kD.1, kF.1, h.df, Nat.le_trans h.bs hb.size⟩, hb, hfar⟩
theorem GvR.pushD {W : World} {base : Nat} {E : Sl (Int × Bool)} {B : Sl Int} {T : Sl Bool} {D F : Sl ByteArray} (h : GvR W base E B T D F) {m : Nat} {x : ByteArray} (hm : ∀ j, j < stE.k → W.cell? ⟨m, j, none⟩ = (stE.c x)[j]?) (hl : D.xs.length ≤ 1000) :
    ∃ (s' : Sl (ByteArray)) (W' : World), (Builtin.append_ #[24, 24] 24 #[.slice D.A D.xs.length D.c, .slice (some ⟨m, 0, none⟩) 1 1]).run Tryd.prog W = .ok (.slice s'.A s'.xs.length s'.c) W' ∧ s'.xs = D.xs ++ [x] ∧ GvR W' base E B T s' F ∧ Below base W W' ∧ (∀ m2, m2 < W.heap.size → (∀ r, D.A = some ⟨r, 0, none⟩ → r < m2) → ∀ o, W'.cell? ⟨m2, o, none⟩ = W.cell? ⟨m2, o, none⟩) := by
  obtain ⟨s', W', hrun, hxs, hrow, hb, hot, hfar⟩ := push_to Tryd.underlying24 infSt (by decide) (by decide) h.rD hm hl h.bs
  have kE := hot geE 47 E h.ed.symm h.rE
  have kB := hot inE 3 B h.bd.symm h.rB
  have kT := hot boE 4 T h.td.symm h.rT
  have kF := hot stE 9 F h.df h.rF
  exact ⟨s', W', hrun, hxs, ⟨kE.2, kB.2, kT.2, hrow, kF.2, h.eb, h.et, kE.1.symm, h.ef, h.bt, kB.1.symm, h.bf, kT.1.symm, h.tf, kF.1, Nat.le_trans h.bs hb.size⟩, hb, hfar⟩
theorem GvR.pushF {W : World} {base : Nat} {E : Sl (Int × Bool)} {B : Sl Int} {T : Sl Bool} {D F : Sl ByteArray} (h : GvR W base E B T D F) {m : Nat} {x : ByteArray} (hm : ∀ j, j < stE.k → W.cell? ⟨m, j, none⟩ = (stE.c x)[j]?) (hl : F.xs.length ≤ 1000) :
    ∃ (s' : Sl (ByteArray)) (W' : World), (Builtin.append_ #[24, 24] 24 #[.slice F.A F.xs.length F.c, .slice (some ⟨m, 0, none⟩) 1 1]).run Tryd.prog W = .ok (.slice s'.A s'.xs.length s'.c) W' ∧ s'.xs = F.xs ++ [x] ∧ GvR W' base E B T D s' ∧ Below base W W' ∧ (∀ m2, m2 < W.heap.size → (∀ r, F.A = some ⟨r, 0, none⟩ → r < m2) → ∀ o, W'.cell? ⟨m2, o, none⟩ = W.cell? ⟨m2, o, none⟩) := by
  obtain ⟨s', W', hrun, hxs, hrow, hb, hot, hfar⟩ := push_to Tryd.underlying24 infSt (by decide) (by decide) h.rF hm hl h.bs
  have kE := hot geE 47 E h.ef.symm h.rE
  have kB := hot inE 3 B h.bf.symm h.rB
  have kT := hot boE 4 T h.tf.symm h.rT
  have kD := hot stE 9 D h.df.symm h.rD
  exact ⟨s', W', hrun, hxs, ⟨kE.2, kB.2, kT.2, kD.2, hrow, h.eb, h.et, h.ed, kE.1.symm, h.bt, h.bd, kB.1.symm, h.td, kT.1.symm, kD.1.symm, Nat.le_trans h.bs hb.size⟩, hb, hfar⟩
structure GvX (w W : World) (N : Nat) (vz : Nat → Value) (q : Int) (E : Sl (Int × Bool)) (B : Sl Int) (T : Sl Bool) (D F : Sl ByteArray) : Prop where
  z0 : W.cell? ⟨N, 0, none⟩ = some (vz 0)
  z1 : W.cell? ⟨N, 1, none⟩ = some (vz 1)
  z2 : W.cell? ⟨N, 2, none⟩ = some (vz 2)
  z3 : W.cell? ⟨N, 3, none⟩ = some (vz 3)
  x0 : W.cell? ⟨N + 3, 0, none⟩ = some (.int .i64 q)
  xE : W.cell? ⟨N + 3, 1, none⟩ = some (.slice E.A E.xs.length E.c)
  xD : W.cell? ⟨N + 3, 2, none⟩ = some (.slice D.A D.xs.length D.c)
  y0 : W.cell? ⟨N + 4, 0, none⟩ = some (.int .i64 q)
  yB : W.cell? ⟨N + 4, 1, none⟩ = some (.slice B.A B.xs.length B.c)
  yT : W.cell? ⟨N + 4, 2, none⟩ = some (.slice T.A T.xs.length T.c)
  yF : W.cell? ⟨N + 4, 3, none⟩ = some (.slice F.A F.xs.length F.c)
  f31 : W.frozen? ⟨N + 3, 1, none⟩ = false
  f32 : W.frozen? ⟨N + 3, 2, none⟩ = false
  f41 : W.frozen? ⟨N + 4, 1, none⟩ = false
  f42 : W.frozen? ⟨N + 4, 2, none⟩ = false
  f43 : W.frozen? ⟨N + 4, 3, none⟩ = false
  f10 : W.frozen? ⟨N + 1, 0, none⟩ = false
  f11 : W.frozen? ⟨N + 1, 1, none⟩ = false
  f12 : W.frozen? ⟨N + 1, 2, none⟩ = false
  f20 : W.frozen? ⟨N + 2, 0, none⟩ = false
  f21 : W.frozen? ⟨N + 2, 1, none⟩ = false
  f22 : W.frozen? ⟨N + 2, 2, none⟩ = false
  f23 : W.frozen? ⟨N + 2, 3, none⟩ = false
  a10 : (W.cell? ⟨N + 1, 0, none⟩).isSome = true
  a11 : (W.cell? ⟨N + 1, 1, none⟩).isSome = true
  a12 : (W.cell? ⟨N + 1, 2, none⟩).isSome = true
  a20 : (W.cell? ⟨N + 2, 0, none⟩).isSome = true
  a21 : (W.cell? ⟨N + 2, 1, none⟩).isSome = true
  a22 : (W.cell? ⟨N + 2, 2, none⟩).isSome = true
  a23 : (W.cell? ⟨N + 2, 3, none⟩).isSome = true
  bw : Below w.heap.size w W
  nn : N = w.heap.size
theorem GvX.keep {w W : World} {N : Nat} {vz : Nat → Value} {q : Int} {E : Sl (Int × Bool)} {B : Sl Int} {T : Sl Bool} {D F : Sl ByteArray} {W' : World} (h : GvX w W N vz q E B T D F) (hb : Below (N + 5) W W') : GvX w W' N vz q E B T D F :=
  ⟨(hb.cell (p := ⟨N, 0, none⟩) (show N < N + 5 by omega)).trans h.z0, (hb.cell (p := ⟨N, 1, none⟩) (show N < N + 5 by omega)).trans h.z1, (hb.cell (p := ⟨N, 2, none⟩) (show N < N + 5 by omega)).trans h.z2, (hb.cell (p := ⟨N, 3, none⟩) (show N < N + 5 by omega)).trans h.z3, (hb.cell (p := ⟨N + 3, 0, none⟩) (show N + 3 < N + 5 by omega)).trans h.x0, (hb.cell (p := ⟨N + 3, 1, none⟩) (show N + 3 < N + 5 by omega)).trans h.xE, (hb.cell (p := ⟨N + 3, 2, none⟩) (show N + 3 < N + 5 by omega)).trans h.xD, (hb.cell (p := ⟨N + 4, 0, none⟩) (show N + 4 < N + 5 by omega)).trans h.y0, (hb.cell (p := ⟨N + 4, 1, none⟩) (show N + 4 < N + 5 by omega)).trans h.yB, (hb.cell (p := ⟨N + 4, 2, none⟩) (show N + 4 < N + 5 by omega)).trans h.yT, (hb.cell (p := ⟨N + 4, 3, none⟩) (show N + 4 < N + 5 by omega)).trans h.yF, (hb.frozen (p := ⟨N + 3, 1, none⟩) (show N + 3 < N + 5 by omega)).trans h.f31, (hb.frozen (p := ⟨N + 3, 2, none⟩) (show N + 3 < N + 5 by omega)).trans h.f32, (hb.frozen (p := ⟨N + 4, 1, none⟩) (show N + 4 < N + 5 by omega)).trans h.f41, (hb.frozen (p := ⟨N + 4, 2, none⟩) (show N + 4 < N + 5 by omega)).trans h.f42, (hb.frozen (p := ⟨N + 4, 3, none⟩) (show N + 4 < N + 5 by omega)).trans h.f43, (hb.frozen (p := ⟨N + 1, 0, none⟩) (show N + 1 < N + 5 by omega)).trans h.f10, (hb.frozen (p := ⟨N + 1, 1, none⟩) (show N + 1 < N + 5 by omega)).trans h.f11, (hb.frozen (p := ⟨N + 1, 2, none⟩) (show N + 1 < N + 5 by omega)).trans h.f12, (hb.frozen (p := ⟨N + 2, 0, none⟩) (show N + 2 < N + 5 by omega)).trans h.f20, (hb.frozen (p := ⟨N + 2, 1, none⟩) (show N + 2 < N + 5 by omega)).trans h.f21, (hb.frozen (p := ⟨N + 2, 2, none⟩) (show N + 2 < N + 5 by omega)).trans h.f22, (hb.frozen (p := ⟨N + 2, 3, none⟩) (show N + 2 < N + 5 by omega)).trans h.f23, by rw [hb.cell (p := ⟨N + 1, 0, none⟩) (show N + 1 < N + 5 by omega)]; exact h.a10, by rw [hb.cell (p := ⟨N + 1, 1, none⟩) (show N + 1 < N + 5 by omega)]; exact h.a11, by rw [hb.cell (p := ⟨N + 1, 2, none⟩) (show N + 1 < N + 5 by omega)]; exact h.a12, by rw [hb.cell (p := ⟨N + 2, 0, none⟩) (show N + 2 < N + 5 by omega)]; exact h.a20, by rw [hb.cell (p := ⟨N + 2, 1, none⟩) (show N + 2 < N + 5 by omega)]; exact h.a21, by rw [hb.cell (p := ⟨N + 2, 2, none⟩) (show N + 2 < N + 5 by omega)]; exact h.a22, by rw [hb.cell (p := ⟨N + 2, 3, none⟩) (show N + 2 < N + 5 by omega)]; exact h.a23, h.bw.trans (hb.mono (by have := h.nn; omega)), h.nn⟩
theorem GvX.setE {w W : World} {N : Nat} {vz : Nat → Value} {q : Int} {E : Sl (Int × Bool)} {B : Sl Int} {T : Sl Bool} {D F : Sl ByteArray} (h : GvX w W N vz q E B T D F) (s' : Sl (Int × Bool)) : GvX w (W.setCell ⟨N + 3, 1, none⟩ (.slice s'.A s'.xs.length s'.c)) N vz q s' B T D F := by
  obtain ⟨z0, z1, z2, z3, x0, xE, xD, y0, yB, yT, yF, f31, f32, f41, f42, f43, f10, f11, f12, f20, f21, f22, f23, a10, a11, a12, a20, a21, a22, a23, bw, nn⟩ := h
  refine ⟨?_, ?_, ?_, ?_, ?_, ?_, ?_, ?_, ?_, ?_, ?_, ?_, ?_, ?_, ?_, ?_, ?_, ?_, ?_, ?_, ?_, ?_, ?_, ?_, ?_, ?_, ?_, ?_, ?_, ?_, bw.setCell (by show w.heap.size ≤ N + 3; omega) _, nn⟩
  all_goals (first | (rw [World.frozen?_setCell]; assumption) | (rw [World.cell?_setCell_other _ _ _ _ (by intro e; injection e with e1 e2; omega)]; assumption) | (rw [World.cell?_setCell_same' _ _ _ (by first | (rw [xE]; rfl) | fail)]))
theorem GvX.setB {w W : World} {N : Nat} {vz : Nat → Value} {q : Int} {E : Sl (Int × Bool)} {B : Sl Int} {T : Sl Bool} {D F : Sl ByteArray} (h : GvX w W N vz q E B T D F) (s' : Sl (Int)) : GvX w (W.setCell ⟨N + 4, 1, none⟩ (.slice s'.A s'.xs.length s'.c)) N vz q E s' T D F := by
  obtain ⟨z0, z1, z2, z3, x0, xE, xD, y0, yB, yT, yF, f31, f32, f41, f42, f43, f10, f11, f12, f20, f21, f22, f23, a10, a11, a12, a20, a21, a22, a23, bw, nn⟩ := h
  refine ⟨?_, ?_, ?_, ?_, ?_, ?_, ?_, ?_, ?_, ?_, ?_, ?_, ?_, ?_, ?_, ?_, ?_, ?_, ?_, ?_, ?_, ?_, ?_, ?_, ?_, ?_, ?_, ?_, ?_, ?_, bw.setCell (by show w.heap.size ≤ N + 4; omega) _, nn⟩
  all_goals (first | (rw [World.frozen?_setCell]; assumption) | (rw [World.cell?_setCell_other _ _ _ _ (by intro e; injection e with e1 e2; omega)]; assumption) | (rw [World.cell?_setCell_same' _ _ _ (by first | fail | (rw [yB]; rfl))]))
theorem GvX.setT {w W : World} {N : Nat} {vz : Nat → Value} {q : Int} {E : Sl (Int × Bool)} {B : Sl Int} {T : Sl Bool} {D F : Sl ByteArray} (h : GvX w W N vz q E B T D F) (s' : Sl (Bool)) : GvX w (W.setCell ⟨N + 4, 2, none⟩ (.slice s'.A s'.xs.length s'.c)) N vz q E B s' D F := by
  obtain ⟨z0, z1, z2, z3, x0, xE, xD, y0, yB, yT, yF, f31, f32, f41, f42, f43, f10, f11, f12, f20, f21, f22, f23, a10, a11, a12, a20, a21, a22, a23, bw, nn⟩ := h
  refine ⟨?_, ?_, ?_, ?_, ?_, ?_, ?_, ?_, ?_, ?_, ?_, ?_, ?_, ?_, ?_, ?_, ?_, ?_, ?_, ?_, ?_, ?_, ?_, ?_, ?_, ?_, ?_, ?_, ?_, ?_, bw.setCell (by show w.heap.size ≤ N + 4; omega) _, nn⟩
  all_goals (first | (rw [World.frozen?_setCell]; assumption) | (rw [World.cell?_setCell_other _ _ _ _ (by intro e; injection e with e1 e2; omega)]; assumption) | (rw [World.cell?_setCell_same' _ _ _ (by first | fail | (rw [yT]; rfl))]))
theorem GvX.setD {w W : World} {N : Nat} {vz : Nat → Value} {q : Int} {E : Sl (Int × Bool)} {B : Sl Int} {T : Sl Bool} {D F : Sl ByteArray} (h : GvX w W N vz q E B T D F) (s' : Sl (ByteArray)) : GvX w (W.setCell ⟨N + 3, 2, none⟩ (.slice s'.A s'.xs.length s'.c)) N vz q E B T s' F := by
  obtain ⟨z0, z1, z2, z3, x0, xE, xD, y0, yB, yT, yF, f31, f32, f41, f42, f43, f10, f11, f12, f20, f21, f22, f23, a10, a11, a12, a20, a21, a22, a23, bw, nn⟩ := h
  refine ⟨?_, ?_, ?_, ?_, ?_, ?_, ?_, ?_, ?_, ?_, ?_, ?_, ?_, ?_, ?_, ?_, ?_, ?_, ?_, ?_, ?_, ?_, ?_, ?_, ?_, ?_, ?_, ?_, ?_, ?_, bw.setCell (by show w.heap.size ≤ N + 3; omega) _, nn⟩
  all_goals (first | (rw [World.frozen?_setCell]; assumption) | (rw [World.cell?_setCell_other _ _ _ _ (by intro e; injection e with e1 e2; omega)]; assumption) | (rw [World.cell?_setCell_same' _ _ _ (by first | (rw [xD]; rfl) | fail)]))
theorem GvX.setF {w W : World} {N : Nat} {vz : Nat → Value} {q : Int} {E : Sl (Int × Bool)} {B : Sl Int} {T : Sl Bool} {D F : Sl ByteArray} (h : GvX w W N vz q E B T D F) (s' : Sl (ByteArray)) : GvX w (W.setCell ⟨N + 4, 3, none⟩ (.slice s'.A s'.xs.length s'.c)) N vz q E B T D s' := by
  obtain ⟨z0, z1, z2, z3, x0, xE, xD, y0, yB, yT, yF, f31, f32, f41, f42, f43, f10, f11, f12, f20, f21, f22, f23, a10, a11, a12, a20, a21, a22, a23, bw, nn⟩ := h
  refine ⟨?_, ?_, ?_, ?_, ?_, ?_, ?_, ?_, ?_, ?_, ?_, ?_, ?_, ?_, ?_, ?_, ?_, ?_, ?_, ?_, ?_, ?_, ?_, ?_, ?_, ?_, ?_, ?_, ?_, ?_, bw.setCell (by show w.heap.size ≤ N + 4; omega) _, nn⟩
  all_goals (first | (rw [World.frozen?_setCell]; assumption) | (rw [World.cell?_setCell_other _ _ _ _ (by intro e; injection e with e1 e2; omega)]; assumption) | (rw [World.cell?_setCell_same' _ _ _ (by first | fail | (rw [yF]; rfl))]))
theorem row_lt {α : Type} {E : Enc α} {W : World} {base : Nat} {t : TypeId} {A : Option Addr} {c : Nat} {xs : List α} (h : E.Row W base t A c xs) : ∀ r, A = some ⟨r, 0, none⟩ → r < W.heap.size := fun r e => by
  rcases h.form with ⟨e1, _⟩ | ⟨g, e1, _, h2, _⟩
  · rw [e1] at e; cases e
  · rw [e1] at e; injection e with e; injection e with e _ _; omega
/-- The boxes, and a cell of what came in. -/
def SG (w W : World) (N : Nat) (vz : Nat → Value) (q : Int) (E : Sl (Int × Bool)) (B : Sl Int) (T : Sl Bool) (D F : Sl ByteArray) (bb p : Nat) (v : Value) : Prop := GvX w W N vz q E B T D F ∧ W.cell? ⟨bb, p, none⟩ = some v ∧ bb < N
theorem SG.keep {w W : World} {N : Nat} {vz : Nat → Value} {q : Int} {E : Sl (Int × Bool)} {B : Sl Int} {T : Sl Bool} {D F : Sl ByteArray} {bb p : Nat} {v : Value} {W' : World} (h : SG w W N vz q E B T D F bb p v) (hb : Below (N + 5) W W') : SG w W' N vz q E B T D F bb p v := ⟨h.1.keep hb, (hb.cell (p := ⟨bb, p, none⟩) (show bb < N + 5 by have := h.2.2; omega)).trans h.2.1, h.2.2⟩
end Go.Proofs.YtbgkmppngnedlaaDoor
