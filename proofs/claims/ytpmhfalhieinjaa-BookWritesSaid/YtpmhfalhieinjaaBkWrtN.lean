/- The world within BookWrites; a list of lists made of three, in whatever order: what lies where, by what is done. -/
import Derived.Test.YtpmhfalhieinjaaBkReadsW
import Derived.Test.YtpmhfalhieinjaaBkRRecs
import Derived.Test.YtpmhfalhieinjaaBkFshM
import Derived.Test.YtpmhfalhieinjaaRecEq
import Derived.Test.YtpmhfalhieinjaaHeldMany
namespace Go.Proofs.Ytpmhfalhieinjaa
open Go.RowKit Rec Bk

theorem anyL_four {P : Program} {Q : Exit → Act → World → Prop} {md : Region.Mode} {S : World → Prop} {c : Nat → Bool} {l ri rj rk rm : List Oper} (i j k m : Nat) {oi oj ok om : Oper} {fuel : Nat} {listed : Array Bool} {a : Act} {w : World} (hli : l.drop i = oi :: ri) (hlj : l.drop j = oj :: rj) (hlk : l.drop k = ok :: rk) (hlm : l.drop m = om :: rm)
    (hr : decide (Region.ready md l.toArray listed = [i, j, k, m]) = true)
    (hi : StepAt P md l Q c S fuel listed a w i oi) (hj : StepAt P md l Q c S fuel listed a w j oj) (hk : StepAt P md l Q c S fuel listed a w k ok) (hm : StepAt P md l Q c S fuel listed a w m om) : anyC P md l.toArray Q c S (fuel + 1) listed a w := by
  have hr' := of_decide_eq_true hr
  refine ⟨fun h0 => (by rw [hr'] at h0; cases h0), fun x hx => ?_⟩
  rw [hr'] at hx
  rcases List.mem_cons.1 hx with rfl | hx
  · exact hi.wpOp hli
  · rcases List.mem_cons.1 hx with rfl | hx
    · exact hj.wpOp hlj
    · rcases List.mem_cons.1 hx with rfl | hx
      · exact hk.wpOp hlk
      · obtain rfl := List.mem_singleton.1 hx
        exact hm.wpOp hlm
/-- The world behind given. -/
structure WrW (w wg W : World) (D Z B O A : Int) (Aa : Option Addr) (ca : Nat) (la : List LRow) (Ab : Option Addr) (cb : Nat) (lb : List LRow) : Prop where
  g : GzAt W w.heap.size D Z B O A
  o : GvO wg W Aa ca la Ab cb lb
  bw : Below w.heap.size w W
  lt : w.heap.size < wg.heap.size
theorem WrW.below {w wg W W' : World} {D Z B O A : Int} {Aa : Option Addr} {ca : Nat} {la : List LRow} {Ab : Option Addr} {cb : Nat} {lb : List LRow} (h : WrW w wg W D Z B O A Aa ca la Ab cb lb) (hb : Below W.heap.size W W') : WrW w wg W' D Z B O A Aa ca la Ab cb lb :=
  ⟨h.g.below hb, h.o.below hb, h.bw.trans (hb.mono h.bw.size), h.lt⟩
theorem read_q {n m : Nat} {l : List Rc} (hok : ∀ x ∈ l, RcOk x) : 0 ≤ (readB n m l).q ∧ (readB n m l).q ≤ 4398046511104 :=
  ⟨maxQ_nn l, maxQ_bd (by omega) fun y hy => (hok y hy).s.2⟩
theorem lists_rc {la : List LRow} (h : ListsOk la) : ∀ x ∈ flatL la, RcOk x := fun x hx => by
  obtain ⟨l, hl, hxl⟩ := List.mem_flatMap.1 hx
  exact (h.2 l hl).2 x hxl
def YesN (b : Bo) (w : World) (e : Ending) (w' : World) : Prop := ∃ A1 c1 A2 c2, e = .returned (.tuple #[.agg #[.int .i64 b.q, .slice A1 b.zs.length c1, .slice A2 b.ms.length c2, .int .i64 b.sl, .int .i64 b.cu], .int .i64 0]) ∧ BkIn w' A1 c1 A2 c2 b ∧ Below w.heap.size w w' ∧
  (∀ g off, A1 = some ⟨g, off, none⟩ ∨ A2 = some ⟨g, off, none⟩ → w.heap.size ≤ g ∧ g < w'.heap.size)
theorem own_in {W : World} {B : Nat} {t : TypeId} {A1 A2 : Option Addr} {c1 c2 : Nat} {zs : List Zo} {ms : List Int} (hz : zoE.Row W B t A1 c1 zs) (hm : NRow W B A2 c2 ms) : ∀ g off, A1 = some ⟨g, off, none⟩ ∨ A2 = some ⟨g, off, none⟩ → B ≤ g ∧ g < W.heap.size := fun g off h => by
  rcases h with e | e
  · rcases hz.form with ⟨e', _⟩ | ⟨g', e', h1, h2, _⟩
    · rw [e'] at e; cases e
    · rw [e'] at e; injection e with e; injection e with e; omega
  · rcases hm.form with ⟨e', _⟩ | ⟨g', e', h1, h2, _⟩
    · rw [e'] at e; cases e
    · rw [e'] at e; injection e with e; injection e with e; omega
theorem reads_new (D Z B O A : Int) {la lb : List LRow} {ls : List PRow} (ha : la.map LRow.rs = givL ls) (hb : lb.map LRow.rs = givL ls) (Aa Ab : Option Addr) (ca cb : Nat) :
    (∃ ev : Int, ev ≠ 0 ∧ (∀ W, ListsIn W Aa la → Calls Try.prog 9 #[.agg #[.int .i64 D, .int .i64 Z, .int .i64 B, .int .i64 O, .int .i64 A], .slice Aa la.length ca] W (NoP ev W)) ∧
      (∀ W, ListsIn W Ab lb → Calls Try.prog 10 #[.agg #[.int .i64 D, .int .i64 Z, .int .i64 B, .int .i64 O, .int .i64 A], .slice Ab lb.length cb] W (NoP ev W))) ∨
    (∃ n m : Nat, goodB D Z B O A = true ∧ D = (m : Int) ∧ Z - 3 = (n : Int) ∧ SaysB D Z n m (flatL la) ∧ (∀ W, ListsIn W Aa la → Calls Try.prog 9 #[.agg #[.int .i64 D, .int .i64 Z, .int .i64 B, .int .i64 O, .int .i64 A], .slice Aa la.length ca] W (YesN (readB n m (flatL la)) W)) ∧
      (∀ W, ListsIn W Ab lb → Calls Try.prog 10 #[.agg #[.int .i64 D, .int .i64 Z, .int .i64 B, .int .i64 O, .int .i64 A], .slice Ab lb.length cb] W (YesN (readB n m (flatL la)) W))) := by
  have hfl := flat_of ha hb
  obtain ⟨hok, hpos⟩ := giv_ok ha
  obtain ⟨hokb, hposb⟩ := giv_ok hb
  cases rdC D Z B O A with
  | bad hgd => exact .inl ⟨1, by decide, fun W _ => read_bad W D Z B O A Aa la.length ca hgd, fun W _ => rread_bad W D Z B O A Ab lb.length cb hgd⟩
  | good n m hgd hD hn =>
    subst hD
    by_cases hs : SaysB (m : Int) Z n m (flatL la)
    · refine .inr ⟨n, m, hgd, rfl, hn, hs, fun W hI => (read_good W Z B O A n m Aa ca la hgd hn hI hok).mono ?_, fun W hI => (rread_good W Z B O A n m Ab cb lb hgd hn hI hokb hposb).mono ?_⟩
      · intro e W' h
        obtain ⟨A1, c1, A2, c2, h1, h2, h3⟩ := h.1 hs
        exact ⟨A1, c1, A2, c2, h1, h2.in_, h3, own_in h2.z h2.m⟩
      · intro e W' h
        have h' := h.1 (by rw [hfl]; exact hs)
        rw [hfl] at h'
        obtain ⟨A1, c1, A2, c2, h1, h2, h3⟩ := h'
        exact ⟨A1, c1, A2, c2, h1, h2.in_, h3, own_in h2.z h2.m⟩
    · refine .inl ⟨9, by decide, fun W hI => (read_good W Z B O A n m Aa ca la hgd hn hI hok).mono ?_, fun W hI => (rread_good W Z B O A n m Ab cb lb hgd hn hI hokb hposb).mono ?_⟩
      · intro e W' h
        exact h.2 hs
      · intro e W' h
        exact h.2 (by rw [hfl]; exact hs)
/-- A book whose blocks are as they were. -/
theorem BkIn.old {W V : World} {A1 A2 : Option Addr} {c1 c2 : Nat} {b : Bo} (h : BkIn W A1 c1 A2 c2 b) (hs : W.heap.size ≤ V.heap.size) (hk : ∀ k off, A1 = some ⟨k, off, none⟩ ∨ A2 = some ⟨k, off, none⟩ → V.heap[k]? = W.heap[k]?) : BkIn V A1 c1 A2 c2 b := by
  refine ⟨?_, ?_, h.n1, h.n2, h.zl, h.ml⟩
  · rcases h.z with h0 | ⟨g, off, e, hlt, hc⟩
    · exact .inl h0
    · exact .inr ⟨g, off, e, Nat.lt_of_lt_of_le hlt hs, fun i hi j hj => (World.cell?_of_block (a := ⟨g, _, none⟩) (hk g off (.inl e))).trans (hc i hi j hj)⟩
  · rcases h.m with h0 | ⟨g, off, e, hlt, hc⟩
    · exact .inl h0
    · exact .inr ⟨g, off, e, Nat.lt_of_lt_of_le hlt hs, fun i hi => (World.cell?_of_block (a := ⟨g, _, none⟩) (hk g off (.inr e))).trans (hc i hi)⟩
end Go.Proofs.Ytpmhfalhieinjaa
namespace Go.Proofs.Ytpmhfalhieinjaa
open Go.RowKit Rec Bk

/-- A state that is come to on several ways is looked at once. -/
theorem node0 {C : Prop} (Inv : World → Prop) (G : World → Prop) (h1 : (∀ W, Inv W → G W) → C) (h2 : ∀ W, Inv W → G W) : C := h1 h2
theorem node1 {C : Prop} (Inv : Nat → World → Prop) (G : Nat → World → Prop) (h1 : (∀ x0 W, Inv x0 W → G x0 W) → C) (h2 : ∀ x0 W, Inv x0 W → G x0 W) : C := h1 h2
theorem node2 {C : Prop} (Inv : Nat → Nat → World → Prop) (G : Nat → Nat → World → Prop) (h1 : (∀ x0 x1 W, Inv x0 x1 W → G x0 x1 W) → C) (h2 : ∀ x0 x1 W, Inv x0 x1 W → G x0 x1 W) : C := h1 h2
theorem node3 {C : Prop} (Inv : Nat → Nat → Nat → World → Prop) (G : Nat → Nat → Nat → World → Prop) (h1 : (∀ x0 x1 x2 W, Inv x0 x1 x2 W → G x0 x1 x2 W) → C) (h2 : ∀ x0 x1 x2 W, Inv x0 x1 x2 W → G x0 x1 x2 W) : C := h1 h2
theorem node4 {C : Prop} (Inv : Nat → Nat → Nat → Nat → World → Prop) (G : Nat → Nat → Nat → Nat → World → Prop) (h1 : (∀ x0 x1 x2 x3 W, Inv x0 x1 x2 x3 W → G x0 x1 x2 x3 W) → C) (h2 : ∀ x0 x1 x2 x3 W, Inv x0 x1 x2 x3 W → G x0 x1 x2 x3 W) : C := h1 h2
theorem node5 {C : Prop} (Inv : Nat → Nat → Nat → Nat → Nat → World → Prop) (G : Nat → Nat → Nat → Nat → Nat → World → Prop) (h1 : (∀ x0 x1 x2 x3 x4 W, Inv x0 x1 x2 x3 x4 W → G x0 x1 x2 x3 x4 W) → C) (h2 : ∀ x0 x1 x2 x3 x4 W, Inv x0 x1 x2 x3 x4 W → G x0 x1 x2 x3 x4 W) : C := h1 h2
theorem node6 {C : Prop} (Inv : Nat → Nat → Nat → Nat → Nat → Nat → World → Prop) (G : Nat → Nat → Nat → Nat → Nat → Nat → World → Prop) (h1 : (∀ x0 x1 x2 x3 x4 x5 W, Inv x0 x1 x2 x3 x4 x5 W → G x0 x1 x2 x3 x4 x5 W) → C) (h2 : ∀ x0 x1 x2 x3 x4 x5 W, Inv x0 x1 x2 x3 x4 x5 W → G x0 x1 x2 x3 x4 x5 W) : C := h1 h2
theorem node7 {C : Prop} (Inv : Nat → Nat → Nat → Nat → Nat → Nat → Nat → World → Prop) (G : Nat → Nat → Nat → Nat → Nat → Nat → Nat → World → Prop) (h1 : (∀ x0 x1 x2 x3 x4 x5 x6 W, Inv x0 x1 x2 x3 x4 x5 x6 W → G x0 x1 x2 x3 x4 x5 x6 W) → C) (h2 : ∀ x0 x1 x2 x3 x4 x5 x6 W, Inv x0 x1 x2 x3 x4 x5 x6 W → G x0 x1 x2 x3 x4 x5 x6 W) : C := h1 h2
theorem node8 {C : Prop} (Inv : Nat → Nat → Nat → Nat → Nat → Nat → Nat → Nat → World → Prop) (G : Nat → Nat → Nat → Nat → Nat → Nat → Nat → Nat → World → Prop) (h1 : (∀ x0 x1 x2 x3 x4 x5 x6 x7 W, Inv x0 x1 x2 x3 x4 x5 x6 x7 W → G x0 x1 x2 x3 x4 x5 x6 x7 W) → C) (h2 : ∀ x0 x1 x2 x3 x4 x5 x6 x7 W, Inv x0 x1 x2 x3 x4 x5 x6 x7 W → G x0 x1 x2 x3 x4 x5 x6 x7 W) : C := h1 h2
theorem node9 {C : Prop} (Inv : Nat → Nat → Nat → Nat → Nat → Nat → Nat → Nat → Nat → World → Prop) (G : Nat → Nat → Nat → Nat → Nat → Nat → Nat → Nat → Nat → World → Prop) (h1 : (∀ x0 x1 x2 x3 x4 x5 x6 x7 x8 W, Inv x0 x1 x2 x3 x4 x5 x6 x7 x8 W → G x0 x1 x2 x3 x4 x5 x6 x7 x8 W) → C) (h2 : ∀ x0 x1 x2 x3 x4 x5 x6 x7 x8 W, Inv x0 x1 x2 x3 x4 x5 x6 x7 x8 W → G x0 x1 x2 x3 x4 x5 x6 x7 x8 W) : C := h1 h2
theorem node10 {C : Prop} (Inv : Nat → Nat → Nat → Nat → Nat → Nat → Nat → Nat → Nat → Nat → World → Prop) (G : Nat → Nat → Nat → Nat → Nat → Nat → Nat → Nat → Nat → Nat → World → Prop) (h1 : (∀ x0 x1 x2 x3 x4 x5 x6 x7 x8 x9 W, Inv x0 x1 x2 x3 x4 x5 x6 x7 x8 x9 W → G x0 x1 x2 x3 x4 x5 x6 x7 x8 x9 W) → C) (h2 : ∀ x0 x1 x2 x3 x4 x5 x6 x7 x8 x9 W, Inv x0 x1 x2 x3 x4 x5 x6 x7 x8 x9 W → G x0 x1 x2 x3 x4 x5 x6 x7 x8 x9 W) : C := h1 h2
theorem nodeE {C : Prop} (Inv : Option Addr → Nat → Option Addr → Nat → Nat → Nat → Nat → Nat → Nat → Nat → Nat → Nat → Nat → Nat → World → Prop) (G : Option Addr → Nat → Option Addr → Nat → Nat → Nat → Nat → Nat → Nat → Nat → Nat → Nat → Nat → Nat → World → Prop) (h1 : (∀ E1 e1 E2 e2 x0 x1 x2 x3 x4 x5 x6 x7 x8 x9 W, Inv E1 e1 E2 e2 x0 x1 x2 x3 x4 x5 x6 x7 x8 x9 W → G E1 e1 E2 e2 x0 x1 x2 x3 x4 x5 x6 x7 x8 x9 W) → C) (h2 : ∀ E1 e1 E2 e2 x0 x1 x2 x3 x4 x5 x6 x7 x8 x9 W, Inv E1 e1 E2 e2 x0 x1 x2 x3 x4 x5 x6 x7 x8 x9 W → G E1 e1 E2 e2 x0 x1 x2 x3 x4 x5 x6 x7 x8 x9 W) : C := h1 h2
/-- What stays all along: the two worlds, the row of lists, the two pieces. -/
structure Cx where
  w : World
  W2 : World
  ws : Nat
  Aa : Option Addr
  ca : Nat
  la : List LRow
  dl : LRow
  tl : LRow
structure Nd (c : Cx) (f1 f5 f6 f11 f12 f13 f18 : Bool) (g1 g2 a6 c6 g3 a12 c12 a13 c13 T : Nat) (W : World) : Prop where
  sz : c.W2.heap.size ≤ W.heap.size
  bl : ∀ k, k < c.W2.heap.size → c.Aa ≠ some ⟨k, 0, none⟩ → W.heap[k]? = c.W2.heap[k]?
  bw : Below c.w.heap.size c.w W
  ra : f12 = false → slE.Row W c.ws 46 c.Aa c.ca c.la
  p1 : f1 = true → f6 = false → slE.Row W c.W2.heap.size 46 (some ⟨g1, 0, none⟩) 0 []
  p5 : f5 = true → f6 = false → W.cell? ⟨g2, 0, none⟩ = some (.slice c.dl.A c.dl.rs.length c.dl.cap) ∧ c.W2.heap.size ≤ g2
  p6 : f6 = true → f13 = false → slE.Row W c.W2.heap.size 46 (some ⟨a6, 0, none⟩) c6 [c.dl]
  p11 : f11 = true → f12 = false → W.cell? ⟨g3, 0, none⟩ = some (.slice c.tl.A c.tl.rs.length c.tl.cap) ∧ c.W2.heap.size ≤ g3
  p12 : f12 = true → f13 = false → slE.In W (some ⟨a12, 0, none⟩) (c.la ++ [c.tl]) ∧ (c.W2.heap.size ≤ a12 ∨ c.Aa = some ⟨a12, 0, none⟩) ∧ a12 < W.heap.size
  p13 : f13 = true → slE.In W (some ⟨a13, 0, none⟩) (c.dl :: (c.la ++ [c.tl])) ∧ c.W2.heap.size ≤ a13
  p18 : f18 = true → BkAt W T none 0 none 0 noB ∧ c.W2.heap.size ≤ T
  n12 : f1 = true → f6 = false → f5 = true → g1 ≠ g2
  n13 : f1 = true → f6 = false → f11 = true → f12 = false → g1 ≠ g3
  n1a : f1 = true → f6 = false → f12 = true → f13 = false → g1 ≠ a12
  n1T : f1 = true → f6 = false → f18 = true → g1 ≠ T
  n63 : f6 = true → f13 = false → f11 = true → f12 = false → a6 ≠ g3
  n6a : f6 = true → f13 = false → f12 = true → f13 = false → a6 ≠ a12
  n6T : f6 = true → f13 = false → f18 = true → a6 ≠ T
/-- What is known of what stays. -/
structure CxOk (c : Cx) : Prop where
  ab : ∀ g, c.Aa = some ⟨g, 0, none⟩ → g < c.W2.heap.size
  la : c.la.length ≤ 8
  ws : c.ws ≤ c.W2.heap.size
  w : c.w.heap.size ≤ c.ws
section
variable {c : Cx} {f1 f5 f6 f11 f12 f13 f18 : Bool} {g1 g2 a6 c6 g3 a12 c12 a13 c13 T : Nat} {W W' : World}
theorem row_lt {W : World} {B : Nat} {t : TypeId} {g cap : Nat} {xs : List LRow} (h : slE.Row W B t (some ⟨g, 0, none⟩) cap xs) : B ≤ g ∧ g < W.heap.size := by
  rcases h.form with ⟨e, _⟩ | ⟨g', e, h1, h2, _⟩
  · cases e
  · injection e with e; injection e with e; omega
theorem grown_below (hb : Below W.heap.size W W') : W.grownBy W' none := ⟨hb.os, hb.tape, hb.output, hb.size, fun k hk _ => hb.block k hk⟩
theorem cell_kept {o : Option Nat} (hg : W.grownBy W' o) {g i : Nat} {v : Value} (h : W.cell? ⟨g, i, none⟩ = some v) (hn : o ≠ some g) : W'.cell? ⟨g, i, none⟩ = some v :=
  (World.cell?_of_block (a := ⟨g, i, none⟩) (hg.block g (lt_of_cell h) (fun e => hn e.symm))).trans h
theorem in_kept {o : Option Nat} (hg : W.grownBy W' o) {g : Nat} {xs : List LRow} (h : slE.In W (some ⟨g, 0, none⟩) xs) (hn : o ≠ some g) : slE.In W' (some ⟨g, 0, none⟩) xs := by
  rcases h with h | ⟨b, off, e, hlt, hc⟩
  · exact .inl h
  · injection e with e
    injection e with e1 e2
    subst e1
    subst e2
    exact .inr ⟨g, 0, rfl, Nat.lt_of_lt_of_le hlt hg.size, fun i hi j hj => (World.cell?_of_block (a := ⟨g, _, none⟩) (hg.block g hlt (fun e => hn e.symm))).trans (hc i hi j hj)⟩
/-- Memory has only grown: what is made lies in a new block. -/
theorem Nd.alloc (h : Nd c f1 f5 f6 f11 f12 f13 f18 g1 g2 a6 c6 g3 a12 c12 a13 c13 T W) (hb : Below W.heap.size W W') : Nd c f1 f5 f6 f11 f12 f13 f18 g1 g2 a6 c6 g3 a12 c12 a13 c13 T W' := by
  have hg := grown_below hb
  have hn : ∀ {g : Nat}, (none : Option Nat) ≠ some g := fun e => by cases e
  exact ⟨Nat.le_trans h.sz hb.size, fun k hk hk2 => (hb.block k (Nat.lt_of_lt_of_le hk h.sz)).trans (h.bl k hk hk2), h.bw.trans (hb.mono h.bw.size), fun a => (h.ra a).below hb, fun a b => (h.p1 a b).below hb,
    fun a b => ⟨cell_kept hg (h.p5 a b).1 hn, (h.p5 a b).2⟩, fun a b => (h.p6 a b).below hb, fun a b => ⟨cell_kept hg (h.p11 a b).1 hn, (h.p11 a b).2⟩, fun a b => ⟨in_kept hg (h.p12 a b).1 hn, (h.p12 a b).2.1, Nat.lt_of_lt_of_le (h.p12 a b).2.2 hb.size⟩, fun a => ⟨in_kept hg (h.p13 a).1 hn, (h.p13 a).2⟩, fun a => ⟨(h.p18 a).1.below hb, (h.p18 a).2⟩,
    h.n12, h.n13, h.n1a, h.n1T, h.n63, h.n6a, h.n6T⟩
theorem Nd.t_lt (h : Nd c f1 f5 f6 f11 f12 f13 f18 g1 g2 a6 c6 g3 a12 c12 a13 c13 T W) (h18 : f18 = true) : T < W.heap.size := (h.p18 h18).1.lt
/-- The first piece's list, empty. -/
theorem Nd.op1 (h : Nd c false f5 false f11 f12 false f18 g1 g2 a6 c6 g3 a12 c12 a13 c13 T W) : Nd c true f5 false f11 f12 false f18 W.heap.size g2 a6 c6 g3 a12 c12 a13 c13 T (W.alloc (.cells #[] 46)) := by
  have hb : Below W.heap.size W (W.alloc (.cells #[] 46)) := (Below.refl _ _).alloc (Nat.le_refl _) _
  have hk := h.alloc hb
  have hr : slE.Row (W.alloc (.cells #[] 46)) c.W2.heap.size 46 (some ⟨W.heap.size, 0, none⟩) 0 [] :=
    ⟨rfl, .inr ⟨W.heap.size, 0, #[], rfl, h.sz, heap_alloc_new W _, Nat.le_refl _, by decide, rfl, rfl⟩⟩
  exact ⟨hk.sz, hk.bl, hk.bw, hk.ra, fun _ _ => hr, hk.p5, hk.p6, hk.p11, hk.p12, hk.p13, hk.p18, fun _ _ a => Nat.ne_of_gt (lt_of_cell (h.p5 a rfl).1), fun _ _ a b => Nat.ne_of_gt (lt_of_cell (h.p11 a b).1), fun _ _ a b => Nat.ne_of_gt (h.p12 a b).2.2, fun _ _ a => Nat.ne_of_gt (h.t_lt a), hk.n63, hk.n6a, hk.n6T⟩
/-- A piece in a list of its own. -/
theorem Nd.op5 (h : Nd c f1 false false f11 f12 false f18 g1 g2 a6 c6 g3 a12 c12 a13 c13 T W) : Nd c f1 true false f11 f12 false f18 g1 W.heap.size a6 c6 g3 a12 c12 a13 c13 T (W.alloc (.cells #[.slice c.dl.A c.dl.rs.length c.dl.cap] 46)) := by
  have hb : Below W.heap.size W (W.alloc (.cells #[.slice c.dl.A c.dl.rs.length c.dl.cap] 46)) := (Below.refl _ _).alloc (Nat.le_refl _) _
  have hk := h.alloc hb
  exact ⟨hk.sz, hk.bl, hk.bw, hk.ra, hk.p1, fun _ _ => ⟨by simp [World.cell?_alloc_new], h.sz⟩, hk.p6, hk.p11, hk.p12, hk.p13, hk.p18, fun a b _ => Nat.ne_of_lt (row_lt (h.p1 a b)).2, hk.n13, hk.n1a, hk.n1T, hk.n63, hk.n6a, hk.n6T⟩
theorem Nd.op11 (h : Nd c f1 f5 f6 false false false f18 g1 g2 a6 c6 g3 a12 c12 a13 c13 T W) : Nd c f1 f5 f6 true false false f18 g1 g2 a6 c6 W.heap.size a12 c12 a13 c13 T (W.alloc (.cells #[.slice c.tl.A c.tl.rs.length c.tl.cap] 46)) := by
  have hb : Below W.heap.size W (W.alloc (.cells #[.slice c.tl.A c.tl.rs.length c.tl.cap] 46)) := (Below.refl _ _).alloc (Nat.le_refl _) _
  have hk := h.alloc hb
  exact ⟨hk.sz, hk.bl, hk.bw, hk.ra, hk.p1, hk.p5, hk.p6, fun _ _ => ⟨by simp [World.cell?_alloc_new], h.sz⟩, hk.p12, hk.p13, hk.p18, hk.n12, fun a b _ _ => Nat.ne_of_lt (row_lt (h.p1 a b)).2, hk.n1a, hk.n1T, fun a b _ _ => Nat.ne_of_lt (row_lt (h.p6 a b)).2, hk.n6a, hk.n6T⟩
/-- The result's box. -/
theorem Nd.op18 (h : Nd c f1 f5 f6 f11 f12 f13 false g1 g2 a6 c6 g3 a12 c12 a13 c13 T W) : Nd c f1 f5 f6 f11 f12 f13 true g1 g2 a6 c6 g3 a12 c12 a13 c13 W.heap.size (W.alloc (.cells #[.int .i64 0, .slice none 0 0, .slice none 0 0, .int .i64 0, .int .i64 0] 33)) := by
  have hb : Below W.heap.size W (W.alloc (.cells #[.int .i64 0, .slice none 0 0, .slice none 0 0, .int .i64 0, .int .i64 0] 33)) := (Below.refl _ _).alloc (Nat.le_refl _) _
  have hk := h.alloc hb
  exact ⟨hk.sz, hk.bl, hk.bw, hk.ra, hk.p1, hk.p5, hk.p6, hk.p11, hk.p12, hk.p13, fun _ => ⟨BkAt.new W none 0 none 0 noB 33, h.sz⟩, hk.n12, hk.n13, hk.n1a, fun a b _ => Nat.ne_of_lt (row_lt (h.p1 a b)).2, hk.n63, hk.n6a, fun a b _ => Nat.ne_of_lt (row_lt (h.p6 a b)).2⟩
/-- The first piece is appended. -/
theorem Nd.op6 (h : Nd c true true false f11 f12 false f18 g1 g2 a6 c6 g3 a12 c12 a13 c13 T W) (hc : CxOk c) :
    ∃ a6' c6' W', (Builtin.append_ #[26, 26] 26 #[.slice (some ⟨g1, 0, none⟩) 0 0, .slice (some ⟨g2, 0, none⟩) 1 1]).run Try.prog W = .ok (.slice (some ⟨a6', 0, none⟩) 1 c6') W' ∧
      Nd c true true true f11 f12 false f18 g1 g2 a6' c6' g3 a12 c12 a13 c13 T W' := by
  obtain ⟨A', cap', W', hrun, hrow, hg, hA⟩ := (h.p1 rfl rfl).append (P := Try.prog) Try.underlying26 infLs (by decide) (by decide) (m := g2) (x := c.dl) (by
    intro j hj
    have hj1 : j < 1 := hj
    obtain rfl : j = 0 := by omega
    exact (h.p5 rfl rfl).1) (by simp) h.sz 26
  obtain ⟨hg1, hg1l⟩ := row_lt (h.p1 rfl rfl)
  have hg' : W.grownBy W' (some g1) := hg
  obtain ⟨a, ha, hor⟩ : ∃ a, A' = some ⟨a, 0, none⟩ ∧ (a = g1 ∨ a = W.heap.size) := by
    rcases hA with e | e
    · exact ⟨g1, e, .inl rfl⟩
    · exact ⟨_, e, .inr rfl⟩
  subst ha
  have hne : ∀ {k : Nat}, k < W.heap.size → g1 ≠ k → a ≠ k := fun h1 h2 => by rcases hor with rfl | rfl <;> omega
  have ho : ∀ {k : Nat}, g1 ≠ k → (some g1 : Option Nat) ≠ some k := fun h e => h (by injection e)
  refine ⟨a, cap', W', hrun, ⟨Nat.le_trans h.sz hg.size, fun k hk hk2 => (hg'.block k (Nat.lt_of_lt_of_le hk h.sz) (fun e => by injection e with e; omega)).trans (h.bl k hk hk2),
    h.bw.grown hg' h.bw.size (fun k e => by injection e with e; have := hc.ws; have := hc.w; omega), fun b => (h.ra b).far hg' (fun g e e' => by injection e' with e'; have := hc.ab g e; omega), fun _ b => (by cases b), fun _ b => (by cases b), fun _ _ => hrow,
    fun b1 b2 => ⟨cell_kept hg' (h.p11 b1 b2).1 (ho (h.n13 rfl rfl b1 b2)), (h.p11 b1 b2).2⟩, fun b1 b2 => ⟨in_kept hg' (h.p12 b1 b2).1 (ho (h.n1a rfl rfl b1 b2)), (h.p12 b1 b2).2.1, Nat.lt_of_lt_of_le (h.p12 b1 b2).2.2 hg.size⟩, fun b => (by cases b),
    fun b => ⟨(h.p18 b).1.far hg' (ho (h.n1T rfl rfl b)), (h.p18 b).2⟩, fun _ b => (by cases b), fun _ b => (by cases b), fun _ b => (by cases b), fun _ b => (by cases b),
    fun _ _ b1 b2 => hne (lt_of_cell (h.p11 b1 b2).1) (h.n13 rfl rfl b1 b2), fun _ _ b1 b2 => hne (h.p12 b1 b2).2.2 (h.n1a rfl rfl b1 b2), fun _ _ b => hne (h.t_lt b) (h.n1T rfl rfl b)⟩⟩
/-- The second piece is appended to the lists. -/
theorem Nd.op12 (h : Nd c f1 f5 f6 true false false f18 g1 g2 a6 c6 g3 a12 c12 a13 c13 T W) (hc : CxOk c) :
    ∃ a12' c12' W', (Builtin.append_ #[26, 26] 26 #[.slice c.Aa c.la.length c.ca, .slice (some ⟨g3, 0, none⟩) 1 1]).run Try.prog W = .ok (.slice (some ⟨a12', 0, none⟩) (c.la.length + 1) c12') W' ∧
      Nd c f1 f5 f6 true true false f18 g1 g2 a6 c6 g3 a12' c12' a13 c13 T W' := by
  have hla := hc.la
  have hsz := h.sz
  obtain ⟨A', cap', W', hrun, hrow, hg, hA⟩ := (h.ra rfl).append (P := Try.prog) Try.underlying26 infLs (by decide) (by decide) (m := g3) (x := c.tl) (by
    intro j hj
    have hj1 : j < 1 := hj
    obtain rfl : j = 0 := by omega
    exact (h.p11 rfl rfl).1) (by omega) (by have := hc.ws; omega) 26
  have ho : ∀ k, (Value.slice c.Aa c.la.length c.ca).ownBlock = some k → c.Aa = some ⟨k, 0, none⟩ := fun k e => by
    rcases (h.ra rfl).form with ⟨e2, _⟩ | ⟨g, e2, _⟩
    · rw [e2] at e; simp [Value.ownBlock] at e
    · rw [e2] at e ⊢; simp only [Value.ownBlock, Option.some.injEq] at e; rw [e]
  have hof : ∀ {k : Nat}, c.W2.heap.size ≤ k → (Value.slice c.Aa c.la.length c.ca).ownBlock ≠ some k := fun hk e => by have := hc.ab _ (ho _ e); omega
  obtain ⟨a, ha, hor⟩ : ∃ a, A' = some ⟨a, 0, none⟩ ∧ (c.Aa = some ⟨a, 0, none⟩ ∨ a = W.heap.size) := by
    rcases hA with e | e
    · rcases hrow.form with ⟨_, _, e3⟩ | ⟨g, e3, _⟩
      · simp at e3
      · exact ⟨g, e3, .inl (by rw [← e, e3])⟩
    · exact ⟨_, e, .inr rfl⟩
  subst ha
  have hlt : a < W'.heap.size := (row_lt hrow).2
  have hne : ∀ {k : Nat}, c.W2.heap.size ≤ k → k < W.heap.size → k ≠ a := fun h1 h2 e => by
    subst e
    rcases hor with e | e
    · have := hc.ab _ e; omega
    · omega
  refine ⟨a, cap', W', hrun, ⟨Nat.le_trans h.sz hg.size, fun k hk hk2 => (hg.block k (Nat.lt_of_lt_of_le hk h.sz) (fun e => hk2 (ho k e.symm))).trans (h.bl k hk hk2),
    h.bw.grown hg h.bw.size (fun k e => by
      have e' := ho k e
      rcases (h.ra rfl).form with ⟨e2, _⟩ | ⟨g, e2, hge, _⟩
      · rw [e2] at e'; cases e'
      · rw [e2] at e'; injection e' with e'; injection e' with e'; have := hc.w; omega), fun b => (by cases b), fun b1 b2 => (h.p1 b1 b2).far hg (fun g e => by injection e with e; injection e with e; subst e; exact hof (row_lt (h.p1 b1 b2)).1), fun b1 b2 => ⟨cell_kept hg (h.p5 b1 b2).1 (hof (h.p5 b1 b2).2), (h.p5 b1 b2).2⟩,
    fun b1 b2 => (h.p6 b1 b2).far hg (fun g e => by injection e with e; injection e with e; subst e; exact hof (row_lt (h.p6 b1 b2)).1), fun _ b => (by cases b), fun _ _ => ⟨hrow.in_, hor.symm.imp (fun e => by omega) id, hlt⟩, fun b => (by cases b), fun b => ⟨(h.p18 b).1.far hg (hof (h.p18 b).2), (h.p18 b).2⟩,
    h.n12, fun _ _ _ b => (by cases b), fun b1 b2 _ _ => hne (row_lt (h.p1 b1 b2)).1 (row_lt (h.p1 b1 b2)).2, h.n1T, fun _ _ _ b => (by cases b), fun b1 b2 _ _ => hne (row_lt (h.p6 b1 b2)).1 (row_lt (h.p6 b1 b2)).2, h.n6T⟩⟩
/-- The lists behind the first piece. -/
theorem Nd.op13 (h : Nd c true true true true true false f18 g1 g2 a6 c6 g3 a12 c12 a13 c13 T W) (hc : CxOk c) :
    ∃ a13' c13' W', (Builtin.append_ #[26, 26] 26 #[.slice (some ⟨a6, 0, none⟩) 1 c6, .slice (some ⟨a12, 0, none⟩) (c.la.length + 1) c12]).run Try.prog W = .ok (.slice (some ⟨a13', 0, none⟩) (c.la.length + 2) c13') W' ∧
      Nd c true true true true true true f18 g1 g2 a6 c6 g3 a12 c12 a13' c13' T W' := by
  have hla := hc.la
  have hl2 : (c.la ++ [c.tl]).length = c.la.length + 1 := by simp
  obtain ⟨A', cap', W', hrun, hrow, hg, hA⟩ := (h.p6 rfl rfl).concat (P := Try.prog) Try.underlying26 infLs (by decide) (by decide) (c2 := c12) (h.p12 rfl rfl).1 (by simp) (by omega) h.sz 26
  rw [hl2] at hrun
  obtain ⟨h6, h6l⟩ := row_lt (h.p6 rfl rfl)
  have hg' : W.grownBy W' (some a6) := hg
  have hsz := h.sz
  obtain ⟨a, ha, hor⟩ : ∃ a, A' = some ⟨a, 0, none⟩ ∧ (a = a6 ∨ a = W.heap.size) := by
    rcases hA with e | e
    · exact ⟨a6, e, .inl rfl⟩
    · exact ⟨_, e, .inr rfl⟩
  subst ha
  have e2 : [c.dl].length + (c.la.length + 1) = c.la.length + 2 := by simp; omega
  rw [e2] at hrun
  exact ⟨a, cap', W', hrun, ⟨Nat.le_trans h.sz hg.size, fun k hk hk2 => (hg'.block k (Nat.lt_of_lt_of_le hk h.sz) (fun e => by injection e with e; omega)).trans (h.bl k hk hk2),
    h.bw.grown hg' h.bw.size (fun k e => by injection e with e; have := hc.ws; have := hc.w; omega), fun b => (by cases b), fun _ b => (by cases b), fun _ b => (by cases b), fun _ b => (by cases b), fun _ b => (by cases b), fun _ b => (by cases b), fun _ => ⟨hrow.in_, (row_lt hrow).1⟩,
    fun b => ⟨(h.p18 b).1.far hg' (fun e => (h.n6T rfl rfl b) (by injection e)), (h.p18 b).2⟩, fun _ b => (by cases b), fun _ b => (by cases b), fun _ b => (by cases b), fun _ b => (by cases b), fun _ b => (by cases b), fun _ b => (by cases b), fun _ b => (by cases b)⟩⟩
/-- What stood in the elder blocks stands, but for the lists' row. -/
theorem Nd.old (h : Nd c f1 f5 f6 f11 f12 f13 f18 g1 g2 a6 c6 g3 a12 c12 a13 c13 T W) {k : Nat} (hk : k < c.W2.heap.size) (hn : c.Aa ≠ some ⟨k, 0, none⟩) : W.heap[k]? = c.W2.heap[k]? := h.bl k hk hn
theorem Nd.geo (h : Nd c f1 f5 f6 f11 f12 f13 f18 g1 g2 a6 c6 g3 a12 c12 a13 c13 T W) {D Z B O A : Int} {k : Nat} (hG : GzAt c.W2 k D Z B O A) (hn : c.Aa ≠ some ⟨k, 0, none⟩) : GzAt W k D Z B O A :=
  hG.of (h.bl k (lt_of_cell hG.1) hn) h.sz
/-- The records of what lies elsewhere are as they were. -/
theorem Nd.recs (h : Nd c f1 f5 f6 f11 f12 f13 f18 g1 g2 a6 c6 g3 a12 c12 a13 c13 T W) {A : Option Addr} {rs : List Rc} (hr : RecsAt c.W2 A rs) (ho : ∀ g off, A = some ⟨g, off, none⟩ → c.Aa ≠ some ⟨g, 0, none⟩) : RecsAt W A rs := by
  rcases hr with h0 | ⟨b, off, rfl, hlt, hc⟩
  · exact .inl h0
  · exact .inr ⟨b, off, rfl, Nat.lt_of_lt_of_le hlt h.sz, fun i hi j hj => (World.cell?_of_block (a := ⟨b, _, none⟩) (h.bl b hlt (ho b off rfl))).trans (hc i hi j hj)⟩
theorem Nd.lists (h : Nd c f1 f5 f6 f11 f12 true f18 g1 g2 a6 c6 g3 a12 c12 a13 c13 T W) (hr : ∀ l ∈ c.dl :: (c.la ++ [c.tl]), RecsAt c.W2 l.A l.rs ∧ ∀ g off, l.A = some ⟨g, off, none⟩ → c.Aa ≠ some ⟨g, 0, none⟩) : ListsIn W (some ⟨a13, 0, none⟩) (c.dl :: (c.la ++ [c.tl])) := by
  rcases (h.p13 rfl).1 with h0 | ⟨b, off, e, hlt, hc⟩
  · exact .inl h0
  · refine .inr ⟨b, off, e, hlt, fun i hi => ⟨?_, ?_⟩⟩
    · have := hc i hi 0 (by decide)
      simpa [slE] using this
    · obtain ⟨r1, r2⟩ := hr _ (List.getElem_mem hi)
      exact h.recs r1 r2
theorem Nd.box (h : Nd c f1 f5 f6 f11 f12 f13 f18 g1 g2 a6 c6 g3 a12 c12 a13 c13 T W) {r : Nat} {A1 A2 : Option Addr} {c1 c2 : Nat} {b : Bo} (hB : BkAt c.W2 r A1 c1 A2 c2 b) (hn : c.Aa ≠ some ⟨r, 0, none⟩) : BkAt W r A1 c1 A2 c2 b := hB.of (h.bl r hB.lt hn)
theorem fresh_anyC {P : Program} {md : Region.Mode} {ops : Array Oper} {Q : Exit → Act → World → Prop} {c : Nat → Bool} {S : World → Prop} {fuel : Nat} {listed : Array Bool} {a : Act} {W : World} (R : World → Prop) (hR : R W)
    (h : ∀ W2, R W2 → anyC P md ops Q c S fuel listed a W2) : anyC P md ops Q c S fuel listed a W := h W hR
theorem drop_at {W : World} {gl cap i : Nat} {rs : List Rc} (h : RecsAt W (some ⟨gl, 0, none⟩) rs) (hi : i ≤ rs.length) (hc : rs.length ≤ cap) :
    ∃ od, (if cap = i then some (⟨gl, 0, none⟩ : Addr) else some ⟨gl, i * 7, none⟩) = some ⟨gl, od, none⟩ ∧ RecsAt W (some ⟨gl, od, none⟩) (rs.drop i) := by
  by_cases e : cap = i
  · refine ⟨0, by rw [if_pos e], .inl (List.drop_eq_nil_of_le (by omega))⟩
  · refine ⟨i * 7, by rw [if_neg e], ?_⟩
    rcases h with rfl | ⟨b, off, e1, hlt, hc2⟩
    · exact .inl (List.drop_nil ..)
    · injection e1 with e1
      injection e1 with e1 e2
      subst e1
      subst e2
      refine .inr ⟨gl, i * 7, rfl, hlt, fun k hk j hj => ?_⟩
      have hk2 : i + k < rs.length := by rw [List.length_drop] at hk; omega
      have := hc2 (i + k) hk2 j hj
      rw [List.getElem_drop, ← this]
      congr 2
      omega
theorem take_at {W : World} {A : Option Addr} {i : Nat} {rs : List Rc} (h : RecsAt W A rs) : RecsAt W A (rs.take i) := by
  rcases h with rfl | ⟨b, off, e, hlt, hc⟩
  · exact .inl (List.take_nil ..)
  · refine .inr ⟨b, off, e, hlt, fun k hk j hj => ?_⟩
    rw [List.getElem_take]
    exact hc k (by rw [List.length_take] at hk; omega) j hj
def RdP (b : Bo) (w : World) (e : Ending) (w' : World) : Prop := ∃ A1 c1 A2 c2, e = .returned (.tuple #[.agg #[.int .i64 b.q, .slice A1 b.zs.length c1, .slice A2 b.ms.length c2, .int .i64 b.sl, .int .i64 b.cu], .int .i64 0]) ∧ BkO w' w.heap.size A1 c1 A2 c2 b ∧ Below w.heap.size w w'
/-- A book's records in two pieces, with elder ones between them, read. -/
theorem read_parts (Z B O A : Int) (n m : Nat) {b : Bo} {dl tl : LRow} {la : List LRow} (hg : goodB (m : Int) Z B O A = true) (hn : Z - 3 = (n : Int)) (hV : ValB (m : Int) Z n m b) (hq : 0 ≤ b.q ∧ b.q ≤ 2199023255552) (hz : b.zs.length ≤ 64) (hl : b.ms.length ≤ 64) (hs : b.sl ≤ 64)
    (hla : ListsOk la) (hl8 : la.length ≤ 8) (hold : ∀ y ∈ flatL la, y.s ≤ b.q) (i : Nat) (hd : dl.rs = (recsB b).drop i) (ht : tl.rs = (recsB b).take i)
    (W : World) (Aq : Option Addr) (cq : Nat) (hI : ListsIn W Aq (dl :: (la ++ [tl]))) :
    Calls Try.prog 9 #[.agg #[.int .i64 (m : Int), .int .i64 Z, .int .i64 B, .int .i64 O, .int .i64 A], .slice Aq (la.length + 2) cq] W (RdP (nextB b) W) := by
  have hm : (m : Int) ≤ 16 := (goodB_iff.1 hg).2.1
  have hrl : (recsB b).length ≤ 200 := by rw [recsB_len]; omega
  have hok : ListsOk (dl :: (la ++ [tl])) := ⟨by simp; omega, fun l hl2 => by
    rcases List.mem_cons.1 hl2 with rfl | hl2
    · rw [hd]
      exact ⟨by rw [List.length_drop]; omega, fun x hx => recs_rcok hq hz hl hs (List.mem_of_mem_drop hx)⟩
    · rcases List.mem_append.1 hl2 with hl2 | hl2
      · exact hla.2 l hl2
      · rw [List.mem_singleton.1 hl2, ht]
        exact ⟨by rw [List.length_take]; omega, fun x hx => recs_rcok hq hz hl hs (List.mem_of_mem_take hx)⟩⟩
  have hfl : flatL (dl :: (la ++ [tl])) = (recsB b).drop i ++ (flatL la ++ (recsB b).take i) := by
    rw [← hd, ← ht]
    unfold flatL
    simp
  have hbe : Beside b (flatL (dl :: (la ++ [tl]))) := by
    rw [hfl]
    refine ⟨fun x hx => ?_, fun y hy => ?_⟩
    · rw [← List.take_append_drop i (recsB b)] at hx
      rcases List.mem_append.1 hx with hx | hx
      · exact List.mem_append_right _ (List.mem_append_right _ hx)
      · exact List.mem_append_left _ hx
    · rcases List.mem_append.1 hy with hy | hy
      · exact .inl (List.mem_of_mem_drop hy)
      · rcases List.mem_append.1 hy with hy | hy
        · exact .inr (hold y hy)
        · exact .inl (List.mem_of_mem_take hy)
  obtain ⟨r1, r2⟩ := read_back hV hq.1 (by omega) hbe
  have hlen : (dl :: (la ++ [tl])).length = la.length + 2 := by simp
  have hr := read_good W Z B O A n m Aq cq _ hg hn hI hok
  rw [hlen] at hr
  refine hr.mono ?_
  intro e W' h
  have h' := h.1 r1
  rw [r2] at h'
  exact h'
theorem own_off {W : World} {B : Nat} {A1 A2 : Option Addr} {c1 c2 : Nat} {b : Bo} (h : BkO W B A1 c1 A2 c2 b) : A1 ≠ some ⟨W.heap.size, 0, none⟩ ∧ A2 ≠ some ⟨W.heap.size, 0, none⟩ := by
  refine ⟨fun e => ?_, fun e => ?_⟩
  · rcases h.z.form with ⟨e', _⟩ | ⟨g, e', _, hl, _⟩
    · rw [e'] at e; cases e
    · rw [e'] at e; injection e with e; injection e with e; omega
  · rcases h.m.form with ⟨e', _⟩ | ⟨g, e', _, hl, _⟩
    · rw [e'] at e; cases e
    · rw [e'] at e; injection e with e; injection e with e; omega
theorem nd_start {w W2 : World} {ws : Nat} {Aa : Option Addr} {ca : Nat} {la : List LRow} {dl tl : LRow} (hb : Below w.heap.size w W2) (hr : slE.Row W2 ws 46 Aa ca la) : Nd ⟨w, W2, ws, Aa, ca, la, dl, tl⟩ false false false false false false false g1 g2 a6 c6 g3 a12 c12 a13 c13 T W2 :=
  ⟨Nat.le_refl _, fun _ _ _ => rfl, hb, fun _ => hr, fun a => (by cases a), fun a => (by cases a), fun a => (by cases a), fun a => (by cases a), fun a => (by cases a), fun a => (by cases a), fun a => (by cases a), fun a => (by cases a), fun a => (by cases a), fun a => (by cases a), fun a => (by cases a), fun a => (by cases a), fun a => (by cases a), fun a => (by cases a)⟩
end
end Go.Proofs.Ytpmhfalhieinjaa
