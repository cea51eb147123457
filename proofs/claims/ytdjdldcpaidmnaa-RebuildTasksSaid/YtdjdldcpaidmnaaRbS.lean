/- The records with the next numbers of a book: how they lie while they are made. -/
import Derived.Test.YtdjdldcpaidmnaaNBn
import Derived.Test.YtdjdldcpaidmnaaNRm
namespace Go.Proofs.Ytdjdldcpaidmnaa
open Go.RowKit Rec Bk

namespace Rb
/-- A record with the next number of a book. -/
def nxt (b : Bo) (x : Rc) : Rc := { x with s := b.q + 1 }
/-- The book after the first so many records. -/
def stB (b : Bo) (xs : List Rc) : Nat → Bo
  | 0 => b
  | k + 1 => noteB (stB b xs k) (nxt (stB b xs k) xs[k]!)
/-- These records. -/
def stL (b : Bo) (xs : List Rc) : Nat → List Rc
  | 0 => []
  | k + 1 => stL b xs k ++ [nxt (stB b xs k) xs[k]!]
theorem stL_len (b : Bo) (xs : List Rc) : ∀ k, (stL b xs k).length = k
  | 0 => rfl
  | k + 1 => by
    show (stL b xs k ++ [_]).length = k + 1
    rw [List.length_append, stL_len b xs k]
    rfl
theorem stB_q (b : Bo) (xs : List Rc) : ∀ k, (stB b xs k).q = b.q + (k : Int)
  | 0 => by show b.q = _; omega
  | k + 1 => by
    show (noteB (stB b xs k) (nxt (stB b xs k) xs[k]!)).q = _
    rw [noteB_q]
    show max (stB b xs k).q ((stB b xs k).q + 1) = _
    rw [stB_q b xs k]
    omega
theorem stB_zl (b : Bo) (xs : List Rc) : ∀ k, (stB b xs k).zs.length = b.zs.length
  | 0 => rfl
  | k + 1 => by
    show (noteB (stB b xs k) (nxt (stB b xs k) xs[k]!)).zs.length = _
    rw [noteB_zl, stB_zl b xs k]
theorem stB_ml (b : Bo) (xs : List Rc) : ∀ k, (stB b xs k).ms.length = b.ms.length
  | 0 => rfl
  | k + 1 => by
    show (noteB (stB b xs k) (nxt (stB b xs k) xs[k]!)).ms.length = _
    rw [noteB_ml, stB_ml b xs k]
end Rb
open Rb
/-- A slice lies apart from two boxes and from a list. -/
def OffB (n : Nat) (A A1 : Option Addr) : Prop := ∀ g off, A1 = some ⟨g, off, none⟩ → g ≠ n ∧ g ≠ n + 1 ∧ A ≠ some ⟨g, 0, none⟩
/-- The world within state: the book in its box, the result's box, the list. -/
structure StW (w W : World) (A1 : Option Addr) (c1 : Nat) (A2 : Option Addr) (c2 : Nat) (b : Bo) (A : Option Addr) (cap : Nat) (rs : List Rc) : Prop where
  a : BkAt W w.heap.size A1 c1 A2 c2 b
  i : BkIn W A1 c1 A2 c2 b
  o : BkAt W (w.heap.size + 1) none 0 none 0 noB
  r : RRow W (w.heap.size + 1 + 1) 62 A cap rs
  n1 : OffB w.heap.size A A1 ∨ b.zs = []
  n2 : OffB w.heap.size A A2 ∨ b.ms = []
  bw : Below w.heap.size w W
section
variable {w W W' : World} {A1 A2 B1 B2 A : Option Addr} {c1 c2 d1 d2 cap : Nat} {b b' : Bo} {rs : List Rc}
theorem StW.below (h : StW w W A1 c1 A2 c2 b A cap rs) (hb : Below W.heap.size W W') : StW w W' A1 c1 A2 c2 b A cap rs :=
  ⟨h.a.below hb, h.i.below hb, h.o.below hb, h.r.below hb, h.n1, h.n2, bmore h.bw hb⟩
theorem stW_start (w : World) (A1 : Option Addr) (c1 : Nat) (A2 : Option Addr) (c2 : Nat) (b : Bo) (h : BkIn w A1 c1 A2 c2 b) :
    StW w ((w.alloc (.cells #[.int .i64 b.q, .slice A1 b.zs.length c1, .slice A2 b.ms.length c2, .int .i64 b.sl, .int .i64 b.cu] 58)).alloc (.cells #[.int .i64 0, .slice none 0 0, .slice none 0 0, .int .i64 0, .int .i64 0] 58)) A1 c1 A2 c2 b none 0 [] := by
  have h1 := recW_start w A1 c1 A2 c2 b h
  refine ⟨h1.a, h1.i, h1.o, RRow.nil _ _ _, ?_, ?_, h1.bw⟩
  · rcases h.z with h0 | ⟨g', off', e', hl, _⟩
    · exact .inr h0
    · refine .inl fun g off e => ?_
      rw [e] at e'; injection e' with e'; injection e' with e'
      exact ⟨by omega, by omega, by simp⟩
  · rcases h.m with h0 | ⟨g', off', e', hl, _⟩
    · exact .inr h0
    · refine .inl fun g off e => ?_
      rw [e] at e'; injection e' with e'; injection e' with e'
      exact ⟨by omega, by omega, by simp⟩
/-- One more record in the list. -/
theorem StW.app (h : StW w W A1 c1 A2 c2 b A cap rs) {m : Nat} {x : Rc} (hm : RcAt W m x) (hl : rs.length ≤ 1000) :
    ∃ A' cap' W2, (Builtin.append_ #[63, 63] 63 #[.slice A rs.length cap, .slice (some ⟨m, 0, none⟩) 1 1]).run Try.prog W = .ok (.slice A' (rs.length + 1) cap') W2 ∧
      StW w W2 A1 c1 A2 c2 b A' cap' (rs ++ [x]) ∧ (∀ k, k < W.heap.size → A ≠ some ⟨k, 0, none⟩ → W2.heap[k]? = W.heap[k]?) ∧ (A' = A ∨ A' = some ⟨W.heap.size, 0, none⟩) ∧ W.heap.size ≤ W2.heap.size := by
  have hlt := h.o.lt
  obtain ⟨A', cap', W2, hrun, hrow, hg, hA⟩ := h.r.app hm (by omega) (by omega)
  have hw := h.bw.size
  have hoff : ∀ k, A ≠ some ⟨k, 0, none⟩ → (Value.slice A rs.length cap).ownBlock ≠ some k := fun k hk e => hk (h.r.cell e).2
  have hlow : ∀ k, k < w.heap.size + 1 + 1 → A ≠ some ⟨k, 0, none⟩ := fun k hk e => by
    rcases h.r.form with ⟨e', _⟩ | ⟨g, e', hge, _⟩
    · rw [e] at e'; cases e'
    · rw [e] at e'; injection e' with e'; injection e' with e'; omega
  have hkeep : ∀ k, k < W.heap.size → A ≠ some ⟨k, 0, none⟩ → W2.heap[k]? = W.heap[k]? := fun k hk hn => hg.block k hk (fun e => hoff k hn e.symm)
  have hz : zoE.In W2 A1 b.zs ∧ (OffB w.heap.size A' A1 ∨ b.zs = []) := by
    rcases h.i.z with h0 | ⟨g, off, e, hgl, hc⟩
    · exact ⟨.inl h0, .inr h0⟩
    · rcases h.n1 with hn | hn
      · obtain ⟨_, _, n3⟩ := hn g off e
        refine ⟨.inr ⟨g, off, e, Nat.lt_of_lt_of_le hgl hg.size, fun i hi j hj => (World.cell?_of_block (a := ⟨g, _, none⟩) (hkeep g hgl n3)).trans (hc i hi j hj)⟩, .inl fun g' off' e' => ?_⟩
        obtain ⟨m1, m2, m3⟩ := hn g' off' e'
        refine ⟨m1, m2, ?_⟩
        rcases hA with rfl | rfl
        · exact m3
        · intro e2
          rw [e] at e'; injection e' with e'; injection e' with e'; injection e2 with e2; injection e2 with e2
          omega
      · exact ⟨.inl hn, .inr hn⟩
  have hm2 : IntsIn W2 A2 b.ms ∧ (OffB w.heap.size A' A2 ∨ b.ms = []) := by
    rcases h.i.m with h0 | ⟨g, off, e, hgl, hc⟩
    · exact ⟨.inl h0, .inr h0⟩
    · rcases h.n2 with hn | hn
      · obtain ⟨_, _, n3⟩ := hn g off e
        refine ⟨.inr ⟨g, off, e, Nat.lt_of_lt_of_le hgl hg.size, fun i hi => (World.cell?_of_block (a := ⟨g, _, none⟩) (hkeep g hgl n3)).trans (hc i hi)⟩, .inl fun g' off' e' => ?_⟩
        obtain ⟨m1, m2, m3⟩ := hn g' off' e'
        refine ⟨m1, m2, ?_⟩
        rcases hA with rfl | rfl
        · exact m3
        · intro e2
          rw [e] at e'; injection e' with e'; injection e' with e'; injection e2 with e2; injection e2 with e2
          omega
      · exact ⟨.inl hn, .inr hn⟩
  exact ⟨A', cap', W2, hrun, ⟨h.a.of (hkeep _ (by omega) (hlow _ (by omega))), ⟨hz.1, hm2.1, h.i.n1, h.i.n2, h.i.zl, h.i.ml⟩, h.o.of (hkeep _ (by omega) (hlow _ (by omega))), hrow, hz.2, hm2.2, ⟨hg.os.trans h.bw.os, hg.tape.trans h.bw.tape, hg.output.trans h.bw.output, Nat.le_trans h.bw.size hg.size, fun k hk => (hkeep k (by omega) (hlow k (by omega))).trans (h.bw.block k hk)⟩⟩, hkeep, hA, hg.size⟩
/-- Another book in the box. -/
theorem StW.put {B : Nat} (h : StW w W A1 c1 A2 c2 b A cap rs) (hO : BkO W B B1 d1 B2 d2 b') (hB : w.heap.size + 1 < B) (hA : ∀ g, A = some ⟨g, 0, none⟩ → B1 ≠ some ⟨g, 0, none⟩ ∧ B2 ≠ some ⟨g, 0, none⟩) :
    StW w (((((W.setCell ⟨w.heap.size, 0, none⟩ (.int .i64 b'.q)).setCell ⟨w.heap.size, 1, none⟩ (.slice B1 b'.zs.length d1)).setCell ⟨w.heap.size, 2, none⟩ (.slice B2 b'.ms.length d2)).setCell ⟨w.heap.size, 3, none⟩ (.int .i64 b'.sl)).setCell ⟨w.heap.size, 4, none⟩ (.int .i64 b'.cu)) B1 d1 B2 d2 b' A cap rs := by
  obtain ⟨k1, k2, k3⟩ := book_out h.a hO (by omega) (Nat.le_refl _) h.bw
  have hg := grownBy_put W w.heap.size (.int .i64 b'.q) (.slice B1 b'.zs.length d1) (.slice B2 b'.ms.length d2) (.int .i64 b'.sl) (.int .i64 b'.cu)
  have hlow : ∀ k, k < w.heap.size + 1 + 1 → A ≠ some ⟨k, 0, none⟩ := fun k hk e => by
    rcases h.r.form with ⟨e', _⟩ | ⟨g, e', hge, _⟩
    · rw [e] at e'; cases e'
    · rw [e] at e'; injection e' with e'; injection e' with e'; omega
  refine ⟨k1, k2.in_, h.o.far hg (by simp), h.r.far hg (fun g e e' => ?_), ?_, ?_, k3⟩
  · injection e' with e'
    exact hlow g (by omega) e
  · rcases hO.z.form with ⟨_, _, e⟩ | ⟨g, e, hge, _⟩
    · exact .inr e
    · refine .inl fun g' off e' => ?_
      rw [e] at e'; injection e' with e'; injection e' with e1 e2
      refine ⟨by omega, by omega, fun e3 => ?_⟩
      subst e1
      exact (hA _ e3).1 e
  · rcases hO.m.form with ⟨_, _, e⟩ | ⟨g, e, hge, _⟩
    · exact .inr e
    · refine .inl fun g' off e' => ?_
      rw [e] at e'; injection e' with e'; injection e' with e1 e2
      refine ⟨by omega, by omega, fun e3 => ?_⟩
      subst e1
      exact (hA _ e3).2 e
/-- A list that was there lies apart from a book that came later. -/
theorem StW.apart {B : Nat} (h : StW w W A1 c1 A2 c2 b A cap rs) (hO : BkO W' B B1 d1 B2 d2 b') (hB : W.heap.size ≤ B) : ∀ g, A = some ⟨g, 0, none⟩ → B1 ≠ some ⟨g, 0, none⟩ ∧ B2 ≠ some ⟨g, 0, none⟩ := fun g e => by
  refine hO.off ?_
  rcases h.r.form with ⟨e', _⟩ | ⟨g', e', _, hl, _⟩
  · rw [e] at e'; cases e'
  · rw [e] at e'; injection e' with e'; injection e' with e'; omega
/-- A list in a block that is new lies apart from a book that was there. -/
theorem apart_new {B n : Nat} (hO : BkO W B B1 d1 B2 d2 b') (hn : W.heap.size ≤ n) : B1 ≠ some ⟨n, 0, none⟩ ∧ B2 ≠ some ⟨n, 0, none⟩ := by
  refine ⟨fun e => ?_, fun e => ?_⟩
  · rcases hO.z.form with ⟨e', _⟩ | ⟨g, e', _, hl, _⟩
    · rw [e'] at e; cases e
    · rw [e'] at e; injection e with e; injection e with e; omega
  · rcases hO.m.form with ⟨e', _⟩ | ⟨g, e', _, hl, _⟩
    · rw [e'] at e; cases e
    · rw [e'] at e; injection e with e; injection e with e; omega
end
end Go.Proofs.Ytdjdldcpaidmnaa
