/- The world within Read. -/
import Derived.Test.YtpmhfalhieinjaaBkLists
import Derived.Test.YtpmhfalhieinjaaBkSubs
import Derived.Test.YtpmhfalhieinjaaBkApart
import Derived.Test.YtpmhfalhieinjaaBkNew
import Derived.Test.YtpmhfalhieinjaaBkHas
namespace Go.Proofs.Ytpmhfalhieinjaa
open Go.RowKit Rec Bk

/-- What is handed back where it is no book: what noughts are stored. -/
theorem no_put {w W : World} (ho : BkAt W (w.heap.size + 1) none 0 none 0 noB) (hb : Below w.heap.size w W) :
    BkAt (((((W.setCell ⟨w.heap.size + 1, 0, none⟩ (.int .i64 0)).setCell ⟨w.heap.size + 1, 1, none⟩ (.slice none 0 0)).setCell ⟨w.heap.size + 1, 2, none⟩ (.slice none 0 0)).setCell ⟨w.heap.size + 1, 3, none⟩ (.int .i64 0)).setCell ⟨w.heap.size + 1, 4, none⟩ (.int .i64 0)) (w.heap.size + 1) none 0 none 0 noB ∧
    Below w.heap.size w (((((W.setCell ⟨w.heap.size + 1, 0, none⟩ (.int .i64 0)).setCell ⟨w.heap.size + 1, 1, none⟩ (.slice none 0 0)).setCell ⟨w.heap.size + 1, 2, none⟩ (.slice none 0 0)).setCell ⟨w.heap.size + 1, 3, none⟩ (.int .i64 0)).setCell ⟨w.heap.size + 1, 4, none⟩ (.int .i64 0)) := by
  have h1 : BkAt (((((W.setCell ⟨w.heap.size + 1, 0, none⟩ (.int .i64 0)).setCell ⟨w.heap.size + 1, 1, none⟩ (.slice none 0 0)).setCell ⟨w.heap.size + 1, 2, none⟩ (.slice none 0 0)).setCell ⟨w.heap.size + 1, 3, none⟩ (.int .i64 0)).setCell ⟨w.heap.size + 1, 4, none⟩ (.int .i64 0)) (w.heap.size + 1) none 0 none 0 noB := ho.put noB
  have hw : w.heap.size ≤ w.heap.size + 1 := by omega
  exact ⟨h1, ((((hb.setCell hw _).setCell hw _).setCell hw _).setCell hw _).setCell hw _⟩
structure ReadW (w W : World) (D Z B O A : Int) (mb nb : Nat) (l : List Rc) (S : Option Addr) (cs : Nat) (us : List (Int × Int)) (Bb r : Nat) (A1 : Option Addr) (c1 : Nat) (A2 : Option Addr) (c2 : Nat) (b : Bo) : Prop where
  g : GzAt W w.heap.size D Z B O A
  o : BkAt W (w.heap.size + 1) none 0 none 0 noB
  m : MapIs W mb nb l
  s : suE.Row W 0 76 S cs us
  k : BkB W Bb r A1 c1 A2 c2 b
  f : ∀ k, bkF r A1 A2 k → mb ≠ k ∧ w.heap.size + 1 < k ∧ S ≠ some ⟨k, 0, none⟩
  lo : w.heap.size + 1 < Bb
  bw : Below w.heap.size w W
section
variable {w W W' : World} {D Z B O A : Int} {mb nb : Nat} {l : List Rc} {S : Option Addr} {cs : Nat} {us : List (Int × Int)} {Bb r : Nat} {A1 : Option Addr} {c1 : Nat} {A2 : Option Addr} {c2 : Nat} {b b' : Bo}
theorem ReadW.below (h : ReadW w W D Z B O A mb nb l S cs us Bb r A1 c1 A2 c2 b) (hb : Below W.heap.size W W') : ReadW w W' D Z B O A mb nb l S cs us Bb r A1 c1 A2 c2 b :=
  ⟨h.g.below hb, h.o.below hb, h.m.below hb, h.s.below hb, h.k.below hb, h.f, h.lo, h.bw.trans (hb.mono h.bw.size)⟩
theorem ReadW.alloc (h : ReadW w W D Z B O A mb nb l S cs us Bb r A1 c1 A2 c2 b) (x : Obj) : ReadW w (W.alloc x) D Z B O A mb nb l S cs us Bb r A1 c1 A2 c2 b := h.below ((Below.refl _ _).alloc (Nat.le_refl _) _)
theorem ReadW.chg (h : ReadW w W D Z B O A mb nb l S cs us Bb r A1 c1 A2 c2 b) (hc : Chg W W' (bkF r A1 A2)) (hk : BkB W' Bb r A1 c1 A2 c2 b') : ReadW w W' D Z B O A mb nb l S cs us Bb r A1 c1 A2 c2 b' := by
  have hn : ∀ k, k < W.heap.size → k ≤ w.heap.size + 1 → W'.heap[k]? = W.heap[k]? := fun k hk hl => hc.block k hk (fun hf => by have := (h.f k hf).2.1; omega)
  have hol := h.o.lt
  refine ⟨h.g.of (hn _ (by omega) (by omega)) hc.size, h.o.of (hn _ (by omega) (by omega)), ?_, ?_, hk, h.f, h.lo, ⟨hc.os.trans h.bw.os, hc.tape.trans h.bw.tape, hc.output.trans h.bw.output, Nat.le_trans h.bw.size hc.size, fun k hk => (hn k (by omega) (by omega)).trans (h.bw.block k hk)⟩⟩
  · obtain ⟨Dm, ⟨es, clock, h1, h2⟩, h3⟩ := h.m
    have hlt := (Array.getElem?_eq_some_iff.1 h1).1
    exact ⟨Dm, ⟨es, clock, (hc.block mb hlt (fun hf => (h.f mb hf).1 rfl)).trans h1, h2⟩, h3⟩
  · refine ⟨h.s.1, ?_⟩
    rcases h.s.2 with hs | ⟨g, cap, cur, hv, hg, hgg, rest⟩
    · exact .inl hs
    · refine .inr ⟨g, cap, cur, hv, hg, ?_, rest⟩
      have hlt := (Array.getElem?_eq_some_iff.1 hgg).1
      have e : S = some ⟨g, 0, none⟩ := by simp only [Value.slice.injEq] at hv; exact hv.1
      rw [hc.block g hlt (fun hf => (h.f g hf).2.2 e)]
      exact hgg
theorem ReadW.set_q (h : ReadW w W D Z B O A mb nb l S cs us Bb r A1 c1 A2 c2 b) (x : Int) : ReadW w (W.setCell ⟨r, 0, none⟩ (.int .i64 x)) D Z B O A mb nb l S cs us Bb r A1 c1 A2 c2 { b with q := x } :=
  h.chg (Chg.of_grown (grownBy_one W r 0 _) (fun k e => by injection e with e; exact .inl e.symm)) (h.k.set_q x)
theorem su_at (h : ReadW w W D Z B O A mb nb l S cs us Bb r A1 c1 A2 c2 b) {i : Nat} (hi : i < us.length) : ∃ g, S = some ⟨g, 0, none⟩ ∧ us.length ≤ cs ∧ W.cell? ⟨g, i * 2, none⟩ = some (.int .i64 us[i].1) ∧ W.cell? ⟨g, i * 2 + 1, none⟩ = some (.int .i64 us[i].2) := by
  obtain ⟨g, e, _, _, hc, h1, _⟩ := h.s.at_ hi
  exact ⟨g, e, hc, h1 0 (by decide), h1 1 (by decide)⟩
end
/-- A look-up without ok. -/
theorem wpList_look1 {W : World} {ops : Array Oper} {rest : List Oper} {o : Oper} {a : Act} {Q : Exit → Act → World → Prop} (hg : o.guard = none) (m x : Operand) (hop : o.op = Op.lookup 71 m x false)
    {b n : Nat} {l : List Rc} (h : MapIs W b n l) (hm : a.eval m = .map (some b)) {k s : Int} (hk : WfI k) (hs : WfI s) (hx : a.eval x = .agg #[.int .i64 k, .int .i64 s]) {y : Rc} (hy : y = fnd l (k, s))
    (hK : wpList Try.prog ops Q rest (a.put o.dst (.agg #[.int .i64 y.k, .int .i64 y.s, .int .i64 y.a, .int .i64 y.b, .int .i64 y.c, .int .i64 y.d, .string y.body])) W) :
    wpList Try.prog ops Q (o :: rest) a W := by
  subst hy
  refine wpList_plain hg fun K' hK' => ?_
  obtain ⟨D, h1, h2⟩ := h
  obtain ⟨e1, e2⟩ := h2 k s hk hs
  obtain ⟨v, ps, hrun, hv⟩ := h1.lookup subLaw Try.underlying71 (recZero W) (zd := recD zeroR) (zp := []) rfl (subKey hk hs)
  rw [e2] at hv
  obtain rfl := recElem_inv hv
  unfold Oper.wp
  simp [execOp, hop, hm, hx, hrun, Result.andThen]
  exact hK' _ _ hK
/-- What Read hands back of a good geometry. -/
def ReadP (w : World) (D Z : Int) (n m : Nat) (l : List Rc) (e : Ending) (w' : World) : Prop :=
  (SaysB D Z n m l → ∃ A1 c1 A2 c2, e = .returned (.tuple #[.agg #[.int .i64 (readB n m l).q, .slice A1 (readB n m l).zs.length c1, .slice A2 (readB n m l).ms.length c2, .int .i64 (readB n m l).sl, .int .i64 (readB n m l).cu], .int .i64 0]) ∧ BkO w' w.heap.size A1 c1 A2 c2 (readB n m l) ∧ Below w.heap.size w w') ∧
  (¬ SaysB D Z n m l → e = .returned (.tuple #[.agg #[.int .i64 0, .slice none 0 0, .slice none 0 0, .int .i64 0, .int .i64 0], .int .i64 9]) ∧ Below w.heap.size w w')
theorem subs_wf {n m : Nat} (hn : n ≤ 64) (hm : m ≤ 64) {u : Int × Int} (h : u ∈ subs n m) : WfI u.1 ∧ WfI u.2 := by
  obtain ⟨i, hi, rfl⟩ := List.getElem_of_mem h
  have hl := hi
  rw [subs_len] at hl
  rw [subs_get]
  have hw : ∀ x : Int, 0 ≤ x → x ≤ 200 → WfI x := fun x h0 h1 => by
    unfold WfI
    exact WalkArith.wf_i64 (by omega)
  by_cases h0 : i = 0
  · rw [if_pos h0]; exact ⟨hw 6 (by decide) (by decide), hw 0 (by decide) (by decide)⟩
  · rw [if_neg h0]
    by_cases h1 : i < n + 1
    · rw [if_pos h1]; exact ⟨hw 3 (by decide) (by decide), hw _ (by omega) (by omega)⟩
    · rw [if_neg h1]; exact ⟨hw 5 (by decide) (by decide), hw _ (by omega) (by omega)⟩
end Go.Proofs.Ytpmhfalhieinjaa
