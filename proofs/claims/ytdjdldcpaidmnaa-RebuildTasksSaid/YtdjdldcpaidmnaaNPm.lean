/- What is wanted of plan's texts. -/
import Derived.Test.YtdjdldcpaidmnaaNPl
import Derived.Test.YtdjdldcpaidmnaaFreshC
import Derived.BigQuiet
import Derived.Test.YtdjdldcpaidmnaaSRef
import Derived.Shelf.Bits.Mul64
namespace Go.Proofs.Ytdjdldcpaidmnaa
open Go.RowKit Pl Tl
end Go.Proofs.Ytdjdldcpaidmnaa
namespace Go.Proofs.Ytdjdldcpaidmnaa
open Go.RowKit Pl Tl
/-- A step in a box. -/
def StAt (W : World) (g : Nat) (s : St) : Prop := W.cell? ⟨g, 0, none⟩ = some (.int .i64 s.k) ∧ W.cell? ⟨g, 1, none⟩ = some (.int .i64 s.s) ∧ W.cell? ⟨g, 2, none⟩ = some (.int .i64 s.r) ∧ W.cell? ⟨g, 3, none⟩ = some (.int .i64 s.b) ∧ W.cell? ⟨g, 4, none⟩ = some (.int .i64 s.c) ∧ ∀ j, W.frozen? ⟨g, j, none⟩ = false
theorem StAt.lt {W : World} {g : Nat} {s : St} (h : StAt W g s) : g < W.heap.size := lt_of_cell h.1
theorem StAt.below {W W' : World} {g : Nat} {s : St} (h : StAt W g s) (hb : Below W.heap.size W W') : StAt W' g s := by
  have hl := h.lt
  obtain ⟨h0, h1, h2, h3, h4, hf⟩ := h
  exact ⟨(hb.cell (p := ⟨g, 0, none⟩) hl).trans h0, (hb.cell (p := ⟨g, 1, none⟩) hl).trans h1, (hb.cell (p := ⟨g, 2, none⟩) hl).trans h2, (hb.cell (p := ⟨g, 3, none⟩) hl).trans h3, (hb.cell (p := ⟨g, 4, none⟩) hl).trans h4, fun j => (hb.frozen (p := ⟨g, j, none⟩) hl).trans (hf j)⟩
theorem StAt.block {W W' : World} {g : Nat} {s : St} (h : StAt W g s) (hb : W'.heap[g]? = W.heap[g]?) : StAt W' g s := by
  obtain ⟨h0, h1, h2, h3, h4, hf⟩ := h
  exact ⟨(World.cell?_of_block (a := ⟨g, 0, none⟩) hb).trans h0, (World.cell?_of_block (a := ⟨g, 1, none⟩) hb).trans h1, (World.cell?_of_block (a := ⟨g, 2, none⟩) hb).trans h2, (World.cell?_of_block (a := ⟨g, 3, none⟩) hb).trans h3, (World.cell?_of_block (a := ⟨g, 4, none⟩) hb).trans h4, fun j => (World.frozen?_of_block (a := ⟨g, j, none⟩) hb).trans (hf j)⟩
theorem StAt.new (W : World) (t : TypeId) : StAt (W.alloc (.cells #[.int .i64 0, .int .i64 0, .int .i64 0, .int .i64 0, .int .i64 0] t)) W.heap.size st0 := ⟨by go_simp; rfl, by go_simp; rfl, by go_simp; rfl, by go_simp; rfl, by go_simp; rfl, fun j => by simp⟩
theorem StAt.put {W : World} {g : Nat} {s : St} (h : StAt W g s) (o : Nat) (v : Int) : StAt (W.setCell ⟨g, o, none⟩ (.int .i64 v)) g ⟨if o = 0 then v else s.k, if o = 1 then v else s.s, if o = 2 then v else s.r, if o = 3 then v else s.b, if o = 4 then v else s.c⟩ := by
  have hc : ∀ j u, W.cell? ⟨g, j, none⟩ = some (.int .i64 u) → (W.setCell ⟨g, o, none⟩ (.int .i64 v)).cell? ⟨g, j, none⟩ = some (.int .i64 (if o = j then v else u)) := fun j u hu => by
    by_cases e : o = j
    · subst e
      rw [if_pos rfl]
      exact World.cell?_setCell_same' _ _ _ (by rw [hu]; rfl)
    · rw [if_neg e]
      exact (World.cell?_setCell_other _ _ _ _ (by intro e'; injection e' with _ e'; exact e e')).trans hu
  obtain ⟨h0, h1, h2, h3, h4, hf⟩ := h
  refine ⟨hc 0 _ h0, hc 1 _ h1, hc 2 _ h2, hc 3 _ h3, hc 4 _ h4, fun j => ?_⟩
  have := hf j
  simpa using this
theorem heap_set {W : World} {g : Nat} {cs : Array Value} {t : TypeId} {m : Nat × Nat} (h : W.heap[g]? = some (.cells cs t m)) (i : Nat) (v : Value) : (W.setCell ⟨g, i, none⟩ v).heap[g]? = some (.cells (cs.setIfInBounds i v) t m) := by
  rw [setCell_eq_setRow W g i cs t m v h]
  exact setRow_heap W g _ _ t m h
def PsPost (w : World) (s : St) (e : Ending) (w' : World) : Prop := e = .returned (.agg #[.int .i64 s.k, .int .i64 s.s, .int .i64 s.r, .int .i64 s.b, .int .i64 s.c]) ∧ Below w.heap.size w w'
end Go.Proofs.Ytdjdldcpaidmnaa
namespace Go.Proofs.Ytdjdldcpaidmnaa
open Go.RowKit Pl Tl
/-- That there is nothing to do, and why. -/
def NoPost (w : World) (k : Int) (e : Ending) (w' : World) : Prop := e = .returned (.tuple #[.slice none 0 0, .int .i64 k]) ∧ Below w.heap.size w w'
end Go.Proofs.Ytdjdldcpaidmnaa
namespace Go.Proofs.Ytdjdldcpaidmnaa
open Go.RowKit Pl Tl
theorem struct_five {P : Program} {t : TypeId} {k0 k1 k2 k3 k4 : TypeId × Nat × Bool} (h : (P.fieldsOf t).toList.map fKey = [k0, k1, k2, k3, k4]) :
    ∃ f0 f1 f2 f3 f4, (P.fieldsOf t).toList = [f0, f1, f2, f3, f4] ∧ fKey f0 = k0 ∧ fKey f1 = k1 ∧ fKey f2 = k2 ∧ fKey f3 = k3 ∧ fKey f4 = k4 := by
  generalize (P.fieldsOf t).toList = l at h
  match l, h with
  | [a, b, c, d, e], h => simp at h; exact ⟨a, b, c, d, e, rfl, h.1, h.2.1, h.2.2.1, h.2.2.2.1, h.2.2.2.2⟩
def eqSt (x y : St) : Bool := x.k == y.k && x.s == y.s && x.r == y.r && x.b == y.b && x.c == y.c
theorem eqSt_iff {x y : St} : eqSt x y = true ↔ x = y := by
  obtain ⟨a, b, c, d, e⟩ := x
  obtain ⟨a', b', c', d', e'⟩ := y
  simp [eqSt, and_assoc]
theorem eqSt_self (x : St) : eqSt x x = true := eqSt_iff.2 rfl
/-- The word's steps. -/
def spk5 : List St := [⟨1, 1, 0, 0, 0⟩, ⟨1, 2, 0, 1, 0⟩, ⟨2, 0, 0, 0, 0⟩, ⟨1, 2, 1, 2, 0⟩, ⟨3, 1, 1, 0, 1⟩]
theorem spk_steps : steps 2 0 3 0 3 = spk5 := rfl
end Go.Proofs.Ytdjdldcpaidmnaa
namespace Go.Proofs.Ytdjdldcpaidmnaa
open Go.RowKit Pl Tl
/-- A write that there is. -/
def wrB (D Z B O A zone f n : Int) : Bool := goodB D Z B O A && (exB D Z B O A zone && decide (0 ≤ f ∧ 1 ≤ n ∧ f + n ≤ (D - 1) * B))
theorem wr_yes {D Z B O A zone f n : Int} (h : wrB D Z B O A zone f n = true) : ∃ wd z f' n' : Nat, D = (wd : Int) + 1 ∧ zone = (z : Int) ∧ f = (f' : Int) ∧ n = (n' : Int) ∧ GoodP D Z B O A ∧ (z : Int) ≤ Z - 4 ∧ 1 ≤ n' ∧ (f' : Int) + (n' : Int) ≤ (D - 1) * B ∧ 2 ≤ wd ∧ wd ≤ 15 ∧ f' + n' ≤ 3840 := by
  unfold wrB at h
  rw [Bool.and_eq_true, Bool.and_eq_true, decide_eq_true_eq, goodB_iff] at h
  obtain ⟨hg, he, h1, h2, h3⟩ := h
  obtain ⟨_, z1, z2⟩ := exB_true he
  have hV := capV_bd D Z B O A
  rw [capV_good hg] at hV
  have d1 := hg.1
  have d2 := hg.2.1
  exact ⟨(D - 1).toNat, zone.toNat, f.toNat, n.toNat, by omega, by omega, by omega, by omega, hg, by omega, by omega, by rw [Int.toNat_of_nonneg h1, Int.toNat_of_nonneg (by omega)]; exact h3, by omega, by omega, by omega⟩
/-- Where one stands among the steps, and what was counted. -/
def EnSt (wd z E f n : Nat) (L : List St) (i : Nat) (d p t : Int) : Prop :=
  ∃ b : Nat, f ≤ b ∧ ((Aft wd z E L i b ∧ d = (b : Int) - (f : Int) ∧ p = ((b / wd : Nat) : Int) - ((f / wd : Nat) : Int) ∧ t = 0) ∨
    (Mid wd z E L i b ∧ d = (b : Int) + 1 - (f : Int) ∧ p = ((b / wd : Nat) : Int) - ((f / wd : Nat) : Int) ∧ t = 0) ∨
    (i = L.length ∧ d = (n : Int) ∧ p = ((E / wd : Nat) : Int) - ((f / wd : Nat) : Int) ∧ t = 1 ∧ E % wd ≠ 0))
/-- What the end is to be. -/
theorem EnSt.fin {wd z E f n : Nat} {L : List St} {i : Nat} {d p t : Int} (h : EnSt wd z E f n L i d p t) (hE : f + n = E) (hi : ¬ i < L.length) : d = (n : Int) ∧ p = ((E / wd : Nat) : Int) - ((f / wd : Nat) : Int) ∧ ((t = 1 ∧ E % wd ≠ 0) ∨ (t = 0 ∧ E % wd = 0)) := by
  obtain ⟨b, hb, h | h | h⟩ := h
  · obtain ⟨h1, h2, h3, h4⟩ := h
    obtain ⟨e1, e2⟩ := h1.done hi
    subst e1
    exact ⟨by omega, h3, .inr ⟨h4, e2⟩⟩
  · obtain ⟨hlt, _⟩ := h.1.next
    exact absurd hlt hi
  · exact ⟨h.2.1, h.2.2.1, .inl ⟨h.2.2.2.1, h.2.2.2.2⟩⟩
/-- One step further. -/
theorem EnSt.next {wd z E f n : Nat} {L : List St} {i : Nat} {d p t : Int} (h : EnSt wd z E f n L i d p t) (hE : f + n = E) (hw : 0 < wd) (hi : i < L.length) :
    (L[i].k = 1 ∧ L[i].b = (f : Int) + d ∧ EnSt wd z E f n L (i + 1) (d + 1) p t) ∨ (L[i].k = 2 ∧ EnSt wd z E f n L (i + 1) d (p + 1) t) ∨ (L[i].k = 3 ∧ L[i].c = ((E % wd : Nat) : Int) ∧ i + 1 = L.length ∧ EnSt wd z E f n L (i + 1) d p (t + 1)) := by
  obtain ⟨b, hb, h | h | h⟩ := h
  · obtain ⟨h1, h2, h3, h4⟩ := h
    obtain ⟨hlt, e1, hn⟩ := h1.next hi
    left
    refine ⟨by rw [e1]; rfl, by rw [e1]; show (b : Int) = _; omega, ?_⟩
    rcases hn with ⟨h5, h6, _⟩ | h5
    · have hm := Nat.mod_lt b hw
      refine ⟨b + 1, by omega, .inl ⟨h5, by omega, ?_, h4⟩⟩
      rw [(div_next (b := b) (by omega)).1]; exact h3
    · exact ⟨b, hb, .inr (.inl ⟨h5, by omega, h3, h4⟩)⟩
  · obtain ⟨h1, h2, h3, h4⟩ := h
    obtain ⟨_, hlt, hn⟩ := h1.next
    right
    rcases hn with ⟨e1, e2, h5⟩ | ⟨e1, e2, e3, e4⟩
    · left
      refine ⟨by rw [e1]; rfl, b + 1, by omega, .inl ⟨h5, by omega, ?_, h4⟩⟩
      rw [(div_full hw e2).1]; omega
    · right
      have hm := Nat.mod_lt b hw
      have hd := div_next (w := wd) (b := b) (by omega)
      rw [e3] at hd
      refine ⟨by rw [e1]; rfl, by rw [e1, hd.2]; rfl, e4, b, hb, .inr (.inr ⟨e4, by omega, by rw [hd.1]; exact h3, by omega, by omega⟩)⟩
  · omega
theorem tmod_nat (a b : Nat) : (a : Int).tmod (b : Int) = ((a % b : Nat) : Int) := by
  rw [Int.tmod_eq_emod_of_nonneg (Int.natCast_nonneg _)]; exact (Int.natCast_emod a b).symm
theorem tdiv_nat (a b : Nat) : (a : Int).tdiv (b : Int) = ((a / b : Nat) : Int) := by
  rw [Int.tdiv_eq_ediv_of_nonneg (Int.natCast_nonneg _)]; exact (Int.natCast_ediv a b).symm
theorem wrap_back {i : Nat} (h : i ≤ 100000) : IntKind.i64.wrap ((i : Int) + 1 - 1) = (i : Int) ∧ wrap64 ((i : Int) + 1 - 1) = (i : Int) ∧ IntKind.i64.wrap (i : Int) = (i : Int) ∧ wrap64 (i : Int) = (i : Int) ∧ IntKind.i64.wrap ((i : Int) + 1) = (i : Int) + 1 :=
  ⟨by rw [IntWalk.i64_in _ (by omega)]; omega, by rw [IntWalk.wrap64_in _ (by omega)]; omega, IntWalk.i64_in _ (by omega), IntWalk.wrap64_in _ (by omega), IntWalk.i64_in _ (by omega)⟩
theorem wrap_sum {a b c : Nat} (h : a + b = c) (h2 : c ≤ 100000) : wrap64 ((a : Int) + (b : Int)) = (c : Int) ∧ IntKind.i64.wrap ((a : Int) + (b : Int)) = (c : Int) :=
  ⟨by rw [IntWalk.wrap64_in _ (by omega)]; omega, by rw [IntWalk.i64_in _ (by omega)]; omega⟩
theorem wrap_diff {a b : Nat} (h : a ≤ 100000) (h2 : b ≤ 100000) : IntKind.i64.wrap ((a : Int) - (b : Int)) = (a : Int) - (b : Int) ∧ IntKind.i64.wrap (a : Int) = (a : Int) ∧ IntKind.i64.wrap (b : Int) = (b : Int) :=
  ⟨IntWalk.i64_in _ (by omega), IntWalk.i64_in _ (by omega), IntWalk.i64_in _ (by omega)⟩
theorem ne_cast {a : Nat} (h : a ≠ 0) : ¬ ((a : Int) = 0) := by omega
end Go.Proofs.Ytdjdldcpaidmnaa
namespace Go.Proofs.Ytdjdldcpaidmnaa
open Go.RowKit Pl Tl
def errK (D Z B O A : Int) : Int := if goodB D Z B O A = true then 2 else 1
theorem self_wraps {E : Nat} (hE : E ≤ 3840) : wrap64 (E : Int) = (E : Int) ∧ IntKind.i64.wrap (E : Int) = (E : Int) := ⟨IntWalk.wrap64_in _ (by omega), IntWalk.i64_in _ (by omega)⟩
theorem next_wrap {f j : Nat} (h : f + j ≤ 3840) : IntKind.i64.wrap ((f : Int) + (j : Int) + 1) = (f : Int) + ((j + 1 : Nat) : Int) := by rw [IntWalk.i64_in _ (by omega)]; omega
theorem wd_wraps {wd E : Nat} (h : wd ≤ 15) (hE : E ≤ 3840) : wrap64 ((wd : Int) - 1) = (wd : Int) - 1 ∧ IntKind.i64.wrap ((wd : Int) - 1) = (wd : Int) - 1 ∧ wrap64 ((E : Int) - 1) = (E : Int) - 1 ∧ IntKind.i64.wrap ((E : Int) - 1) = (E : Int) - 1 :=
  ⟨IntWalk.wrap64_in _ (by omega), IntWalk.i64_in _ (by omega), IntWalk.wrap64_in _ (by omega), IntWalk.i64_in _ (by omega)⟩
theorem steps_next (wd z E f j : Nat) : steps wd z E f (j + 1) = steps wd z E f j ++ [dat wd z (f + j)] ++ beh wd z E (f + j) := by
  rw [steps_add j f 1, List.append_assoc]
  congr 1
  show dat wd z (f + j) :: (beh wd z E (f + j) ++ []) = _
  rw [List.append_nil]; rfl
/-- The place of a block and its row's parity, plainly. -/
theorem ref_nums {wd z b : Nat} (hz : z ≤ 60) (hw : 0 < wd) (hw2 : wd ≤ 15) (hb : b ≤ 3840) :
    (b : Int).tmod (wd : Int) = ((b % wd : Nat) : Int) ∧ ((z : Int) + ((b / wd : Nat) : Int)).tmod ((wd : Int) + 1) = par wd z (b / wd) ∧ IntKind.i64.wrap ((z : Int) + ((b / wd : Nat) : Int)) = (z : Int) + ((b / wd : Nat) : Int) ∧ IntKind.i64.wrap ((b % wd : Nat) : Int) = ((b % wd : Nat) : Int) ∧ IntKind.i64.wrap (par wd z (b / wd)) = par wd z (b / wd) ∧ IntKind.i64.wrap (((b % wd : Nat) : Int) + 1) = ((b % wd : Nat) : Int) + 1 := by
  have h1 : b / wd ≤ b := Nat.div_le_self _ _
  have h2 := Nat.mod_lt b hw
  have h3 := par_bd wd z (b / wd)
  have e1 := tmod_nat b wd
  have e2 : par wd z (b / wd) = ((z : Int) + ((b / wd : Nat) : Int)) % ((wd : Int) + 1) := rfl
  generalize par wd z (b / wd) = P at h3 e2 ⊢
  generalize b / wd = q at h1 e2 ⊢
  generalize b % wd = r at h2 e1 ⊢
  exact ⟨e1, by rw [e2, Int.tmod_eq_emod_of_nonneg (by omega)], IntWalk.i64_in _ (by omega), IntWalk.i64_in _ (by omega), IntWalk.i64_in _ (by omega), IntWalk.i64_in _ (by omega)⟩
theorem ref_wraps {D Z V : Int} {wd f n E : Nat} (hD : D = (wd : Int) + 1) (h15 : wd ≤ 15) (hZ : 0 ≤ Z ∧ Z ≤ 64) (hV : 0 ≤ V ∧ V ≤ 3840) (hn : (n : Int) ≤ V) (hE : f + n = E) (hE2 : E ≤ 3840) :
    wrap64 (D - 1) = (wd : Int) ∧ IntKind.i64.wrap (D - 1) = (wd : Int) ∧ wrap64 (Z - 4) = Z - 4 ∧ IntKind.i64.wrap (Z - 4) = Z - 4 ∧ wrap64 V = V ∧ IntKind.i64.wrap V = V ∧ wrap64 (V - (n : Int)) = V - (n : Int) ∧ IntKind.i64.wrap (V - (n : Int)) = V - (n : Int) ∧ wrap64 ((f : Int) + (n : Int)) = (E : Int) ∧ IntKind.i64.wrap ((f : Int) + (n : Int)) = (E : Int) := by
  refine ⟨?_, ?_, IntWalk.wrap64_in _ (by omega), IntWalk.i64_in _ (by omega), IntWalk.wrap64_in _ (by omega), IntWalk.i64_in _ (by omega), IntWalk.wrap64_in _ (by omega), IntWalk.i64_in _ (by omega), ?_, ?_⟩
  · rw [IntWalk.wrap64_in _ (by omega)]; omega
  · rw [IntWalk.i64_in _ (by omega)]; omega
  · rw [IntWalk.wrap64_in _ (by omega)]; omega
  · rw [IntWalk.i64_in _ (by omega)]; omega
end Go.Proofs.Ytdjdldcpaidmnaa
namespace Go.Proofs.Ytdjdldcpaidmnaa
open Go.RowKit Pl Tl
theorem mul64_one (n : Nat) (hn : n ≤ 16) (w : World) : Calls Try.prog 82 #[.int .u64 1, .int .u64 (n : Int)] w fun e w' => e = .returned (.tuple #[.int .u64 0, .int .u64 (n : Int)]) ∧ w = w' := by
  have m1 : bits .and .u64 (1 : Int) 4294967295 = 1 := by have := Mul64.maskN 1 (by omega); simpa using this
  have mn : bits .and .u64 (n : Int) 4294967295 = (n : Int) := by
    have h := Mul64.maskN n (by omega)
    rw [Nat.mod_eq_of_lt (by omega)] at h; exact h
  have m0 : bits .and .u64 (0 : Int) 4294967295 = 0 := by have := Mul64.maskN 0 (by omega); simpa using this
  have dn : (n : Int) / 4294967296 = 0 := by omega
  have d1 : (1 : Int) / 4294967296 = 0 := by omega
  have wn : IntKind.u64.wrap (n : Int) = (n : Int) := Mul64.wrapN n (by omega)
  clear hn
  go_enter Try.func82, Try.ntmps82
  go_wp2
  go_ret2
  exact ⟨rfl, rfl⟩
theorem mul_one64 (n : Nat) (hn : n ≤ 16) (w : World) : Calls Try.prog 80 #[.int .u64 1, .int .u64 (n : Int)] w fun e w' => e = .returned (.tuple #[.int .u64 0, .int .u64 (n : Int)]) ∧ w = w' := by
  have c := Lib.hid (fun W => mul64_one n hn W)
  clear hn
  go_enter Try.func80, Try.ntmps80
  go_wp2_with fail
  (with_reducible refine (c.out _).mono ?_)
  rintro e w1 ⟨rfl, rfl⟩
  go_wp2
  go_ret2
  exact ⟨rfl, rfl⟩
end Go.Proofs.Ytdjdldcpaidmnaa
