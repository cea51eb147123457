/- The records of a book, numbered. -/
import Derived.Test.YtpmhfalhieinjaaBkRecM
namespace Go.Proofs.Ytpmhfalhieinjaa
open Go.RowKit Rec Bk

theorem numb_append : ∀ (q : Int) (l r : List Rc), Bk.numb q (l ++ r) = Bk.numb q l ++ Bk.numb (q + l.length) r
  | q, [], r => by show Bk.numb q r = [] ++ Bk.numb (q + ((0 : Nat) : Int)) r; rw [List.nil_append]; congr 1; omega
  | q, x :: l, r => by
    show _ :: Bk.numb (q + 1) (l ++ r) = _ :: (Bk.numb (q + 1) l ++ _)
    rw [numb_append (q + 1) l r, List.length_cons]
    congr 3
    push_cast
    omega
/-- The first j have been numbered. -/
def nst (q : Int) (rs : List Rc) (j : Nat) : List Rc := Bk.numb q (rs.take j) ++ rs.drop j
theorem nst_len (q : Int) (rs : List Rc) (j : Nat) : (nst q rs j).length = rs.length := by
  unfold nst; rw [List.length_append, Bk.numb_len, ← List.length_append, List.take_append_drop]
theorem nst_zero (q : Int) (rs : List Rc) : nst q rs 0 = rs := by unfold nst; rw [List.take_zero, List.drop_zero]; rfl
theorem nst_all (q : Int) (rs : List Rc) : nst q rs rs.length = Bk.numb q rs := by unfold nst; rw [List.take_length, List.drop_length, List.append_nil]
theorem nst_at (q : Int) (rs : List Rc) (j : Nat) (h : j < rs.length) : (nst q rs j)[j]'(by rw [nst_len]; exact h) = rs[j] := by
  unfold nst
  have e : (Bk.numb q (rs.take j)).length = j := by rw [Bk.numb_len, List.length_take]; omega
  rw [List.getElem_append_right (by omega)]
  simp only [List.getElem_drop, e]
  congr 1
  omega
theorem nst_step (q : Int) (rs : List Rc) (j : Nat) (h : j < rs.length) : (nst q rs j).set j { rs[j] with s := q + j + 1 } = nst q rs (j + 1) := by
  unfold nst
  have e : (Bk.numb q (rs.take j)).length = j := by rw [Bk.numb_len, List.length_take]; omega
  rw [List.set_append_right _ _ (by omega), e, Nat.sub_self, List.drop_eq_getElem_cons h, List.set_cons_zero, List.take_succ_eq_append_getElem h, numb_append, List.append_assoc, List.length_take, show min j rs.length = j by omega]
  rfl
structure RecN (w W : World) (A1 : Option Addr) (c1 : Nat) (A2 : Option Addr) (c2 : Nat) (b : Bo) (A : Option Addr) (cap : Nat) (rs : List Rc) : Prop where
  k : BkB W (w.heap.size + 1 + 1) w.heap.size A1 c1 A2 c2 b
  o : BkAt W (w.heap.size + 1) none 0 none 0 noB
  r : RRow W (w.heap.size + 1 + 1) 53 A cap rs
  d : ∀ g, A = some ⟨g, 0, none⟩ → ¬ bkF w.heap.size A1 A2 g
  bw : Below w.heap.size w W
section
variable {w W : World} {A1 : Option Addr} {c1 : Nat} {A2 : Option Addr} {c2 : Nat} {b : Bo} {A : Option Addr} {cap : Nat} {rs : List Rc}
theorem RecN.set_q (h : RecN w W A1 c1 A2 c2 b A cap rs) (x : Int) : RecN w (W.setCell ⟨w.heap.size, 0, none⟩ (.int .i64 x)) A1 c1 A2 c2 { b with q := x } A cap rs := by
  have hg := grownBy_one W w.heap.size 0 (.int .i64 x)
  refine ⟨h.k.set_q x, h.o.far hg (by simp), h.r.far hg (fun g e e' => h.d g e (.inl (by injection e' with e'; exact e'.symm))), h.d, h.bw.setCell (Nat.le_refl _) _⟩
theorem RecN.set_s {g : Nat} (h : RecN w W A1 c1 A2 c2 b (some ⟨g, 0, none⟩) cap rs) {i : Nat} (hi : i < rs.length) (v : Int) : RecN w (W.setCell ⟨g, i * 7 + 1, none⟩ (.int .i64 v)) A1 c1 A2 c2 b (some ⟨g, 0, none⟩) cap (rs.set i { rs[i] with s := v }) := by
  have hg := grownBy_one W g (i * 7 + 1) (.int .i64 v)
  have hgw : w.heap.size + 1 + 1 ≤ g := by
    rcases h.r.form with ⟨e, _⟩ | ⟨g', e, hb, _⟩
    · cases e
    · injection e with e; injection e with e; omega
  refine ⟨h.k.far hg (fun k e hf => h.d g rfl (by injection e with e; rw [e]; exact hf)), h.o.far hg (by simp; omega), h.r.set_s hi v, h.d, h.bw.setCell (by show w.heap.size ≤ g; omega) _⟩
/-- Behind the copy. -/
theorem RecW.cloned {W1 : World} {A1' A2' : Option Addr} {c1' c2' : Nat} (h : RecW w W A1 c1 A2 c2 b A cap rs) (hO : BkO W1 W.heap.size A1' c1' A2' c2' b) (hb : Below W.heap.size W W1) :
    BkAt W1 w.heap.size A1 c1 A2 c2 b ∧ RecN w (((((W1.setCell ⟨w.heap.size, 0, none⟩ (.int .i64 b.q)).setCell ⟨w.heap.size, 1, none⟩ (.slice A1' b.zs.length c1')).setCell ⟨w.heap.size, 2, none⟩ (.slice A2' b.ms.length c2')).setCell ⟨w.heap.size, 3, none⟩ (.int .i64 b.sl)).setCell ⟨w.heap.size, 4, none⟩ (.int .i64 b.cu)) A1' c1' A2' c2' b A cap rs := by
  have hlt := h.o.lt
  have h1 := h.below hb
  obtain ⟨p1, p2, p3⟩ := put_book h1.a hO (by omega) (Nat.le_refl _) h1.bw
  have hg := grownBy_put W1 w.heap.size (.int .i64 b.q) (.slice A1' b.zs.length c1') (.slice A2' b.ms.length c2') (.int .i64 b.sl) (.int .i64 b.cu)
  have hA : ∀ g, A = some ⟨g, 0, none⟩ → w.heap.size + 1 + 1 ≤ g ∧ g < W.heap.size := fun g e => by
    rcases h.r.form with ⟨e', _⟩ | ⟨g', e', hb', hl', _⟩
    · rw [e] at e'; cases e'
    · rw [e] at e'; injection e' with e'; injection e' with e'; omega
  refine ⟨h1.a, ⟨p1.a, p1.o.mono (by omega), p1.n1, p1.n2⟩, h1.o.far hg (by simp), h1.r.far hg (fun g e e' => by have := hA g e; injection e' with e'; omega), fun g e hf => ?_, p2⟩
  have := hA g e
  rcases hf with h2 | h2 | h2
  · omega
  · exact (hO.off this.2).1 h2
  · exact (hO.off this.2).2 h2
end
end Go.Proofs.Ytpmhfalhieinjaa
