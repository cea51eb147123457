/- Note, Has and possible. -/
import Derived.Test.YtpmhfalhieinjaaBkTak
import Derived.Test.YtpmhfalhieinjaaBkCl
import Derived.Lib.MinMax
namespace Go.Proofs.Ytpmhfalhieinjaa
open Go.RowKit Rec Bk

theorem fresh_C {P : Program} {f : FuncId} {args : Array Value} {w : World} {post : Ending → World → Prop} (R : World → Prop) (hR : R w) (h : ∀ W2, R W2 → Calls P f args W2 post) : Calls P f args w post := h w hR
theorem BkB.of {W : World} {B r : Nat} {A1 A2 : Option Addr} {c1 c2 : Nat} {b : Bo} (ha : BkAt W r A1 c1 A2 c2 b) (ho : BkO W B A1 c1 A2 c2 b) (hr : r < B) : BkB W B r A1 c1 A2 c2 b := ⟨ha, ho, (ho.off hr).1, (ho.off hr).2⟩
/-- A book in a box behind a book put there. -/
theorem put_book {w W : World} {r B : Nat} {A1 A2 X1 X2 : Option Addr} {c1 c2 x1 x2 : Nat} {b b0 : Bo} (hX : BkAt W r X1 x1 X2 x2 b0) (hO : BkO W B A1 c1 A2 c2 b) (hr : r < B) (hw : w.heap.size ≤ r) (hb : Below w.heap.size w W) :
    BkB (((((W.setCell ⟨r, 0, none⟩ (.int .i64 b.q)).setCell ⟨r, 1, none⟩ (.slice A1 b.zs.length c1)).setCell ⟨r, 2, none⟩ (.slice A2 b.ms.length c2)).setCell ⟨r, 3, none⟩ (.int .i64 b.sl)).setCell ⟨r, 4, none⟩ (.int .i64 b.cu)) B r A1 c1 A2 c2 b ∧
    Below w.heap.size w (((((W.setCell ⟨r, 0, none⟩ (.int .i64 b.q)).setCell ⟨r, 1, none⟩ (.slice A1 b.zs.length c1)).setCell ⟨r, 2, none⟩ (.slice A2 b.ms.length c2)).setCell ⟨r, 3, none⟩ (.int .i64 b.sl)).setCell ⟨r, 4, none⟩ (.int .i64 b.cu)) ∧
    ∀ k, k < W.heap.size → k ≠ r → (((((W.setCell ⟨r, 0, none⟩ (.int .i64 b.q)).setCell ⟨r, 1, none⟩ (.slice A1 b.zs.length c1)).setCell ⟨r, 2, none⟩ (.slice A2 b.ms.length c2)).setCell ⟨r, 3, none⟩ (.int .i64 b.sl)).setCell ⟨r, 4, none⟩ (.int .i64 b.cu)).heap[k]? = W.heap[k]? := by
  obtain ⟨h1, h2, h3⟩ := book_out hX hO hr hw hb
  have hg := grownBy_put W r (.int .i64 b.q) (.slice A1 b.zs.length c1) (.slice A2 b.ms.length c2) (.int .i64 b.sl) (.int .i64 b.cu)
  obtain ⟨n1, n2⟩ := hO.off hr
  exact ⟨⟨h1, hO.far hg n1 n2, n1, n2⟩, h3, fun k hk hn => hg.block k hk (by simpa using hn)⟩
theorem RcAt.of {W W' : World} {B : Nat} {r : Rc} (h : RcAt W B r) (hs : W'.heap[B]? = W.heap[B]?) : RcAt W' B r :=
  ⟨(World.cell?_of_block (a := ⟨B, 0, none⟩) hs).trans h.c0, (World.cell?_of_block (a := ⟨B, 1, none⟩) hs).trans h.c1, (World.cell?_of_block (a := ⟨B, 2, none⟩) hs).trans h.c2, (World.cell?_of_block (a := ⟨B, 3, none⟩) hs).trans h.c3, (World.cell?_of_block (a := ⟨B, 4, none⟩) hs).trans h.c4, (World.cell?_of_block (a := ⟨B, 5, none⟩) hs).trans h.c5, (World.cell?_of_block (a := ⟨B, 6, none⟩) hs).trans h.c6⟩
/-- The world within Note: the book's box, the record's, the result's. -/
structure NoteW (w W : World) (B : Nat) (A1 : Option Addr) (c1 : Nat) (A2 : Option Addr) (c2 : Nat) (b : Bo) (x : Rc) : Prop where
  k : BkB W B w.heap.size A1 c1 A2 c2 b
  x : RcAt W (w.heap.size + 1) x
  o : BkAt W (w.heap.size + 1 + 1) none 0 none 0 noB
  bw : Below w.heap.size w W
  bb : w.heap.size + 1 + 1 < B
theorem NoteW.moved {w W W' : World} {B : Nat} {A1 A2 : Option Addr} {c1 c2 : Nat} {b b' : Bo} {x : Rc} (h : NoteW w W B A1 c1 A2 c2 b x) (hk : BkB W' B w.heap.size A1 c1 A2 c2 b') (hc : Chg W W' (bkF w.heap.size A1 A2)) : NoteW w W' B A1 c1 A2 c2 b' x := by
  have hlt := h.o.lt
  have hn : ∀ k, k < B → k ≠ w.heap.size → ¬ bkF w.heap.size A1 A2 k := fun k hk1 hk2 hf => by
    rcases hf with h1 | h1 | h1
    · exact hk2 h1
    · exact (h.k.o.off hk1).1 h1
    · exact (h.k.o.off hk1).2 h1
  have hbb := h.bb
  refine ⟨hk, h.x.of (hc.block _ (by omega) (hn _ (by omega) (by omega))), h.o.of (hc.block _ (by omega) (hn _ (by omega) (by omega))), ⟨hc.os.trans h.bw.os, hc.tape.trans h.bw.tape, hc.output.trans h.bw.output, Nat.le_trans h.bw.size hc.size, fun k hk2 => ?_⟩, hbb⟩
  exact (hc.block k (by omega) (hn k (by omega) (by omega))).trans (h.bw.block k hk2)
theorem NoteW.set_q {w W : World} {B : Nat} {A1 A2 : Option Addr} {c1 c2 : Nat} {b : Bo} {x : Rc} (h : NoteW w W B A1 c1 A2 c2 b x) (q : Int) : NoteW w (W.setCell ⟨w.heap.size, 0, none⟩ (.int .i64 q)) B A1 c1 A2 c2 { b with q := q } x :=
  h.moved (h.k.set_q q) (Chg.of_grown (grownBy_one W w.heap.size 0 _) (fun k e => by injection e with e; exact .inl e.symm))
theorem three_new (w : World) (A1 : Option Addr) (c1 : Nat) (A2 : Option Addr) (c2 : Nat) (b : Bo) (x : Rc) :
    (fun W => BkAt W w.heap.size A1 c1 A2 c2 b ∧ RcAt W (w.heap.size + 1) x ∧ BkAt W (w.heap.size + 1 + 1) none 0 none 0 noB ∧ Below w.heap.size w W)
      (((w.alloc (.cells #[.int .i64 b.q, .slice A1 b.zs.length c1, .slice A2 b.ms.length c2, .int .i64 b.sl, .int .i64 b.cu] 33)).alloc (.cells #[.int .i64 x.k, .int .i64 x.s, .int .i64 x.a, .int .i64 x.b, .int .i64 x.c, .int .i64 x.d, .string x.body] 53)).alloc (.cells #[.int .i64 0, .slice none 0 0, .slice none 0 0, .int .i64 0, .int .i64 0] 33)) := by
  have h1 := BkAt.new w A1 c1 A2 c2 b 33
  generalize hW1 : w.alloc _ = W1 at h1 ⊢
  have e1 : W1.heap.size = w.heap.size + 1 := by rw [← hW1, World.size_alloc]
  have hb1 : Below w.heap.size w W1 := by rw [← hW1]; exact (Below.refl _ _).alloc (Nat.le_refl _) _
  have h2 := RcAt.new W1 x 53
  generalize hW2 : W1.alloc _ = W2 at h2 ⊢
  have e2 : W2.heap.size = w.heap.size + 1 + 1 := by rw [← hW2, World.size_alloc, e1]
  have hb2 : Below W1.heap.size W1 W2 := by rw [← hW2]; exact (Below.refl _ _).alloc (Nat.le_refl _) _
  have h3 := BkAt.new W2 none 0 none 0 noB 33
  have hb3 : Below W2.heap.size W2 (W2.alloc (.cells #[.int .i64 noB.q, .slice none noB.zs.length 0, .slice none noB.ms.length 0, .int .i64 noB.sl, .int .i64 noB.cu] 33)) := (Below.refl _ _).alloc (Nat.le_refl _) _
  rw [e1] at h2
  rw [e2] at h3
  exact ⟨(h1.below hb2).below hb3, h2.below hb3, h3, (hb1.trans (hb2.mono hb1.size)).trans (hb3.mono (by omega))⟩
set_option maxRecDepth 100000 in
set_option maxHeartbeats 2000000 in
theorem note_any (w : World) (A1 : Option Addr) (c1 : Nat) (A2 : Option Addr) (c2 : Nat) (b : Bo) (x : Rc) (h : BkIn w A1 c1 A2 c2 b) :
    Calls Try.prog 15 #[.agg #[.int .i64 b.q, .slice A1 b.zs.length c1, .slice A2 b.ms.length c2, .int .i64 b.sl, .int .i64 b.cu], .agg #[.int .i64 x.k, .int .i64 x.s, .int .i64 x.a, .int .i64 x.b, .int .i64 x.c, .int .i64 x.d, .string x.body]] w (BPost w (noteB b x)) := by
  have hcl := Lib.hid (fun W (hb : Below w.heap.size w W) => bclone_any W A1 c1 A2 c2 b (h.below hb))
  have htk := Lib.hid (fun W B r A1 c1 A2 c2 b (h : BkB W B r A1 c1 A2 c2 b) => take_any x h)
  have hNb : Hid (takeB { b with q := max b.q x.s } x = noteB b x) := Lib.hid rfl
  generalize noteB b x = b' at hNb ⊢
  clear h
  go_enter Try.func15, Try.ntmps15
  go_wp2_with fail
  refine fresh_C (fun W => BkAt W w.heap.size A1 c1 A2 c2 b ∧ RcAt W (w.heap.size + 1) x ∧ BkAt W (w.heap.size + 1 + 1) none 0 none 0 noB ∧ Below w.heap.size w W) (three_new w A1 c1 A2 c2 b x) ?_
  rintro W ⟨hB, hx, hX, hb⟩
  have hl0 := hX.lt
  have hBH := Lib.hid hB
  have hxH := Lib.hid hx
  have hXH := Lib.hid hX
  clear hB hx hX
  refine (hcl.out W hb).mono ?_
  rintro e w1 ⟨A1', c1', A2', c2', rfl, hO1, hb1⟩
  have hp := put_book (hBH.out.below hb1) hO1 (by omega) (Nat.le_refl _) (hb.trans (hb1.mono hb.size))
  have hN : NoteW w _ W.heap.size A1' c1' A2' c2' b x := ⟨hp.1, (hxH.out.below hb1).of (hp.2.2 _ (by have := hb1.size; omega) (by omega)), (hXH.out.below hb1).of (hp.2.2 _ (by have := hb1.size; omega) (by omega)), hp.2.1, hl0⟩
  obtain ⟨b0, b1, b2, b3, b4, bf⟩ := hBH.out.below hb1
  have hNH := Lib.hid hN
  clear hp hN hcl hO1 hb1 hBH hxH hXH
  go_upto_region 2 with fail
  refine fresh_world (fun W1 => NoteW w W1 W.heap.size A1' c1' A2' c2' b x) hNH.out ?_
  clear hNH b0 b1 b2 b3 b4 bf
  rintro W1 hN
  have hNH := Lib.hid hN
  have hN2H := Lib.hid (hN.set_q (max b.q x.s))
  obtain ⟨b0, b1, b2, b3, b4, bf⟩ := hN.k.a
  obtain ⟨x0, x1, x2, x3, x4, x5, x6⟩ := hN.x
  clear hN
  go_upto_region 3 with fail
  refine fresh_world (fun W1 => NoteW w W1 W.heap.size A1' c1' A2' c2' { b with q := max b.q x.s } x) hN2H.out ?_
  clear hNH hN2H b0 b1 b2 b3 b4 bf x0 x1 x2 x3 x4 x5 x6
  rintro W2 hN
  have hNH := Lib.hid hN
  obtain ⟨x0, x1, x2, x3, x4, x5, x6⟩ := hN.x
  have htH := Lib.hid (htk.out _ _ _ _ _ _ _ _ hN.k)
  clear hN htk
  go_wp2_with fail
  refine htH.out.mono ?_
  rintro e w3 ⟨rfl, hk3, hc3⟩
  have hN3 := hNH.out.moved hk3 hc3
  rw [hNb.out] at hN3
  have hout := Lib.hid (book_out hN3.o hN3.k.o hN3.bb (by omega) hN3.bw)
  obtain ⟨b0, b1, b2, b3, b4, bf⟩ := hN3.k.a
  obtain ⟨y0, y1, y2, y3, y4, yf⟩ := hN3.o
  clear hN3 hNb hNH htH x0 x1 x2 x3 x4 x5 x6 hk3 hc3
  go_wp2_with fail
  refine fresh_post (fun W => BkAt W (w.heap.size + 1 + 1) A1' c1' A2' c2' b' ∧ BkO W w.heap.size A1' c1' A2' c2' b' ∧ Below w.heap.size w W) hout.out ?_
  rintro W10 ⟨⟨z0, z1, z2, z3, z4, _⟩, hO10, hb10⟩
  refine bodyPost_ret (v := .agg #[.int .i64 b'.q, .slice A1' b'.zs.length c1', .slice A2' b'.ms.length c2', .int .i64 b'.sl, .int .i64 b'.cu]) (by simp [results, Try.results15, go_sem, z0, z1, z2, z3, z4]) rfl ⟨A1', c1', A2', c2', rfl, hO10, hb10⟩
end Go.Proofs.Ytpmhfalhieinjaa
