/- What New does. -/
import Derived.Test.YtdjdldcpaidmnaaMGeo
import Derived.Test.YtdjdldcpaidmnaaNBt
import Derived.IntWalk
import Derived.LoopTactic
namespace Go.Proofs.Ytdjdldcpaidmnaa
open Go.RowKit
def gzV (D Z B O A : Int) : Int := if goodB D Z B O A = true then Z - 3 else 0
theorem gz_any (D Z B O A : Int) (w : World) :
    Calls Try.prog 10 #[.agg #[.int .i64 D, .int .i64 Z, .int .i64 B, .int .i64 O, .int .i64 A]] w fun e w' => e = .returned (.int .i64 (gzV D Z B O A)) ∧ Below w.heap.size w w' := by
  have c1 := fun W => good_any D Z B O A W
  unfold gzV
  by_cases h : goodB D Z B O A = true
  · rw [if_pos h]
    rw [h] at c1
    obtain ⟨g1, g2, g3, g4, _⟩ := goodB_iff.1 h
    have c1H := Lib.hid c1
    clear c1 h
    go_enter Try.func10, Try.ntmps10
    go_wp2_with fail
    refine (c1H.out _).mono ?_
    rintro e w1 ⟨rfl, hb1⟩
    obtain ⟨hc1, hf1⟩ := bcell hb1
    go_wp2
    go_ret
    exact ⟨ret_int (by omega), (((Below.refl _ _).alloc (Nat.le_refl _) _).trans (hb1.mono (by simp)))⟩
  · rw [if_neg h]
    rw [Bool.not_eq_true] at h
    rw [h] at c1
    have c1H := Lib.hid c1
    clear c1 h
    go_enter Try.func10, Try.ntmps10
    go_wp2_with fail
    refine (c1H.out _).mono ?_
    rintro e w1 ⟨rfl, hb1⟩
    obtain ⟨hc1, hf1⟩ := bcell hb1
    go_wp2
    go_ret
    exact ⟨rfl, (((Below.refl _ _).alloc (Nat.le_refl _) _).trans (hb1.mono (by simp)))⟩
/-- A boxed geometry. -/
def GzAt (W : World) (b : Nat) (D Z B O A : Int) : Prop := W.cell? ⟨b, 0, none⟩ = some (.int .i64 D) ∧ W.cell? ⟨b, 1, none⟩ = some (.int .i64 Z) ∧ W.cell? ⟨b, 2, none⟩ = some (.int .i64 B) ∧ W.cell? ⟨b, 3, none⟩ = some (.int .i64 O) ∧ W.cell? ⟨b, 4, none⟩ = some (.int .i64 A) ∧ b < W.heap.size
theorem GzAt.below {W W' : World} {b : Nat} {D Z B O A : Int} (h : GzAt W b D Z B O A) (hb : Below W.heap.size W W') : GzAt W' b D Z B O A := by
  obtain ⟨h0, h1, h2, h3, h4, hlt⟩ := h
  have hc := (bcell hb).1
  exact ⟨(hc _ _ hlt).trans h0, (hc _ _ hlt).trans h1, (hc _ _ hlt).trans h2, (hc _ _ hlt).trans h3, (hc _ _ hlt).trans h4, Nat.lt_of_lt_of_le hlt hb.size⟩
theorem GzAt.new (W : World) (D Z B O A : Int) (t : TypeId) : GzAt (W.alloc (.cells #[.int .i64 D, .int .i64 Z, .int .i64 B, .int .i64 O, .int .i64 A] t)) W.heap.size D Z B O A := by
  refine ⟨?_, ?_, ?_, ?_, ?_, by simp⟩ <;> go_simp
end Go.Proofs.Ytdjdldcpaidmnaa
namespace Go.Proofs.Ytdjdldcpaidmnaa
open Go.RowKit Rec Bk
theorem GzAt.of {W W' : World} {g : Nat} {D Z B O A : Int} (h : GzAt W g D Z B O A) (hs : W'.heap[g]? = W.heap[g]?) (hl : W.heap.size ≤ W'.heap.size) : GzAt W' g D Z B O A := by
  obtain ⟨h0, h1, h2, h3, h4, h5⟩ := h
  exact ⟨(World.cell?_of_block (a := ⟨g, 0, none⟩) hs).trans h0, (World.cell?_of_block (a := ⟨g, 1, none⟩) hs).trans h1, (World.cell?_of_block (a := ⟨g, 2, none⟩) hs).trans h2, (World.cell?_of_block (a := ⟨g, 3, none⟩) hs).trans h3, (World.cell?_of_block (a := ⟨g, 4, none⟩) hs).trans h4, by omega⟩
/-- The world within New: the geometry's box, the result's, the book's. -/
structure NewW (w W : World) (D Z B O A : Int) (A1 : Option Addr) (c1 : Nat) (A2 : Option Addr) (c2 : Nat) (b : Bo) : Prop where
  g : GzAt W w.heap.size D Z B O A
  o : BkAt W (w.heap.size + 1) none 0 none 0 noB
  k : BkB W (w.heap.size + 1 + 1 + 1) (w.heap.size + 1 + 1) A1 c1 A2 c2 b
  bw : Below w.heap.size w W
section
variable {w W W' : World} {D Z B O A : Int} {A1 : Option Addr} {c1 : Nat} {A2 : Option Addr} {c2 : Nat} {b b' : Bo}
theorem NewW.lt (h : NewW w W D Z B O A A1 c1 A2 c2 b) : w.heap.size + 1 + 1 < W.heap.size := h.k.a.lt
theorem NewW.below (h : NewW w W D Z B O A A1 c1 A2 c2 b) (hb : Below W.heap.size W W') : NewW w W' D Z B O A A1 c1 A2 c2 b :=
  ⟨h.g.below hb, h.o.below hb, h.k.below hb, h.bw.trans (hb.mono h.bw.size)⟩
/-- Only blocks from the book's on have turned. -/
theorem NewW.turned {A1' A2' : Option Addr} {c1' c2' : Nat} {o : Option Nat} (h : NewW w W D Z B O A A1 c1 A2 c2 b) (hg : W.grownBy W' o) (ho : ∀ k, o = some k → w.heap.size + 1 + 1 ≤ k) (hk : BkB W' (w.heap.size + 1 + 1 + 1) (w.heap.size + 1 + 1) A1' c1' A2' c2' b') : NewW w W' D Z B O A A1' c1' A2' c2' b' := by
  have hl := h.lt
  have hn : ∀ k, k < w.heap.size + 1 + 1 → W'.heap[k]? = W.heap[k]? := fun k hk => hg.block k (by omega) (fun e => by have := ho k e.symm; omega)
  exact ⟨h.g.of (hn _ (by omega)) hg.size, h.o.of (hn _ (by omega)), hk, h.bw.grown hg (by omega) (fun k e => by have := ho k e; omega)⟩
set_option maxRecDepth 100000 in
theorem NewW.zone (h : NewW w W D Z B O A A1 c1 A2 c2 b) (z : Zo) (hl : b.zs.length < 64) :
    ∃ A' cap' W2, (Builtin.append_ #[56, 56] 56 #[.slice A1 b.zs.length c1, .slice (some ⟨W.heap.size, 0, none⟩) 1 1]).run Try.prog (W.alloc (.cells #[.int .i64 z.p, .int .i64 z.g, .int .i64 z.s] 69)) = .ok (.slice A' (b.zs.length + 1) cap') W2 ∧
      W2.cell? ⟨w.heap.size + 1 + 1, 1, none⟩ = some (.slice A1 b.zs.length c1) ∧ W2.frozen? ⟨w.heap.size + 1 + 1, 1, none⟩ = false ∧
      NewW w (W2.setCell ⟨w.heap.size + 1 + 1, 1, none⟩ (.slice A' (b.zs.length + 1) cap')) D Z B O A A' cap' A2 c2 { b with zs := b.zs ++ [z] } := by
  have hlt := h.lt
  have h1 := h.below (W' := W.alloc (.cells #[.int .i64 z.p, .int .i64 z.g, .int .i64 z.s] 69)) ((Below.refl _ _).alloc (Nat.le_refl _) _)
  obtain ⟨A', cap', W2, hrun, hrow, hg, hA⟩ := h1.k.o.z.append (P := Try.prog) Try.underlying56 infZo (by decide) (by decide) (m := W.heap.size) (x := z) (by
    intro j hj
    have hj3 : j < 3 := hj
    rw [World.cell?_alloc_new]
    rcases (by omega : j = 0 ∨ j = 1 ∨ j = 2) with rfl | rfl | rfl <;> rfl) (by omega) (by simp; omega) 56
  have ho : ∀ k, (Value.slice A1 b.zs.length c1).ownBlock = some k → A1 = some ⟨k, 0, none⟩ := fun k e => by
    rcases h1.k.o.z.form with ⟨rfl, _⟩ | ⟨g, rfl, _⟩
    · simp [Value.ownBlock] at e
    · simp only [Value.ownBlock, Option.some.injEq] at e
      rw [e]
  have ha2 := h1.k.a.far hg (fun e => h1.k.n1 (ho _ e))
  have hAo := h1.k.o.off (Nat.lt_succ_self _)
  have hn' : A' ≠ some ⟨w.heap.size + 1 + 1, 0, none⟩ := by
    rcases hA with rfl | rfl
    · exact h1.k.n1
    · intro e; injection e with e; injection e with e; simp at e; omega
  have hm2 : NRow W2 (w.heap.size + 1 + 1 + 1) A2 c2 b.ms := h1.k.o.m.far hg (fun g e e' => h1.k.o.d g (ho g e') e)
  have hd' : ∀ g, A' = some ⟨g, 0, none⟩ → A2 ≠ some ⟨g, 0, none⟩ := fun g e e' => by
    rcases hA with rfl | rfl
    · exact h1.k.o.d g e e'
    · rcases h1.k.o.m.form with ⟨e2, _⟩ | ⟨g2, e2, _, hl2, _⟩
      · rw [e2] at e'; cases e'
      · rw [e2] at e'
        injection e with e
        injection e with e
        injection e' with e'
        injection e' with e'
        omega
  have hgs := grownBy_one W2 (w.heap.size + 1 + 1) 1 (.slice A' (b.zs.length + 1) cap')
  have hlen : (b.zs ++ [z]).length = b.zs.length + 1 := by simp
  refine ⟨A', cap', W2, hrun, ha2.c1, ha2.fr 1, ?_⟩
  have hk : BkB (W2.setCell ⟨w.heap.size + 1 + 1, 1, none⟩ (.slice A' (b.zs.length + 1) cap')) (w.heap.size + 1 + 1 + 1) (w.heap.size + 1 + 1) A' cap' A2 c2 { b with zs := b.zs ++ [z] } := by
    have hs := ha2.set1 A' cap' (b.zs ++ [z])
    rw [hlen] at hs
    exact ⟨hs, ⟨hrow.far hgs (fun g e e' => hn' (by injection e' with e'; rw [e, e'])), hm2.far hgs (fun g e e' => h1.k.n2 (by injection e' with e'; rw [e, e'])), hd', (by show (b.zs ++ [z]).length ≤ 64; omega), h1.k.o.ml⟩, hn', h1.k.n2⟩
  have hb : ∀ k, k < w.heap.size + 1 + 1 → (W2.setCell ⟨w.heap.size + 1 + 1, 1, none⟩ (.slice A' (b.zs.length + 1) cap')).heap[k]? = (W.alloc (.cells #[.int .i64 z.p, .int .i64 z.g, .int .i64 z.s] 69)).heap[k]? := fun k hk => by
    have hs1 := h1.lt
    rw [hgs.block k (by have := hg.size; omega) (by simp; omega), hg.block k (by omega) (fun e => hAo.1 (by
      have := ho k e.symm
      have h3 : w.heap.size + 1 + 1 + 1 ≤ k := by
        rcases h1.k.o.z.form with ⟨e2, _⟩ | ⟨g2, e2, hge, _⟩
        · rw [e2] at this; cases this
        · rw [e2] at this; injection this with this; injection this with this; omega
      omega))]
  exact ⟨h1.g.of (hb _ (by omega)) (Nat.le_trans hg.size hgs.size), h1.o.of (hb _ (by omega)), hk, ⟨hgs.os.trans (hg.os.trans h1.bw.os), hgs.tape.trans (hg.tape.trans h1.bw.tape), hgs.output.trans (hg.output.trans h1.bw.output), Nat.le_trans h1.bw.size (Nat.le_trans hg.size hgs.size), fun k hk => (hb k (by omega)).trans (h1.bw.block k hk)⟩⟩
set_option maxRecDepth 100000 in
theorem NewW.mem (h : NewW w W D Z B O A A1 c1 A2 c2 b) (z : Int) (hl : b.ms.length < 64) :
    ∃ A' cap' W2, (Builtin.append_ #[26, 26] 26 #[.slice A2 b.ms.length c2, .slice (some ⟨W.heap.size, 0, none⟩) 1 1]).run Try.prog (W.alloc (.cells #[.int .i64 z] 3)) = .ok (.slice A' (b.ms.length + 1) cap') W2 ∧
      W2.cell? ⟨w.heap.size + 1 + 1, 2, none⟩ = some (.slice A2 b.ms.length c2) ∧ W2.frozen? ⟨w.heap.size + 1 + 1, 2, none⟩ = false ∧
      NewW w (W2.setCell ⟨w.heap.size + 1 + 1, 2, none⟩ (.slice A' (b.ms.length + 1) cap')) D Z B O A A1 c1 A' cap' { b with ms := b.ms ++ [z] } := by
  have hlt := h.lt
  have h1 := h.below (W' := W.alloc (.cells #[.int .i64 z] 3)) ((Below.refl _ _).alloc (Nat.le_refl _) _)
  obtain ⟨A', cap', W2, hrun, hrow, hg, hA⟩ := h1.k.o.m.append (m := W.heap.size) (z := z) (by go_simp) (by omega) (by simp; omega)
  have ho : ∀ k, (Value.slice A2 b.ms.length c2).ownBlock = some k → A2 = some ⟨k, 0, none⟩ := fun k e => by
    rcases h1.k.o.m.form with ⟨rfl, _⟩ | ⟨g, rfl, _⟩
    · simp [Value.ownBlock] at e
    · simp only [Value.ownBlock, Option.some.injEq] at e
      rw [e]
  have ha2 := h1.k.a.far hg (fun e => h1.k.n2 (ho _ e))
  have hAo := h1.k.o.off (Nat.lt_succ_self _)
  have hn' : A' ≠ some ⟨w.heap.size + 1 + 1, 0, none⟩ := by
    rcases hA with rfl | rfl
    · exact h1.k.n2
    · intro e; injection e with e; injection e with e; simp at e; omega
  have hm2 : zoE.Row W2 (w.heap.size + 1 + 1 + 1) 69 A1 c1 b.zs := h1.k.o.z.far hg (fun g e e' => h1.k.o.d g e (ho g e'))
  have hd' : ∀ g, A1 = some ⟨g, 0, none⟩ → A' ≠ some ⟨g, 0, none⟩ := fun g e e' => by
    rcases hA with rfl | rfl
    · exact h1.k.o.d g e e'
    · rcases h1.k.o.z.form with ⟨e2, _⟩ | ⟨g2, e2, _, hl2, _⟩
      · rw [e2] at e; cases e
      · rw [e2] at e
        injection e with e
        injection e with e
        injection e' with e'
        injection e' with e'
        omega
  have hgs := grownBy_one W2 (w.heap.size + 1 + 1) 2 (.slice A' (b.ms.length + 1) cap')
  have hlen : (b.ms ++ [z]).length = b.ms.length + 1 := by simp
  refine ⟨A', cap', W2, hrun, ha2.c2, ha2.fr 2, ?_⟩
  have hk : BkB (W2.setCell ⟨w.heap.size + 1 + 1, 2, none⟩ (.slice A' (b.ms.length + 1) cap')) (w.heap.size + 1 + 1 + 1) (w.heap.size + 1 + 1) A1 c1 A' cap' { b with ms := b.ms ++ [z] } := by
    have hs := ha2.set2 A' cap' (b.ms ++ [z])
    rw [hlen] at hs
    exact ⟨hs, ⟨hm2.far hgs (fun g e e' => h1.k.n1 (by injection e' with e'; rw [e, e'])), hrow.far hgs (fun g e e' => hn' (by injection e' with e'; rw [e, e'])), hd', h1.k.o.zl, (by show (b.ms ++ [z]).length ≤ 64; omega)⟩, h1.k.n1, hn'⟩
  have hb : ∀ k, k < w.heap.size + 1 + 1 → (W2.setCell ⟨w.heap.size + 1 + 1, 2, none⟩ (.slice A' (b.ms.length + 1) cap')).heap[k]? = (W.alloc (.cells #[.int .i64 z] 3)).heap[k]? := fun k hk => by
    have hs1 := h1.lt
    rw [hgs.block k (by have := hg.size; omega) (by simp; omega), hg.block k (by omega) (fun e => hAo.2 (by
      have := ho k e.symm
      have h3 : w.heap.size + 1 + 1 + 1 ≤ k := by
        rcases h1.k.o.m.form with ⟨e2, _⟩ | ⟨g2, e2, hge, _⟩
        · rw [e2] at this; cases this
        · rw [e2] at this; injection this with this; injection this with this; omega
      omega))]
  exact ⟨h1.g.of (hb _ (by omega)) (Nat.le_trans hg.size hgs.size), h1.o.of (hb _ (by omega)), hk, ⟨hgs.os.trans (hg.os.trans h1.bw.os), hgs.tape.trans (hg.tape.trans h1.bw.tape), hgs.output.trans (hg.output.trans h1.bw.output), Nat.le_trans h1.bw.size (Nat.le_trans hg.size hgs.size), fun k hk => (hb k (by omega)).trans (h1.bw.block k hk)⟩⟩
end
end Go.Proofs.Ytdjdldcpaidmnaa
namespace Go.Proofs.Ytdjdldcpaidmnaa
open Go.RowKit Rec Bk
def nilBk : Bo := ⟨0, [], [], -1, 0⟩
theorem newW_start (w : World) (D Z B O A : Int) :
    NewW w (((w.alloc (.cells #[.int .i64 D, .int .i64 Z, .int .i64 B, .int .i64 O, .int .i64 A] 30)).alloc (.cells #[.int .i64 0, .slice none 0 0, .slice none 0 0, .int .i64 0, .int .i64 0] 58)).alloc (.cells #[.int .i64 0, .slice none 0 0, .slice none 0 0, .int .i64 (-1), .int .i64 0] 58)) D Z B O A none 0 none 0 nilBk := by
  have h1 := GzAt.new w D Z B O A 30
  generalize hW1 : w.alloc _ = W1 at h1 ⊢
  have e1 : W1.heap.size = w.heap.size + 1 := by rw [← hW1, World.size_alloc]
  have hb1 : Below w.heap.size w W1 := by rw [← hW1]; exact (Below.refl _ _).alloc (Nat.le_refl _) _
  have h2 := BkAt.new W1 none 0 none 0 noB 58
  have h2' : BkAt (W1.alloc (.cells #[.int .i64 0, .slice none 0 0, .slice none 0 0, .int .i64 0, .int .i64 0] 58)) W1.heap.size none 0 none 0 noB := h2
  clear h2
  generalize hW2 : W1.alloc _ = W2 at h2' ⊢
  have e2 : W2.heap.size = w.heap.size + 1 + 1 := by rw [← hW2, World.size_alloc, e1]
  have hb2 : Below W1.heap.size W1 W2 := by rw [← hW2]; exact (Below.refl _ _).alloc (Nat.le_refl _) _
  have h3 : BkAt (W2.alloc (.cells #[.int .i64 0, .slice none 0 0, .slice none 0 0, .int .i64 (-1), .int .i64 0] 58)) W2.heap.size none 0 none 0 nilBk := BkAt.new W2 none 0 none 0 nilBk 58
  generalize hW3 : W2.alloc _ = W3 at h3 ⊢
  have hb3 : Below W2.heap.size W2 W3 := by rw [← hW3]; exact (Below.refl _ _).alloc (Nat.le_refl _) _
  rw [e1] at h2'
  rw [e2] at h3
  exact ⟨(h1.below hb2).below hb3, h2'.below hb3, ⟨h3, ⟨Enc.Row.nil _ _ _, NRow.nil _ _, (fun g e => by cases e), by decide, by decide⟩, (by intro e; cases e), (by intro e; cases e)⟩, (hb1.trans (hb2.mono hb1.size)).trans (hb3.mono (by omega))⟩
def newOf (D Z B O A : Int) : Bo := if goodB D Z B O A = true then newBk (Z - 3).toNat D.toNat else nilBk
set_option maxRecDepth 100000 in
set_option maxHeartbeats 2000000 in
theorem new_anyB (w : World) (D Z B O A : Int) : Calls Try.prog 18 #[.agg #[.int .i64 D, .int .i64 Z, .int .i64 B, .int .i64 O, .int .i64 A]] w (BPost w (newOf D Z B O A)) := by
  have hg := Lib.hid (fun W => good_any D Z B O A W)
  have hz := Lib.hid (fun W => gz_any D Z B O A W)
  have hst := Lib.hid (newW_start w D Z B O A)
  unfold newOf
  unfold gzV at hz
  by_cases hgd : goodB D Z B O A = true
  case neg =>
    rw [if_neg hgd]
    rw [Bool.not_eq_true] at hgd
    rw [hgd] at hg
    clear hgd hz
    generalize hnb : nilBk = b at hst ⊢
    have hnH := Lib.hid hnb
    clear hnb
    go_enter Try.func18, Try.ntmps18
    go_wp2_with fail
    refine fresh_C (fun W => NewW w W D Z B O A none 0 none 0 b) hst.out ?_
    clear hst
    rintro W hN
    have hNH := Lib.hid hN
    refine (hg.out _).mono ?_
    rintro e w1 ⟨rfl, hb1⟩
    have hN1 := hNH.out.below hb1
    have hout := Lib.hid (book_out hN1.o hN1.k.o (show w.heap.size + 1 < w.heap.size + 1 + 1 + 1 by omega) (show w.heap.size ≤ w.heap.size + 1 by omega) hN1.bw)
    obtain ⟨b0, b1, b2, b3, b4, bf⟩ := hN1.k.a
    obtain ⟨y0, y1, y2, y3, y4, yf⟩ := hN1.o
    clear hN hNH hN1 hb1 hg
    go_wp2_with fail
    refine fresh_post (fun W => BkAt W (w.heap.size + 1) none 0 none 0 b ∧ BkO W w.heap.size none 0 none 0 b ∧ Below w.heap.size w W) hout.out ?_
    rintro W10 ⟨⟨z0, z1, z2, z3, z4, _⟩, hO10, hb10⟩
    refine bodyPost_ret (v := .agg #[.int .i64 b.q, .slice none b.zs.length 0, .slice none b.ms.length 0, .int .i64 b.sl, .int .i64 b.cu]) (by simp [results, Try.results18, go_sem, z0, z1, z2, z3, z4]) rfl ⟨none, 0, none, 0, rfl, hO10, hb10⟩
  case pos =>
    rw [if_pos hgd] at hz ⊢
    obtain ⟨g1, g2, g3, g4, _⟩ := goodB_iff.1 hgd
    rw [hgd] at hg
    obtain ⟨n, hn⟩ : ∃ n : Nat, Z - 3 = (n : Int) := ⟨(Z - 3).toNat, by omega⟩
    obtain ⟨m, rfl⟩ : ∃ m : Nat, D = (m : Int) := ⟨D.toNat, by omega⟩
    rw [hn] at hz
    rw [hn, Int.toNat_natCast, Int.toNat_natCast]
    have hn61 : n ≤ 61 := by omega
    have hm16 : m ≤ 16 := by omega
    clear hgd hn g1 g2 g3 g4
    obtain ⟨b', hb'⟩ : ∃ b', b' = newBk n m := ⟨_, rfl⟩
    rw [← hb']
    have hbH := Lib.hid hb'
    clear hb'
    go_enter Try.func18, Try.ntmps18
    go_wp2_with fail
    refine fresh_C (fun W => NewW w W (m : Int) Z B O A none 0 none 0 nilBk) hst.out ?_
    clear hst
    rintro W hN
    have hNH := Lib.hid hN
    refine (hg.out _).mono ?_
    rintro e w1 ⟨rfl, hb1⟩
    have hN1 := hNH.out.below hb1
    obtain ⟨y0, y1, y2, y3, y4, yf⟩ := hN1.g
    have hN1H := Lib.hid hN1
    clear hN hNH hN1 hb1 hg
    go_wp2_with fail
    refine (hz.out _).mono ?_
    rintro e w2 ⟨rfl, hb2⟩
    have hN2 := hN1H.out.below hb2
    have hN2H := Lib.hid hN2
    clear y0 y1 y2 y3 y4 yf hN1H hb2 hN2 hz
    go_wp2_with fail
    go_loopw [13] (fun i wr => ∃ (k : Nat) (A1 : Option Addr) (c1 : Nat), k ≤ n ∧ i = .int .i64 (k : Int) ∧ NewW w wr (m : Int) Z B O A A1 c1 none 0 ⟨0, newZ k, [], -1, 0⟩) (fun i _ => n - (intOf i).toNat)
    case atStart => exact ⟨0, none, 0, Nat.zero_le _, rfl, hN2H.out⟩
    case round =>
      clear hN2H
      obtain ⟨k, A1, c1, hkn, rfl, hN⟩ := hrel
      have hlen := newZ_len k
      by_cases hlt : k < n
      · obtain ⟨A', cap', W2, hrun, hc1, hf1, hN'⟩ := hN.zone ⟨(k : Int) + 2, 1, 0⟩ (by show (newZ k).length < 64; omega)
        have b1 := hN.k.a.c1
        dsimp only at hrun hc1 hN' b1
        rw [hlen] at hrun hc1 hN' b1
        rw [← newZ_succ] at hN'
        have hrunH := Lib.hid hrun
        have hNH := Lib.hid hN'
        have hkw : IntKind.i64.wrap ((k : Int) + 1) = (k : Int) + 1 := IntWalk.i64_in _ (by omega)
        clear hrun hN' hN hlen
        go_wp2_with (at_builtin; refine append_run_wp (by first | rfl | (simp [Region.wanted, yielded])) (.tmp 17) (.tmp 21) 56 rfl rfl rfl hrunH.out ?_; clear hrunH b1)
        go_roundw
        case rel => exact ⟨k + 1, A', cap', by omega, by go_num, hNH.out⟩
        case measure => simp only [intOf]; omega
      · obtain rfl : k = n := by omega
        obtain ⟨y0, y1, y2, y3, y4, yf⟩ := hN.g
        have hNH := Lib.hid hN
        clear hN hlt
        go_wp2_with fail
        go_loopw [27] (fun i wr => ∃ (j : Nat) (A2 : Option Addr) (c2 : Nat), j ≤ m ∧ i = .int .i64 (j : Int) ∧ NewW w wr (m : Int) Z B O A A1 c1 A2 c2 ⟨0, newZ k, newMs j, -1, 0⟩) (fun i _ => m - (intOf i).toNat)
        case atStart => exact ⟨0, none, 0, Nat.zero_le _, rfl, hNH.out⟩
        case round =>
          clear hNH y0 y1 y2 y3 y4 yf
          obtain ⟨j, A2, c2, hjm, rfl, hN⟩ := hrel
          have hlen2 := newMs_len j
          by_cases hlt : j < m
          · obtain ⟨A', cap', W2, hrun, hc1, hf1, hN'⟩ := hN.mem (j : Int) (by show (newMs j).length < 64; omega)
            have b1 := hN.k.a.c2
            dsimp only at hrun hc1 hN' b1
            rw [hlen2] at hrun hc1 hN' b1
            rw [← newMs_succ] at hN'
            have hrunH := Lib.hid hrun
            have hNH := Lib.hid hN'
            have hkw : IntKind.i64.wrap ((j : Int) + 1) = (j : Int) + 1 := IntWalk.i64_in _ (by omega)
            clear hrun hN' hN hlen hlen2
            go_wp2_with (at_builtin; refine append_run_wp (by first | rfl | (simp [Region.wanted, yielded])) (.tmp 31) (.tmp 33) 26 rfl rfl rfl hrunH.out ?_; clear hrunH b1)
            go_roundw
            case rel => exact ⟨j + 1, A', cap', by omega, by go_num, hNH.out⟩
            case measure => simp only [intOf]; omega
          · obtain rfl : j = m := by omega
            have e : (⟨0, newZ k, newMs j, -1, 0⟩ : Bo) = b' := hbH.out.symm
            rw [e] at hN
            have hout := Lib.hid (book_out hN.o hN.k.o (show w.heap.size + 1 < w.heap.size + 1 + 1 + 1 by omega) (show w.heap.size ≤ w.heap.size + 1 by omega) hN.bw)
            obtain ⟨b0, b1, b2, b3, b4, bf⟩ := hN.k.a
            obtain ⟨y0, y1, y2, y3, y4, yf⟩ := hN.o
            clear hN e hlt hlen hlen2
            go_wp2_with fail
            refine fresh_post (fun W => BkAt W (w.heap.size + 1) A1 c1 A2 c2 b' ∧ BkO W w.heap.size A1 c1 A2 c2 b' ∧ Below w.heap.size w W) hout.out ?_
            rintro W10 ⟨⟨z0, z1, z2, z3, z4, _⟩, hO10, hb10⟩
            refine bodyPost_ret (v := .agg #[.int .i64 b'.q, .slice A1 b'.zs.length c1, .slice A2 b'.ms.length c2, .int .i64 b'.sl, .int .i64 b'.cu]) (by simp [results, Try.results18, go_sem, z0, z1, z2, z3, z4]) rfl ⟨A1, c1, A2, c2, rfl, hO10, hb10⟩
end Go.Proofs.Ytdjdldcpaidmnaa
