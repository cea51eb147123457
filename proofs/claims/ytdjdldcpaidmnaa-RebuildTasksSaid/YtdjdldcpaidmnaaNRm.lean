/- Rows of records grow. -/
import Derived.Test.YtdjdldcpaidmnaaNBt
import Derived.Test.YtdjdldcpaidmnaaNRr
namespace Go.Proofs.Ytdjdldcpaidmnaa
open Go.RowKit Rec Bk
theorem flatR_set : ∀ (rs : List Rc) (i : Nat) (h : i < rs.length) (v : Int), flatR (rs.set i { rs[i] with s := v }) = (flatR rs).set (i * 7 + 1) (.int .i64 v)
  | r :: rs, 0, _, v => by
    show ({ r with s := v } : Rc).cellsL ++ flatR rs = (r.cellsL ++ flatR rs).set (0 * 7 + 1) _
    rw [List.set_append_left _ _ (by show 0 * 7 + 1 < 7; omega)]
    rfl
  | r :: rs, i + 1, h, v => by
    have ih := flatR_set rs i (by simpa using h) v
    show r.cellsL ++ flatR (rs.set i _) = (r.cellsL ++ flatR rs).set ((i + 1) * 7 + 1) _
    rw [List.set_append_right _ _ (by show 7 ≤ (i + 1) * 7 + 1; omega), show (i + 1) * 7 + 1 - r.cellsL.length = i * 7 + 1 by show (i + 1) * 7 + 1 - 7 = _; omega, ← ih]
    rfl
theorem RRow.set_s {W : World} {base cap g : Nat} {t : TypeId} {rs : List Rc} (h : RRow W base t (some ⟨g, 0, none⟩) cap rs) {i : Nat} (hi : i < rs.length) (v : Int) :
    RRow (W.setCell ⟨g, i * 7 + 1, none⟩ (.int .i64 v)) base t (some ⟨g, 0, none⟩) cap (rs.set i { rs[i] with s := v }) := by
  unfold RRow
  rw [List.length_set, flatR_set rs i hi v]
  exact (h.stored (i * 7 + 1) (.int .i64 v)).1
theorem RRow.far {W W' : World} {base cap : Nat} {t : TypeId} {A : Option Addr} {rs : List Rc} {o : Option Nat} (h : RRow W base t A cap rs) (hg : W.grownBy W' o) (hne : ∀ g, A = some ⟨g, 0, none⟩ → o ≠ some g) : RRow W' base t A cap rs := by
  refine World.ownsRow.kept h hg ?_
  rcases h.form with ⟨rfl, _⟩ | ⟨g, rfl, _⟩
  · left; rfl
  · right; intro e; exact hne g rfl e.symm
theorem RRow.mono {W : World} {base base' cap : Nat} {t : TypeId} {A : Option Addr} {rs : List Rc} (h : RRow W base t A cap rs) (hb : base' ≤ base) : RRow W base' t A cap rs := by
  refine ⟨h.1, ?_⟩
  rcases h.2 with hn | ⟨g, cap', cur, hv, hg, rest⟩
  · exact .inl hn
  · exact .inr ⟨g, cap', cur, hv, Nat.le_trans hb hg, rest⟩
theorem infoRec2 : (Try.prog.info? 62).map (fun i => (i.zero.map (·.cells.size), i.size, i.bytes)) = some (some 7, 7, 64) := by kernel_rfl
theorem RRow.app {W : World} {base cap : Nat} {A : Option Addr} {rs : List Rc} (hr : RRow W base 62 A cap rs) {m : Nat} {r : Rc} (hm : RcAt W m r) (hl : rs.length ≤ 1000000) (hb : base ≤ W.heap.size) :
    ∃ A' cap' W', (Builtin.append_ #[63, 63] 63 #[.slice A rs.length cap, .slice (some ⟨m, 0, none⟩) 1 1]).run Try.prog W = .ok (.slice A' (rs.length + 1) cap') W' ∧ RRow W' base 62 A' cap' (rs ++ [r]) ∧
      W.grownBy W' (Value.slice A rs.length cap).ownBlock ∧ (A' = A ∨ A' = some ⟨W.heap.size, 0, none⟩) := by
  have hinfo := infoRec2
  rw [Option.map_eq_some_iff] at hinfo
  obtain ⟨i, hi, he⟩ := hinfo
  simp only [Prod.mk.injEq, Option.map_eq_some_iff] at he
  obtain ⟨⟨z0, hz, hzs⟩, hs, hby⟩ := he
  exact append_rec (P := Try.prog) Try.underlying63 hi hz hs hby hzs hr hm hl hb 63
/-- The world within Records. -/
structure RecW (w W : World) (A1 : Option Addr) (c1 : Nat) (A2 : Option Addr) (c2 : Nat) (b : Bo) (A : Option Addr) (cap : Nat) (rs : List Rc) : Prop where
  a : BkAt W w.heap.size A1 c1 A2 c2 b
  i : BkIn W A1 c1 A2 c2 b
  o : BkAt W (w.heap.size + 1) none 0 none 0 noB
  r : RRow W (w.heap.size + 1 + 1) 62 A cap rs
  n1 : ∀ g off, A1 = some ⟨g, off, none⟩ → g < w.heap.size ∨ b.zs = []
  n2 : ∀ g off, A2 = some ⟨g, off, none⟩ → g < w.heap.size ∨ b.ms = []
  bw : Below w.heap.size w W
theorem RecW.below {w W W' : World} {A1 : Option Addr} {c1 : Nat} {A2 : Option Addr} {c2 : Nat} {b : Bo} {A : Option Addr} {cap : Nat} {rs : List Rc} (h : RecW w W A1 c1 A2 c2 b A cap rs) (hb : Below W.heap.size W W') : RecW w W' A1 c1 A2 c2 b A cap rs :=
  ⟨h.a.below hb, h.i.below hb, h.o.below hb, h.r.below hb, h.n1, h.n2, h.bw.trans (hb.mono h.bw.size)⟩
theorem RRow.cell {W : World} {base cap : Nat} {t : TypeId} {A : Option Addr} {rs : List Rc} (h : RRow W base t A cap rs) {k : Nat} (hk : (Value.slice A rs.length cap).ownBlock = some k) : base ≤ k ∧ A = some ⟨k, 0, none⟩ := by
  rcases h.form with ⟨rfl, _⟩ | ⟨g, rfl, hg, _⟩
  · simp [Value.ownBlock] at hk
  · simp only [Value.ownBlock, Option.some.injEq] at hk
    exact ⟨by omega, by rw [hk]⟩
theorem RecW.app {w W : World} {A1 : Option Addr} {c1 : Nat} {A2 : Option Addr} {c2 : Nat} {b : Bo} {A : Option Addr} {cap : Nat} {rs : List Rc} (h : RecW w W A1 c1 A2 c2 b A cap rs) (x : Rc) (hl : rs.length ≤ 1000) :
    ∃ A' cap' W2, (Builtin.append_ #[63, 63] 63 #[.slice A rs.length cap, .slice (some ⟨W.heap.size, 0, none⟩) 1 1]).run Try.prog (W.alloc (.cells #[.int .i64 x.k, .int .i64 x.s, .int .i64 x.a, .int .i64 x.b, .int .i64 x.c, .int .i64 x.d, .string x.body] 62)) = .ok (.slice A' (rs.length + 1) cap') W2 ∧
      RecW w W2 A1 c1 A2 c2 b A' cap' (rs ++ [x]) := by
  have hlt := h.o.lt
  have h1 := h.below (W' := W.alloc (.cells #[.int .i64 x.k, .int .i64 x.s, .int .i64 x.a, .int .i64 x.b, .int .i64 x.c, .int .i64 x.d, .string x.body] 62)) ((Below.refl _ _).alloc (Nat.le_refl _) _)
  obtain ⟨A', cap', W2, hrun, hrow, hg, hA⟩ := h1.r.app (RcAt.new W x _) (by omega) (by simp; omega)
  have hw := h.bw.size
  have hkeep : ∀ k, k < w.heap.size + 1 + 1 → W2.heap[k]? = (W.alloc (.cells #[.int .i64 x.k, .int .i64 x.s, .int .i64 x.a, .int .i64 x.b, .int .i64 x.c, .int .i64 x.d, .string x.body] 62)).heap[k]? := fun k hk => by
    refine hg.block k (by simp; omega) (fun e => ?_)
    have := (h1.r.cell e.symm).1
    omega
  have hz : zoE.In W2 A1 b.zs := by
    rcases h1.i.z with h0 | ⟨g, off, e, hgl, hc⟩
    · exact .inl h0
    · rcases h1.n1 g off e with hn | hn
      · exact .inr ⟨g, off, e, Nat.lt_of_lt_of_le hgl hg.size, fun i hi j hj => (World.cell?_of_block (a := ⟨g, _, none⟩) (hkeep g (by omega))).trans (hc i hi j hj)⟩
      · exact .inl hn
  have hm : IntsIn W2 A2 b.ms := by
    rcases h1.i.m with h0 | ⟨g, off, e, hgl, hc⟩
    · exact .inl h0
    · rcases h1.n2 g off e with hn | hn
      · exact .inr ⟨g, off, e, Nat.lt_of_lt_of_le hgl hg.size, fun i hi => (World.cell?_of_block (a := ⟨g, _, none⟩) (hkeep g (by omega))).trans (hc i hi)⟩
      · exact .inl hn
  exact ⟨A', cap', W2, hrun, h1.a.of (hkeep _ (by omega)), ⟨hz, hm, h1.i.n1, h1.i.n2, h1.i.zl, h1.i.ml⟩, h1.o.of (hkeep _ (by omega)), hrow, h1.n1, h1.n2, ⟨hg.os.trans h1.bw.os, hg.tape.trans h1.bw.tape, hg.output.trans h1.bw.output, Nat.le_trans h1.bw.size hg.size, fun k hk => (hkeep k (by omega)).trans (h1.bw.block k hk)⟩⟩
theorem recW_start (w : World) (A1 : Option Addr) (c1 : Nat) (A2 : Option Addr) (c2 : Nat) (b : Bo) (h : BkIn w A1 c1 A2 c2 b) :
    RecW w ((w.alloc (.cells #[.int .i64 b.q, .slice A1 b.zs.length c1, .slice A2 b.ms.length c2, .int .i64 b.sl, .int .i64 b.cu] 58)).alloc (.cells #[.int .i64 0, .slice none 0 0, .slice none 0 0, .int .i64 0, .int .i64 0] 58)) A1 c1 A2 c2 b none 0 [] := by
  have h1 := BkAt.new w A1 c1 A2 c2 b 58
  generalize hW1 : w.alloc _ = W1 at h1 ⊢
  have e1 : W1.heap.size = w.heap.size + 1 := by rw [← hW1, World.size_alloc]
  have hb1 : Below w.heap.size w W1 := by rw [← hW1]; exact (Below.refl _ _).alloc (Nat.le_refl _) _
  have h2 : BkAt (W1.alloc (.cells #[.int .i64 0, .slice none 0 0, .slice none 0 0, .int .i64 0, .int .i64 0] 58)) W1.heap.size none 0 none 0 noB := BkAt.new W1 none 0 none 0 noB 58
  generalize hW2 : W1.alloc _ = W2 at h2 ⊢
  have hb2 : Below W1.heap.size W1 W2 := by rw [← hW2]; exact (Below.refl _ _).alloc (Nat.le_refl _) _
  rw [e1] at h2
  have hb := hb1.trans (hb2.mono hb1.size)
  refine ⟨h1.below hb2, h.below hb, h2, RRow.nil _ _ _, fun g off e => ?_, fun g off e => ?_, hb⟩
  · rcases h.z with h0 | ⟨g', off', e', hl, _⟩
    · exact .inr h0
    · rw [e] at e'; injection e' with e'; injection e' with e'; exact .inl (by omega)
  · rcases h.m with h0 | ⟨g', off', e', hl, _⟩
    · exact .inr h0
    · rw [e] at e'; injection e' with e'; injection e' with e'; exact .inl (by omega)
end Go.Proofs.Ytdjdldcpaidmnaa
