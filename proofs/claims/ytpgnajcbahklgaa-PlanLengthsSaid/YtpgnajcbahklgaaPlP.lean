/- What parity of plan does: the step behind a row's piece. -/
import Derived.Test.YtpgnajcbahklgaaPlD
namespace Go.Proofs.Ytpgnajcbahklgaa
open Go.RowKit Pl Tl

/-- A step in a box. -/
def StAt (W : World) (g : Nat) (s : St) : Prop := W.cell? ⟨g, 0, none⟩ = some (.int .i64 s.k) ∧ W.cell? ⟨g, 1, none⟩ = some (.int .i64 s.s) ∧ W.cell? ⟨g, 2, none⟩ = some (.int .i64 s.r) ∧ W.cell? ⟨g, 3, none⟩ = some (.int .i64 s.b) ∧ W.cell? ⟨g, 4, none⟩ = some (.int .i64 s.c) ∧ ∀ j, W.frozen? ⟨g, j, none⟩ = false
theorem StAt.lt {W : World} {g : Nat} {s : St} (h : StAt W g s) : g < W.heap.size := lt_of_cell h.1
theorem StAt.below {W W' : World} {g : Nat} {s : St} (h : StAt W g s) (hb : Below W.heap.size W W') : StAt W' g s := by
  have hl := h.lt
  obtain ⟨h0, h1, h2, h3, h4, hf⟩ := h
  exact ⟨(hb.cell (p := ⟨g, 0, none⟩) hl).trans h0, (hb.cell (p := ⟨g, 1, none⟩) hl).trans h1, (hb.cell (p := ⟨g, 2, none⟩) hl).trans h2, (hb.cell (p := ⟨g, 3, none⟩) hl).trans h3, (hb.cell (p := ⟨g, 4, none⟩) hl).trans h4, fun j => (hb.frozen (p := ⟨g, j, none⟩) hl).trans (hf j)⟩
theorem StAt.block {W W' : World} {g : Nat} {s : St} (h : StAt W g s) (hb : W'.heap[g]? = W.heap[g]?) : StAt W' g s := by
  obtain ⟨h0, h1, h2, h3, h4, hf⟩ := h
  exact ⟨(World.cell?_of_block (a := ⟨g, 0, none⟩) hb).trans h0, (World.cell?_of_block (a := ⟨g, 1, none⟩) hb).trans h1, (World.cell?_of_block (a := ⟨g, 2, none⟩) hb).trans h2, (World.cell?_of_block (a := ⟨g, 3, none⟩) hb).trans h3, (World.cell?_of_block (a := ⟨g, 4, none⟩) hb).trans h4, fun j => (World.frozen?_of_block (a := ⟨g, j, none⟩) hb).trans (hf j)⟩
theorem StAt.new (W : World) (t : TypeId) : StAt (W.alloc (.cells #[.int .i64 0, .int .i64 0, .int .i64 0, .int .i64 0, .int .i64 0] t)) W.heap.size st0 := ⟨by go_simp; rfl, by go_simp; rfl, by go_simp; rfl, by go_simp; rfl, by go_simp; rfl, fun j => by simp⟩
theorem StAt.put {W : World} {g : Nat} {s : St} (h : StAt W g s) (o : Nat) (v : Int) : StAt (W.setCell ⟨g, o, none⟩ (.int .i64 v)) g ⟨if o = 0 then v else s.k, if o = 1 then v else s.s, if o = 2 then v else s.r, if o = 3 then v else s.b, if o = 4 then v else s.c⟩ := by
  have hc : ∀ j u, W.cell? ⟨g, j, none⟩ = some (.int .i64 u) → (W.setCell ⟨g, o, none⟩ (.int .i64 v)).cell? ⟨g, j, none⟩ = some (.int .i64 (if o = j then v else u)) := fun j u hu => by
    by_cases e : o = j
    · subst e
      rw [if_pos rfl]
      exact World.cell?_setCell_same' _ _ _ (by rw [hu]; rfl)
    · rw [if_neg e]
      exact (World.cell?_setCell_other _ _ _ _ (by intro e'; injection e' with _ e'; exact e e')).trans hu
  obtain ⟨h0, h1, h2, h3, h4, hf⟩ := h
  refine ⟨hc 0 _ h0, hc 1 _ h1, hc 2 _ h2, hc 3 _ h3, hc 4 _ h4, fun j => ?_⟩
  have := hf j
  simpa using this
theorem heap_set {W : World} {g : Nat} {cs : Array Value} {t : TypeId} {m : Nat × Nat} (h : W.heap[g]? = some (.cells cs t m)) (i : Nat) (v : Value) : (W.setCell ⟨g, i, none⟩ v).heap[g]? = some (.cells (cs.setIfInBounds i v) t m) := by
  rw [setCell_eq_setRow W g i cs t m v h]
  exact setRow_heap W g _ _ t m h
/-- A step's box, whole. -/
def StR (W : World) (g : Nat) (s : St) : Prop := W.heap[g]? = some (.cells #[.int .i64 s.k, .int .i64 s.s, .int .i64 s.r, .int .i64 s.b, .int .i64 s.c] 76 (0, 0))
theorem StR.lt {W : World} {g : Nat} {s : St} (h : StR W g s) : g < W.heap.size := (Array.getElem?_eq_some_iff.1 h).1
theorem StR.below {W W' : World} {g : Nat} {s : St} (h : StR W g s) (hb : Below W.heap.size W W') : StR W' g s := (hb.block g h.lt).trans h
theorem StR.new (W : World) : StR (W.alloc (.cells #[.int .i64 0, .int .i64 0, .int .i64 0, .int .i64 0, .int .i64 0] 76)) W.heap.size st0 := heap_alloc_new W _
theorem StR.at_ {W : World} {g : Nat} {s : St} (h : StR W g s) : StAt W g s :=
  ⟨cell_of_row W g 0 _ _ _ h, cell_of_row W g 1 _ _ _ h, cell_of_row W g 2 _ _ _ h, cell_of_row W g 3 _ _ _ h, cell_of_row W g 4 _ _ _ h, fun j => by simp [World.frozen?, show W.heap[g]? = _ from h]⟩
theorem StR.put {W : World} {g : Nat} {s : St} (h : StR W g s) (x : St) :
    StR (((((W.setCell ⟨g, 0, none⟩ (.int .i64 x.k)).setCell ⟨g, 1, none⟩ (.int .i64 x.s)).setCell ⟨g, 2, none⟩ (.int .i64 x.r)).setCell ⟨g, 3, none⟩ (.int .i64 x.b)).setCell ⟨g, 4, none⟩ (.int .i64 x.c)) g x := by
  have := heap_set (heap_set (heap_set (heap_set (heap_set h 0 (.int .i64 x.k)) 1 (.int .i64 x.s)) 2 (.int .i64 x.r)) 3 (.int .i64 x.b)) 4 (.int .i64 x.c)
  unfold StR
  rw [this]
  rfl
/-- The three boxes of parity: the geometry, the piece, the result. -/
structure PtW (w W : World) (D Z B O A : Int) (q f c : Int) : Prop where
  g : GeoAt W w.heap.size D Z B O A
  p0 : W.cell? ⟨w.heap.size + 1, 0, none⟩ = some (.int .i64 q)
  p1 : W.cell? ⟨w.heap.size + 1, 1, none⟩ = some (.int .i64 f)
  p2 : W.cell? ⟨w.heap.size + 1, 2, none⟩ = some (.int .i64 c)
  r : StR W (w.heap.size + 2) st0
  bw : Below w.heap.size w W
theorem PtW.below {w W W' : World} {D Z B O A q f c : Int} (h : PtW w W D Z B O A q f c) (hb : Below W.heap.size W W') : PtW w W' D Z B O A q f c :=
  ⟨h.g.below hb, (hb.cell (p := ⟨w.heap.size + 1, 0, none⟩) (lt_of_cell h.p0)).trans h.p0, (hb.cell (p := ⟨w.heap.size + 1, 1, none⟩) (lt_of_cell h.p0)).trans h.p1, (hb.cell (p := ⟨w.heap.size + 1, 2, none⟩) (lt_of_cell h.p0)).trans h.p2, h.r.below hb, bmore h.bw hb⟩
theorem PtW.put {w W : World} {D Z B O A q f c : Int} (h : PtW w W D Z B O A q f c) {G : Nat} (hG : w.heap.size + 2 < G) (o : Nat) (v : Value) : PtW w (W.setCell ⟨G, o, none⟩ v) D Z B O A q f c := by
  have hb : ∀ k, k ≠ G → (W.setCell ⟨G, o, none⟩ v).heap[k]? = W.heap[k]? := fun k hk => Below.heap_setCell W ⟨G, o, none⟩ v k hk
  have hc : ∀ (k j : Nat), k ≠ G → (W.setCell ⟨G, o, none⟩ v).cell? ⟨k, j, none⟩ = W.cell? ⟨k, j, none⟩ := fun k j hk => World.cell?_of_block (a := ⟨k, j, none⟩) (hb k hk)
  obtain ⟨g0, g1, g2, g3, g4, gl⟩ := h.g
  exact ⟨⟨(hc _ _ (by omega)).trans g0, (hc _ _ (by omega)).trans g1, (hc _ _ (by omega)).trans g2, (hc _ _ (by omega)).trans g3, (hc _ _ (by omega)).trans g4, by simpa using gl⟩, (hc _ _ (by omega)).trans h.p0, (hc _ _ (by omega)).trans h.p1, (hc _ _ (by omega)).trans h.p2, (hb _ (by omega)).trans h.r, h.bw.setCell (by show w.heap.size ≤ G; omega) _⟩
def PsPost (w : World) (s : St) (e : Ending) (w' : World) : Prop := e = .returned (.agg #[.int .i64 s.k, .int .i64 s.s, .int .i64 s.r, .int .i64 s.b, .int .i64 s.c]) ∧ Below w.heap.size w w'
theorem ps_fin {w W : World} {D Z B O A q f c : Int} (h : PtW w W D Z B O A q f c) (x : St) :
    StR (((((W.setCell ⟨w.heap.size + 2, 0, none⟩ (.int .i64 x.k)).setCell ⟨w.heap.size + 2, 1, none⟩ (.int .i64 x.s)).setCell ⟨w.heap.size + 2, 2, none⟩ (.int .i64 x.r)).setCell ⟨w.heap.size + 2, 3, none⟩ (.int .i64 x.b)).setCell ⟨w.heap.size + 2, 4, none⟩ (.int .i64 x.c)) (w.heap.size + 2) x ∧
    Below w.heap.size w (((((W.setCell ⟨w.heap.size + 2, 0, none⟩ (.int .i64 x.k)).setCell ⟨w.heap.size + 2, 1, none⟩ (.int .i64 x.s)).setCell ⟨w.heap.size + 2, 2, none⟩ (.int .i64 x.r)).setCell ⟨w.heap.size + 2, 3, none⟩ (.int .i64 x.b)).setCell ⟨w.heap.size + 2, 4, none⟩ (.int .i64 x.c)) := by
  have hl : w.heap.size ≤ w.heap.size + 2 := by omega
  exact ⟨h.r.put x, ((((h.bw.setCell hl _).setCell hl _).setCell hl _).setCell hl _).setCell hl _⟩
set_option maxRecDepth 100000 in
set_option maxHeartbeats 2000000 in
theorem pparity_any (wd z a c : Nat) (D Z B O A : Int) (hD : D = (wd : Int) + 1) (w : World) (hg : GoodP D Z B O A) (hz : (z : Int) ≤ Z - 4) (hr : a % wd + c ≤ wd) (hc : 0 < c) (hb : ((a : Int) + (c : Int)) ≤ (D - 1) * B) :
    Calls Try.prog 60 #[.agg #[.int .i64 D, .int .i64 Z, .int .i64 B, .int .i64 O, .int .i64 A], .int .i64 (z : Int), .agg #[.int .i64 ((a / wd : Nat) : Int), .int .i64 ((a % wd : Nat) : Int), .int .i64 (c : Int)]] w (PsPost w (pst wd z a c)) := by
  have hw : 0 < wd := by have := hg.1; omega
  have hrow := row_bd (D := D) (B := B) (block := (a : Int)) hg.1 (by omega) (by omega)
  have hpar : parV D Z B O A (z : Int) ((a / wd : Nat) : Int) = par wd z (a / wd) := by
    have e : (a : Int) / (D - 1) = ((a / wd : Nat) : Int) := by rw [hD, show (wd : Int) + 1 - 1 = (wd : Int) by omega]; rfl
    rw [e] at hrow
    rw [parV_good hg (Int.natCast_nonneg z) hz hrow.1 hrow.2.1, hD]; rfl
  have hpl := Lib.hid (fun W => parity_any D Z B O A (z : Int) ((a / wd : Nat) : Int) W)
  rw [hpar] at hpl
  have d1 : 3 ≤ D ∧ D ≤ 16 := ⟨hg.1, hg.2.1⟩
  have hpr := Lib.hid (fun W => pperRow_any D Z B O A W d1)
  have hD1 : D - 1 = (wd : Int) := by omega
  rw [hD1] at hpr
  have hwd : wd ≤ 15 := by omega
  unfold pst
  obtain ⟨q, hqe⟩ : ∃ q, a / wd = q := ⟨_, rfl⟩
  obtain ⟨r, hre⟩ : ∃ r, a % wd = r := ⟨_, rfl⟩
  rw [hqe] at hpl
  rw [hre] at hr
  rw [hqe, hre]
  generalize par wd z q = P at hpl ⊢
  clear hD1 hpar hrow hqe hre hg hb hD hw hz
  have e1 : IntKind.i64.wrap ((r : Int) + (c : Int)) = (r : Int) + (c : Int) := IntWalk.i64_in _ (by omega)
  by_cases hcase : r + c < wd
  case pos =>
    rw [if_pos hcase]
    have k1 : (r : Int) + (c : Int) < (wd : Int) := by omega
    go_enter Try.func60, Try.ntmps60
    go_upto_region 1 with fail
    refine fresh_world (fun W => PtW w W D Z B O A (q : Int) (r : Int) (c : Int)) ?_ ?_
    · have hs := World.size_alloc w (.cells #[.int .i64 D, .int .i64 Z, .int .i64 B, .int .i64 O, .int .i64 A] 37)
      have hg0 := GeoAt.new w D Z B O A 37
      have hb0 := (Below.refl w.heap.size w).alloc (Nat.le_refl _) (.cells #[.int .i64 D, .int .i64 Z, .int .i64 B, .int .i64 O, .int .i64 A] 37)
      generalize w.alloc (.cells #[.int .i64 D, .int .i64 Z, .int .i64 B, .int .i64 O, .int .i64 A] 37) = W1 at hs hg0 hb0 ⊢
      have c0 := fun j => World.cell?_alloc_new W1 #[Value.int .i64 (q : Int), .int .i64 (r : Int), .int .i64 (c : Int)] 117 j
      have hs2 := World.size_alloc W1 (.cells #[Value.int .i64 (q : Int), .int .i64 (r : Int), .int .i64 (c : Int)] 117)
      have hA := (Below.refl W1.heap.size W1).alloc (Nat.le_refl _) (.cells #[Value.int .i64 (q : Int), .int .i64 (r : Int), .int .i64 (c : Int)] 117)
      have hg1 := hg0.below hA
      have hb1 := bmore hb0 hA
      clear hA hg0 hb0
      generalize W1.alloc (.cells #[Value.int .i64 (q : Int), .int .i64 (r : Int), .int .i64 (c : Int)] 117) = W2 at hs2 hg1 hb1 c0 ⊢
      rw [hs] at c0 hs2
      have hA := (Below.refl W2.heap.size W2).alloc (Nat.le_refl _) (.cells #[.int .i64 0, .int .i64 0, .int .i64 0, .int .i64 0, .int .i64 0] 76)
      have hn := StR.new W2
      rw [hs2] at hn
      exact ⟨hg1.below hA, (hA.cell (p := ⟨w.heap.size + 1, 0, none⟩) (by show w.heap.size + 1 < _; omega)).trans (c0 0), (hA.cell (p := ⟨w.heap.size + 1, 1, none⟩) (by show w.heap.size + 1 < _; omega)).trans (c0 1), (hA.cell (p := ⟨w.heap.size + 1, 2, none⟩) (by show w.heap.size + 1 < _; omega)).trans (c0 2), hn, bmore hb1 hA⟩
    rintro W0 hW0
    have hBd := hW0.below (Below.refl _ _).drew
    clear hW0
    refine region_anyC (fun _ => true) (fun W => PtW w W D Z B O A (q : Int) (r : Int) (c : Int)) (by kernel_rfl) ?_
    refine anyL_take 0 (v := ?_) rfl (by kernel_rfl) (fun _ _ _ h => h) (Or.inl ⟨by rfl, ?_⟩) hBd ?_
    rotate_left
    focus (intro W hW; have y0 := hW.p0; obtain ⟨g0, g1, g2, g3, g4, _⟩ := hW.g; go_simp; try with_reducible rfl)
    simp only [Act.put, List.setIfInBounds_toArray, List.set_cons_zero, List.set_cons_succ]
    refine anyL_take 1 (v := ?_) rfl (by kernel_rfl) (fun _ _ _ h => h) (Or.inl ⟨by rfl, ?_⟩) hBd ?_
    rotate_left
    focus (intro W hW; go_simp; try with_reducible rfl)
    simp only [Act.put, List.setIfInBounds_toArray, List.set_cons_zero, List.set_cons_succ]
    refine anyL_take 2 (v := ?_) rfl (by kernel_rfl) (fun _ _ _ h => h) (Or.inl ⟨by rfl, ?_⟩) hBd ?_
    rotate_left
    focus (intro W hW; go_simp; try with_reducible rfl)
    simp only [Act.put, List.setIfInBounds_toArray, List.set_cons_zero, List.set_cons_succ]
    refine anyL_take 3 (v := ?_) rfl (by kernel_rfl) (fun _ _ _ h => h) (Or.inl ⟨by rfl, ?_⟩) hBd ?_
    rotate_left
    focus (intro W hW; have y0 := hW.p0; obtain ⟨g0, g1, g2, g3, g4, _⟩ := hW.g; go_simp; try with_reducible rfl)
    simp only [Act.put, List.setIfInBounds_toArray, List.set_cons_zero, List.set_cons_succ]
    refine anyL_take 5 (v := ?_) rfl (by kernel_rfl) (fun _ _ _ h => h) (Or.inl ⟨by rfl, ?_⟩) hBd ?_
    rotate_left
    focus (intro W hW; go_simp; try with_reducible rfl)
    simp only [Act.put, List.setIfInBounds_toArray, List.set_cons_zero, List.set_cons_succ]
    refine anyL_take 6 (v := ?_) rfl (by kernel_rfl) (fun _ _ _ h => h) (Or.inl ⟨by rfl, ?_⟩) hBd ?_
    rotate_left
    focus (intro W hW; have y0 := hW.p0; obtain ⟨g0, g1, g2, g3, g4, _⟩ := hW.g; go_simp; try with_reducible rfl)
    simp only [Act.put, List.setIfInBounds_toArray, List.set_cons_zero, List.set_cons_succ]
    refine anyL_two 4 8 rfl rfl (by kernel_rfl) (fun K hK => ?_) (fun K hK => ?_)
    case refine_1 =>
      go_simp
      refine (hpl.out _).mono ?_
      rintro e' w3 ⟨rfl, hb3⟩
      have hB3 := hBd.below hb3
      refine hK.out _ _ (fun _ => hB3) ?_
      clear hK K
      try simp only [Act.put, List.setIfInBounds_toArray, List.set_cons_zero, List.set_cons_succ]
      refine anyL_take 7 (v := ?_) rfl (by kernel_rfl) (fun _ _ _ h => h) (Or.inl ⟨by rfl, ?_⟩) hB3 ?_
      rotate_left
      focus (intro W hW; go_simp; try with_reducible rfl)
      simp only [Act.put, List.setIfInBounds_toArray, List.set_cons_zero, List.set_cons_succ]
      clear hBd
      refine anyL_one 8 rfl (by kernel_rfl) (fun K hK => ?_)
      go_simp
      have hB5 := hB3.below ((Below.refl _ _).alloc (Nat.le_refl _) (.cells #[.int .i64 0, .int .i64 0, .int .i64 0, .int .i64 0, .int .i64 0] 76))
      have hs5 := StAt.new w3 76
      have hG := hB3.r.lt
      refine hK.out _ _ (fun _ => hB5) ?_
      clear hK K
      try simp only [Act.put, List.setIfInBounds_toArray, List.set_cons_zero, List.set_cons_succ]
      generalize w3.heap.size = G at hs5 hG ⊢
      refine fresh_anyC (fun W => PtW w W D Z B O A (q : Int) (r : Int) (c : Int) ∧ StAt W G st0) ⟨hB5, hs5⟩ ?_
      clear hB5 hs5 hB3
      rintro W4 ⟨hB4, hs4⟩
      refine anyL_one 9 rfl (by kernel_rfl) (fun K hK => ?_)
      obtain ⟨y0, y1, y2, y3, y4, yf⟩ := id hs4
      have yl := hs4.lt
      go_simp
      have hB5 := ((((hB4.put hG 0 (.int .i64 2)).put hG 1 (.int .i64 P)).put hG 2 (.int .i64 (q : Int))).put hG 3 (.int .i64 0)).put hG 4 (.int .i64 0)
      have hs5 := ((((hs4.put 0 2).put 1 P).put 2 (q : Int)).put 3 0).put 4 0
      refine hK.out _ _ (fun _ => hB5) ?_
      clear hK K
      try simp only [Act.put, List.setIfInBounds_toArray, List.set_cons_zero, List.set_cons_succ]
      refine fresh_anyC (fun W => PtW w W D Z B O A (q : Int) (r : Int) (c : Int) ∧ StAt W G ⟨2, P, (q : Int), 0, 0⟩) ⟨hB5, hs5⟩ ?_
      clear hB5 hs5 y0 y1 y2 y3 y4 yf yl hs4 hB4
      rintro W5 ⟨hB5, hs5⟩
      refine anyC_done (by kernel_rfl) ?_ _
      have hB5H := Lib.hid hB5
      have hs5H := Lib.hid hs5
      have y1 := hB5.p1
      have y2 := hB5.p2
      obtain ⟨g0, g1, g2, g3, g4, _⟩ := hB5.g
      clear hB5 hs5
      go_upto_region 3 with fail
      go_wp2_with fail
      (with_reducible refine (hpr.out _).mono ?_)
      rintro e w6 ⟨rfl, hb6⟩
      have hB6 := hB5H.out.below hb6
      have hs6 := hs5H.out.below hb6
      clear hB5H hs5H g0 g1 g2 g3 g4 y1 y2 hb6
      obtain ⟨x0, x1, x2, x3, x4, xf⟩ := hs6
      obtain ⟨z0, z1, z2, z3, z4, zf⟩ := hB6.r.at_
      have zl := hB6.r.lt
      have hfin2 := Lib.hid (ps_fin ((hB6.put hG 0 (.int .i64 3)).put hG 4 (.int .i64 ((r : Int) + (c : Int)))) ⟨3, P, (q : Int), 0, (r : Int) + (c : Int)⟩)
      have xl := lt_of_cell x0
      clear hB6
      go_wp2
      refine bodyPost_ret (results_cell_row Try.results60 _ _ (w.heap.size + 2) 76 _ (0, 0) _ rfl hfin2.out.1 Try.underlying76 rfl (by kernel_rfl)) rfl ⟨rfl, hfin2.out.2⟩
    case refine_2 =>
      go_simp
      have hB5 := hBd.below ((Below.refl _ _).alloc (Nat.le_refl _) (.cells #[.int .i64 0, .int .i64 0, .int .i64 0, .int .i64 0, .int .i64 0] 76))
      have hs5 : StAt _ W0.heap.size st0 := StAt.new W0.drew 76
      have hG : w.heap.size + 2 < W0.heap.size := hBd.r.lt
      refine hK.out _ _ (fun _ => hB5) ?_
      clear hK K
      try simp only [Act.put, List.setIfInBounds_toArray, List.set_cons_zero, List.set_cons_succ]
      generalize W0.heap.size = G at hs5 hG ⊢
      refine fresh_anyC (fun W => PtW w W D Z B O A (q : Int) (r : Int) (c : Int) ∧ StAt W G st0) ⟨hB5, hs5⟩ ?_
      clear hB5 hs5 hBd
      rintro W4 ⟨hB4, hs4⟩
      refine anyL_one 4 rfl (by kernel_rfl) (fun K hK => ?_)
      go_simp
      refine (hpl.out _).mono ?_
      rintro e' w3 ⟨rfl, hb3⟩
      have hB3 := hB4.below hb3
      have hs3 := hs4.below hb3
      refine hK.out _ _ (fun _ => hB3) ?_
      clear hK K
      try simp only [Act.put, List.setIfInBounds_toArray, List.set_cons_zero, List.set_cons_succ]
      refine anyL_take 7 (v := ?_) rfl (by kernel_rfl) (fun _ _ _ h => h) (Or.inl ⟨by rfl, ?_⟩) hB3 ?_
      rotate_left
      focus (intro W hW; go_simp; try with_reducible rfl)
      simp only [Act.put, List.setIfInBounds_toArray, List.set_cons_zero, List.set_cons_succ]
      clear hB4 hs4
      rename_i W4x
      have hB4 := hB3
      have hs4 := hs3
      clear hB3 hs3
      refine anyL_one 9 rfl (by kernel_rfl) (fun K hK => ?_)
      obtain ⟨y0, y1, y2, y3, y4, yf⟩ := id hs4
      have yl := hs4.lt
      go_simp
      have hB5 := ((((hB4.put hG 0 (.int .i64 2)).put hG 1 (.int .i64 P)).put hG 2 (.int .i64 (q : Int))).put hG 3 (.int .i64 0)).put hG 4 (.int .i64 0)
      have hs5 := ((((hs4.put 0 2).put 1 P).put 2 (q : Int)).put 3 0).put 4 0
      refine hK.out _ _ (fun _ => hB5) ?_
      clear hK K
      try simp only [Act.put, List.setIfInBounds_toArray, List.set_cons_zero, List.set_cons_succ]
      refine fresh_anyC (fun W => PtW w W D Z B O A (q : Int) (r : Int) (c : Int) ∧ StAt W G ⟨2, P, (q : Int), 0, 0⟩) ⟨hB5, hs5⟩ ?_
      clear hB5 hs5 y0 y1 y2 y3 y4 yf yl hs4 hB4
      rintro W5 ⟨hB5, hs5⟩
      refine anyC_done (by kernel_rfl) ?_ _
      have hB5H := Lib.hid hB5
      have hs5H := Lib.hid hs5
      have y1 := hB5.p1
      have y2 := hB5.p2
      obtain ⟨g0, g1, g2, g3, g4, _⟩ := hB5.g
      clear hB5 hs5
      go_upto_region 3 with fail
      go_wp2_with fail
      (with_reducible refine (hpr.out _).mono ?_)
      rintro e w6 ⟨rfl, hb6⟩
      have hB6 := hB5H.out.below hb6
      have hs6 := hs5H.out.below hb6
      clear hB5H hs5H g0 g1 g2 g3 g4 y1 y2 hb6
      obtain ⟨x0, x1, x2, x3, x4, xf⟩ := hs6
      obtain ⟨z0, z1, z2, z3, z4, zf⟩ := hB6.r.at_
      have zl := hB6.r.lt
      have hfin2 := Lib.hid (ps_fin ((hB6.put hG 0 (.int .i64 3)).put hG 4 (.int .i64 ((r : Int) + (c : Int)))) ⟨3, P, (q : Int), 0, (r : Int) + (c : Int)⟩)
      have xl := lt_of_cell x0
      clear hB6
      go_wp2
      refine bodyPost_ret (results_cell_row Try.results60 _ _ (w.heap.size + 2) 76 _ (0, 0) _ rfl hfin2.out.1 Try.underlying76 rfl (by kernel_rfl)) rfl ⟨rfl, hfin2.out.2⟩
  case neg =>
    rw [if_neg hcase]
    have k1 : ¬ ((r : Int) + (c : Int) < (wd : Int)) := by omega
    go_enter Try.func60, Try.ntmps60
    go_upto_region 1 with fail
    refine fresh_world (fun W => PtW w W D Z B O A (q : Int) (r : Int) (c : Int)) ?_ ?_
    · have hs := World.size_alloc w (.cells #[.int .i64 D, .int .i64 Z, .int .i64 B, .int .i64 O, .int .i64 A] 37)
      have hg0 := GeoAt.new w D Z B O A 37
      have hb0 := (Below.refl w.heap.size w).alloc (Nat.le_refl _) (.cells #[.int .i64 D, .int .i64 Z, .int .i64 B, .int .i64 O, .int .i64 A] 37)
      generalize w.alloc (.cells #[.int .i64 D, .int .i64 Z, .int .i64 B, .int .i64 O, .int .i64 A] 37) = W1 at hs hg0 hb0 ⊢
      have c0 := fun j => World.cell?_alloc_new W1 #[Value.int .i64 (q : Int), .int .i64 (r : Int), .int .i64 (c : Int)] 117 j
      have hs2 := World.size_alloc W1 (.cells #[Value.int .i64 (q : Int), .int .i64 (r : Int), .int .i64 (c : Int)] 117)
      have hA := (Below.refl W1.heap.size W1).alloc (Nat.le_refl _) (.cells #[Value.int .i64 (q : Int), .int .i64 (r : Int), .int .i64 (c : Int)] 117)
      have hg1 := hg0.below hA
      have hb1 := bmore hb0 hA
      clear hA hg0 hb0
      generalize W1.alloc (.cells #[Value.int .i64 (q : Int), .int .i64 (r : Int), .int .i64 (c : Int)] 117) = W2 at hs2 hg1 hb1 c0 ⊢
      rw [hs] at c0 hs2
      have hA := (Below.refl W2.heap.size W2).alloc (Nat.le_refl _) (.cells #[.int .i64 0, .int .i64 0, .int .i64 0, .int .i64 0, .int .i64 0] 76)
      have hn := StR.new W2
      rw [hs2] at hn
      exact ⟨hg1.below hA, (hA.cell (p := ⟨w.heap.size + 1, 0, none⟩) (by show w.heap.size + 1 < _; omega)).trans (c0 0), (hA.cell (p := ⟨w.heap.size + 1, 1, none⟩) (by show w.heap.size + 1 < _; omega)).trans (c0 1), (hA.cell (p := ⟨w.heap.size + 1, 2, none⟩) (by show w.heap.size + 1 < _; omega)).trans (c0 2), hn, bmore hb1 hA⟩
    rintro W0 hW0
    have hBd := hW0.below (Below.refl _ _).drew
    clear hW0
    refine region_anyC (fun _ => true) (fun W => PtW w W D Z B O A (q : Int) (r : Int) (c : Int)) (by kernel_rfl) ?_
    refine anyL_take 0 (v := ?_) rfl (by kernel_rfl) (fun _ _ _ h => h) (Or.inl ⟨by rfl, ?_⟩) hBd ?_
    rotate_left
    focus (intro W hW; have y0 := hW.p0; obtain ⟨g0, g1, g2, g3, g4, _⟩ := hW.g; go_simp; try with_reducible rfl)
    simp only [Act.put, List.setIfInBounds_toArray, List.set_cons_zero, List.set_cons_succ]
    refine anyL_take 1 (v := ?_) rfl (by kernel_rfl) (fun _ _ _ h => h) (Or.inl ⟨by rfl, ?_⟩) hBd ?_
    rotate_left
    focus (intro W hW; go_simp; try with_reducible rfl)
    simp only [Act.put, List.setIfInBounds_toArray, List.set_cons_zero, List.set_cons_succ]
    refine anyL_take 2 (v := ?_) rfl (by kernel_rfl) (fun _ _ _ h => h) (Or.inl ⟨by rfl, ?_⟩) hBd ?_
    rotate_left
    focus (intro W hW; go_simp; try with_reducible rfl)
    simp only [Act.put, List.setIfInBounds_toArray, List.set_cons_zero, List.set_cons_succ]
    refine anyL_take 3 (v := ?_) rfl (by kernel_rfl) (fun _ _ _ h => h) (Or.inl ⟨by rfl, ?_⟩) hBd ?_
    rotate_left
    focus (intro W hW; have y0 := hW.p0; obtain ⟨g0, g1, g2, g3, g4, _⟩ := hW.g; go_simp; try with_reducible rfl)
    simp only [Act.put, List.setIfInBounds_toArray, List.set_cons_zero, List.set_cons_succ]
    refine anyL_take 5 (v := ?_) rfl (by kernel_rfl) (fun _ _ _ h => h) (Or.inl ⟨by rfl, ?_⟩) hBd ?_
    rotate_left
    focus (intro W hW; go_simp; try with_reducible rfl)
    simp only [Act.put, List.setIfInBounds_toArray, List.set_cons_zero, List.set_cons_succ]
    refine anyL_take 6 (v := ?_) rfl (by kernel_rfl) (fun _ _ _ h => h) (Or.inl ⟨by rfl, ?_⟩) hBd ?_
    rotate_left
    focus (intro W hW; have y0 := hW.p0; obtain ⟨g0, g1, g2, g3, g4, _⟩ := hW.g; go_simp; try with_reducible rfl)
    simp only [Act.put, List.setIfInBounds_toArray, List.set_cons_zero, List.set_cons_succ]
    refine anyL_two 4 8 rfl rfl (by kernel_rfl) (fun K hK => ?_) (fun K hK => ?_)
    case refine_1 =>
      go_simp
      refine (hpl.out _).mono ?_
      rintro e' w3 ⟨rfl, hb3⟩
      have hB3 := hBd.below hb3
      refine hK.out _ _ (fun _ => hB3) ?_
      clear hK K
      try simp only [Act.put, List.setIfInBounds_toArray, List.set_cons_zero, List.set_cons_succ]
      refine anyL_take 7 (v := ?_) rfl (by kernel_rfl) (fun _ _ _ h => h) (Or.inl ⟨by rfl, ?_⟩) hB3 ?_
      rotate_left
      focus (intro W hW; go_simp; try with_reducible rfl)
      simp only [Act.put, List.setIfInBounds_toArray, List.set_cons_zero, List.set_cons_succ]
      clear hBd
      refine anyL_one 8 rfl (by kernel_rfl) (fun K hK => ?_)
      go_simp
      have hB5 := hB3.below ((Below.refl _ _).alloc (Nat.le_refl _) (.cells #[.int .i64 0, .int .i64 0, .int .i64 0, .int .i64 0, .int .i64 0] 76))
      have hs5 := StAt.new w3 76
      have hG := hB3.r.lt
      refine hK.out _ _ (fun _ => hB5) ?_
      clear hK K
      try simp only [Act.put, List.setIfInBounds_toArray, List.set_cons_zero, List.set_cons_succ]
      generalize w3.heap.size = G at hs5 hG ⊢
      refine fresh_anyC (fun W => PtW w W D Z B O A (q : Int) (r : Int) (c : Int) ∧ StAt W G st0) ⟨hB5, hs5⟩ ?_
      clear hB5 hs5 hB3
      rintro W4 ⟨hB4, hs4⟩
      refine anyL_one 9 rfl (by kernel_rfl) (fun K hK => ?_)
      obtain ⟨y0, y1, y2, y3, y4, yf⟩ := id hs4
      have yl := hs4.lt
      go_simp
      have hB5 := ((((hB4.put hG 0 (.int .i64 2)).put hG 1 (.int .i64 P)).put hG 2 (.int .i64 (q : Int))).put hG 3 (.int .i64 0)).put hG 4 (.int .i64 0)
      have hs5 := ((((hs4.put 0 2).put 1 P).put 2 (q : Int)).put 3 0).put 4 0
      refine hK.out _ _ (fun _ => hB5) ?_
      clear hK K
      try simp only [Act.put, List.setIfInBounds_toArray, List.set_cons_zero, List.set_cons_succ]
      refine fresh_anyC (fun W => PtW w W D Z B O A (q : Int) (r : Int) (c : Int) ∧ StAt W G ⟨2, P, (q : Int), 0, 0⟩) ⟨hB5, hs5⟩ ?_
      clear hB5 hs5 y0 y1 y2 y3 y4 yf yl hs4 hB4
      rintro W5 ⟨hB5, hs5⟩
      refine anyC_done (by kernel_rfl) ?_ _
      have hB5H := Lib.hid hB5
      have hs5H := Lib.hid hs5
      have y1 := hB5.p1
      have y2 := hB5.p2
      obtain ⟨g0, g1, g2, g3, g4, _⟩ := hB5.g
      clear hB5 hs5
      go_upto_region 3 with fail
      go_wp2_with fail
      (with_reducible refine (hpr.out _).mono ?_)
      rintro e w6 ⟨rfl, hb6⟩
      have hB6 := hB5H.out.below hb6
      have hs6 := hs5H.out.below hb6
      clear hB5H hs5H g0 g1 g2 g3 g4 y1 y2 hb6
      obtain ⟨x0, x1, x2, x3, x4, xf⟩ := hs6
      obtain ⟨z0, z1, z2, z3, z4, zf⟩ := hB6.r.at_
      have zl := hB6.r.lt
      have hfin := Lib.hid (ps_fin (hB6) ⟨2, P, (q : Int), 0, 0⟩)
      have xl := lt_of_cell x0
      clear hB6
      go_wp2
      refine bodyPost_ret (results_cell_row Try.results60 _ _ (w.heap.size + 2) 76 _ (0, 0) _ rfl hfin.out.1 Try.underlying76 rfl (by kernel_rfl)) rfl ⟨rfl, hfin.out.2⟩
    case refine_2 =>
      go_simp
      have hB5 := hBd.below ((Below.refl _ _).alloc (Nat.le_refl _) (.cells #[.int .i64 0, .int .i64 0, .int .i64 0, .int .i64 0, .int .i64 0] 76))
      have hs5 : StAt _ W0.heap.size st0 := StAt.new W0.drew 76
      have hG : w.heap.size + 2 < W0.heap.size := hBd.r.lt
      refine hK.out _ _ (fun _ => hB5) ?_
      clear hK K
      try simp only [Act.put, List.setIfInBounds_toArray, List.set_cons_zero, List.set_cons_succ]
      generalize W0.heap.size = G at hs5 hG ⊢
      refine fresh_anyC (fun W => PtW w W D Z B O A (q : Int) (r : Int) (c : Int) ∧ StAt W G st0) ⟨hB5, hs5⟩ ?_
      clear hB5 hs5 hBd
      rintro W4 ⟨hB4, hs4⟩
      refine anyL_one 4 rfl (by kernel_rfl) (fun K hK => ?_)
      go_simp
      refine (hpl.out _).mono ?_
      rintro e' w3 ⟨rfl, hb3⟩
      have hB3 := hB4.below hb3
      have hs3 := hs4.below hb3
      refine hK.out _ _ (fun _ => hB3) ?_
      clear hK K
      try simp only [Act.put, List.setIfInBounds_toArray, List.set_cons_zero, List.set_cons_succ]
      refine anyL_take 7 (v := ?_) rfl (by kernel_rfl) (fun _ _ _ h => h) (Or.inl ⟨by rfl, ?_⟩) hB3 ?_
      rotate_left
      focus (intro W hW; go_simp; try with_reducible rfl)
      simp only [Act.put, List.setIfInBounds_toArray, List.set_cons_zero, List.set_cons_succ]
      clear hB4 hs4
      rename_i W4x
      have hB4 := hB3
      have hs4 := hs3
      clear hB3 hs3
      refine anyL_one 9 rfl (by kernel_rfl) (fun K hK => ?_)
      obtain ⟨y0, y1, y2, y3, y4, yf⟩ := id hs4
      have yl := hs4.lt
      go_simp
      have hB5 := ((((hB4.put hG 0 (.int .i64 2)).put hG 1 (.int .i64 P)).put hG 2 (.int .i64 (q : Int))).put hG 3 (.int .i64 0)).put hG 4 (.int .i64 0)
      have hs5 := ((((hs4.put 0 2).put 1 P).put 2 (q : Int)).put 3 0).put 4 0
      refine hK.out _ _ (fun _ => hB5) ?_
      clear hK K
      try simp only [Act.put, List.setIfInBounds_toArray, List.set_cons_zero, List.set_cons_succ]
      refine fresh_anyC (fun W => PtW w W D Z B O A (q : Int) (r : Int) (c : Int) ∧ StAt W G ⟨2, P, (q : Int), 0, 0⟩) ⟨hB5, hs5⟩ ?_
      clear hB5 hs5 y0 y1 y2 y3 y4 yf yl hs4 hB4
      rintro W5 ⟨hB5, hs5⟩
      refine anyC_done (by kernel_rfl) ?_ _
      have hB5H := Lib.hid hB5
      have hs5H := Lib.hid hs5
      have y1 := hB5.p1
      have y2 := hB5.p2
      obtain ⟨g0, g1, g2, g3, g4, _⟩ := hB5.g
      clear hB5 hs5
      go_upto_region 3 with fail
      go_wp2_with fail
      (with_reducible refine (hpr.out _).mono ?_)
      rintro e w6 ⟨rfl, hb6⟩
      have hB6 := hB5H.out.below hb6
      have hs6 := hs5H.out.below hb6
      clear hB5H hs5H g0 g1 g2 g3 g4 y1 y2 hb6
      obtain ⟨x0, x1, x2, x3, x4, xf⟩ := hs6
      obtain ⟨z0, z1, z2, z3, z4, zf⟩ := hB6.r.at_
      have zl := hB6.r.lt
      have hfin := Lib.hid (ps_fin (hB6) ⟨2, P, (q : Int), 0, 0⟩)
      have xl := lt_of_cell x0
      clear hB6
      go_wp2
      refine bodyPost_ret (results_cell_row Try.results60 _ _ (w.heap.size + 2) 76 _ (0, 0) _ rfl hfin.out.1 Try.underlying76 rfl (by kernel_rfl)) rfl ⟨rfl, hfin.out.2⟩
end Go.Proofs.Ytpgnajcbahklgaa
