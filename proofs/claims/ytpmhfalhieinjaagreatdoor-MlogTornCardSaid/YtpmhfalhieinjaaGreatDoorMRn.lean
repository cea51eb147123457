/- A new rig. -/
import Derived.Test.YtpmhfalhieinjaaGreatDoorMRo
import Derived.Test.YtpmhfalhieinjaaGreatDoorMGeo
namespace Go.Proofs.YtpmhfalhieinjaaGreatDoor
open Go.RowKit Zon Drv
theorem infoDP : (Tryz.prog.info? 87).map (fun i => (i.zero, i.size, i.bytes)) = some (some (.pointer none), 1, 8) := by kernel_rfl
/-- The three blocks of a rig in the making. -/
def K3 (c q r : Nat) : Nat → Prop := fun x => x = c ∨ x = q ∨ x = r
/-- A rig of n drives, k of them made. -/
structure Nx (w W : World) (Z B O A : Int) (n k c q r : Nat) (d : Nat → Nat) (D : Nat → Dr) : Prop where
  fam : Fam w W (K3 c q r) k d D
  x1 : W.cell? ⟨c, 1, none⟩ = some (.int .i64 Z)
  x2 : W.cell? ⟨c, 2, none⟩ = some (.int .i64 B)
  x3 : W.cell? ⟨c, 3, none⟩ = some (.int .i64 O)
  x4 : W.cell? ⟨c, 4, none⟩ = some (.int .i64 A)
  row : W.cell? ⟨r, 0, none⟩ = some (.slice (some ⟨q, 0, none⟩) n n)
  c1 : W.cell? ⟨r, 1, none⟩ = some (.int .i64 B)
  c2 : W.cell? ⟨r, 2, none⟩ = some (.int .i64 0)
  c3 : W.cell? ⟨r, 3, none⟩ = some (.bool false)
  c4 : W.cell? ⟨r, 4, none⟩ = some (.int .i64 0)
  c5 : W.cell? ⟨r, 5, none⟩ = some (.slice none 0 0)
  ps : ∀ i, i < k → W.cell? ⟨q, i, none⟩ = some (.pointer (some ⟨d i, 0, none⟩))
  nl : ∀ i, k ≤ i → i < n → W.cell? ⟨q, i, none⟩ = some (.pointer none)
  fq : ∀ j, W.frozen? ⟨q, j, none⟩ = false
  fr : ∀ j, W.frozen? ⟨r, j, none⟩ = false
  ge : w.heap.size ≤ q ∧ w.heap.size ≤ r ∧ q ≠ r ∧ q ≠ c
theorem upd_const {α : Type} (v : α) (k : Nat) : upd (fun _ : Nat => v) k v = fun _ => v := by funext j; unfold upd; split <;> rfl
theorem Nx.start {w w1 : World} {Z B O A : Int} {n c : Nat} {d : Nat → Nat} {D : Nat → Dr} (hb : Below w.heap.size w w1) (q1 : w1.cell? ⟨c, 1, none⟩ = some (.int .i64 Z)) (q2 : w1.cell? ⟨c, 2, none⟩ = some (.int .i64 B)) (q3 : w1.cell? ⟨c, 3, none⟩ = some (.int .i64 O)) (q4 : w1.cell? ⟨c, 4, none⟩ = some (.int .i64 A)) (t1 t2 : TypeId) :
    Nx w (((w1.alloc (.cells (madeCells #[.pointer none] n) t1)).alloc (.cells #[.slice (some ⟨w1.heap.size, 0, none⟩) n n, .int .i64 B, .int .i64 0, .bool false, .int .i64 0, .slice none 0 0] t2)).drew) Z B O A n 0 c w1.heap.size (w1.heap.size + 1) d D := by
  have hc := lt_of_cell q1
  have hc' : c < w1.heap.size := hc
  have b1 : Below w1.heap.size w1 (w1.alloc (.cells (madeCells #[.pointer none] n) t1)) := (Below.refl _ _).alloc (Nat.le_refl _) _
  have n1 : (w1.alloc (.cells (madeCells #[.pointer none] n) t1)).heap.size = w1.heap.size + 1 := by simp
  have hm := fun i hi => made_noughts w1 t1 (.pointer none) n i hi
  have hfm := fun j => made_free w1 t1 (.pointer none) n j
  generalize w1.alloc (.cells (madeCells #[.pointer none] n) t1) = w2 at b1 n1 hm hfm ⊢
  have b2 : Below w2.heap.size w2 ((w2.alloc (.cells #[.slice (some ⟨w1.heap.size, 0, none⟩) n n, .int .i64 B, .int .i64 0, .bool false, .int .i64 0, .slice none 0 0] t2)).drew) := ((Below.refl _ _).alloc (Nat.le_refl _) _).drew
  have n2 : ((w2.alloc (.cells #[.slice (some ⟨w1.heap.size, 0, none⟩) n n, .int .i64 B, .int .i64 0, .bool false, .int .i64 0, .slice none 0 0] t2)).drew).heap.size = w2.heap.size + 1 := by simp [World.drew]
  have b3 := b1.trans (b2.mono (by omega))
  have hs := hb.size
  refine ⟨Fam.none_ _ _ (hb.trans (b3.mono hs)) (fun x hx => ?_), (b3.cell (p := ⟨c, 1, none⟩) hc').trans q1, (b3.cell (p := ⟨c, 2, none⟩) hc').trans q2, (b3.cell (p := ⟨c, 3, none⟩) hc').trans q3, (b3.cell (p := ⟨c, 4, none⟩) hc').trans q4, ?_, ?_, ?_, ?_, ?_, ?_, fun i hi => absurd hi (Nat.not_lt_zero _), fun i _ hi => (b2.cell (p := ⟨w1.heap.size, i, none⟩) (by show w1.heap.size < _; omega)).trans (hm i hi), fun j => (b2.frozen (p := ⟨w1.heap.size, j, none⟩) (by show w1.heap.size < _; omega)).trans (hfm j), fun j => ?_, by omega⟩
  · rcases hx with rfl | rfl | rfl <;> omega
  all_goals rw [← n1]
  · go_simp
  · go_simp
  · go_simp
  · go_simp
  · go_simp
  · go_simp
  · exact (World.frozen?_alloc_mark w2 _ _ 0 0 j).trans (by simp)
theorem Nx.next {w W W' : World} {Z B O A : Int} {n k c q r : Nat} {d : Nat → Nat} {D D' : Nat → Dr} {x : Nat} (h : Nx w W Z B O A n k c q r d D) (hF : Fam w W' (K3 c q r) (k + 1) (upd d k x) D') (hb : Below W.heap.size W W') (hk : k < n) :
    Nx w (W'.setCell ⟨q, k, none⟩ (.pointer (some ⟨x, 0, none⟩))) Z B O A n (k + 1) c q r (upd d k x) D' := by
  obtain ⟨g1, g2, g3, g4⟩ := h.ge
  have hn : ∀ b o v, b ≠ q → W.cell? ⟨b, o, none⟩ = some v → (W'.setCell ⟨q, k, none⟩ (.pointer (some ⟨x, 0, none⟩))).cell? ⟨b, o, none⟩ = some v := fun b o v hbq hc =>
    (World.cell?_setCell_other _ _ _ _ (by intro e; injection e with e _; omega)).trans ((hb.cell (p := ⟨b, o, none⟩) (lt_of_cell hc)).trans hc)
  have hq : ∀ i v, i ≠ k → W.cell? ⟨q, i, none⟩ = some v → (W'.setCell ⟨q, k, none⟩ (.pointer (some ⟨x, 0, none⟩))).cell? ⟨q, i, none⟩ = some v := fun i v hik hc =>
    (cell_ne W' q k i _ hik).trans ((hb.cell (p := ⟨q, i, none⟩) (lt_of_cell hc)).trans hc)
  have hql : q < W.heap.size := lt_of_cell (h.nl k (Nat.le_refl _) hk)
  have hrl : r < W.heap.size := lt_of_cell h.row
  refine ⟨hF.set (.inr (.inl rfl)) g1 k _, hn _ _ _ (Ne.symm g4) h.x1, hn _ _ _ (Ne.symm g4) h.x2, hn _ _ _ (Ne.symm g4) h.x3, hn _ _ _ (Ne.symm g4) h.x4, hn _ _ _ (Ne.symm g3) h.row, hn _ _ _ (Ne.symm g3) h.c1, hn _ _ _ (Ne.symm g3) h.c2, hn _ _ _ (Ne.symm g3) h.c3, hn _ _ _ (Ne.symm g3) h.c4, hn _ _ _ (Ne.symm g3) h.c5, fun i hi => ?_, fun i h1 h2 => hq i _ (by omega) (h.nl i (by omega) h2), fun j => ?_, fun j => ?_, g1, g2, g3, g4⟩
  · by_cases e : i = k
    · subst e
      rw [upd_same]
      exact cell_eq ((hb.cell (p := ⟨q, i, none⟩) hql).trans (h.nl i (Nat.le_refl _) hk)) _
    · rw [upd_ne d e]
      exact hq i _ e (h.ps i (by omega))
  · rw [World.frozen?_setCell]; exact (hb.frozen (p := ⟨q, j, none⟩) hql).trans (h.fq j)
  · rw [World.frozen?_setCell]; exact (hb.frozen (p := ⟨r, j, none⟩) hrl).trans (h.fr j)
theorem Nx.rig {w W : World} {Z B O A : Int} {n c q r : Nat} {d : Nat → Nat} {D : Nat → Dr} (h : Nx w W Z B O A n n c q r d D) (hn : n ≤ 64) : Rig w W (K3 c q r) r n n d D ⟨B, 0, 0, false, []⟩ := by
  obtain ⟨g1, g2, g3, g4⟩ := h.ge
  exact ⟨h.fam, ⟨q, h.row, .inr (.inl rfl), g3, h.ps⟩, h.c1, h.c2, h.c3, h.c4, ⟨none, 0, h.c5, .inl rfl, fun h => absurd rfl h, Nat.le_refl _⟩, ⟨by simp, by simp⟩, h.fr, .inr (.inr rfl), g2, hn, Nat.le_refl _⟩
/-- A rig in new memory. -/
def RNew (w : World) (Z B O A : Int) (n : Nat) (e : Ending) (w' : World) : Prop := ∃ K r d, e = .returned (.tuple #[.pointer (some ⟨r, 0, none⟩), .int .i64 0]) ∧ Rig w w' K r n n d (fun _ => newD Z B O A) ⟨B, 0, 0, false, []⟩
set_option maxRecDepth 100000 in
theorem rnew_any (m : Nat) (Z B O A : Int) (n : Nat) (w : World) (hg : GoodP (m : Int) Z B O A) (h1 : 1 ≤ n) (h2 : n ≤ 17) :
    Calls Tryz.prog 19 #[.agg #[.int .i64 (m : Int), .int .i64 Z, .int .i64 B, .int .i64 O, .int .i64 A], .int .i64 (n : Int)] w (RNew w Z B O A n) := by
  have hgo := fun W => good_any (m : Int) Z B O A W
  rw [goodB_iff.2 hg] at hgo
  have hgoH := Lib.hid hgo
  obtain ⟨i0, hi, hz0, hz1, hz2⟩ := info_parts infoDP
  have hmk := fun W => run_make_m (P := Tryz.prog) 88 87 i0 (.pointer none) Tryz.underlying88 hi hz0 .i64 .i64 n n (Nat.le_refl _) (by rw [hz2]; omega) (by omega) W
  rw [hz1] at hmk
  clear hi hz0 hz1 hz2 hgo
  have hgH := Lib.hid hg
  clear hg
  go_enter Tryz.func19, Tryz.ntmps19
  go_wp2_with fail
  refine (hgoH.out _).mono ?_
  rintro e w1 ⟨rfl, hb1⟩
  have q1 : w1.cell? ⟨w.heap.size, 1, none⟩ = some (.int .i64 Z) := (hb1.cell (p := ⟨w.heap.size, 1, none⟩) (by simp)).trans (by go_simp)
  have q2 : w1.cell? ⟨w.heap.size, 2, none⟩ = some (.int .i64 B) := (hb1.cell (p := ⟨w.heap.size, 2, none⟩) (by simp)).trans (by go_simp)
  have q3 : w1.cell? ⟨w.heap.size, 3, none⟩ = some (.int .i64 O) := (hb1.cell (p := ⟨w.heap.size, 3, none⟩) (by simp)).trans (by go_simp)
  have q4 : w1.cell? ⟨w.heap.size, 4, none⟩ = some (.int .i64 A) := (hb1.cell (p := ⟨w.heap.size, 4, none⟩) (by simp)).trans (by go_simp)
  have hB1 : Below w.heap.size w w1 := ((Below.refl _ _).alloc (Nat.le_refl _) _).trans (hb1.mono (by simp))
  have hB1H := Lib.hid hB1
  have hlt := lt_of_cell q1
  clear hb1 hB1 hgoH
  go_wp2_with fail
  go_region
  refine fresh_K (fun W => Nx w W Z B O A n 0 w.heap.size w1.heap.size (w1.heap.size + 1) (fun _ => 0) (fun _ => newD Z B O A)) (Nx.start hB1H.out q1 q2 q3 q4 _ _) ?_
  clear q1 q2 q3 q4 hmk
  rintro W9 hN
  have row := hN.row
  generalize w1.heap.size = q at hN row ⊢
  generalize q + 1 = r at hN row ⊢
  generalize w.heap.size = c at hN ⊢
  go_wp2_with fail
  have hNH := Lib.hid hN
  have hok : newOk Z B O A = true := by
    obtain ⟨a1, a2, a3, a4, a5, a6, a7, a8, a9⟩ := hgH.out
    exact decide_eq_true ⟨by omega, a4, by omega, by omega, a7, a8, a9⟩
  have hnw := Lib.hid (fun W k d (h : Fam w W (K3 c q r) k d (fun _ => newD Z B O A)) => fam_new W Z B O A h hok)
  clear hN row hB1H hlt hgH hok
  go_loopw [32] (fun i wr => ∃ (k : Nat) (d : Nat → Nat), k ≤ n ∧ i = .int .i64 (k : Int) ∧ Nx w wr Z B O A n k c q r d (fun _ => newD Z B O A)) (fun i _ => n - (intOf i).toNat)
  case atStart => exact ⟨0, _, Nat.zero_le _, rfl, hNH.out⟩
  case round =>
    obtain ⟨k, d, hk, rfl, hN⟩ := hrel
    by_cases hlt : k < n
    · have x1 := hN.x1
      have x2 := hN.x2
      have x3 := hN.x3
      have x4 := hN.x4
      have hn1 := Lib.hid (hnw.out _ k d hN.fam)
      have hNk := Lib.hid hN
      clear hN hNH hnw
      go_wp2_with fail
      refine hn1.out.mono ?_
      rintro e w2 ⟨x, rfl, hF, hb⟩
      have row := (hb.cell (p := ⟨r, 0, none⟩) (lt_of_cell hNk.out.row)).trans hNk.out.row
      have hqk := hNk.out.nl k (Nat.le_refl _) hlt
      have pq := (hb.cell (p := ⟨q, k, none⟩) (lt_of_cell hqk)).trans hqk
      have fq := (hb.frozen (p := ⟨q, k, none⟩) (lt_of_cell hqk)).trans (hNk.out.fq k)
      have hX := Lib.hid (hNk.out.next hF hb hlt)
      rw [upd_const] at hX
      clear hF hb hqk x1 x2 x3 x4 hn1
      go_wp2_with fail
      go_roundw
      case rel => exact ⟨k + 1, _, by omega, by go_num, hX.out⟩
      case measure => simp [intOf]; omega
    · obtain rfl : k = n := by omega
      have hR := Lib.hid (hN.rig (by omega))
      clear hN hNH hnw
      go_wp2_with fail
      go_ret2
      exact ⟨_, r, d, rfl, hR.out⟩
end Go.Proofs.YtpmhfalhieinjaaGreatDoor
