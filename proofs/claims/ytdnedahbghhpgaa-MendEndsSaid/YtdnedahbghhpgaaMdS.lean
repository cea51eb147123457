/- What the law's first look at mend finds. -/
import Derived.Test.YtdnedahbghhpgaaMdD
namespace Go.Proofs.Ytdnedahbghhpgaa
open Go.RowKit Tl Pl Md

theorem good_spk : GoodP 3 5 4 1 1 := by unfold GoodP; omega
theorem spk_a (W : World) (A : Option Addr) (c : Nat) (h : IntsIn W A [0, 1, 1]) : Calls Try.prog 24 #[.agg #[.int .i64 3, .int .i64 5, .int .i64 4, .int .i64 1, .int .i64 1], .int .i64 0, .int .i64 2, .slice A 3 c, .int .i64 (-1)] W (DcPost W ⟨1, 0, 0⟩ 0) :=
  dec_good 2 0 2 3 5 4 1 1 rfl A c [0, 1, 1] (-1) W good_spk (by decide) (by decide) (by decide) h
theorem spk_b (W : World) (A : Option Addr) (c : Nat) (h : IntsIn W A [1, 1, 0]) : Calls Try.prog 24 #[.agg #[.int .i64 3, .int .i64 5, .int .i64 4, .int .i64 1, .int .i64 1], .int .i64 0, .int .i64 1, .slice A 3 c, .int .i64 (-1)] W (DcPost W ⟨2, 0, 0⟩ 0) :=
  dec_good 2 0 1 3 5 4 1 1 rfl A c [1, 1, 0] (-1) W good_spk (by decide) (by decide) (by decide) h
theorem new_ints (W : World) (a b c : Int) (t : TypeId) : IntsIn (W.alloc (.cells #[.int .i64 a, .int .i64 b, .int .i64 c] t)) (some ⟨W.heap.size, 0, none⟩) [a, b, c] := by
  have hn := World.alloc_heap_new W (.cells #[.int .i64 a, .int .i64 b, .int .i64 c] t)
  refine .inr ⟨W.heap.size, 0, rfl, by simp, fun i hi => ?_⟩
  rw [Nat.zero_add]
  match i, hi with
  | 0, _ => exact cell_of_row _ _ 0 _ _ _ hn
  | 1, _ => exact cell_of_row _ _ 1 _ _ _ hn
  | 2, _ => exact cell_of_row _ _ 2 _ _ _ hn
set_option maxHeartbeats 1000000 in
theorem speaks15 (w : World) : Calls Try.prog 23 #[] w fun e w' => e = .returned (.bool true) ∧ Below w.heap.size w w' := by
  have hG := Lib.hid (GeoAt.new w 3 5 4 1 1 37)
  have hB := Lib.hid ((Below.refl w.heap.size w).alloc (Nat.le_refl _) (.cells #[.int .i64 3, .int .i64 5, .int .i64 4, .int .i64 1, .int .i64 1] 37))
  go_enter Try.func23, Try.ntmps23
  go_upto_region 2 with fail
  refine fresh_world (fun W => GeoAt W w.heap.size 3 5 4 1 1 ∧ Below w.heap.size w W) ⟨hG.out, hB.out⟩ ?_
  clear hG hB
  rintro W1 ⟨h1, b1⟩
  have h1H := Lib.hid h1
  have b1H := Lib.hid b1
  obtain ⟨g0, g1, g2, g3, g4, _⟩ := h1
  have hI := Lib.hid (new_ints W1 0 1 1 3)
  have ha := Lib.hid ((Below.refl W1.heap.size W1).alloc (Nat.le_refl _) (.cells #[.int .i64 0, .int .i64 1, .int .i64 1] 3))
  clear b1
  go_wp2_with fail
  (with_reducible refine (spk_a _ _ _ hI.out).mono ?_)
  rintro e w1 ⟨rfl, hb1⟩
  have h2 := (h1H.out.below ha.out).below hb1
  have b2 := bmore (bmore b1H.out ha.out) hb1
  clear hI ha h1H b1H g0 g1 g2 g3 g4 hb1
  have hA := (Below.refl w1.heap.size w1).alloc (Nat.le_refl _) (.cells #[.int .i64 1, .int .i64 0, .int .i64 0] 70)
  have h3 := Lib.hid (⟨h2.below hA, World.alloc_heap_new w1 (.cells #[.int .i64 1, .int .i64 0, .int .i64 0] 70), bmore b2 hA⟩ : GeoAt _ w.heap.size 3 5 4 1 1 ∧ _ ∧ Below w.heap.size w _)
  clear h2 b2 hA
  go_upto_region 3 with fail
  generalize w1.heap.size = s1 at h3 ⊢
  refine fresh_world (fun W => GeoAt W w.heap.size 3 5 4 1 1 ∧ W.heap[s1]? = some (.cells #[.int .i64 1, .int .i64 0, .int .i64 0] 70 (0, 0)) ∧ Below w.heap.size w W) h3.out ?_
  clear h3
  rintro W2 ⟨h2, d2, b2⟩
  have d2H := Lib.hid d2
  have b2H := Lib.hid b2
  obtain ⟨g0, g1, g2, g3, g4, _⟩ := h2
  have hI := Lib.hid (new_ints W2 1 1 0 3)
  have ha := Lib.hid ((Below.refl W2.heap.size W2).alloc (Nat.le_refl _) (.cells #[.int .i64 1, .int .i64 1, .int .i64 0] 3))
  clear d2 b2
  go_wp2_with fail
  (with_reducible refine (spk_b _ _ _ hI.out).mono ?_)
  rintro e w3 ⟨rfl, hb3⟩
  have d3 := (hb3.block _ (by rw [World.size_alloc]; have := (Array.getElem?_eq_some_iff.1 d2H.out).1; omega)).trans ((ha.out.block _ (Array.getElem?_eq_some_iff.1 d2H.out).1).trans d2H.out)
  have b3 := Lib.hid (bmore (bmore b2H.out ha.out) hb3)
  have y0 : w3.cell? ⟨s1, 0, none⟩ = some (.int .i64 1) := cell_of_row _ _ 0 _ _ _ d3
  have y1 : w3.cell? ⟨s1, 1, none⟩ = some (.int .i64 0) := cell_of_row _ _ 1 _ _ _ d3
  have y2 : w3.cell? ⟨s1, 2, none⟩ = some (.int .i64 0) := cell_of_row _ _ 2 _ _ _ d3
  have yl := lt_of_cell y0
  clear hI ha d2H b2H g0 g1 g2 g3 g4 hb3 d3
  have hF := Lib.hid (b3.out.alloc b3.out.size (.cells #[.int .i64 2, .int .i64 0, .int .i64 0] 70))
  clear b3
  go_wp2_with fail
  go_ret
  exact ⟨rfl, hF.out⟩
end Go.Proofs.Ytdnedahbghhpgaa
