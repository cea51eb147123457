/- The words of mend's laws. -/
import Derived.Test.YtdnedahbghhpgaaMdS
import Derived.Test.YtdnedahbghhpgaaSRef
namespace Go.Proofs.Ytdnedahbghhpgaa
open Go.RowKit Tl Pl Md

/-- The arguments' boxes. -/
structure MeA (w : World) (D Z B O A q0 q1 q2 q3 : Int) (W : World) : Prop where
  g : GeoAt W w.heap.size D Z B O A
  a0 : W.cell? ⟨w.heap.size + 1, 0, none⟩ = some (.int .i64 q0)
  a1 : W.cell? ⟨w.heap.size + 1, 1, none⟩ = some (.int .i64 q1)
  a2 : W.cell? ⟨w.heap.size + 1, 2, none⟩ = some (.int .i64 q2)
  a3 : W.cell? ⟨w.heap.size + 1, 3, none⟩ = some (.int .i64 q3)
  bw : Below w.heap.size w W
theorem MeA.below {w W W' : World} {D Z B O A q0 q1 q2 q3 : Int} (h : MeA w D Z B O A q0 q1 q2 q3 W) (hb : Below W.heap.size W W') : MeA w D Z B O A q0 q1 q2 q3 W' := ⟨h.g.below hb, keepC h.a0 hb, keepC h.a1 hb, keepC h.a2 hb, keepC h.a3 hb, bmore h.bw hb⟩
theorem MeA.new (w : World) (D Z B O A q0 q1 q2 q3 : Int) : MeA w D Z B O A q0 q1 q2 q3 ((w.alloc (.cells #[.int .i64 D, .int .i64 Z, .int .i64 B, .int .i64 O, .int .i64 A] 67)).alloc (.cells #[.int .i64 q0, .int .i64 q1, .int .i64 q2, .int .i64 q3] 76)) := by
  have s1 := World.size_alloc w (.cells #[.int .i64 D, .int .i64 Z, .int .i64 B, .int .i64 O, .int .i64 A] 67)
  have g1 := GeoAt.new w D Z B O A 67
  have b1 := (Below.refl w.heap.size w).alloc (Nat.le_refl _) (.cells #[.int .i64 D, .int .i64 Z, .int .i64 B, .int .i64 O, .int .i64 A] 67)
  generalize w.alloc (.cells #[.int .i64 D, .int .i64 Z, .int .i64 B, .int .i64 O, .int .i64 A] 67) = W1 at s1 g1 b1 ⊢
  have hn := World.alloc_heap_new W1 (.cells #[.int .i64 q0, .int .i64 q1, .int .i64 q2, .int .i64 q3] 76)
  have a2 := (Below.refl W1.heap.size W1).alloc (Nat.le_refl _) (.cells #[.int .i64 q0, .int .i64 q1, .int .i64 q2, .int .i64 q3] 76)
  rw [s1] at hn
  exact ⟨g1.below a2, cell_of_row _ _ 0 _ _ _ hn, cell_of_row _ _ 1 _ _ _ hn, cell_of_row _ _ 2 _ _ _ hn, cell_of_row _ _ 3 _ _ _ hn, bmore b1 a2⟩
/-- The same with the copy of the geometry. -/
structure MeB (w : World) (s7 : Nat) (D Z B O A q0 q1 q2 q3 : Int) (W : World) : Prop where
  m : MeA w D Z B O A q0 q1 q2 q3 W
  c : GeoAt W s7 D Z B O A
theorem MeB.below {w W W' : World} {s7 : Nat} {D Z B O A q0 q1 q2 q3 : Int} (h : MeB w s7 D Z B O A q0 q1 q2 q3 W) (hb : Below W.heap.size W W') : MeB w s7 D Z B O A q0 q1 q2 q3 W' := ⟨h.m.below hb, h.c.below hb⟩
theorem MeB.low {w W W' : World} {s7 k : Nat} {D Z B O A q0 q1 q2 q3 : Int} (h : MeB w s7 D Z B O A q0 q1 q2 q3 W) (hb : Below k W W') (hk : s7 < k) (hk2 : w.heap.size + 1 < k) : MeB w s7 D Z B O A q0 q1 q2 q3 W' :=
  ⟨⟨h.m.g.low hb (by omega), (hb.cell (p := ⟨w.heap.size + 1, 0, none⟩) hk2).trans h.m.a0, (hb.cell (p := ⟨w.heap.size + 1, 1, none⟩) hk2).trans h.m.a1, (hb.cell (p := ⟨w.heap.size + 1, 2, none⟩) hk2).trans h.m.a2, (hb.cell (p := ⟨w.heap.size + 1, 3, none⟩) hk2).trans h.m.a3, h.m.bw.trans (hb.mono (by omega))⟩, h.c.low hb hk⟩
/-- A number brought into a range, with what Go's reckoning asks. -/
theorem mod_more (x : Int) {m : Int} (h1 : 1 ≤ m) (h2 : m ≤ 5000) : ∃ (t : Int) (c : Nat), x.tmod m = t ∧ (t + m).tmod m = (c : Int) ∧ (c : Int) < m ∧ IntKind.i64.wrap t = t ∧ IntKind.i64.wrap (t + m) = t + m ∧ wrap64 (t + m) = t + m ∧ IntKind.i64.wrap (c : Int) = (c : Int) ∧ ¬ m = 0 ∧ ¬ m = -1 := by
  obtain ⟨t, c, e1, e2, e3, _, _, e6, e7⟩ := mod_nums x h1 h2
  exact ⟨t, c, e1, e6, e7, IntWalk.i64_in _ (by omega), IntWalk.i64_in _ (by omega), IntWalk.wrap64_in _ (by omega), IntWalk.i64_in _ (by omega), by omega, by omega⟩
/-- The same where the range is one more than a number. -/
theorem mod_plus (x : Int) {v : Int} (h1 : 0 ≤ v) (h2 : v ≤ 4000) : ∃ (t : Int) (c : Nat), x.tmod (v + 1) = t ∧ (t + v + 1).tmod (v + 1) = (c : Int) ∧ (c : Int) ≤ v ∧ IntKind.i64.wrap t = t ∧ IntKind.i64.wrap (t + v) = t + v ∧ wrap64 (t + v) = t + v ∧ IntKind.i64.wrap (t + v + 1) = t + v + 1 ∧ wrap64 (t + v + 1) = t + v + 1 ∧ IntKind.i64.wrap (v + 1) = v + 1 ∧ wrap64 (v + 1) = v + 1 ∧ IntKind.i64.wrap (c : Int) = (c : Int) ∧ ¬ v + 1 = 0 ∧ ¬ v + 1 = -1 := by
  obtain ⟨t, c, e1, e2, e3, _, _, e6, e7⟩ := mod_nums x (m := v + 1) (by omega) (by omega)
  exact ⟨t, c, e1, by rw [show t + v + 1 = t + (v + 1) by omega]; exact e6, by omega, IntWalk.i64_in _ (by omega), IntWalk.i64_in _ (by omega), IntWalk.wrap64_in _ (by omega), IntWalk.i64_in _ (by omega), IntWalk.wrap64_in _ (by omega), IntWalk.i64_in _ (by omega), IntWalk.wrap64_in _ (by omega), IntWalk.i64_in _ (by omega), by omega, by omega⟩
end Go.Proofs.Ytdnedahbghhpgaa
