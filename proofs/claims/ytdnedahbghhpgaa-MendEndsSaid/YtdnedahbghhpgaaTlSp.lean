/- tail's word: a block by its note. -/
import Derived.Test.YtdnedahbghhpgaaTlLn
namespace Go.Proofs.Ytdnedahbghhpgaa
open Go.RowKit Tl

def spkV : Vw := ⟨[0, 1, 0], 2, [(0, 2)]⟩
theorem spk_src : srcV 3 5 4 1 1 0 spkV 1 = (3, 0) := by decide +kernel
theorem spk_len : lenV 3 5 4 1 1 0 spkV = 2 := by decide +kernel
/-- The word's boxes. -/
structure SpB (w W : World) : Prop where
  g : GeoAt W w.heap.size 3 5 4 1 1
  vw : VwB W (w.heap.size + 3) (some ⟨w.heap.size + 1, 0, none⟩) 3 (some ⟨w.heap.size + 2, 0, none⟩) 1 spkV
  bw : Below w.heap.size w W
theorem SpB.below {w W W' : World} (h : SpB w W) (hb : Below W.heap.size W W') : SpB w W' := ⟨h.g.below hb, h.vw.below hb, bmore h.bw hb⟩
theorem SpB.new (w : World) : SpB w ((((w.alloc (.cells #[.int .i64 3, .int .i64 5, .int .i64 4, .int .i64 1, .int .i64 1] 37)).alloc (.cells #[.int .i64 0, .int .i64 1, .int .i64 0] 3)).alloc (.cells #[.int .i64 0, .int .i64 2] 48)).alloc (.cells #[.slice (some ⟨w.heap.size + 1, 0, none⟩) 3 3, .int .i64 2, .slice (some ⟨w.heap.size + 2, 0, none⟩) 1 1] 31)) := by
  have s1 := World.size_alloc w (.cells #[.int .i64 3, .int .i64 5, .int .i64 4, .int .i64 1, .int .i64 1] 37)
  have g1 := GeoAt.new w 3 5 4 1 1 37
  have b1 := (Below.refl w.heap.size w).alloc (Nat.le_refl _) (.cells #[.int .i64 3, .int .i64 5, .int .i64 4, .int .i64 1, .int .i64 1] 37)
  generalize w.alloc (.cells #[.int .i64 3, .int .i64 5, .int .i64 4, .int .i64 1, .int .i64 1] 37) = W1 at s1 g1 b1 ⊢
  have s2 := World.size_alloc W1 (.cells #[.int .i64 0, .int .i64 1, .int .i64 0] 3)
  have a2 := (Below.refl W1.heap.size W1).alloc (Nat.le_refl _) (.cells #[.int .i64 0, .int .i64 1, .int .i64 0] 3)
  have c2 := fun j => cell_of_row (W1.alloc (.cells #[.int .i64 0, .int .i64 1, .int .i64 0] 3)) W1.heap.size j _ _ _ (World.alloc_heap_new W1 (.cells #[.int .i64 0, .int .i64 1, .int .i64 0] 3))
  rw [s1] at s2 c2
  have g2 := g1.below a2
  have b2 := bmore b1 a2
  clear a2 g1 b1
  generalize W1.alloc (.cells #[.int .i64 0, .int .i64 1, .int .i64 0] 3) = W2 at s2 c2 g2 b2 ⊢
  have hls : IntsIn W2 (some ⟨w.heap.size + 1, 0, none⟩) [0, 1, 0] := .inr ⟨w.heap.size + 1, 0, rfl, by omega, fun i hi => by
    match i, hi with
    | 0, _ => exact c2 0
    | 1, _ => exact c2 1
    | 2, _ => exact c2 2⟩
  have s3 := World.size_alloc W2 (.cells #[.int .i64 0, .int .i64 2] 48)
  have a3 := (Below.refl W2.heap.size W2).alloc (Nat.le_refl _) (.cells #[.int .i64 0, .int .i64 2] 48)
  have c3 := fun j => cell_of_row (W2.alloc (.cells #[.int .i64 0, .int .i64 2] 48)) W2.heap.size j _ _ _ (World.alloc_heap_new W2 (.cells #[.int .i64 0, .int .i64 2] 48))
  rw [s2] at s3 c3
  have g3 := g2.below a3
  have b3 := bmore b2 a3
  have l3 := hls.below a3
  clear a3 g2 b2 hls c2
  generalize W2.alloc (.cells #[.int .i64 0, .int .i64 2] 48) = W3 at s3 c3 g3 b3 l3 ⊢
  have hns : ntE.In W3 (some ⟨w.heap.size + 2, 0, none⟩) [(0, 2)] := .inr ⟨w.heap.size + 2, 0, rfl, by omega, fun i hi j hj => by
    match i, hi with
    | 0, _ =>
      match j, hj with
      | 0, _ => exact c3 0
      | 1, _ => exact c3 1⟩
  have v3 := VwB.new (ca := 3) (cb := 1) (v := spkV) ⟨l3, hns⟩ 31
  have a4 := (Below.refl W3.heap.size W3).alloc (Nat.le_refl _) (.cells #[.slice (some ⟨w.heap.size + 1, 0, none⟩) 3 3, .int .i64 2, .slice (some ⟨w.heap.size + 2, 0, none⟩) 1 1] 31)
  rw [s3] at v3
  exact ⟨g3.below a4, v3, bmore b3 a4⟩
set_option maxRecDepth 100000 in
set_option maxHeartbeats 1000000 in
theorem speaks12 (w : World) : Calls Try.prog 11 #[] w fun e w' => e = .returned (.bool true) ∧ Below w.heap.size w w' := by
  have hs := Lib.hid (fun W (h : VwIn W (some ⟨w.heap.size + 1, 0, none⟩) (some ⟨w.heap.size + 2, 0, none⟩) spkV) => source_any 3 5 4 1 1 0 (some ⟨w.heap.size + 1, 0, none⟩) 3 (some ⟨w.heap.size + 2, 0, none⟩) 1 spkV 1 W h (by decide) (by decide))
  rw [spk_src] at hs
  have hl := Lib.hid (fun W (h : VwIn W (some ⟨w.heap.size + 1, 0, none⟩) (some ⟨w.heap.size + 2, 0, none⟩) spkV) => length_any12 3 5 4 1 1 0 (some ⟨w.heap.size + 1, 0, none⟩) 3 (some ⟨w.heap.size + 2, 0, none⟩) 1 spkV W h (by decide) (by decide))
  rw [spk_len] at hl
  have hN := Lib.hid (SpB.new w)
  simp only [show spkV.ls.length = 3 from rfl, show spkV.m = 2 from rfl, show spkV.ns.length = 1 from rfl] at hs hl
  go_enter Try.func11, Try.ntmps11
  go_upto_region 3 with fail
  refine fresh_world (SpB w) hN.out ?_
  clear hN
  rintro W1 hW1
  have hW1H := Lib.hid hW1
  obtain ⟨g0, g1, g2, g3, g4, _⟩ := hW1.g
  have c0 : W1.cell? ⟨w.heap.size + 3, 0, none⟩ = some (.slice (some ⟨w.heap.size + 1, 0, none⟩) 3 3) := hW1.vw.c0
  have c1 : W1.cell? ⟨w.heap.size + 3, 1, none⟩ = some (.int .i64 2) := hW1.vw.c1
  have c2 : W1.cell? ⟨w.heap.size + 3, 2, none⟩ = some (.slice (some ⟨w.heap.size + 2, 0, none⟩) 1 1) := hW1.vw.c2
  clear hW1
  go_wp2_with fail
  (with_reducible refine (hs.out _ hW1H.out.vw.i).mono ?_)
  rintro e w2 ⟨rfl, hb2⟩
  have hW2H := Lib.hid (hW1H.out.below hb2)
  clear hW1H hb2 g0 g1 g2 g3 g4 c0 c1 c2
  obtain ⟨g0, g1, g2, g3, g4, _⟩ := hW2H.out.g
  have c0 : w2.cell? ⟨w.heap.size + 3, 0, none⟩ = some (.slice (some ⟨w.heap.size + 1, 0, none⟩) 3 3) := hW2H.out.vw.c0
  have c1 : w2.cell? ⟨w.heap.size + 3, 1, none⟩ = some (.int .i64 2) := hW2H.out.vw.c1
  have c2 : w2.cell? ⟨w.heap.size + 3, 2, none⟩ = some (.slice (some ⟨w.heap.size + 2, 0, none⟩) 1 1) := hW2H.out.vw.c2
  go_wp2_with fail
  (with_reducible refine (hl.out _ hW2H.out.vw.i).mono ?_)
  rintro e w3 ⟨rfl, hb3⟩
  have hF := Lib.hid (bmore hW2H.out.bw hb3)
  clear hb3 hW2H g0 g1 g2 g3 g4 c0 c1 c2
  go_wp2
  go_ret
  exact ⟨rfl, hF.out⟩
end Go.Proofs.Ytdnedahbghhpgaa
