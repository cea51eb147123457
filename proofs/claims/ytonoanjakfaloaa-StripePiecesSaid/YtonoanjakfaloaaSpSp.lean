/- What speaks of stripe's laws does. -/
import Derived.Test.YtonoanjakfaloaaSpSpk
namespace Go.Proofs.Ytonoanjakfaloaa
open Go.RowKit Sp Xor

/-- A row in a box of the call's own. -/
def SpW (w : World) (g : Nat) (L : List ByteArray) (n : Int) (W : World) : Prop := SrAt W g L n ∧ Below w.heap.size w W ∧ w.heap.size ≤ g
theorem SpW.below {w W W' : World} {g : Nat} {L : List ByteArray} {n : Int} (h : SpW w g L n W) (hb : Below W.heap.size W W') : SpW w g L n W' := ⟨h.1.below hb, h.2.1.trans (hb.mono h.2.1.size), h.2.2⟩
theorem SpW.stored {w W W' : World} {g : Nat} {L L' : List ByteArray} {n n' : Int} (h : SpW w g L n W) (hS : SrAt W' g L' n') (hg : W.grownBy W' (some g)) : SpW w g L' n' W' :=
  ⟨hS, h.2.1.grown hg h.2.1.size (fun k e => by injection e with e; have := h.2.2; omega), h.2.2⟩
theorem SpW.fresh {w W W' : World} {L' : List ByteArray} {n' : Int} (hb : Below w.heap.size w W) (hS : SrAt W' W.heap.size L' n') (hg : (W.alloc (.cells #[.string ⟨#[]⟩, .string ⟨#[]⟩, .string ⟨#[]⟩, .string ⟨#[]⟩, .string ⟨#[]⟩, .string ⟨#[]⟩, .string ⟨#[]⟩, .string ⟨#[]⟩, .string ⟨#[]⟩, .string ⟨#[]⟩, .string ⟨#[]⟩, .string ⟨#[]⟩, .string ⟨#[]⟩, .string ⟨#[]⟩, .string ⟨#[]⟩, .int .i64 0, .int .i64 0] 27)).grownBy W' (some W.heap.size)) : SpW w W.heap.size L' n' W' :=
  ⟨hS, (hb.alloc hb.size _).grown hg (by simp; exact Nat.le_succ_of_le hb.size) (fun k e => by injection e with e; have := hb.size; omega), hb.size⟩
theorem pcs213 (h : 0 < 2) : pcs 2 h 1 3 = [⟨0, 1, 1⟩, ⟨1, 0, 2⟩] := by
  rw [pcs_step (by omega), pcs_step (by decide), show (3 - min 3 (2 - 1 % 2)) - min (3 - min 3 (2 - 1 % 2)) (2 - (1 + min 3 (2 - 1 % 2)) % 2) = 0 by decide, pcs_zero]
  rfl
theorem pc_eql (W : World) : (binOp .eql 49 (.agg #[.int .i64 1, .int .i64 0, .int .i64 2]) (.agg #[.int .i64 1, .int .i64 0, .int .i64 2])).run Try.prog W = .ok (.bool true) W := by
  refine (eql_of (P := Try.prog) (by kernel_rfl) (by kernel_rfl) ?_).1
  kernel_rfl
set_option maxRecDepth 100000 in
set_option maxHeartbeats 1000000 in
theorem speaks11 (w : World) : Calls Try.prog 12 #[] w fun e w' => e = .returned (.bool true) ∧ Below w.heap.size w w' := by
  have c1 := Lib.hid (fun W => newS_any 2 W (by decide))
  have c2 := Lib.hid (fun W => addS_any [] 2 zs64 W (by decide) zs64_size (by decide))
  have c3 := Lib.hid (fun W => (show Calls Try.prog 23 #[.int .i64 2, .int .i64 1, .int .i64 3] W (PcPost W (pcs 2 (by decide) 1 3)) from pieces_any 2 1 3 W (by decide) (by decide) (by decide) (by decide) (by decide)))
  have c4 := Lib.hid (fun W => (show Calls Try.prog 14 #[rowV [zs64] 2] W fun e w' => e = .returned (.int .i64 1) ∧ Below W.heap.size W w' from count_anyS [zs64] 2 W (by decide)))
  have c5 := Lib.hid (fun W => (show Calls Try.prog 15 #[rowV [zs64] 2] W fun e w' => e = .returned (.bool false) ∧ Below W.heap.size W w' from full_anyS [zs64] 2 W (by decide)))
  have h0 := mk64
  have hpe := pc_eql
  go_enter Try.func12, Try.ntmps12
  go_wp2_with fail
  (with_reducible refine (c1.out _).mono ?_)
  rintro e w1 ⟨rfl, hb1⟩
  go_upto_region 2 with (refine wpList_storeS (L' := []) (n' := 2) rfl _ _ rfl (SrAt.zero w1) rfl rfl (by decide) ?_; intro w2 hS2 hg2)
  have hP := SpW.fresh hb1 hS2 hg2
  generalize w1.heap.size = g at hP ⊢
  refine fresh_world (SpW w g [] 2) hP ?_
  clear hP hS2 hg2 hb1 w2
  rintro W hW
  have h1 := made64 W
  have hW3 := Lib.hid (hW.below ((Below.refl _ _).alloc (Nat.le_refl _) (.cells (madeCells #[.int .u8 0] 64) 5)))
  clear hW
  go_upto_region 3 with fail
  refine fresh_world (SpW w g [] 2) hW3.out ?_
  clear hW3 h1
  rintro W3 hW
  have hWH := Lib.hid hW
  clear hW
  go_wp2_with (refine wpList_loadS rfl _ rfl hWH.out.1 rfl ?_)
  go_wp2_with fail
  (with_reducible refine (c2.out _).mono ?_)
  rintro e w1 ⟨rfl, hb1⟩
  have hW4 := Lib.hid (hWH.out.below hb1)
  clear hWH hb1
  go_upto_region 4 with (refine wpList_storeS (L' := [zs64]) (n' := 2) rfl _ _ rfl hW4.out.1 rfl rfl (by simp) ?_; intro w2 hS2 hg2)
  have hP := hW4.out.stored hS2 hg2
  refine fresh_world (SpW w g [zs64] 2) hP ?_
  clear hP hS2 hg2 hW4 w2
  rintro W5 hW
  have hWH := Lib.hid hW
  clear hW
  go_wp2_with fail
  (with_reducible refine (c3.out _).mono ?_)
  rintro e w1 ⟨A, cap, rfl, hR, hb1⟩
  rw [pcs213] at hR ⊢
  obtain ⟨g', rfl, hge, hlt, hcap, hc, -⟩ := hR.at_ (i := 1) (by decide)
  have x0 : w1.cell? ⟨g', 3, none⟩ = some (.int .i64 1) := hc 0 (by decide)
  have x1 : w1.cell? ⟨g', 4, none⟩ = some (.int .i64 0) := hc 1 (by decide)
  have x2 : w1.cell? ⟨g', 5, none⟩ = some (.int .i64 2) := hc 2 (by decide)
  have hW6 := Lib.hid (hWH.out.below hb1)
  clear hWH hb1 hR hc
  go_wp2_with (refine wpList_loadS (by rfl) _ rfl hW6.out.1 rfl ?_)
  (with_reducible refine (c4.out _).mono ?_)
  rintro e w2 ⟨rfl, hb2⟩
  have hW7 := Lib.hid (hW6.out.below hb2)
  obtain ⟨hcc, -⟩ := bcell hb2
  have y0 := (hcc g' 3 hlt).trans x0
  have y1 := (hcc g' 4 hlt).trans x1
  have y2 := (hcc g' 5 hlt).trans x2
  have hlt2 := Nat.lt_of_lt_of_le hlt hb2.size
  clear hb2 hW6 x0 x1 x2 hcc
  go_wp2_with (refine wpList_loadS (by rfl) _ rfl hW7.out.1 rfl ?_)
  (with_reducible refine (c5.out _).mono ?_)
  rintro e w3 ⟨rfl, hb3⟩
  have hW8 := Lib.hid (hW7.out.below hb3)
  obtain ⟨hcc, -⟩ := bcell hb3
  have z0 := (hcc g' 3 hlt2).trans y0
  have z1 := (hcc g' 4 hlt2).trans y1
  have z2 := (hcc g' 5 hlt2).trans y2
  clear hb3 hW7 y0 y1 y2 hcc
  go_wp2
  go_ret
  exact ⟨rfl, hW8.out.2.1⟩
end Go.Proofs.Ytonoanjakfaloaa
