/- What Add of stripe does. -/
import Derived.Test.YtonoanjakfaloaaSpR
import Derived.StillTailTactics
namespace Go.Proofs.Ytonoanjakfaloaa
open Go.RowKit Sp

/-- Behind the boxes of Add. -/
def AddW (w : World) (L : List ByteArray) (n : Int) (W : World) : Prop := SrAt W w.heap.size L n ∧ SrAt W (w.heap.size + 1) [] 0 ∧ Below w.heap.size w W
theorem addW_new (w : World) {L : List ByteArray} {n : Int} (h : L.length ≤ 15) : AddW w L n ((w.alloc (.cells (cellsL L n).toArray 27)).alloc (.cells #[.string ⟨#[]⟩, .string ⟨#[]⟩, .string ⟨#[]⟩, .string ⟨#[]⟩, .string ⟨#[]⟩, .string ⟨#[]⟩, .string ⟨#[]⟩, .string ⟨#[]⟩, .string ⟨#[]⟩, .string ⟨#[]⟩, .string ⟨#[]⟩, .string ⟨#[]⟩, .string ⟨#[]⟩, .string ⟨#[]⟩, .string ⟨#[]⟩, .int .i64 0, .int .i64 0] 27)) := by
  refine ⟨(SrAt.new w h).below ((Below.refl _ _).alloc (Nat.le_refl _) _), ?_, ((Below.refl _ _).alloc (Nat.le_refl _) _).alloc (by simp) _⟩
  have := SrAt.zero (w.alloc (.cells (cellsL L n).toArray 27))
  rwa [World.size_alloc] at this
theorem AddW.below {w W W' : World} {L : List ByteArray} {n : Int} (h : AddW w L n W) (hb : Below W.heap.size W W') : AddW w L n W' := ⟨h.1.below hb, h.2.1.below hb, h.2.2.trans (hb.mono (by have := h.2.2.size; omega))⟩

set_option maxHeartbeats 1000000 in
theorem addS_bad (L : List ByteArray) (n : Int) (s : ByteArray) (w : World) (h : L.length ≤ 15) (hs : s.size ≤ maxLen) (h64 : ¬ s.size = 64) :
    Calls Try.prog 17 #[rowV L n, .string s] w fun e w' => e = .returned (.tuple #[rowV [] 0, .int .i64 1]) ∧ Below w.heap.size w w' := by
  have c1 := fun W => isBlock_any s W hs
  rw [decide_eq_false h64] at c1
  have c1H := Lib.hid c1
  clear c1 h64
  obtain ⟨y0, y1, y2, y3, y4, y5, y6, y7, y8, y9, y10, y11, y12, y13, y14, y15, y16, e, -⟩ := opened (n := n) h
  have hA := addW_new w (n := n) h
  rw [e] at hA
  have hAH := Lib.hid hA
  have hS0 := Lib.hid hA.2.1
  clear hA
  rw [rowV_agg e]
  go_enter Try.func17, Try.ntmps17
  go_upto_region 1 with fail
  refine fresh_world (AddW w L n) hAH.out ?_
  clear hAH hS0 e
  rintro W hW
  have hWH := Lib.hid hW
  clear hW
  go_wp2_with fail
  (with_reducible refine (c1H.out _).mono ?_)
  rintro e w1 ⟨rfl, rfl⟩
  go_wp2_with (refine wpList_storeS (L' := []) (n' := 0) rfl _ _ rfl hWH.out.2.1 rfl rfl (by decide) ?_; intro w2 hS2 hg2)
  have hF : SrAt w2 (w.heap.size + 1) [] 0 ∧ Below w.heap.size w w2 := ⟨hS2, hWH.out.2.2.grown hg2 hWH.out.2.2.size (fun k e => by injection e with e; omega)⟩
  have hFH := Lib.hid hF
  clear hS2 hg2 hF
  go_wp2
  refine bodyPost_ret (v := .tuple #[rowV [] 0, .int .i64 1]) (results_S2 Try.results17 hFH.out.1 rfl rfl) rfl ⟨rfl, hFH.out.2⟩

set_option maxHeartbeats 1000000 in
theorem addS_full (L : List ByteArray) (n : Int) (s : ByteArray) (w : World) (h : L.length ≤ 15) (h64 : s.size = 64) (hn : (L.length : Int) = n) :
    Calls Try.prog 17 #[rowV L n, .string s] w fun e w' => e = .returned (.tuple #[rowV [] 0, .int .i64 4]) ∧ Below w.heap.size w w' := by
  have c1 := fun W => isBlock_any s W (by rw [h64]; decide)
  rw [decide_eq_true h64] at c1
  have c1H := Lib.hid c1
  have c2 := fun W => full_anyS L n W h
  rw [decide_eq_true hn] at c2
  have c2H := Lib.hid c2
  clear c1 c2 h64 hn
  obtain ⟨y0, y1, y2, y3, y4, y5, y6, y7, y8, y9, y10, y11, y12, y13, y14, y15, y16, e, -⟩ := opened (n := n) h
  have hA := addW_new w (n := n) h
  rw [e] at hA
  have hAH := Lib.hid hA
  have hS0 := Lib.hid hA.2.1
  clear hA
  rw [rowV_agg e]
  go_enter Try.func17, Try.ntmps17
  go_upto_region 1 with fail
  refine fresh_world (AddW w L n) hAH.out ?_
  clear hAH hS0 e
  rintro W hW
  have hWH := Lib.hid hW
  clear hW
  go_wp2_with fail
  (with_reducible refine (c1H.out _).mono ?_)
  rintro e w1 ⟨rfl, rfl⟩
  go_wp2_with (refine wpList_loadS rfl _ rfl hWH.out.1 rfl ?_)
  go_wp2_with fail
  (with_reducible refine (c2H.out _).mono ?_)
  rintro e w3 ⟨rfl, hb3⟩
  have hW3 := Lib.hid (hWH.out.below hb3)
  clear hb3 hWH
  go_wp2_with (refine wpList_storeS (L' := []) (n' := 0) rfl _ _ rfl hW3.out.2.1 rfl rfl (by decide) ?_; intro w2 hS2 hg2)
  have hF : SrAt w2 (w.heap.size + 1) [] 0 ∧ Below w.heap.size w w2 := ⟨hS2, hW3.out.2.2.grown hg2 hW3.out.2.2.size (fun k e => by injection e with e; omega)⟩
  have hFH := Lib.hid hF
  clear hS2 hg2 hF
  go_wp2
  refine bodyPost_ret (v := .tuple #[rowV [] 0, .int .i64 4]) (results_S2 Try.results17 hFH.out.1 rfl rfl) rfl ⟨rfl, hFH.out.2⟩

set_option maxHeartbeats 1000000 in
theorem addS_any (L : List ByteArray) (n : Int) (s : ByteArray) (w : World) (h : L.length < 15) (h64 : s.size = 64) (hn : ¬ (L.length : Int) = n) :
    Calls Try.prog 17 #[rowV L n, .string s] w fun e w' => e = .returned (.tuple #[rowV (L ++ [s]) n, .int .i64 0]) ∧ Below w.heap.size w w' := by
  have hlt := h
  have h := Nat.le_of_lt hlt
  have c1 := fun W => isBlock_any s W (by rw [h64]; decide)
  rw [decide_eq_true h64] at c1
  have c1H := Lib.hid c1
  have c2 := fun W => full_anyS L n W h
  rw [decide_eq_false hn] at c2
  have c2H := Lib.hid c2
  clear c1 c2 h64 hn
  obtain ⟨y0, y1, y2, y3, y4, y5, y6, y7, y8, y9, y10, y11, y12, y13, y14, y15, y16, e, -⟩ := opened (n := n) h
  have hA := addW_new w (n := n) h
  rw [e] at hA
  have hAH := Lib.hid hA
  have hS0 := Lib.hid hA.2.1
  clear hA
  rw [rowV_agg e]
  go_enter Try.func17, Try.ntmps17
  go_upto_region 1 with fail
  refine fresh_world (AddW w L n) hAH.out ?_
  clear hAH hS0 e
  rintro W hW
  have hWH := Lib.hid hW
  clear hW
  go_wp2_with fail
  (with_reducible refine (c1H.out _).mono ?_)
  rintro e w1 ⟨rfl, rfl⟩
  go_wp2_with (refine wpList_loadS rfl _ rfl hWH.out.1 rfl ?_)
  go_wp2_with fail
  (with_reducible refine (c2H.out _).mono ?_)
  rintro e w3 ⟨rfl, hb3⟩
  have hW3 := Lib.hid (hWH.out.below hb3)
  clear hb3 hWH
  have x1 := hW3.out.1.cnt
  have x2 := hW3.out.1.no (Nat.le_refl _) hlt
  have x3 := hW3.out.1.free L.length
  have x4 := hW3.out.1.free 15
  have x5 : ¬ L.length = 15 := by omega
  go_upto_region 7 with fail
  refine fresh_world (fun W => SrAt W w.heap.size (L ++ [s]) n ∧ SrAt W (w.heap.size + 1) [] 0 ∧ Below w.heap.size w W) ?_ ?_
  · exact ⟨hW3.out.1.add hlt s _ (by first | rfl | go_num), (hW3.out.2.1.far (by omega) _ _).far (by omega) _ _, (hW3.out.2.2.setCell (Nat.le_refl _) _).setCell (Nat.le_refl _) _⟩
  clear hW3 x1 x2 x3
  rintro W4 hW4
  have hW4H := Lib.hid hW4
  clear hW4
  have hl1 : (L ++ [s]).length ≤ 15 := by simp; omega
  have hl1H := Lib.hid hl1
  clear hl1
  go_wp2_with (first | (refine wpList_loadS rfl _ rfl hW4H.out.1 rfl ?_) | (refine wpList_storeS (L' := L ++ [s]) (n' := n) rfl _ _ rfl hW4H.out.2.1 rfl rfl hl1H.out ?_; intro w2 hS2 hg2))
  have hF : SrAt w2 (w.heap.size + 1) (L ++ [s]) n ∧ Below w.heap.size w w2 := ⟨hS2, hW4H.out.2.2.grown hg2 hW4H.out.2.2.size (fun k e => by injection e with e; omega)⟩
  have hFH := Lib.hid hF
  clear hS2 hg2 hF
  go_wp2
  refine bodyPost_ret (v := .tuple #[rowV (L ++ [s]) n, .int .i64 0]) (results_S2 Try.results17 hFH.out.1 rfl rfl) rfl ⟨rfl, hFH.out.2⟩

end Go.Proofs.Ytonoanjakfaloaa
