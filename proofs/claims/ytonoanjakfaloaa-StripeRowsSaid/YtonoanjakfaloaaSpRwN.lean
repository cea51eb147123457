/- StripeRows' walk. -/
import Derived.Test.YtonoanjakfaloaaSpRwM
namespace Go.Proofs.Ytonoanjakfaloaa
open Go.RowKit Sp Xor

set_option maxRecDepth 100000 in
set_option maxHeartbeats 1000000 in
theorem rows_none (n : Int) (A0 : Option Addr) (cap0 : Nat) (ps : List ByteArray) (B0 : Option Addr) (capB : Nat) (bs : List Bool) (w : World) (hn : n < 2 ∨ 15 < n) :
    Calls Try.prog 3 #[.int .i64 n, .slice A0 ps.length cap0, .slice B0 bs.length capB] w fun e w' => e = .returned (.bool true) ∧ Below w.heap.size w w' := by
  have cs := Lib.hid speaks11
  have cn := Lib.hid (fun W => newS_bad n W hn)
  have cc := Lib.hid (fun W => (show Calls Try.prog 14 #[rowV [] 0] W fun e w' => e = .returned (.int .i64 0) ∧ Below W.heap.size W w' from count_anyS [] 0 W (by decide)))
  have cf := Lib.hid (fun W => (show Calls Try.prog 15 #[rowV [] 0] W fun e w' => e = .returned (.bool true) ∧ Below W.heap.size W w' from full_anyS [] 0 W (by decide)))
  by_cases h1 : n < 2
  · clear hn
    go_enter Try.func3, Try.ntmps3
    go_wp2_with fail
    (with_reducible refine (cs.out _).mono ?_)
    rintro e w1 ⟨rfl, hb1⟩
    go_wp2_with fail
    (with_reducible refine (cn.out _).mono ?_)
    rintro e w2 ⟨rfl, hb2⟩
    have hB2 := hb1.trans (hb2.mono hb1.size)
    clear cs cn hb1 hb2
    go_upto_region 4 with (refine wpList_storeS (L' := []) (n' := 0) rfl _ _ rfl (SrAt.zero w2) rfl rfl (by decide) ?_; intro w3 hS3 hg3)
    have hP := SpW.fresh hB2 hS3 hg3
    refine fresh_world (SpW w w2.heap.size [] 0) hP ?_
    clear hP hS3 hg3 w3 hB2
    generalize w2.heap.size = g
    rintro W hW
    have hWH := Lib.hid hW
    clear hW
    go_wp2_with (refine wpList_loadS rfl _ rfl hWH.out.1 rfl ?_)
    (with_reducible refine (cc.out _).mono ?_)
    rintro e v1 ⟨rfl, hb1⟩
    have hW1 := Lib.hid (hWH.out.below hb1)
    clear hb1 hWH
    go_wp2_with (refine wpList_loadS rfl _ rfl hW1.out.1 rfl ?_)
    (with_reducible refine (cf.out _).mono ?_)
    rintro e v2 ⟨rfl, hb2⟩
    have hW2 := Lib.hid (hW1.out.below hb2)
    clear hb2 hW1
    go_wp2
    go_ret
    exact ⟨rfl, hW2.out.2.1⟩
  have h2 : 15 < n := by omega
  clear hn
  go_enter Try.func3, Try.ntmps3
  go_wp2_with fail
  (with_reducible refine (cs.out _).mono ?_)
  rintro e w1 ⟨rfl, hb1⟩
  go_wp2_with fail
  (with_reducible refine (cn.out _).mono ?_)
  rintro e w2 ⟨rfl, hb2⟩
  have hB2 := hb1.trans (hb2.mono hb1.size)
  clear cs cn hb1 hb2
  go_upto_region 4 with (refine wpList_storeS (L' := []) (n' := 0) rfl _ _ rfl (SrAt.zero w2) rfl rfl (by decide) ?_; intro w3 hS3 hg3)
  have hP := SpW.fresh hB2 hS3 hg3
  refine fresh_world (SpW w w2.heap.size [] 0) hP ?_
  clear hP hS3 hg3 w3 hB2
  generalize w2.heap.size = g
  rintro W hW
  have hWH := Lib.hid hW
  clear hW
  go_wp2_with (refine wpList_loadS rfl _ rfl hWH.out.1 rfl ?_)
  (with_reducible refine (cc.out _).mono ?_)
  rintro e v1 ⟨rfl, hb1⟩
  have hW1 := Lib.hid (hWH.out.below hb1)
  clear hb1 hWH
  go_wp2_with (refine wpList_loadS rfl _ rfl hW1.out.1 rfl ?_)
  (with_reducible refine (cf.out _).mono ?_)
  rintro e v2 ⟨rfl, hb2⟩
  have hW2 := Lib.hid (hW1.out.below hb2)
  clear hb2 hW1
  go_wp2
  go_ret
  exact ⟨rfl, hW2.out.2.1⟩

end Go.Proofs.Ytonoanjakfaloaa
