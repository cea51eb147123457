/- MendEnds: the walk. -/
import Derived.Test.YtdnedahbghhpgaaMdEw
namespace Go.Proofs.Ytdnedahbghhpgaa
open Go.RowKit Tl Pl Md

set_option maxRecDepth 100000 in
set_option maxHeartbeats 4000000 in
theorem ends_law15 (w : World) (D Z B O A q0 q1 q2 q3 : Int) (Al : Option Addr) (cl : Nat) (ls : List Int) (hI : IntsIn w Al ls) :
    Calls Try.prog 7 #[.agg #[.int .i64 D, .int .i64 Z, .int .i64 B, .int .i64 O, .int .i64 A], .agg #[.int .i64 q0, .int .i64 q1, .int .i64 q2, .int .i64 q3], .slice Al ls.length cl] w fun e w' => e = .returned (.bool true) ∧ Below w.heap.size w w' := by
  have hN := Lib.hid (MeA.new w D Z B O A q0 q1 q2 q3)
  have hAH := Lib.hid (fun W (hb : Below w.heap.size w W) => hI.below hb)
  clear hI
  go_enter Try.func7, Try.ntmps7
  go_upto_region 1 with fail
  refine fresh_world (fun W => MeA w D Z B O A q0 q1 q2 q3 W) hN.out ?_
  clear hN
  rintro W1 h1
  have h1H := Lib.hid h1
  clear h1
  go_wp2_with fail
  (with_reducible refine (speaks15 _).mono ?_)
  rintro e w1 ⟨rfl, hb1⟩
  have h1 := h1H.out.below hb1
  obtain ⟨g0, g1, g2, g3, g4, _⟩ := h1.g
  have hG7 := GeoAt.new w1 D Z B O A 37
  have hM7 := h1.below ((Below.refl w1.heap.size w1).alloc (Nat.le_refl _) (.cells #[.int .i64 D, .int .i64 Z, .int .i64 B, .int .i64 O, .int .i64 A] 37))
  have hN7 := Lib.hid (⟨hM7, hG7⟩ : MeB w w1.heap.size D Z B O A q0 q1 q2 q3 _)
  clear h1H hb1 h1 hG7 hM7
  go_upto_region 4 with fail
  generalize w1.heap.size = s7 at hN7 ⊢
  refine fresh_world (fun W => MeB w s7 D Z B O A q0 q1 q2 q3 W) hN7.out ?_
  clear hN7 g0 g1 g2 g3 g4
  rintro w4 h4
  have h4H := Lib.hid h4
  obtain ⟨g0, g1, g2, g3, g4, _⟩ := h4.m.g
  have c1 := Lib.hid (fun W => refgood_any D Z B O A W)
  clear h4
  cases hg : goodB D Z B O A with
  | false =>
    rw [hg] at c1
    go_wp2_with fail
    (with_reducible refine (c1.out _).mono ?_)
    rintro e w2 ⟨rfl, hb2⟩
    have hF := Lib.hid (h4H.out.below hb2).m.bw
    clear h4H hb2 g0 g1 g2 g3 g4
    go_wp2_with fail
    go_ret
    exact ⟨rfl, hF.out⟩
  | true =>
    rw [hg] at c1
    have hgp := goodB_iff.1 hg
    obtain ⟨wd, hD⟩ : ∃ wd : Nat, D = (wd : Int) + 1 := ⟨(D - 1).toNat, by have := hgp.1; omega⟩
    have hw2 : 2 ≤ wd := by have := hgp.1; omega
    have hw15 : wd ≤ 15 := by have := hgp.2.1; omega
    have hB4 : 4 ≤ B ∧ B ≤ 256 := ⟨hgp.2.2.2.2.1, hgp.2.2.2.2.2.1⟩
    have hZ5 : 5 ≤ Z ∧ Z ≤ 64 := ⟨hgp.2.2.1, hgp.2.2.2.1⟩
    have hzn := Lib.hid (fun W => zones_any D Z B O A W)
    rw [zonesV_good hgp] at hzn
    obtain ⟨Zn, hZn⟩ : ∃ Zn, Z - 3 = Zn := ⟨_, rfl⟩
    rw [hZn] at hzn
    have hcp := Lib.hid (fun W => cap_any D Z B O A W)
    have hVb := capV_bd D Z B O A
    have hVe := capV_good hgp
    obtain ⟨V, hV⟩ : ∃ V, capV D Z B O A = V := ⟨_, rfl⟩
    rw [hV] at hcp hVb hVe
    obtain ⟨t1, z, x1, x2, x3, x4, x5, x6, x7, x8, x9⟩ := mod_more q0 (m := Zn) (by omega) (by omega)
    obtain ⟨t2, r, y1, y2, y3, y4, y5, y6, y7, y8, y9, y10, y11, y12, y13⟩ := mod_plus q1 (v := V) (by omega) (by omega)
    have hzZ : (z : Int) ≤ Z - 4 := by omega
    have hgpH := Lib.hid hgp
    have hDH := Lib.hid hD
    have hVeH := Lib.hid hVe
    have hVbH := Lib.hid hVb
    have hzZH := Lib.hid hzZ
    have hB4H := Lib.hid hB4
    have hyH := Lib.hid (And.intro y1 (And.intro y2 (And.intro y3 (And.intro y4 (And.intro y5 (And.intro y6 (And.intro y7 (And.intro y8 (And.intro y9 (And.intro y10 (And.intro y11 (And.intro y12 y13))))))))))))
    clear hgp hD hVe hV hVb hzZ hZn hB4 hZ5 y1 y2 y3 y4 y5 y6 y7 y8 y9 y10 y11 y12 y13
    go_wp2_with fail
    (with_reducible refine (c1.out _).mono ?_)
    rintro e w2 ⟨rfl, hb2⟩
    have h2 := h4H.out.below hb2
    clear h4H hb2 g0 g1 g2 g3 g4 c1
    have hS0 : (fun W => MeB w s7 D Z B O A q0 q1 q2 q3 W) w2.drew := h2.below (Below.refl _ _).drew
    have h2H := Lib.hid h2
    clear h2
    go_upto_region 6 with fail
    refine region_anyC (fun _ => true) (fun W => MeB w s7 D Z B O A q0 q1 q2 q3 W) (by kernel_rfl) ?_
    refine anyL_take 0 (v := ?_) rfl (by kernel_rfl) (fun _ _ _ h => h) (Or.inl ⟨by rfl, ?_⟩) hS0 ?_
    rotate_left
    focus (intro W hW; go_simp; try with_reducible rfl)
    simp only [Act.put, List.setIfInBounds_toArray, List.set_cons_zero, List.set_cons_succ]
    refine anyL_take 1 (v := ?_) rfl (by kernel_rfl) (fun _ _ _ h => h) (Or.inl ⟨by rfl, ?_⟩) hS0 ?_
    rotate_left
    focus (intro W hW; obtain ⟨⟨⟨g0, g1, g2, g3, g4, _⟩, a0, a1, a2, a3, _⟩, ⟨k0, k1, k2, k3, k4, _⟩⟩ := hW; go_simp; try with_reducible rfl)
    simp only [Act.put, List.setIfInBounds_toArray, List.set_cons_zero, List.set_cons_succ]
    refine anyL_take 2 (v := ?_) rfl (by kernel_rfl) (fun _ _ _ h => h) (Or.inl ⟨by rfl, ?_⟩) hS0 ?_
    rotate_left
    focus (intro W hW; obtain ⟨⟨⟨g0, g1, g2, g3, g4, _⟩, a0, a1, a2, a3, _⟩, ⟨k0, k1, k2, k3, k4, _⟩⟩ := hW; go_simp; try with_reducible rfl)
    simp only [Act.put, List.setIfInBounds_toArray, List.set_cons_zero, List.set_cons_succ]
    refine anyL_take 5 (v := ?_) rfl (by kernel_rfl) (fun _ _ _ h => h) (Or.inl ⟨by rfl, ?_⟩) hS0 ?_
    rotate_left
    focus (intro W hW; obtain ⟨⟨⟨g0, g1, g2, g3, g4, _⟩, a0, a1, a2, a3, _⟩, ⟨k0, k1, k2, k3, k4, _⟩⟩ := hW; go_simp; try with_reducible rfl)
    simp only [Act.put, List.setIfInBounds_toArray, List.set_cons_zero, List.set_cons_succ]
    refine anyL_take 8 (v := ?_) rfl (by kernel_rfl) (fun _ _ _ h => h) (Or.inl ⟨by rfl, ?_⟩) hS0 ?_
    rotate_left
    focus (intro W hW; obtain ⟨⟨⟨g0, g1, g2, g3, g4, _⟩, a0, a1, a2, a3, _⟩, ⟨k0, k1, k2, k3, k4, _⟩⟩ := hW; go_simp; try with_reducible rfl)
    simp only [Act.put, List.setIfInBounds_toArray, List.set_cons_zero, List.set_cons_succ]
    refine anyL_one 3 rfl (by kernel_rfl) (fun K hK => ?_)
    go_simp
    refine (hzn.out _).mono ?_
    rintro e' wz0 ⟨rfl, hbz0⟩
    have hS1 : (fun W => MeB w s7 D Z B O A q0 q1 q2 q3 W) wz0 := MeB.below hS0 hbz0
    clear hS0 hbz0
    refine hK.out _ _ (fun _ => hS1) ?_
    clear hK K
    try simp only [Act.put, List.setIfInBounds_toArray, List.set_cons_zero, List.set_cons_succ]
    refine anyL_take 4 (v := ?_) rfl (by kernel_rfl) (fun _ _ _ h => h) (Or.inl ⟨by rfl, ?_⟩) hS1 ?_
    rotate_left
    focus (intro W hW; go_simp; try with_reducible rfl)
    simp only [Act.put, List.setIfInBounds_toArray, List.set_cons_zero, List.set_cons_succ]
    refine anyL_one 6 rfl (by kernel_rfl) (fun K hK => ?_)
    go_simp
    refine (hzn.out _).mono ?_
    rintro e' wz1 ⟨rfl, hbz1⟩
    have hS2 : (fun W => MeB w s7 D Z B O A q0 q1 q2 q3 W) wz1 := MeB.below hS1 hbz1
    clear hS1 hbz1
    refine hK.out _ _ (fun _ => hS2) ?_
    clear hK K
    try simp only [Act.put, List.setIfInBounds_toArray, List.set_cons_zero, List.set_cons_succ]
    refine anyL_take 7 (v := ?_) rfl (by kernel_rfl) (fun _ _ _ h => h) (Or.inl ⟨by rfl, ?_⟩) hS2 ?_
    rotate_left
    focus (intro W hW; go_simp; try with_reducible rfl)
    simp only [Act.put, List.setIfInBounds_toArray, List.set_cons_zero, List.set_cons_succ]
    refine anyL_one 9 rfl (by kernel_rfl) (fun K hK => ?_)
    go_simp
    refine (hzn.out _).mono ?_
    rintro e' wz2 ⟨rfl, hbz2⟩
    have hS3 : (fun W => MeB w s7 D Z B O A q0 q1 q2 q3 W) wz2 := MeB.below hS2 hbz2
    clear hS2 hbz2
    refine hK.out _ _ (fun _ => hS3) ?_
    clear hK K
    try simp only [Act.put, List.setIfInBounds_toArray, List.set_cons_zero, List.set_cons_succ]
    refine anyL_take 10 (v := ?_) rfl (by kernel_rfl) (fun _ _ _ h => h) (Or.inl ⟨by rfl, ?_⟩) hS3 ?_
    rotate_left
    focus (intro W hW; go_simp; try with_reducible rfl)
    simp only [Act.put, List.setIfInBounds_toArray, List.set_cons_zero, List.set_cons_succ]
    refine anyL_take 11 (v := ?_) rfl (by kernel_rfl) (fun _ _ _ h => h) (Or.inl ⟨by rfl, ?_⟩) hS3 ?_
    rotate_left
    focus (intro W hW; go_simp; try with_reducible rfl)
    simp only [Act.put, List.setIfInBounds_toArray, List.set_cons_zero, List.set_cons_succ]
    refine anyC_done (by kernel_rfl) ?_ _
    have h6H := Lib.hid hS3
    clear hS3 h2H x1 x2 x4 x5 x6 x7 x8 x9 hzn
    obtain ⟨k0, k1, k2, k3, k4, _⟩ := h6H.out.c
    go_wp2_with fail
    (with_reducible refine (hcp.out _).mono ?_)
    rintro e w7 ⟨rfl, hb7⟩
    have h7 := h6H.out.below hb7
    clear h6H hb7 hcp k0 k1 k2 k3 k4
    obtain ⟨y1, y2, y3, y4, y5, y6, y7, y8, y9, y10, y11, y12, y13⟩ := hyH.out
    have a1 := h7.m.a1
    have h7H := Lib.hid h7
    clear h7
    go_upto_region 9 with fail
    clear y1 y2 y4 y5 y6 y7 y8 y9 y10 y11 y12 y13 hyH a1
    obtain ⟨xm, hxm1, hxm2⟩ := mask_nat2 q2 10 1023 rfl (by decide)
    have hmk : bits .and .i64 q2 1023 = (xm : Int) := hxm2
    obtain ⟨d9, y9, b, n1, n2, n3, n4, n5, n6, n7, n8, n9, n10, hrb, hbV⟩ := all_nums xm r y3 hVbH.out.2
    have a2 := h7H.out.m.a2
    clear hxm1 hxm2
    go_upto_region 10 with fail
    clear hmk n1 n2 n3 n4 n5 n6 n7 n8 n9 n10 a2
    obtain ⟨t3, c, u1, u2, u3, u4, u5, u6, u7, u8, u9, u10, u11, u12, u13⟩ := mod_plus q3 (v := D) (by have := hDH.out; omega) (by have := hDH.out; omega)
    obtain ⟨m, hm⟩ : ∃ m, (c : Int) - 1 = m := ⟨_, rfl⟩
    have hm0 : -1 ≤ m := by clear u1 u2 u4 u5 u6 u7 u8 u9 u10 u11; omega
    have hm1 : m < D := by clear u1 u2 u4 u5 u6 u7 u8 u9 u10 u11; omega
    have m1 : IntKind.i64.wrap ((c : Int) - 1) = m := by rw [hm]; exact IntWalk.i64_in _ (by clear u1 u2 u4 u5 u6 u7 u8 u9 u10 u11; have := hDH.out; omega)
    have m2 : wrap64 ((c : Int) - 1) = m := by rw [hm]; exact IntWalk.wrap64_in _ (by clear u1 u2 u4 u5 u6 u7 u8 u9 u10 u11; have := hDH.out; omega)
    have a3 := h7H.out.m.a3
    obtain ⟨g0, g1, g2, g3, g4, _⟩ := h7H.out.m.g
    have h7d := Lib.hid (fun k => h7H.out.below (below_drewN (Below.refl _ w7) k))
    have hmH := Lib.hid hm
    clear h7H hm
    go_quiet (fail)
    go_upto_region 11 with fail
    refine fresh_world (fun W => MeB w s7 D Z B O A q0 q1 q2 q3 W) (h7d.out _) ?_
    clear h7d u1 u2 u3 u4 u5 u6 u7 u8 u9 u10 u11 u12 u13 m1 m2 a3 g0 g1 g2 g3 g4 hmH
    rintro w10 h10
    have hrV : (r : Int) ≤ (D - 1) * B := by rw [← hVeH.out]; exact y3
    have hbV2 : (b : Int) ≤ (D - 1) * B := by rw [← hVeH.out]; exact hbV
    have hla := Lib.hid (fun W => lengths_good wd z r D Z B O A hDH.out W hgpH.out hzZH.out hrV)
    have hlb := Lib.hid (fun W => lengths_good wd z b D Z B O A hDH.out W hgpH.out hzZH.out hbV2)
    have hlm : Hid (∀ i : Nat, 0 ≤ len wd z r (i : Int) ∧ len wd z r (i : Int) ≤ len wd z b (i : Int) ∧ len wd z b (i : Int) ≤ 5000) := Lib.hid (fun i => by
      refine ⟨len_nn _ _ _ _, len_mono_w hrb _, ?_⟩
      have h1 := len_rows (wd := wd) (z := z) (r := b) (B := B) (by omega) (by rw [hDH.out, show (wd : Int) + 1 - 1 = (wd : Int) by omega] at hbV2; exact hbV2) (i : Int)
      have := hB4H.out
      omega)
    have hrVH := Lib.hid hrV
    have hbVH := Lib.hid hbV2
    have hS0 : (fun W => MeB w s7 D Z B O A q0 q1 q2 q3 W) w10.drew := h10.below (Below.refl _ _).drew
    clear h10 hrV hbV2
    refine region_anyC (fun _ => true) (fun W => MeB w s7 D Z B O A q0 q1 q2 q3 W) (by kernel_rfl) ?_
    refine anyL_take 0 (v := ?_) rfl (by kernel_rfl) (fun _ _ _ h => h) (Or.inl ⟨by rfl, ?_⟩) hS0 ?_
    rotate_left
    focus (intro W hW; obtain ⟨⟨⟨g0, g1, g2, g3, g4, _⟩, a0, a1, a2, a3, _⟩, ⟨k0, k1, k2, k3, k4, _⟩⟩ := hW; go_simp; try with_reducible rfl)
    simp only [Act.put, List.setIfInBounds_toArray, List.set_cons_zero, List.set_cons_succ]
    refine anyL_take 1 (v := ?_) rfl (by kernel_rfl) (fun _ _ _ h => h) (Or.inl ⟨by rfl, ?_⟩) hS0 ?_
    rotate_left
    focus (intro W hW; go_simp; try with_reducible rfl)
    simp only [Act.put, List.setIfInBounds_toArray, List.set_cons_zero, List.set_cons_succ]
    refine anyL_take 2 (v := ?_) rfl (by kernel_rfl) (fun _ _ _ h => h) (Or.inl ⟨by rfl, ?_⟩) hS0 ?_
    rotate_left
    focus (intro W hW; go_simp; try with_reducible rfl)
    simp only [Act.put, List.setIfInBounds_toArray, List.set_cons_zero, List.set_cons_succ]
    refine anyL_take 4 (v := ?_) rfl (by kernel_rfl) (fun _ _ _ h => h) (Or.inl ⟨by rfl, ?_⟩) hS0 ?_
    rotate_left
    focus (intro W hW; obtain ⟨⟨⟨g0, g1, g2, g3, g4, _⟩, a0, a1, a2, a3, _⟩, ⟨k0, k1, k2, k3, k4, _⟩⟩ := hW; go_simp; try with_reducible rfl)
    simp only [Act.put, List.setIfInBounds_toArray, List.set_cons_zero, List.set_cons_succ]
    refine anyL_take 5 (v := ?_) rfl (by kernel_rfl) (fun _ _ _ h => h) (Or.inl ⟨by rfl, ?_⟩) hS0 ?_
    rotate_left
    focus (intro W hW; go_simp; try with_reducible rfl)
    simp only [Act.put, List.setIfInBounds_toArray, List.set_cons_zero, List.set_cons_succ]
    refine anyL_take 6 (v := ?_) rfl (by kernel_rfl) (fun _ _ _ h => h) (Or.inl ⟨by rfl, ?_⟩) hS0 ?_
    rotate_left
    focus (intro W hW; go_simp; try with_reducible rfl)
    simp only [Act.put, List.setIfInBounds_toArray, List.set_cons_zero, List.set_cons_succ]
    refine anyL_one 3 rfl (by kernel_rfl) (fun K hK => ?_)
    go_simp
    refine (hla.out _).mono ?_
    rintro e' wa ⟨G1, rfl, hra, _, hba⟩
    have hS1 : (fun W => MeB w s7 D Z B O A q0 q1 q2 q3 W) wa := MeB.below hS0 hba
    clear hS0 hba
    refine hK.out _ _ (fun _ => hS1) ?_
    clear hK K
    try simp only [Act.put, List.setIfInBounds_toArray, List.set_cons_zero, List.set_cons_succ]
    refine anyL_one 7 rfl (by kernel_rfl) (fun K hK => ?_)
    go_simp
    refine (hlb.out _).mono ?_
    rintro e' wb ⟨G2, rfl, hrb', _, hbb⟩
    have hS2 : (fun W => MeB w s7 D Z B O A q0 q1 q2 q3 W) wb := MeB.below hS1 hbb
    have hra := hra.below hbb
    clear hS1 hbb
    refine hK.out _ _ (fun _ => hS2) ?_
    clear hK K
    try simp only [Act.put, List.setIfInBounds_toArray, List.set_cons_zero, List.set_cons_succ]
    refine anyL_take 8 (v := ?_) rfl (by kernel_rfl) (fun _ _ _ h => h) (Or.inl ⟨by rfl, ?_⟩) hS2 ?_
    rotate_left
    focus (intro W hW; go_simp; try with_reducible rfl)
    simp only [Act.put, List.setIfInBounds_toArray, List.set_cons_zero, List.set_cons_succ]
    refine anyL_take 9 (v := ?_) rfl (by kernel_rfl) (fun _ _ _ h => h) (Or.inl ⟨by rfl, ?_⟩) hS2 ?_
    rotate_left
    focus (intro W hW; go_simp; try with_reducible rfl)
    simp only [Act.put, List.setIfInBounds_toArray, List.set_cons_zero, List.set_cons_succ]
    refine anyC_done (by kernel_rfl) ?_ _
    clear hla hlb
    have ha := (Below.refl wb.heap.size wb).alloc (Nat.le_refl _) (.cells #[.slice none 0 0, .int .i64 m, .slice none 0 0] 31)
    have hnz := World.alloc_heap_new wb (.cells #[.slice none 0 0, .int .i64 m, .slice none 0 0] 31)
    have hsz := World.size_alloc wb (.cells #[.slice none 0 0, .int .i64 m, .slice none 0 0] 31)
    have hL12 : (MeB w s7 D Z B O A q0 q1 q2 q3 (wb.alloc (.cells #[.slice none 0 0, .int .i64 m, .slice none 0 0] 31)) ∧ RepW (wb.alloc (.cells #[.slice none 0 0, .int .i64 m, .slice none 0 0] 31)) G1 (ints (lens wd z r)) ∧ RepW (wb.alloc (.cells #[.slice none 0 0, .int .i64 m, .slice none 0 0] 31)) G2 (ints (lens wd z b)) ∧ G1 < wb.heap.size ∧ G2 < wb.heap.size ∧ s7 < wb.heap.size ∧ w.heap.size + 1 < wb.heap.size) := ⟨MeB.below hS2 ha, hra.below ha, hrb'.below ha, hra.lt, hrb'.lt, hS2.c.2.2.2.2.2, lt_of_cell hS2.m.a0⟩
    have hV12 : LvB (wb.heap.size + 1) wb.heap.size none 0 [] m none 0 [] (wb.alloc (.cells #[.slice none 0 0, .int .i64 m, .slice none 0 0] 31)) := ⟨hnz, Enc.Row.nil _ _ _, Enc.Row.nil _ _ _, (fun g e => by cases e), Nat.lt_succ_self _, by rw [hsz]; exact Nat.le_refl _⟩
    have hfin := Lib.hid (And.intro hL12 hV12)
    clear ha hnz hsz hL12 hV12 hS2 hra hrb'
    go_upto_region 13 with fail
    generalize wb.heap.size = s15 at hfin ⊢
    refine fresh_world (fun W => (MeB w s7 D Z B O A q0 q1 q2 q3 W ∧ RepW W G1 (ints (lens wd z r)) ∧ RepW W G2 (ints (lens wd z b)) ∧ G1 < s15 ∧ G2 < s15 ∧ s7 < s15 ∧ w.heap.size + 1 < s15) ∧ LvB (s15 + 1) s15 none 0 [] m none 0 [] W) hfin.out ?_
    clear hfin
    obtain ⟨base, hbase⟩ : ∃ base, s15 + 1 = base := ⟨_, rfl⟩
    rw [hbase]
    rintro w13 h13
    have h13H := Lib.hid h13
    clear h13 hbase
    go_wp2_with fail
    go_loopw [16] (fun ii wr => ∃ (i : Nat) (q : List Int) (A' : Option Addr) (cap' : Nat), ii = .int .i64 (i : Int) ∧ i ≤ wd + 1 ∧ Hid (q.length = i) ∧ Hid (∀ j, j < i → len wd z r (j : Int) ≤ q.getD j 0 ∧ q.getD j 0 ≤ len wd z b (j : Int)) ∧ Hid ((MeB w s7 D Z B O A q0 q1 q2 q3 wr ∧ RepW wr G1 (ints (lens wd z r)) ∧ RepW wr G2 (ints (lens wd z b)) ∧ G1 < s15 ∧ G2 < s15 ∧ s7 < s15 ∧ w.heap.size + 1 < s15) ∧ LvB base s15 A' cap' q m none 0 [] wr)) (fun ii _ => wd + 1 - (intOf ii).toNat)
    case atStart => exact ⟨0, [], none, 0, rfl, Nat.zero_le _, Lib.hid rfl, Lib.hid (fun j hj => absurd hj (Nat.not_lt_zero _)), h13H⟩
    case round =>
      obtain ⟨i, q, A', cap', rfl, hi, hql, hqr, hB⟩ := hrel
      clear h13H
      obtain ⟨g0, g1, g2, g3, g4, _⟩ := hB.out.1.1.m.g
      by_cases hlt : i < wd + 1
      case neg =>
        have hnlt : ¬ (i : Int) < D := by have := hDH.out; omega
        have hie : Hid (i = wd + 1) := Lib.hid (by omega)
        have hr9 : r ≤ 3840 := by have := hVbH.out; omega
        have hb9 : b ≤ 3840 := by have := hVbH.out; omega
        obtain ⟨f, hf, hf9, d1, d2, d3, d4, d5, d6, d7⟩ := dec_nums hDH.out hw2 hw15 hr9
        have dH := Lib.hid (And.intro d1 (And.intro d2 (And.intro d3 (And.intro d4 d5))))
        clear d1 d2 d3 d4 d5 d6 d7
        have hwn := Lib.hid (want_nums (k := r) hDH.out hw2 hw15 hr9)
        obtain ⟨lf, hlf⟩ : ∃ lf, r % wd = lf := ⟨_, rfl⟩
        rw [hlf] at hwn
        have hlf9 : lf < wd := by rw [← hlf]; exact Nat.mod_lt _ (by omega)
        have hrf : f * wd + lf = r := by
          have := Nat.div_add_mod r wd
          rw [hf, hlf, Nat.mul_comm] at this
          exact this
        have hpar : Hid (0 < lf → parV D Z B O A (z : Int) (f : Int) = par wd z f) := Lib.hid (fun h0 => by
          have hfB : (f : Int) ≤ B - 1 := by
            rcases Int.lt_or_le (f : Int) B with h | h
            · omega
            · exfalso
              have h1 : B * (wd : Int) ≤ (f : Int) * (wd : Int) := Int.mul_le_mul_of_nonneg_right h (by omega)
              have h2 := hrVH.out
              rw [hDH.out, show (wd : Int) + 1 - 1 = (wd : Int) by omega, Int.mul_comm] at h2
              have h3 : (f : Int) * (wd : Int) = ((f * wd : Nat) : Int) := (Int.natCast_mul f wd).symm
              omega
          rw [parV_good hgpH.out (Int.natCast_nonneg z) hzZH.out (Int.natCast_nonneg f) hfB, hDH.out]
          rfl)
        have hLo : Hid (∀ xs, xs = (if 0 < lf ∧ par wd z f ≠ m then [((f : Int), (lf : Int))] else []) → Lost D Z B O A wd z r b ⟨q, m, xs⟩) := Lib.hid (fun xs hx => ⟨hDH.out, hgpH.out, hzZH.out, hrb, by have := hbVH.out; rw [hDH.out, show (wd : Int) + 1 - 1 = (wd : Int) by omega] at this; exact this, by show q.length = wd + 1; rw [hql.out, hie.out], hm0, hm1, fun s s0 s1 => by
            obtain ⟨j, rfl⟩ := Int.eq_ofNat_of_zero_le s0
            have := hqr.out j (by have := hie.out; omega)
            rw [lenAt_nat]; exact this.1, fun s s0 s1 => by
            obtain ⟨j, rfl⟩ := Int.eq_ofNat_of_zero_le s0
            have := hqr.out j (by have := hie.out; omega)
            rw [lenAt_nat]; exact this.2, by show xs = _; rw [hx, hf, hlf]⟩)
        have hfH := Lib.hid hf
        have hlfH := Lib.hid hlf
        clear hf hlf hlm hqr
        go_upto_region 20 with fail
        refine fresh_world (fun W => (MeB w s7 D Z B O A q0 q1 q2 q3 W ∧ RepW W G1 (ints (lens wd z r)) ∧ RepW W G2 (ints (lens wd z b)) ∧ G1 < s15 ∧ G2 < s15 ∧ s7 < s15 ∧ w.heap.size + 1 < s15) ∧ LvB base s15 A' cap' q m none 0 [] W) hB.out ?_
        clear hB hlt hnlt hi g0 g1 g2 g3 g4
        rintro w20 h20
        obtain ⟨g0, g1, g2, g3, g4, _⟩ := h20.1.1.m.g
        obtain ⟨u1, u2, u3, u4, u5, u6, u7, u8⟩ := hwn.out
        have h20H := Lib.hid h20
        clear h20
        go_upto_region 21 with fail
        clear u1 u2 u3 u4 u5 u6 u7 u8 g0 g1 g2 g3 g4
        go_cut [148] from 135 to 148 (fun c wx => ∃ cb : Bool, c = .bool cb ∧ Hid (cb = decide (0 < lf ∧ par wd z f ≠ m)) ∧ Hid ((MeB w s7 D Z B O A q0 q1 q2 q3 wx ∧ RepW wx G1 (ints (lens wd z r)) ∧ RepW wx G2 (ints (lens wd z b)) ∧ G1 < s15 ∧ G2 < s15 ∧ s7 < s15 ∧ w.heap.size + 1 < s15) ∧ LvB base s15 A' cap' q m none 0 [] wx))
        case first =>
          have hpa := Lib.hid (fun W => parity_any D Z B O A (z : Int) (f : Int) W)
          have hS0 : (fun W => (MeB w s7 D Z B O A q0 q1 q2 q3 W ∧ RepW W G1 (ints (lens wd z r)) ∧ RepW W G2 (ints (lens wd z b)) ∧ G1 < s15 ∧ G2 < s15 ∧ s7 < s15 ∧ w.heap.size + 1 < s15) ∧ LvB base s15 A' cap' q m none 0 [] W) w20.drew := ⟨⟨h20H.out.1.1.below (Below.refl _ _).drew, h20H.out.1.2⟩, h20H.out.2.below (Below.refl _ _).drew⟩
          by_cases hl0 : lf = 0
          · have hcb : Hid (false = decide (0 < lf ∧ par wd z f ≠ m)) := Lib.hid (decide_eq_false (fun h => by omega)).symm
            have e0 : decide ((0 : Int) < (lf : Int)) = false := decide_eq_false (by omega)
            have e1 : ¬ (0 : Int) < (lf : Int) := by omega
            have e2 : ¬ 0 < lf := by omega
            clear hpa hl0
            refine region_anyC (fun _ => true) (fun W => (MeB w s7 D Z B O A q0 q1 q2 q3 W ∧ RepW W G1 (ints (lens wd z r)) ∧ RepW W G2 (ints (lens wd z b)) ∧ G1 < s15 ∧ G2 < s15 ∧ s7 < s15 ∧ w.heap.size + 1 < s15) ∧ LvB base s15 A' cap' q m none 0 [] W) (by kernel_rfl) ?_
            refine anyL_take 0 (v := ?_) rfl (by kernel_rfl) (fun _ _ _ h => h) (Or.inl ⟨by rfl, ?_⟩) hS0 ?_
            rotate_left
            focus (intro W hW; go_simp; try with_reducible rfl)
            simp only [Act.put, List.setIfInBounds_toArray, List.set_cons_zero, List.set_cons_succ]
            refine anyL_take 1 (v := ?_) rfl (by kernel_rfl) (fun _ _ _ h => h) (Or.inl ⟨by rfl, ?_⟩) hS0 ?_
            rotate_left
            focus (intro W hW; go_simp; try with_reducible rfl)
            simp only [Act.put, List.setIfInBounds_toArray, List.set_cons_zero, List.set_cons_succ]
            refine anyL_take 2 (v := ?_) rfl (by kernel_rfl) (fun _ _ _ h => h) (Or.inl ⟨by rfl, ?_⟩) hS0 ?_
            rotate_left
            focus (intro W hW; go_simp; try with_reducible rfl)
            simp only [Act.put, List.setIfInBounds_toArray, List.set_cons_zero, List.set_cons_succ]
            refine anyL_take 3 (v := undef) rfl (by kernel_rfl) (fun _ _ _ h => h) (Or.inr ⟨by rfl, rfl⟩) hS0 ?_
            simp only [Act.put, List.setIfInBounds_toArray, List.set_cons_zero, List.set_cons_succ]
            refine anyL_take 4 (v := undef) rfl (by kernel_rfl) (fun _ _ _ h => h) (Or.inr ⟨by rfl, rfl⟩) hS0 ?_
            simp only [Act.put, List.setIfInBounds_toArray, List.set_cons_zero, List.set_cons_succ]
            refine anyL_take 5 (v := undef) rfl (by kernel_rfl) (fun _ _ _ h => h) (Or.inr ⟨by rfl, rfl⟩) hS0 ?_
            simp only [Act.put, List.setIfInBounds_toArray, List.set_cons_zero, List.set_cons_succ]
            refine anyL_take 6 (v := undef) rfl (by kernel_rfl) (fun _ _ _ h => h) (Or.inr ⟨by rfl, rfl⟩) hS0 ?_
            simp only [Act.put, List.setIfInBounds_toArray, List.set_cons_zero, List.set_cons_succ]
            refine anyL_take 7 (v := undef) rfl (by kernel_rfl) (fun _ _ _ h => h) (Or.inr ⟨by rfl, rfl⟩) hS0 ?_
            simp only [Act.put, List.setIfInBounds_toArray, List.set_cons_zero, List.set_cons_succ]
            refine anyL_take 8 (v := undef) rfl (by kernel_rfl) (fun _ _ _ h => h) (Or.inr ⟨by rfl, rfl⟩) hS0 ?_
            simp only [Act.put, List.setIfInBounds_toArray, List.set_cons_zero, List.set_cons_succ]
            refine anyL_take 9 (v := undef) rfl (by kernel_rfl) (fun _ _ _ h => h) (Or.inr ⟨by rfl, rfl⟩) hS0 ?_
            simp only [Act.put, List.setIfInBounds_toArray, List.set_cons_zero, List.set_cons_succ]
            refine anyL_take 10 (v := undef) rfl (by kernel_rfl) (fun _ _ _ h => h) (Or.inr ⟨by rfl, rfl⟩) hS0 ?_
            simp only [Act.put, List.setIfInBounds_toArray, List.set_cons_zero, List.set_cons_succ]
            refine anyL_take 11 (v := undef) rfl (by kernel_rfl) (fun _ _ _ h => h) (Or.inr ⟨by rfl, rfl⟩) hS0 ?_
            simp only [Act.put, List.setIfInBounds_toArray, List.set_cons_zero, List.set_cons_succ]
            refine anyL_take 12 (v := undef) rfl (by kernel_rfl) (fun _ _ _ h => h) (Or.inr ⟨by rfl, rfl⟩) hS0 ?_
            simp only [Act.put, List.setIfInBounds_toArray, List.set_cons_zero, List.set_cons_succ]
            refine anyL_take 13 (v := ?_) rfl (by kernel_rfl) (fun _ _ _ h => h) (Or.inl ⟨by rfl, ?_⟩) hS0 ?_
            rotate_left
            focus (intro W hW; go_simp; try with_reducible rfl)
            simp only [Act.put, List.setIfInBounds_toArray, List.set_cons_zero, List.set_cons_succ]
            refine anyC_done (by kernel_rfl) ?_ _
            have hfin := Lib.hid hS0
            clear hS0
            go_wp2_with fail
            go_meet
            exact ⟨false, rfl, hcb, hfin⟩
          · have hl1 : 0 < lf := by omega
            have hpv := hpar.out hl1
            rw [hpv] at hpa
            have e0 : decide ((0 : Int) < (lf : Int)) = true := decide_eq_true (by omega)
            have e1 : (0 : Int) < (lf : Int) := by omega
            obtain ⟨pv, hpe⟩ : ∃ pv, par wd z f = pv := ⟨_, rfl⟩
            rw [hpe] at hpa
            have hcb : Hid ((pv != m) = decide (0 < lf ∧ par wd z f ≠ m)) := Lib.hid (by
              rw [hpe, Bool.eq_iff_iff, bne_iff_ne, decide_eq_true_eq]
              exact ⟨fun h => ⟨hl1, h⟩, fun h => h.2⟩)
            obtain ⟨cb, hcbe⟩ : ∃ cb, (pv != m) = cb := ⟨_, rfl⟩
            rw [hcbe] at hcb
            obtain ⟨v1, v2, v3, v4, v5⟩ := dH.out
            have v6 : ¬ (wd : Int) = -1 := by clear v1 v2 v4 v5; omega
            have v7 : ¬ wd = 0 := by clear v1 v2 v4 v5; omega
            clear hpv hpe hl0
            refine region_anyC (fun _ => true) (fun W => (MeB w s7 D Z B O A q0 q1 q2 q3 W ∧ RepW W G1 (ints (lens wd z r)) ∧ RepW W G2 (ints (lens wd z b)) ∧ G1 < s15 ∧ G2 < s15 ∧ s7 < s15 ∧ w.heap.size + 1 < s15) ∧ LvB base s15 A' cap' q m none 0 [] W) (by kernel_rfl) ?_
            refine anyL_take 0 (v := ?_) rfl (by kernel_rfl) (fun _ _ _ h => h) (Or.inl ⟨by rfl, ?_⟩) hS0 ?_
            rotate_left
            focus (intro W hW; go_simp; try with_reducible rfl)
            simp only [Act.put, List.setIfInBounds_toArray, List.set_cons_zero, List.set_cons_succ]
            refine anyL_take 1 (v := ?_) rfl (by kernel_rfl) (fun _ _ _ h => h) (Or.inl ⟨by rfl, ?_⟩) hS0 ?_
            rotate_left
            focus (intro W hW; go_simp; try with_reducible rfl)
            simp only [Act.put, List.setIfInBounds_toArray, List.set_cons_zero, List.set_cons_succ]
            refine anyL_take 2 (v := ?_) rfl (by kernel_rfl) (fun _ _ _ h => h) (Or.inl ⟨by rfl, ?_⟩) hS0 ?_
            rotate_left
            focus (intro W hW; go_simp; try with_reducible rfl)
            simp only [Act.put, List.setIfInBounds_toArray, List.set_cons_zero, List.set_cons_succ]
            refine anyL_take 3 (v := ?_) rfl (by kernel_rfl) (fun _ _ _ h => h) (Or.inl ⟨by rfl, ?_⟩) hS0 ?_
            rotate_left
            focus (intro W hW; obtain ⟨⟨⟨g0, g1, g2, g3, g4, _⟩, a0, a1, a2, a3, _⟩, ⟨k0, k1, k2, k3, k4, _⟩⟩ := hW.1.1; go_simp; try with_reducible rfl)
            simp only [Act.put, List.setIfInBounds_toArray, List.set_cons_zero, List.set_cons_succ]
            refine anyL_take 4 (v := ?_) rfl (by kernel_rfl) (fun _ _ _ h => h) (Or.inl ⟨by rfl, ?_⟩) hS0 ?_
            rotate_left
            focus (intro W hW; go_simp; try with_reducible rfl)
            simp only [Act.put, List.setIfInBounds_toArray, List.set_cons_zero, List.set_cons_succ]
            refine anyL_take 5 (v := ?_) rfl (by kernel_rfl) (fun _ _ _ h => h) (Or.inl ⟨by rfl, ?_⟩) hS0 ?_
            rotate_left
            focus (intro W hW; go_simp; try with_reducible rfl)
            simp only [Act.put, List.setIfInBounds_toArray, List.set_cons_zero, List.set_cons_succ]
            refine anyL_take 6 (v := ?_) rfl (by kernel_rfl) (fun _ _ _ h => h) (Or.inl ⟨by rfl, ?_⟩) hS0 ?_
            rotate_left
            focus (intro W hW; go_simp; try with_reducible rfl)
            simp only [Act.put, List.setIfInBounds_toArray, List.set_cons_zero, List.set_cons_succ]
            refine anyL_take 7 (v := ?_) rfl (by kernel_rfl) (fun _ _ _ h => h) (Or.inl ⟨by rfl, ?_⟩) hS0 ?_
            rotate_left
            focus (intro W hW; obtain ⟨⟨⟨g0, g1, g2, g3, g4, _⟩, a0, a1, a2, a3, _⟩, ⟨k0, k1, k2, k3, k4, _⟩⟩ := hW.1.1; go_simp; try with_reducible rfl)
            simp only [Act.put, List.setIfInBounds_toArray, List.set_cons_zero, List.set_cons_succ]
            refine anyL_take 8 (v := ?_) rfl (by kernel_rfl) (fun _ _ _ h => h) (Or.inl ⟨by rfl, ?_⟩) hS0 ?_
            rotate_left
            focus (intro W hW; go_simp; try with_reducible rfl)
            simp only [Act.put, List.setIfInBounds_toArray, List.set_cons_zero, List.set_cons_succ]
            refine anyL_take 9 (v := ?_) rfl (by kernel_rfl) (fun _ _ _ h => h) (Or.inl ⟨by rfl, ?_⟩) hS0 ?_
            rotate_left
            focus (intro W hW; go_simp; try with_reducible rfl)
            simp only [Act.put, List.setIfInBounds_toArray, List.set_cons_zero, List.set_cons_succ]
            refine anyL_take 11 (v := ?_) rfl (by kernel_rfl) (fun _ _ _ h => h) (Or.inl ⟨by rfl, ?_⟩) hS0 ?_
            rotate_left
            focus (intro W hW; go_simp; try with_reducible rfl)
            simp only [Act.put, List.setIfInBounds_toArray, List.set_cons_zero, List.set_cons_succ]
            refine anyL_one 10 rfl (by kernel_rfl) (fun K hK => ?_)
            go_simp
            refine (hpa.out _).mono ?_
            rintro e' wp ⟨rfl, hbp⟩
            have hS1 : (fun W => (MeB w s7 D Z B O A q0 q1 q2 q3 W ∧ RepW W G1 (ints (lens wd z r)) ∧ RepW W G2 (ints (lens wd z b)) ∧ G1 < s15 ∧ G2 < s15 ∧ s7 < s15 ∧ w.heap.size + 1 < s15) ∧ LvB base s15 A' cap' q m none 0 [] W) wp := ⟨⟨hS0.1.1.below hbp, hS0.1.2.1.below hbp, hS0.1.2.2.1.below hbp, hS0.1.2.2.2⟩, hS0.2.below hbp⟩
            clear hS0 hbp
            refine hK.out _ _ (fun _ => hS1) ?_
            clear hK K
            try simp only [Act.put, List.setIfInBounds_toArray, List.set_cons_zero, List.set_cons_succ]
            refine anyL_take 12 (v := ?_) rfl (by kernel_rfl) (fun _ _ _ h => h) (Or.inl ⟨by rfl, ?_⟩) hS1 ?_
            rotate_left
            focus (intro W hW; go_simp; try with_reducible rfl)
            simp only [Act.put, List.setIfInBounds_toArray, List.set_cons_zero, List.set_cons_succ]
            refine anyL_take 13 (v := ?_) rfl (by kernel_rfl) (fun _ _ _ h => h) (Or.inl ⟨by rfl, ?_⟩) hS1 ?_
            rotate_left
            focus (intro W hW; go_simp; try with_reducible rfl)
            simp only [Act.put, List.setIfInBounds_toArray, List.set_cons_zero, List.set_cons_succ]
            refine anyC_done (by kernel_rfl) ?_ _
            have hfin := Lib.hid hS1
            clear hS1 v1 v2 v3 v4 v5
            go_wp2_with fail
            go_meet
            exact ⟨cb, by first | rfl | rw [hcbe], hcb, hfin⟩
        case rest =>
          clear h20H
          obtain ⟨cb, rfl, hcb, hC⟩ := hcut
          have hC0 := hC
          go_upto_if 148 with fail
          go_cut [] from 149 to 160 (fun wx => ∃ (B1 : Option Addr) (d1 : Nat) (xs : List (Int × Int)), Hid (xs = if 0 < lf ∧ par wd z f ≠ m then [((f : Int), (lf : Int))] else []) ∧ Hid ((MeB w s7 D Z B O A q0 q1 q2 q3 wx ∧ RepW wx G1 (ints (lens wd z r)) ∧ RepW wx G2 (ints (lens wd z b)) ∧ G1 < s15 ∧ G2 < s15 ∧ s7 < s15 ∧ w.heap.size + 1 < s15) ∧ LvB base s15 A' cap' q m B1 d1 xs wx))
          case first =>
            clear hpar
            cases cb with
            | false =>
              have hxs : Hid (([] : List (Int × Int)) = if 0 < lf ∧ par wd z f ≠ m then [((f : Int), (lf : Int))] else []) := Lib.hid (by rw [if_neg (of_decide_eq_false hcb.out.symm)])
              clear hcb hC0
              go_wp2_with fail
              go_meet
              exact ⟨none, 0, [], hxs, hC⟩
            | true =>
              have hxs : Hid ([((f : Int), (lf : Int))] = if 0 < lf ∧ par wd z f ≠ m then [((f : Int), (lf : Int))] else []) := Lib.hid (by rw [if_pos (of_decide_eq_true hcb.out.symm)])
              clear hcb hC0
              go_upto_region 22 with fail
              refine fresh_world (fun W => (MeB w s7 D Z B O A q0 q1 q2 q3 W ∧ RepW W G1 (ints (lens wd z r)) ∧ RepW W G2 (ints (lens wd z b)) ∧ G1 < s15 ∧ G2 < s15 ∧ s7 < s15 ∧ w.heap.size + 1 < s15) ∧ LvB base s15 A' cap' q m none 0 [] W) hC.out ?_
              clear hC
              rintro wx ⟨hL, hV⟩
              have hcz : wx.cell? ⟨s15, 2, none⟩ = some (.slice none 0 0) := cell_of_row wx s15 2 _ _ _ hV.z
              obtain ⟨v1, v2, v3, v4, v5⟩ := dH.out
              have v6 : ¬ (wd : Int) = -1 := by clear v1 v2 v4 v5; omega
              have v7 : ¬ wd = 0 := by clear v1 v2 v4 v5; omega
              have hS0 : (fun W => MeB w s7 D Z B O A q0 q1 q2 q3 W ∧ W.cell? ⟨s15, 2, none⟩ = some (.slice none 0 0)) wx.drew := ⟨hL.1.below (Below.refl _ _).drew, hcz⟩
              refine region_anyC (fun i => decide (i < 12)) (fun W => MeB w s7 D Z B O A q0 q1 q2 q3 W ∧ W.cell? ⟨s15, 2, none⟩ = some (.slice none 0 0)) (by kernel_rfl) ?_
              refine anyL_take 0 (v := ?_) rfl (by kernel_rfl) (fun _ _ _ h => h) (Or.inl ⟨by rfl, ?_⟩) hS0 ?_
              rotate_left
              focus (intro W hW; go_simp; try with_reducible rfl)
              simp only [Act.put, List.setIfInBounds_toArray, List.set_cons_zero, List.set_cons_succ]
              refine anyL_take 1 (v := ?_) rfl (by kernel_rfl) (fun _ _ _ h => h) (Or.inl ⟨by rfl, ?_⟩) hS0 ?_
              rotate_left
              focus (intro W hW; have f0 := hW.2; go_simp; try with_reducible rfl)
              simp only [Act.put, List.setIfInBounds_toArray, List.set_cons_zero, List.set_cons_succ]
              refine anyL_take 2 (v := ?_) rfl (by kernel_rfl) (fun _ _ _ h => h) (Or.inl ⟨by rfl, ?_⟩) hS0 ?_
              rotate_left
              focus (intro W hW; go_simp; try with_reducible rfl)
              simp only [Act.put, List.setIfInBounds_toArray, List.set_cons_zero, List.set_cons_succ]
              refine anyL_take 3 (v := ?_) rfl (by kernel_rfl) (fun _ _ _ h => h) (Or.inl ⟨by rfl, ?_⟩) hS0 ?_
              rotate_left
              focus (intro W hW; go_simp; try with_reducible rfl)
              simp only [Act.put, List.setIfInBounds_toArray, List.set_cons_zero, List.set_cons_succ]
              refine anyL_take 4 (v := ?_) rfl (by kernel_rfl) (fun _ _ _ h => h) (Or.inl ⟨by rfl, ?_⟩) hS0 ?_
              rotate_left
              focus (intro W hW; obtain ⟨g0, g1, g2, g3, g4, _⟩ := hW.1.m.g; go_simp; try with_reducible rfl)
              simp only [Act.put, List.setIfInBounds_toArray, List.set_cons_zero, List.set_cons_succ]
              refine anyL_take 5 (v := ?_) rfl (by kernel_rfl) (fun _ _ _ h => h) (Or.inl ⟨by rfl, ?_⟩) hS0 ?_
              rotate_left
              focus (intro W hW; go_simp; try with_reducible rfl)
              simp only [Act.put, List.setIfInBounds_toArray, List.set_cons_zero, List.set_cons_succ]
              refine anyL_take 6 (v := ?_) rfl (by kernel_rfl) (fun _ _ _ h => h) (Or.inl ⟨by rfl, ?_⟩) hS0 ?_
              rotate_left
              focus (intro W hW; go_simp; try with_reducible rfl)
              simp only [Act.put, List.setIfInBounds_toArray, List.set_cons_zero, List.set_cons_succ]
              refine anyL_take 7 (v := ?_) rfl (by kernel_rfl) (fun _ _ _ h => h) (Or.inl ⟨by rfl, ?_⟩) hS0 ?_
              rotate_left
              focus (intro W hW; go_simp; try with_reducible rfl)
              simp only [Act.put, List.setIfInBounds_toArray, List.set_cons_zero, List.set_cons_succ]
              refine anyL_take 8 (v := ?_) rfl (by kernel_rfl) (fun _ _ _ h => h) (Or.inl ⟨by rfl, ?_⟩) hS0 ?_
              rotate_left
              focus (intro W hW; go_simp; try with_reducible rfl)
              simp only [Act.put, List.setIfInBounds_toArray, List.set_cons_zero, List.set_cons_succ]
              generalize hwy : wx.drew = wy at hS0 ⊢
              have hLy : (MeB w s7 D Z B O A q0 q1 q2 q3 wy ∧ RepW wy G1 (ints (lens wd z r)) ∧ RepW wy G2 (ints (lens wd z b)) ∧ G1 < s15 ∧ G2 < s15 ∧ s7 < s15 ∧ w.heap.size + 1 < s15) := by rw [← hwy]; exact ⟨hL.1.below (Below.refl _ _).drew, hL.2⟩
              have hVy : LvB base s15 A' cap' q m none 0 [] wy := by rw [← hwy]; exact hV.below (Below.refl _ _).drew
              clear hwy hL hV hcz
              refine anyL_one 9 rfl (by kernel_rfl) (fun K hK => ?_)
              go_simp
              have ha := (Below.refl wy.heap.size wy).alloc (Nat.le_refl _) (.cells #[.int .i64 (f : Int), .int .i64 (lf : Int)] 48)
              have hn := World.alloc_heap_new wy (.cells #[.int .i64 (f : Int), .int .i64 (lf : Int)] 48)
              have hV1 := hVy.below ha
              have hL1 : (MeB w s7 D Z B O A q0 q1 q2 q3 (wy.alloc (.cells #[.int .i64 (f : Int), .int .i64 (lf : Int)] 48)) ∧ RepW (wy.alloc (.cells #[.int .i64 (f : Int), .int .i64 (lf : Int)] 48)) G1 (ints (lens wd z r)) ∧ RepW (wy.alloc (.cells #[.int .i64 (f : Int), .int .i64 (lf : Int)] 48)) G2 (ints (lens wd z b)) ∧ G1 < s15 ∧ G2 < s15 ∧ s7 < s15 ∧ w.heap.size + 1 < s15) := ⟨hLy.1.below ha, hLy.2.1.below ha, hLy.2.2.1.below ha, hLy.2.2.2⟩
              have hc1 := keepC hS0.2 ha
              refine hK.out _ _ (fun _ => ⟨hL1.1, hc1⟩) ?_
              clear hK K hS0 hVy hLy ha
              try simp only [Act.put, List.setIfInBounds_toArray, List.set_cons_zero, List.set_cons_succ]
              obtain ⟨A3, cap3, W6, hrun, hrow, hgr, hor⟩ := Enc.Row.append (E := ntE) (P := Try.prog) Try.underlying29 infoN1 (by decide) (by decide) hV1.n (m := wy.heap.size) (x := ((f : Int), (lf : Int))) (fun j hj => by
                match j, hj with
                | 0, _ => exact cell_of_row _ _ 0 _ _ _ hn
                | 1, _ => exact cell_of_row _ _ 1 _ _ _ hn) (by simp) hV1.hb 29
              have hpush := hV1.more hrow hgr hor
              have hb6 : Below base (wy.alloc (.cells #[.int .i64 (f : Int), .int .i64 (lf : Int)] 48)) W6 := (Below.refl base _).grown hgr hV1.hb (fun k e => (row_own hV1.n e).2)
              simp only [List.length_nil, List.nil_append, Nat.zero_add] at hrun hpush
              refine anyL_one 10 rfl (by kernel_rfl) (fun K hK => ?_)
              refine append_run_step rfl (.tmp 150) (.tmp 158) 29 rfl rfl rfl hrun ?_
              have hz6 := (hb6.block s15 hV1.hs).trans hV1.z
              have hL6 : (MeB w s7 D Z B O A q0 q1 q2 q3 W6 ∧ RepW W6 G1 (ints (lens wd z r)) ∧ RepW W6 G2 (ints (lens wd z b)) ∧ G1 < s15 ∧ G2 < s15 ∧ s7 < s15 ∧ w.heap.size + 1 < s15) := ⟨hL1.1.low hb6 (Nat.lt_trans hL1.2.2.2.2.2.1 hV1.hs) (Nat.lt_trans hL1.2.2.2.2.2.2 hV1.hs), (hb6.block _ (Nat.lt_trans hL1.2.2.2.1 hV1.hs)).trans hL1.2.1, (hb6.block _ (Nat.lt_trans hL1.2.2.2.2.1 hV1.hs)).trans hL1.2.2.1, hL1.2.2.2⟩
              have hc6 : W6.cell? ⟨s15, 2, none⟩ = some (.slice none 0 0) := (hb6.cell (p := ⟨s15, 2, none⟩) hV1.hs).trans hc1
              have hSx : (fun W => MeB w s7 D Z B O A q0 q1 q2 q3 W ∧ W.cell? ⟨s15, 2, none⟩ = some (.slice none 0 0)) W6 := ⟨hL6.1, hc6⟩
              refine hK.out _ _ (fun _ => hSx) ?_
              clear hK K hc1 hL1 hb6 hrun hrow hgr hor hn
              try simp only [Act.put, List.setIfInBounds_toArray, List.set_cons_zero, List.set_cons_succ]
              have zf : W6.frozen? ⟨s15, 2, none⟩ = false := by simp [World.frozen?, hz6]
              have zl := lt_of_cell hc6
              refine anyL_take 11 (v := ?_) rfl (by kernel_rfl) (fun _ _ _ h => h) (Or.inl ⟨by rfl, ?_⟩) hSx ?_
              rotate_left
              focus (intro W hW; go_simp; try with_reducible rfl)
              simp only [Act.put, List.setIfInBounds_toArray, List.set_cons_zero, List.set_cons_succ]
              clear hSx
              refine anyL_one 12 rfl (by kernel_rfl) (fun K hK => ?_)
              go_simp
              refine hK.out _ _ (fun h => absurd h (by decide)) ?_
              clear hK K
              try simp only [Act.put, List.setIfInBounds_toArray, List.set_cons_zero, List.set_cons_succ]
              refine anyC_done (by kernel_rfl) ?_ _
              have hlow := (Below.refl s15 W6).setCell (p := ⟨s15, 2, none⟩) (Nat.le_refl _) (.slice A3 1 cap3)
              have hL7 : (MeB w s7 D Z B O A q0 q1 q2 q3 (W6.setCell ⟨s15, 2, none⟩ (.slice A3 1 cap3)) ∧ RepW (W6.setCell ⟨s15, 2, none⟩ (.slice A3 1 cap3)) G1 (ints (lens wd z r)) ∧ RepW (W6.setCell ⟨s15, 2, none⟩ (.slice A3 1 cap3)) G2 (ints (lens wd z b)) ∧ G1 < s15 ∧ G2 < s15 ∧ s7 < s15 ∧ w.heap.size + 1 < s15) := ⟨hL6.1.low hlow hL6.2.2.2.2.2.1 hL6.2.2.2.2.2.2, (hlow.block _ hL6.2.2.2.1).trans hL6.2.1, (hlow.block _ hL6.2.2.2.2.1).trans hL6.2.2.1, hL6.2.2.2⟩
              have hfin := Lib.hid (And.intro hL7 hpush.1)
              clear hL6 hL7 hV1 hlow hpush hz6 hc6 zf zl v1 v2 v3 v4 v5 v6 v7
              go_wp2_with fail
              go_meet
              exact ⟨A3, cap3, _, hxs, hfin⟩
          case rest =>
            clear hC0 hC hcb hpar
            obtain ⟨B1, d1', xs, hxs, hC2⟩ := hcut
            have hLost := Lib.hid (hLo.out xs hxs.out)
            have hxl : Hid (xs.length ≤ 1) := Lib.hid (by rw [hxs.out]; split <;> simp)
            have hqw : Hid (q.length = wd + 1) := Lib.hid (by rw [hql.out, hie.out])
            have hlen := Lib.hid (fun W (h : VwIn W A' B1 ⟨q, m, xs⟩) => length_any12 D Z B O A (z : Int) A' cap' B1 d1' ⟨q, m, xs⟩ W h (by show q.length ≤ 1000000; rw [hqw.out]; omega) (by show xs.length ≤ 1000000; have := hxl.out; omega))
            dsimp only at hlen
            obtain ⟨n, hn⟩ : ∃ n, lenV D Z B O A (z : Int) ⟨q, m, xs⟩ = n := ⟨_, rfl⟩
            rw [hn] at hlen
            have hge : r ≤ n := by rw [← hn]; exact hLost.out.ge
            have hle : n ≤ b := by rw [← hn]; exact hLost.out.le
            have hnH := Lib.hid hn
            clear hLo hxs hn hql
            obtain ⟨k0, k1, k2, k3, k4, _⟩ := hC2.out.1.1.c
            have z0 : wc.cell? ⟨s15, 0, none⟩ = some (.slice A' q.length cap') := cell_of_row wc s15 0 _ _ _ hC2.out.2.z
            have z1 : wc.cell? ⟨s15, 1, none⟩ = some (.int .i64 m) := cell_of_row wc s15 1 _ _ _ hC2.out.2.z
            have z2 : wc.cell? ⟨s15, 2, none⟩ = some (.slice B1 xs.length d1') := cell_of_row wc s15 2 _ _ _ hC2.out.2.z
            have hl1 := Lib.hid (hlen.out wc hC2.out.2.vw)
            clear hlen
            go_wp2_with fail
            (with_reducible refine hl1.out.mono ?_)
            rintro e w23 ⟨rfl, hb23⟩
            have hFw : Hid ((MeB w s7 D Z B O A q0 q1 q2 q3 w23 ∧ RepW w23 G1 (ints (lens wd z r)) ∧ RepW w23 G2 (ints (lens wd z b)) ∧ G1 < s15 ∧ G2 < s15 ∧ s7 < s15 ∧ w.heap.size + 1 < s15) ∧ LvB base s15 A' cap' q m B1 d1' xs w23) := Lib.hid ⟨⟨hC2.out.1.1.below hb23, hC2.out.1.2.1.below hb23, hC2.out.1.2.2.1.below hb23, hC2.out.1.2.2.2⟩, hC2.out.2.below hb23⟩
            clear hl1 hC2 hb23 k0 k1 k2 k3 k4 z0 z1 z2
            have hnV : (n : Int) ≤ (D - 1) * B := by have := hbVH.out; omega
            have hok : okB D B ⟨q, m, []⟩ = true := hLost.out.ok
            have hdec := Lib.hid (fun W A2 c2 (h : IntsIn W A2 q) => dec_good wd z n D Z B O A hDH.out A2 c2 q m W hgpH.out hzZH.out hnV hok h)
            have hln := Lib.hid (fun W => lengths_good wd z n D Z B O A hDH.out W hgpH.out hzZH.out hnV)
            obtain ⟨pr, hpr⟩ : ∃ p, parV D Z B O A (z : Int) (((n / wd : Nat) : Int) - 1) = p := ⟨_, rfl⟩
            have hprP : 1 ≤ n / wd → pr = par wd z (n / wd - 1) := by
              intro h1
              obtain ⟨f9, hf9⟩ : ∃ f9, n / wd = f9 + 1 := ⟨n / wd - 1, by omega⟩
              rw [← hpr, hf9, show ((f9 + 1 : Nat) : Int) - 1 = (f9 : Int) by omega, show f9 + 1 - 1 = f9 by omega]
              have hfB : (f9 : Int) ≤ B - 1 := by
                have h2 := Nat.div_mul_le_self n wd
                rw [hf9] at h2
                have h3 : (f9 + 1) * wd = f9 * wd + wd := Nat.succ_mul f9 wd
                rcases Int.lt_or_le (f9 : Int) B with h | h
                · omega
                · exfalso
                  have h4 : B * (wd : Int) ≤ (f9 : Int) * (wd : Int) := Int.mul_le_mul_of_nonneg_right h (by omega)
                  have h5 := hnV
                  rw [hDH.out, show (wd : Int) + 1 - 1 = (wd : Int) by omega, Int.mul_comm] at h5
                  have h6 : (f9 : Int) * (wd : Int) = ((f9 * wd : Nat) : Int) := (Int.natCast_mul f9 wd).symm
                  omega
              rw [parV_good hgpH.out (Int.natCast_nonneg z) hzZH.out (Int.natCast_nonneg f9) hfB, hDH.out]
              rfl
            rw [hpr] at hdec
            obtain ⟨d, hd⟩ : ∃ d, decV (lens wd z n) q m (wd + 1) (n : Int) (((n / wd : Nat) : Int) - 1) pr = d := ⟨_, rfl⟩
            rw [hd] at hdec
            have hthree := hLost.out.dec n hnH.out pr hprP d hd
            have hprH := Lib.hid hpr
            have hprPH := Lib.hid hprP
            have hsameH : Hid (b = r → ∀ s : Nat, s < wd + 1 → bad (lens wd z n) q m s = false) := Lib.hid (fun e s hs => by
              have e2 : n = r := by omega
              rw [e2]
              have hL2 := hLost.out
              rw [e] at hL2
              exact hL2.same s hs)
            have hthH := Lib.hid hthree
            have hokH := Lib.hid hok
            have hnVH := Lib.hid hnV
            clear hpr hprP hd hthree hLost hnH hok hnV
            have happ := Lib.hid (fun W base' g (hr : inE.Row W base' 3 (some ⟨g, 0, none⟩) 0 []) (hI : IntsIn W A' q) (hN : A' = none → cap' = 0) (hb : base' ≤ W.heap.size) => ints_app hr hI hN (by rw [hqw.out]; omega) hb)
            have hN0 : Hid (A' = none → cap' = 0) := Lib.hid (fun e => by
              rcases hFw.out.2.r.form with ⟨_, h, _⟩ | ⟨g, h, _⟩
              · exact h
              · rw [h] at e; cases e)
            go_upto_region 24 with fail
            go_cut [20, 21] from 165 to 176 (fun av bv wx => ∃ s20 : Nat, av = .pointer (some ⟨s20, 0, none⟩) ∧ bv = .int .i64 0 ∧ Hid ((MeB w s7 D Z B O A q0 q1 q2 q3 wx ∧ RepW wx G1 (ints (lens wd z r)) ∧ RepW wx G2 (ints (lens wd z b)) ∧ G1 < s15 ∧ G2 < s15 ∧ s7 < s15 ∧ w.heap.size + 1 < s15) ∧ LvB base s15 A' cap' q m B1 d1' xs wx) ∧ Hid (wx.heap[s20]? = some (.cells #[.int .i64 d.k, .int .i64 d.s, .int .i64 d.r] 70 (0, 0))) ∧ Hid (∀ g, A' = some ⟨g, 0, none⟩ → g ≠ s20))
            case first =>
              have hFd : (MeB w s7 D Z B O A q0 q1 q2 q3 w23.drew ∧ RepW w23.drew G1 (ints (lens wd z r)) ∧ RepW w23.drew G2 (ints (lens wd z b)) ∧ G1 < s15 ∧ G2 < s15 ∧ s7 < s15 ∧ w.heap.size + 1 < s15) ∧ LvB base s15 A' cap' q m B1 d1' xs w23.drew := ⟨⟨hFw.out.1.1.below (Below.refl _ _).drew, hFw.out.1.2⟩, hFw.out.2.below (Below.refl _ _).drew⟩
              clear hFw
              refine region_anyC (fun _ => true) (fun W => Below w23.drew.heap.size w23.drew W) (by kernel_rfl) ?_
              generalize w23.drew = wq at hFd ⊢
              obtain ⟨ba, hba⟩ : ∃ ba, ba = wq.heap.size := ⟨_, rfl⟩
              have hba9 : ba ≤ wq.heap.size := by omega
              rw [← hba]
              have hFH := Lib.hid (fun W (hb' : Below ba wq W) => have hb : Below wq.heap.size wq W := (by rw [← hba]; exact hb'); (⟨⟨hFd.1.1.below hb, hFd.1.2.1.below hb, hFd.1.2.2.1.below hb, hFd.1.2.2.2⟩, hFd.2.below hb⟩ : (MeB w s7 D Z B O A q0 q1 q2 q3 W ∧ RepW W G1 (ints (lens wd z r)) ∧ RepW W G2 (ints (lens wd z b)) ∧ G1 < s15 ∧ G2 < s15 ∧ s7 < s15 ∧ w.heap.size + 1 < s15) ∧ LvB base s15 A' cap' q m B1 d1' xs W))
              have hS : (fun W => Below ba wq W) wq := Below.refl _ _
              have hA9 : Hid (∀ g, A' = some ⟨g, 0, none⟩ → g < ba) := Lib.hid (fun g e => by
                rcases hFd.2.r.form with ⟨h, _⟩ | ⟨g', h, _, h3, _⟩
                · rw [h] at e; cases e
                · rw [h] at e; injection e with e; injection e with e; omega)
              clear hFd hba
              refine anyL_take 0 (v := ?_) rfl (by kernel_rfl) (fun _ _ _ h => h) (Or.inl ⟨by rfl, ?_⟩) hS ?_
              rotate_left
              focus (intro W hW; obtain ⟨k0, k1, k2, k3, k4, _⟩ := (hFH.out W hW).1.1.c; go_simp; try with_reducible rfl)
              simp only [Act.put, List.setIfInBounds_toArray, List.set_cons_zero, List.set_cons_succ]
              refine anyL_take 1 (v := ?_) rfl (by kernel_rfl) (fun _ _ _ h => h) (Or.inl ⟨by rfl, ?_⟩) hS ?_
              rotate_left
              focus (intro W hW; go_simp; try with_reducible rfl)
              simp only [Act.put, List.setIfInBounds_toArray, List.set_cons_zero, List.set_cons_succ]
              refine anyL_take 2 (v := ?_) rfl (by kernel_rfl) (fun _ _ _ h => h) (Or.inl ⟨by rfl, ?_⟩) hS ?_
              rotate_left
              focus (intro W hW; go_simp; try with_reducible rfl)
              simp only [Act.put, List.setIfInBounds_toArray, List.set_cons_zero, List.set_cons_succ]
              refine anyL_take 4 (v := ?_) rfl (by kernel_rfl) (fun _ _ _ h => h) (Or.inl ⟨by rfl, ?_⟩) hS ?_
              rotate_left
              focus (intro W hW; go_simp; try with_reducible rfl)
              simp only [Act.put, List.setIfInBounds_toArray, List.set_cons_zero, List.set_cons_succ]
              refine anyL_take 5 (v := ?_) rfl (by kernel_rfl) (fun _ _ _ h => h) (Or.inl ⟨by rfl, ?_⟩) hS ?_
              rotate_left
              focus (intro W hW; have z0 : W.cell? ⟨s15, 0, none⟩ = some (.slice A' q.length cap') := cell_of_row W s15 0 _ _ _ (hFH.out W hW).2.z; go_simp; try with_reducible rfl)
              simp only [Act.put, List.setIfInBounds_toArray, List.set_cons_zero, List.set_cons_succ]
              refine anyL_take 7 (v := ?_) rfl (by kernel_rfl) (fun _ _ _ h => h) (Or.inl ⟨by rfl, ?_⟩) hS ?_
              rotate_left
              focus (intro W hW; go_simp; try with_reducible rfl)
              simp only [Act.put, List.setIfInBounds_toArray, List.set_cons_zero, List.set_cons_succ]
              refine anyL_two 3 12 rfl rfl (by kernel_rfl) (fun K hK => ?_) (fun K hK => ?_)
              case refine_1 =>
                go_simp
                have ha := (Below.refl wq.heap.size wq).alloc (Nat.le_refl _) (.cells #[] 3)
                have hE := empty_int wq (base := ba) (Nat.le_trans hba9 hS.size)
                have hS' : (fun W => Below ba wq W) (wq.alloc (.cells #[] 3)) := hS.trans (ha.mono (Nat.le_trans hba9 hS.size))
                have hgl : wq.heap.size < (wq.alloc (.cells #[] 3)).heap.size := by simp
                generalize wq.alloc (.cells #[] 3) = wqx at hS' hE hgl ⊢
                generalize wq.heap.size = g at hE hgl ⊢
                refine hK.out _ _ (fun _ => hS') ?_
                clear hK K hS ha
                have hS := hS'
                clear hS'
                try simp only [Act.put, List.setIfInBounds_toArray, List.set_cons_zero, List.set_cons_succ]
                refine anyL_two 6 12 rfl rfl (by kernel_rfl) (fun K hK => ?_) (fun K hK => ?_)
                case refine_1 =>
                  obtain ⟨A5, cap5, wqxx, hrun, hrow, hgr, hor⟩ := happ.out wqx ba g hE (ints_of (hFH.out wqx hS).2.r.in_) hN0.out (Nat.le_trans hba9 hS.size)
                  refine append_run_step rfl (.tmp 169) (.tmp 171) 24 rfl rfl rfl hrun ?_
                  have hlow := hE.grown hgr (Nat.le_trans hba9 hS.size)
                  have hS' : (fun W => Below ba wq W) wqxx := hS.trans hlow
                  have hI := ints_of hrow.in_
                  refine hK.out _ _ (fun _ => hS') ?_
                  clear hK K hS hE hrow hgr hor hlow hrun hgl
                  have hS := hS'
                  clear hS'
                  try simp only [Act.put, List.setIfInBounds_toArray, List.set_cons_zero, List.set_cons_succ]
                  refine anyL_two 8 12 rfl rfl (by kernel_rfl) (fun K hK => ?_) (fun K hK => ?_)
                  case refine_1 =>
                    go_simp
                    have hc1 := hdec.out wqxx A5 cap5 hI
                    refine hc1.mono ?_
                    clear hc1
                    rintro e' wqxxx ⟨rfl, hb⟩
                    have hS' : (fun W => Below ba wq W) wqxxx := hS.trans (hb.mono (Nat.le_trans hba9 hS.size))
                    refine hK.out _ _ (fun _ => hS') ?_
                    clear hK K hS hb hI
                    have hS := hS'
                    clear hS'
                    try simp only [Act.put, List.setIfInBounds_toArray, List.set_cons_zero, List.set_cons_succ]
                    refine anyL_take 9 (v := ?_) rfl (by kernel_rfl) (fun _ _ _ h => h) (Or.inl ⟨by rfl, ?_⟩) hS ?_
                    rotate_left
                    focus (intro W hW; go_simp; try with_reducible rfl)
                    simp only [Act.put, List.setIfInBounds_toArray, List.set_cons_zero, List.set_cons_succ]
                    refine anyL_take 10 (v := ?_) rfl (by kernel_rfl) (fun _ _ _ h => h) (Or.inl ⟨by rfl, ?_⟩) hS ?_
                    rotate_left
                    focus (intro W hW; go_simp; try with_reducible rfl)
                    simp only [Act.put, List.setIfInBounds_toArray, List.set_cons_zero, List.set_cons_succ]
                    refine anyL_take 11 (v := ?_) rfl (by kernel_rfl) (fun _ _ _ h => h) (Or.inl ⟨by rfl, ?_⟩) hS ?_
                    rotate_left
                    focus (intro W hW; go_simp; try with_reducible rfl)
                    simp only [Act.put, List.setIfInBounds_toArray, List.set_cons_zero, List.set_cons_succ]
                    refine anyL_one 12 rfl (by kernel_rfl) (fun K hK => ?_)
                    go_simp
                    have ha := (Below.refl wqxxx.heap.size wqxxx).alloc (Nat.le_refl _) (.cells #[.int .i64 0, .int .i64 0, .int .i64 0] 70)
                    have hn := World.alloc_heap_new wqxxx (.cells #[.int .i64 0, .int .i64 0, .int .i64 0] 70)
                    have hlt : ba ≤ wqxxx.heap.size := Nat.le_trans hba9 hS.size
                    have hS' : (fun W => Below ba wq W) (wqxxx.alloc (.cells #[.int .i64 0, .int .i64 0, .int .i64 0] 70)) := hS.trans (ha.mono (Nat.le_trans hba9 hS.size))
                    generalize wqxxx.alloc (.cells #[.int .i64 0, .int .i64 0, .int .i64 0] 70) = wqxxxx at hS' hn ⊢
                    generalize wqxxx.heap.size = s20 at hn hlt ⊢
                    refine hK.out _ _ (fun _ => hS') ?_
                    clear hK K hS ha
                    have hS := hS'
                    clear hS'
                    try simp only [Act.put, List.setIfInBounds_toArray, List.set_cons_zero, List.set_cons_succ]
                    have zf : ∀ j, wqxxxx.frozen? ⟨s20, j, none⟩ = false := fun j => by simp [World.frozen?, hn]
                    have z0 : wqxxxx.cell? ⟨s20, 0, none⟩ = some (.int .i64 0) := cell_of_row wqxxxx _ 0 _ _ _ hn
                    have z1 : wqxxxx.cell? ⟨s20, 1, none⟩ = some (.int .i64 0) := cell_of_row wqxxxx _ 1 _ _ _ hn
                    have z2 : wqxxxx.cell? ⟨s20, 2, none⟩ = some (.int .i64 0) := cell_of_row wqxxxx _ 2 _ _ _ hn
                    have zl := lt_of_cell z0
                    have hn2 := heap_setV (heap_setV (heap_setV hn 0 (.int .i64 d.k)) 1 (.int .i64 d.s)) 2 (.int .i64 d.r)
                    have hS4 : (fun W => Below ba wq W) (((wqxxxx.setCell ⟨s20, 0, none⟩ (.int .i64 d.k)).setCell ⟨s20, 1, none⟩ (.int .i64 d.s)).setCell ⟨s20, 2, none⟩ (.int .i64 d.r)) := ((hS.setCell (p := ⟨s20, 0, none⟩) hlt _).setCell (p := ⟨s20, 1, none⟩) hlt _).setCell (p := ⟨s20, 2, none⟩) hlt _
                    refine anyL_one 13 rfl (by kernel_rfl) (fun K hK => ?_)
                    go_simp
                    generalize ((wqxxxx.setCell ⟨s20, 0, none⟩ (.int .i64 d.k)).setCell ⟨s20, 1, none⟩ (.int .i64 d.s)).setCell ⟨s20, 2, none⟩ (.int .i64 d.r) = w8 at hn2 hS4 ⊢
                    refine hK.out _ _ (fun _ => hS4) ?_
                    have hgs : Hid (∀ g, A' = some ⟨g, 0, none⟩ → g ≠ s20) := Lib.hid (fun g e => by have := hA9.out g e; omega)
                    clear hK K hS hn zf z0 z1 z2 zl hlt
                    try simp only [Act.put, List.setIfInBounds_toArray, List.set_cons_zero, List.set_cons_succ]
                    refine anyL_take 14 (v := ?_) rfl (by kernel_rfl) (fun _ _ _ h => h) (Or.inl ⟨by rfl, ?_⟩) hS4 ?_
                    rotate_left
                    focus (intro W hW; go_simp; try with_reducible rfl)
                    simp only [Act.put, List.setIfInBounds_toArray, List.set_cons_zero, List.set_cons_succ]
                    refine anyC_done (by kernel_rfl) ?_ _
                    have hf1 := Lib.hid (hFH.out w8 hS4)
                    have hf2 := Lib.hid hn2
                    clear hS4 hn2 hFH happ hdec hN0 hA9
                    go_wp2_with fail
                    go_meet
                    exact ⟨s20, rfl, rfl, hf1, hf2, hgs⟩
                  case refine_2 =>
                    go_simp
                    have ha := (Below.refl wqxx.heap.size wqxx).alloc (Nat.le_refl _) (.cells #[.int .i64 0, .int .i64 0, .int .i64 0] 70)
                    have hn := World.alloc_heap_new wqxx (.cells #[.int .i64 0, .int .i64 0, .int .i64 0] 70)
                    have hlt : ba ≤ wqxx.heap.size := Nat.le_trans hba9 hS.size
                    have hS' : (fun W => Below ba wq W) (wqxx.alloc (.cells #[.int .i64 0, .int .i64 0, .int .i64 0] 70)) := hS.trans (ha.mono (Nat.le_trans hba9 hS.size))
                    have hI' := hI.below ha
                    generalize wqxx.alloc (.cells #[.int .i64 0, .int .i64 0, .int .i64 0] 70) = wqxxx at hS' hn hI' ⊢
                    generalize wqxx.heap.size = s20 at hn hlt ⊢
                    refine hK.out _ _ (fun _ => hS') ?_
                    clear hK K hS ha hI
                    have hI := hI'
                    clear hI'
                    have hS := hS'
                    clear hS'
                    try simp only [Act.put, List.setIfInBounds_toArray, List.set_cons_zero, List.set_cons_succ]
                    refine anyL_one 8 rfl (by kernel_rfl) (fun K hK => ?_)
                    go_simp
                    have hc1 := hdec.out wqxxx A5 cap5 hI
                    refine hc1.mono ?_
                    clear hc1
                    rintro e' wqxxxx ⟨rfl, hb⟩
                    have hS' : (fun W => Below ba wq W) wqxxxx := hS.trans (hb.mono (Nat.le_trans hba9 hS.size))
                    have hn' := (hb.block _ (Array.getElem?_eq_some_iff.1 hn).1).trans hn
                    clear hn
                    have hn := hn'
                    clear hn'
                    refine hK.out _ _ (fun _ => hS') ?_
                    clear hK K hS hb hI
                    have hS := hS'
                    clear hS'
                    try simp only [Act.put, List.setIfInBounds_toArray, List.set_cons_zero, List.set_cons_succ]
                    refine anyL_take 9 (v := ?_) rfl (by kernel_rfl) (fun _ _ _ h => h) (Or.inl ⟨by rfl, ?_⟩) hS ?_
                    rotate_left
                    focus (intro W hW; go_simp; try with_reducible rfl)
                    simp only [Act.put, List.setIfInBounds_toArray, List.set_cons_zero, List.set_cons_succ]
                    refine anyL_take 10 (v := ?_) rfl (by kernel_rfl) (fun _ _ _ h => h) (Or.inl ⟨by rfl, ?_⟩) hS ?_
                    rotate_left
                    focus (intro W hW; go_simp; try with_reducible rfl)
                    simp only [Act.put, List.setIfInBounds_toArray, List.set_cons_zero, List.set_cons_succ]
                    refine anyL_take 11 (v := ?_) rfl (by kernel_rfl) (fun _ _ _ h => h) (Or.inl ⟨by rfl, ?_⟩) hS ?_
                    rotate_left
                    focus (intro W hW; go_simp; try with_reducible rfl)
                    simp only [Act.put, List.setIfInBounds_toArray, List.set_cons_zero, List.set_cons_succ]
                    have zf : ∀ j, wqxxxx.frozen? ⟨s20, j, none⟩ = false := fun j => by simp [World.frozen?, hn]
                    have z0 : wqxxxx.cell? ⟨s20, 0, none⟩ = some (.int .i64 0) := cell_of_row wqxxxx _ 0 _ _ _ hn
                    have z1 : wqxxxx.cell? ⟨s20, 1, none⟩ = some (.int .i64 0) := cell_of_row wqxxxx _ 1 _ _ _ hn
                    have z2 : wqxxxx.cell? ⟨s20, 2, none⟩ = some (.int .i64 0) := cell_of_row wqxxxx _ 2 _ _ _ hn
                    have zl := lt_of_cell z0
                    have hn2 := heap_setV (heap_setV (heap_setV hn 0 (.int .i64 d.k)) 1 (.int .i64 d.s)) 2 (.int .i64 d.r)
                    have hS4 : (fun W => Below ba wq W) (((wqxxxx.setCell ⟨s20, 0, none⟩ (.int .i64 d.k)).setCell ⟨s20, 1, none⟩ (.int .i64 d.s)).setCell ⟨s20, 2, none⟩ (.int .i64 d.r)) := ((hS.setCell (p := ⟨s20, 0, none⟩) hlt _).setCell (p := ⟨s20, 1, none⟩) hlt _).setCell (p := ⟨s20, 2, none⟩) hlt _
                    refine anyL_one 13 rfl (by kernel_rfl) (fun K hK => ?_)
                    go_simp
                    generalize ((wqxxxx.setCell ⟨s20, 0, none⟩ (.int .i64 d.k)).setCell ⟨s20, 1, none⟩ (.int .i64 d.s)).setCell ⟨s20, 2, none⟩ (.int .i64 d.r) = w8 at hn2 hS4 ⊢
                    refine hK.out _ _ (fun _ => hS4) ?_
                    have hgs : Hid (∀ g, A' = some ⟨g, 0, none⟩ → g ≠ s20) := Lib.hid (fun g e => by have := hA9.out g e; omega)
                    clear hK K hS hn zf z0 z1 z2 zl hlt
                    try simp only [Act.put, List.setIfInBounds_toArray, List.set_cons_zero, List.set_cons_succ]
                    refine anyL_take 14 (v := ?_) rfl (by kernel_rfl) (fun _ _ _ h => h) (Or.inl ⟨by rfl, ?_⟩) hS4 ?_
                    rotate_left
                    focus (intro W hW; go_simp; try with_reducible rfl)
                    simp only [Act.put, List.setIfInBounds_toArray, List.set_cons_zero, List.set_cons_succ]
                    refine anyC_done (by kernel_rfl) ?_ _
                    have hf1 := Lib.hid (hFH.out w8 hS4)
                    have hf2 := Lib.hid hn2
                    clear hS4 hn2 hFH happ hdec hN0 hA9
                    go_wp2_with fail
                    go_meet
                    exact ⟨s20, rfl, rfl, hf1, hf2, hgs⟩
                case refine_2 =>
                  go_simp
                  have ha := (Below.refl wqx.heap.size wqx).alloc (Nat.le_refl _) (.cells #[.int .i64 0, .int .i64 0, .int .i64 0] 70)
                  have hn := World.alloc_heap_new wqx (.cells #[.int .i64 0, .int .i64 0, .int .i64 0] 70)
                  have hlt : ba ≤ wqx.heap.size := Nat.le_trans hba9 hS.size
                  have hS' : (fun W => Below ba wq W) (wqx.alloc (.cells #[.int .i64 0, .int .i64 0, .int .i64 0] 70)) := hS.trans (ha.mono (Nat.le_trans hba9 hS.size))
                  have hE' := hE.below ha
                  have hng : g ≠ wqx.heap.size := by have := hgl; omega
                  generalize wqx.alloc (.cells #[.int .i64 0, .int .i64 0, .int .i64 0] 70) = wqxx at hS' hn hE' ⊢
                  generalize wqx.heap.size = s20 at hn hlt hng ⊢
                  refine hK.out _ _ (fun _ => hS') ?_
                  clear hK K hS ha hE
                  have hE := hE'
                  clear hE' hgl
                  have hS := hS'
                  clear hS'
                  try simp only [Act.put, List.setIfInBounds_toArray, List.set_cons_zero, List.set_cons_succ]
                  refine anyL_one 6 rfl (by kernel_rfl) (fun K hK => ?_)
                  obtain ⟨A5, cap5, wqxxx, hrun, hrow, hgr, hor⟩ := happ.out wqxx ba g hE (ints_of (hFH.out wqxx hS).2.r.in_) hN0.out (Nat.le_trans hba9 hS.size)
                  refine append_run_step rfl (.tmp 169) (.tmp 171) 24 rfl rfl rfl hrun ?_
                  have hlow := hE.grown hgr (Nat.le_trans hba9 hS.size)
                  have hS' : (fun W => Below ba wq W) wqxxx := hS.trans hlow
                  have hI := ints_of hrow.in_
                  have hn' := (hgr.block s20 (Array.getElem?_eq_some_iff.1 hn).1 (fun e => hng (Option.some.inj e).symm)).trans hn
                  refine hK.out _ _ (fun _ => hS') ?_
                  clear hK K hS hE hrow hgr hor hlow hrun hn hng
                  have hn := hn'
                  clear hn'
                  have hS := hS'
                  clear hS'
                  try simp only [Act.put, List.setIfInBounds_toArray, List.set_cons_zero, List.set_cons_succ]
                  refine anyL_one 8 rfl (by kernel_rfl) (fun K hK => ?_)
                  go_simp
                  have hc1 := hdec.out wqxxx A5 cap5 hI
                  refine hc1.mono ?_
                  clear hc1
                  rintro e' wqxxxx ⟨rfl, hb⟩
                  have hS' : (fun W => Below ba wq W) wqxxxx := hS.trans (hb.mono (Nat.le_trans hba9 hS.size))
                  have hn' := (hb.block _ (Array.getElem?_eq_some_iff.1 hn).1).trans hn
                  clear hn
                  have hn := hn'
                  clear hn'
                  refine hK.out _ _ (fun _ => hS') ?_
                  clear hK K hS hb hI
                  have hS := hS'
                  clear hS'
                  try simp only [Act.put, List.setIfInBounds_toArray, List.set_cons_zero, List.set_cons_succ]
                  refine anyL_take 9 (v := ?_) rfl (by kernel_rfl) (fun _ _ _ h => h) (Or.inl ⟨by rfl, ?_⟩) hS ?_
                  rotate_left
                  focus (intro W hW; go_simp; try with_reducible rfl)
                  simp only [Act.put, List.setIfInBounds_toArray, List.set_cons_zero, List.set_cons_succ]
                  refine anyL_take 10 (v := ?_) rfl (by kernel_rfl) (fun _ _ _ h => h) (Or.inl ⟨by rfl, ?_⟩) hS ?_
                  rotate_left
                  focus (intro W hW; go_simp; try with_reducible rfl)
                  simp only [Act.put, List.setIfInBounds_toArray, List.set_cons_zero, List.set_cons_succ]
                  refine anyL_take 11 (v := ?_) rfl (by kernel_rfl) (fun _ _ _ h => h) (Or.inl ⟨by rfl, ?_⟩) hS ?_
                  rotate_left
                  focus (intro W hW; go_simp; try with_reducible rfl)
                  simp only [Act.put, List.setIfInBounds_toArray, List.set_cons_zero, List.set_cons_succ]
                  have zf : ∀ j, wqxxxx.frozen? ⟨s20, j, none⟩ = false := fun j => by simp [World.frozen?, hn]
                  have z0 : wqxxxx.cell? ⟨s20, 0, none⟩ = some (.int .i64 0) := cell_of_row wqxxxx _ 0 _ _ _ hn
                  have z1 : wqxxxx.cell? ⟨s20, 1, none⟩ = some (.int .i64 0) := cell_of_row wqxxxx _ 1 _ _ _ hn
                  have z2 : wqxxxx.cell? ⟨s20, 2, none⟩ = some (.int .i64 0) := cell_of_row wqxxxx _ 2 _ _ _ hn
                  have zl := lt_of_cell z0
                  have hn2 := heap_setV (heap_setV (heap_setV hn 0 (.int .i64 d.k)) 1 (.int .i64 d.s)) 2 (.int .i64 d.r)
                  have hS4 : (fun W => Below ba wq W) (((wqxxxx.setCell ⟨s20, 0, none⟩ (.int .i64 d.k)).setCell ⟨s20, 1, none⟩ (.int .i64 d.s)).setCell ⟨s20, 2, none⟩ (.int .i64 d.r)) := ((hS.setCell (p := ⟨s20, 0, none⟩) hlt _).setCell (p := ⟨s20, 1, none⟩) hlt _).setCell (p := ⟨s20, 2, none⟩) hlt _
                  refine anyL_one 13 rfl (by kernel_rfl) (fun K hK => ?_)
                  go_simp
                  generalize ((wqxxxx.setCell ⟨s20, 0, none⟩ (.int .i64 d.k)).setCell ⟨s20, 1, none⟩ (.int .i64 d.s)).setCell ⟨s20, 2, none⟩ (.int .i64 d.r) = w8 at hn2 hS4 ⊢
                  refine hK.out _ _ (fun _ => hS4) ?_
                  have hgs : Hid (∀ g, A' = some ⟨g, 0, none⟩ → g ≠ s20) := Lib.hid (fun g e => by have := hA9.out g e; omega)
                  clear hK K hS hn zf z0 z1 z2 zl hlt
                  try simp only [Act.put, List.setIfInBounds_toArray, List.set_cons_zero, List.set_cons_succ]
                  refine anyL_take 14 (v := ?_) rfl (by kernel_rfl) (fun _ _ _ h => h) (Or.inl ⟨by rfl, ?_⟩) hS4 ?_
                  rotate_left
                  focus (intro W hW; go_simp; try with_reducible rfl)
                  simp only [Act.put, List.setIfInBounds_toArray, List.set_cons_zero, List.set_cons_succ]
                  refine anyC_done (by kernel_rfl) ?_ _
                  have hf1 := Lib.hid (hFH.out w8 hS4)
                  have hf2 := Lib.hid hn2
                  clear hS4 hn2 hFH happ hdec hN0 hA9
                  go_wp2_with fail
                  go_meet
                  exact ⟨s20, rfl, rfl, hf1, hf2, hgs⟩
              case refine_2 =>
                go_simp
                have ha := (Below.refl wq.heap.size wq).alloc (Nat.le_refl _) (.cells #[.int .i64 0, .int .i64 0, .int .i64 0] 70)
                have hn := World.alloc_heap_new wq (.cells #[.int .i64 0, .int .i64 0, .int .i64 0] 70)
                have hlt : ba ≤ wq.heap.size := Nat.le_trans hba9 hS.size
                have hS' : (fun W => Below ba wq W) (wq.alloc (.cells #[.int .i64 0, .int .i64 0, .int .i64 0] 70)) := hS.trans (ha.mono (Nat.le_trans hba9 hS.size))
                generalize wq.alloc (.cells #[.int .i64 0, .int .i64 0, .int .i64 0] 70) = wqx at hS' hn ⊢
                generalize wq.heap.size = s20 at hn hlt ⊢
                refine hK.out _ _ (fun _ => hS') ?_
                clear hK K hS ha
                have hS := hS'
                clear hS'
                try simp only [Act.put, List.setIfInBounds_toArray, List.set_cons_zero, List.set_cons_succ]
                refine anyL_one 3 rfl (by kernel_rfl) (fun K hK => ?_)
                go_simp
                have ha := (Below.refl wqx.heap.size wqx).alloc (Nat.le_refl _) (.cells #[] 3)
                have hE := empty_int wqx (base := ba) (Nat.le_trans hba9 hS.size)
                have hS' : (fun W => Below ba wq W) (wqx.alloc (.cells #[] 3)) := hS.trans (ha.mono (Nat.le_trans hba9 hS.size))
                have hgl : wqx.heap.size < (wqx.alloc (.cells #[] 3)).heap.size := by simp
                have hn' := (ha.block _ (Array.getElem?_eq_some_iff.1 hn).1).trans hn
                have hng : wqx.heap.size ≠ s20 := by have := (Array.getElem?_eq_some_iff.1 hn).1; omega
                generalize wqx.alloc (.cells #[] 3) = wqxx at hS' hE hgl hn' ⊢
                generalize wqx.heap.size = g at hE hgl hng ⊢
                refine hK.out _ _ (fun _ => hS') ?_
                clear hK K hS ha hn
                have hn := hn'
                clear hn'
                have hS := hS'
                clear hS'
                try simp only [Act.put, List.setIfInBounds_toArray, List.set_cons_zero, List.set_cons_succ]
                refine anyL_one 6 rfl (by kernel_rfl) (fun K hK => ?_)
                obtain ⟨A5, cap5, wqxxx, hrun, hrow, hgr, hor⟩ := happ.out wqxx ba g hE (ints_of (hFH.out wqxx hS).2.r.in_) hN0.out (Nat.le_trans hba9 hS.size)
                refine append_run_step rfl (.tmp 169) (.tmp 171) 24 rfl rfl rfl hrun ?_
                have hlow := hE.grown hgr (Nat.le_trans hba9 hS.size)
                have hS' : (fun W => Below ba wq W) wqxxx := hS.trans hlow
                have hI := ints_of hrow.in_
                have hn' := (hgr.block s20 (Array.getElem?_eq_some_iff.1 hn).1 (fun e => hng (Option.some.inj e).symm)).trans hn
                refine hK.out _ _ (fun _ => hS') ?_
                clear hK K hS hE hrow hgr hor hlow hrun hn hng
                have hn := hn'
                clear hn'
                have hS := hS'
                clear hS'
                try simp only [Act.put, List.setIfInBounds_toArray, List.set_cons_zero, List.set_cons_succ]
                refine anyL_one 8 rfl (by kernel_rfl) (fun K hK => ?_)
                go_simp
                have hc1 := hdec.out wqxxx A5 cap5 hI
                refine hc1.mono ?_
                clear hc1
                rintro e' wqxxxx ⟨rfl, hb⟩
                have hS' : (fun W => Below ba wq W) wqxxxx := hS.trans (hb.mono (Nat.le_trans hba9 hS.size))
                have hn' := (hb.block _ (Array.getElem?_eq_some_iff.1 hn).1).trans hn
                clear hn
                have hn := hn'
                clear hn'
                refine hK.out _ _ (fun _ => hS') ?_
                clear hK K hS hb hI
                have hS := hS'
                clear hS'
                try simp only [Act.put, List.setIfInBounds_toArray, List.set_cons_zero, List.set_cons_succ]
                refine anyL_take 9 (v := ?_) rfl (by kernel_rfl) (fun _ _ _ h => h) (Or.inl ⟨by rfl, ?_⟩) hS ?_
                rotate_left
                focus (intro W hW; go_simp; try with_reducible rfl)
                simp only [Act.put, List.setIfInBounds_toArray, List.set_cons_zero, List.set_cons_succ]
                refine anyL_take 10 (v := ?_) rfl (by kernel_rfl) (fun _ _ _ h => h) (Or.inl ⟨by rfl, ?_⟩) hS ?_
                rotate_left
                focus (intro W hW; go_simp; try with_reducible rfl)
                simp only [Act.put, List.setIfInBounds_toArray, List.set_cons_zero, List.set_cons_succ]
                refine anyL_take 11 (v := ?_) rfl (by kernel_rfl) (fun _ _ _ h => h) (Or.inl ⟨by rfl, ?_⟩) hS ?_
                rotate_left
                focus (intro W hW; go_simp; try with_reducible rfl)
                simp only [Act.put, List.setIfInBounds_toArray, List.set_cons_zero, List.set_cons_succ]
                have zf : ∀ j, wqxxxx.frozen? ⟨s20, j, none⟩ = false := fun j => by simp [World.frozen?, hn]
                have z0 : wqxxxx.cell? ⟨s20, 0, none⟩ = some (.int .i64 0) := cell_of_row wqxxxx _ 0 _ _ _ hn
                have z1 : wqxxxx.cell? ⟨s20, 1, none⟩ = some (.int .i64 0) := cell_of_row wqxxxx _ 1 _ _ _ hn
                have z2 : wqxxxx.cell? ⟨s20, 2, none⟩ = some (.int .i64 0) := cell_of_row wqxxxx _ 2 _ _ _ hn
                have zl := lt_of_cell z0
                have hn2 := heap_setV (heap_setV (heap_setV hn 0 (.int .i64 d.k)) 1 (.int .i64 d.s)) 2 (.int .i64 d.r)
                have hS4 : (fun W => Below ba wq W) (((wqxxxx.setCell ⟨s20, 0, none⟩ (.int .i64 d.k)).setCell ⟨s20, 1, none⟩ (.int .i64 d.s)).setCell ⟨s20, 2, none⟩ (.int .i64 d.r)) := ((hS.setCell (p := ⟨s20, 0, none⟩) hlt _).setCell (p := ⟨s20, 1, none⟩) hlt _).setCell (p := ⟨s20, 2, none⟩) hlt _
                refine anyL_one 13 rfl (by kernel_rfl) (fun K hK => ?_)
                go_simp
                generalize ((wqxxxx.setCell ⟨s20, 0, none⟩ (.int .i64 d.k)).setCell ⟨s20, 1, none⟩ (.int .i64 d.s)).setCell ⟨s20, 2, none⟩ (.int .i64 d.r) = w8 at hn2 hS4 ⊢
                refine hK.out _ _ (fun _ => hS4) ?_
                have hgs : Hid (∀ g, A' = some ⟨g, 0, none⟩ → g ≠ s20) := Lib.hid (fun g e => by have := hA9.out g e; omega)
                clear hK K hS hn zf z0 z1 z2 zl hlt
                try simp only [Act.put, List.setIfInBounds_toArray, List.set_cons_zero, List.set_cons_succ]
                refine anyL_take 14 (v := ?_) rfl (by kernel_rfl) (fun _ _ _ h => h) (Or.inl ⟨by rfl, ?_⟩) hS4 ?_
                rotate_left
                focus (intro W hW; go_simp; try with_reducible rfl)
                simp only [Act.put, List.setIfInBounds_toArray, List.set_cons_zero, List.set_cons_succ]
                refine anyC_done (by kernel_rfl) ?_ _
                have hf1 := Lib.hid (hFH.out w8 hS4)
                have hf2 := Lib.hid hn2
                clear hS4 hn2 hFH happ hdec hN0 hA9
                go_wp2_with fail
                go_meet
                exact ⟨s20, rfl, rfl, hf1, hf2, hgs⟩
            case rest =>
              clear happ hdec hN0 hFw
              obtain ⟨s20, rfl, rfl, hFx, hDx, hgs⟩ := hcut
              go_upto_region 25 with fail
              go_cut [207] from 177 to 207 (fun c wx => c = .bool false ∧ Hid ((MeB w s7 D Z B O A q0 q1 q2 q3 wx ∧ RepW wx G1 (ints (lens wd z r)) ∧ RepW wx G2 (ints (lens wd z b)) ∧ G1 < s15 ∧ G2 < s15 ∧ s7 < s15 ∧ w.heap.size + 1 < s15) ∧ LvB base s15 A' cap' q m B1 d1' xs wx) ∧ Hid (wx.heap[s20]? = some (.cells #[.int .i64 d.k, .int .i64 d.s, .int .i64 d.r] 70 (0, 0))))
              case first =>
                have y0 : wc.cell? ⟨s20, 0, none⟩ = some (.int .i64 d.k) := cell_of_row wc _ 0 _ _ _ hDx.out
                have d1 : decide ((n : Int) < (r : Int)) = false := decide_eq_false (by omega)
                have d2 : decide ((b : Int) < (n : Int)) = false := decide_eq_false (by omega)
                have d1' : ¬ (n : Int) < (r : Int) := by omega
                have d2' : ¬ (b : Int) < (n : Int) := by omega
                have hthr : (d.k = 0) ∨ (d.k ≠ 0 ∧ b ≠ r ∧ (d.k = 3 → n = 0)) := by
                  rcases hthH.out with K | P | M
                  · exact .inl K.1
                  · right
                    refine ⟨by rw [P.1]; decide, fun e => ?_, fun e => by rw [P.1] at e; cases e⟩
                    obtain ⟨p, p1, p2, p3, p4, p5, p6, p7, p8⟩ := P.2
                    have h1 := hsameH.out e p p3
                    have h2 := p8 p p3
                    have hpl : p < q.length := by rw [hqw.out]; exact p3
                    unfold bad at h1 h2
                    rw [List.getD_eq_getElem?_getD (l := q.set p (q.getD p 0 + 1)), List.getElem?_set_self hpl, Option.getD_some] at h2
                    have h3 := of_decide_eq_false h1
                    have h4 := of_decide_eq_false h2
                    have h5 : q.getD p 0 = (lens wd z n).getD p 0 := Decidable.not_not.1 (fun hh => h3 ⟨p4, hh⟩)
                    exact h4 ⟨p4, by omega⟩
                  · right
                    refine ⟨by omega, fun e => ?_, M.2.1⟩
                    obtain ⟨s9, s91, s92, s93⟩ := M.2.2
                    have h1 := of_decide_eq_false (hsameH.out e s9 s91)
                    exact h1 ⟨s92, by omega⟩
                generalize d.k = dk at y0 hthr
                have hFz := hFx
                have hDz := hDx
                clear hthH hsameH hprPH hFx
                rcases hthr with hk | ⟨hk, hbr, h3⟩
                · subst hk
                  by_cases hbr : b = r
                  · have eb : ((b : Int) == (r : Int)) = true := by simp [hbr]
                    clear hbr
                    go_wp2_with fail
                    go_meet
                    exact ⟨rfl, hFz, hDz⟩
                  · have eb : ((b : Int) == (r : Int)) = false := by
                      rw [beq_eq_false_iff_ne]; omega
                    go_wp2_with fail
                    go_meet
                    exact ⟨rfl, hFz, hDz⟩
                · have eb : ((b : Int) == (r : Int)) = false := by
                    rw [beq_eq_false_iff_ne]; omega
                  by_cases hk3 : dk = 3
                  · have hn0 : n = 0 := h3 hk3
                    have e3 : (dk == 3) = true := by simp [hk3]
                    have en : ((n : Int) != 0) = false := by simp [hn0]
                    clear h3 hk3 hn0
                    go_wp2_with fail
                    go_meet
                    exact ⟨rfl, hFz, hDz⟩
                  · have e3 : (dk == 3) = false := by simp [hk3]
                    clear h3 hk3
                    go_wp2_with fail
                    go_meet
                    exact ⟨rfl, hFz, hDz⟩
              case rest =>
                clear hFx hDx hsameH
                obtain ⟨rfl, hF2, hD2⟩ := hcut
                obtain ⟨k0, k1, k2, k3, k4, _⟩ := hF2.out.1.1.c
                go_wp2_with fail
                (with_reducible refine (hln.out _).mono ?_)
                rintro e w27 ⟨G3, rfl, hr3, hge3, hb27⟩
                have hG3 : Hid (∀ g, A' = some ⟨g, 0, none⟩ → g ≠ G3) := Lib.hid (fun g e => by
                  rcases hF2.out.2.r.form with ⟨h, _⟩ | ⟨g', h, _, h3, _⟩
                  · rw [h] at e; cases e
                  · rw [h] at e; injection e with e; injection e with e; omega)
                clear hge3
                have hF3 := Lib.hid (⟨⟨⟨hF2.out.1.1.below hb27, hF2.out.1.2.1.below hb27, hF2.out.1.2.2.1.below hb27, hF2.out.1.2.2.2⟩, hF2.out.2.below hb27⟩, hr3⟩ : ((MeB w s7 D Z B O A q0 q1 q2 q3 w27 ∧ RepW w27 G1 (ints (lens wd z r)) ∧ RepW w27 G2 (ints (lens wd z b)) ∧ G1 < s15 ∧ G2 < s15 ∧ s7 < s15 ∧ w.heap.size + 1 < s15) ∧ LvB base s15 A' cap' q m B1 d1' xs w27) ∧ RepW w27 G3 (ints (lens wd z n)))
                have hD3 : w27.heap[s20]? = some (.cells #[.int .i64 d.k, .int .i64 d.s, .int .i64 d.r] 70 (0, 0)) := (hb27.block _ (Array.getElem?_eq_some_iff.1 hD2.out).1).trans hD2.out
                have y0 : w27.cell? ⟨s20, 0, none⟩ = some (.int .i64 d.k) := cell_of_row w27 _ 0 _ _ _ hD3
                have y1 : w27.cell? ⟨s20, 1, none⟩ = some (.int .i64 d.s) := cell_of_row w27 _ 1 _ _ _ hD3
                have y2 : w27.cell? ⟨s20, 2, none⟩ = some (.int .i64 d.r) := cell_of_row w27 _ 2 _ _ _ hD3
                have yl := lt_of_cell y0
                have hD3H := Lib.hid hD3
                clear hF2 hD2 hb27 hr3 hln k0 k1 k2 k3 k4 hD3
                have hwat : Hid (∀ j : Nat, j < wd + 1 → ∀ W, RepW W G3 (ints (lens wd z n)) → W.cell? ⟨G3, j, none⟩ = some (.int .i64 ((lens wd z n).getD j 0))) := Lib.hid (fun j hj W h => h.at_ (by rw [lens_len]; exact hj))
                generalize lens wd z n = want at hF3 hwat hthH
                rcases hthH.out with ⟨K1, K2⟩ | ⟨P1, P2⟩ | ⟨M1, M2, M3⟩
                · have hK2 := Lib.hid K2
                  rw [K1] at y0
                  clear K1 K2 hthH hprPH hgs hD3H y1 y2
                  go_wp2_with fail
                  go_loopw [23] (fun ii wr => ∃ j : Nat, ii = .int .i64 (j : Int) ∧ j ≤ wd + 1 ∧ Hid (((MeB w s7 D Z B O A q0 q1 q2 q3 wr ∧ RepW wr G1 (ints (lens wd z r)) ∧ RepW wr G2 (ints (lens wd z b)) ∧ G1 < s15 ∧ G2 < s15 ∧ s7 < s15 ∧ w.heap.size + 1 < s15) ∧ LvB base s15 A' cap' q m B1 d1' xs wr) ∧ RepW wr G3 (ints want))) (fun ii _ => wd + 1 - (intOf ii).toNat)
                  case atStart => exact ⟨0, rfl, Nat.zero_le _, hF3⟩
                  case round =>
                    obtain ⟨j, rfl, hj, hB⟩ := hrel
                    clear hF3 y0 yl
                    obtain ⟨g0, g1, g2, g3, g4, _⟩ := hB.out.1.1.1.m.g
                    by_cases hlt : j < wd + 1
                    case neg =>
                      have hx : ¬ (j : Int) < D := by have := hDH.out; omega
                      have hF := Lib.hid hB.out.1.1.1.m.bw
                      clear hB
                      go_wp2_with fail
                      go_ret
                      exact ⟨rfl, hF.out⟩
                    case pos =>
                      have hx : (j : Int) < D := by have := hDH.out; omega
                      have iw : IntKind.i64.wrap ((j : Int) + 1) = (j : Int) + 1 := IntWalk.i64_in _ (by omega)
                      have hBd := Lib.hid (fun k => (⟨⟨⟨hB.out.1.1.1.below (below_drewN (Below.refl _ wr) k), hB.out.1.1.2.1.below (below_drewN (Below.refl _ wr) k), hB.out.1.1.2.2.1.below (below_drewN (Below.refl _ wr) k), hB.out.1.1.2.2.2⟩, hB.out.1.2.below (below_drewN (Below.refl _ wr) k)⟩, hB.out.2.below (below_drewN (Below.refl _ wr) k)⟩ : ((MeB w s7 D Z B O A q0 q1 q2 q3 (wr.drewN k) ∧ RepW (wr.drewN k) G1 (ints (lens wd z r)) ∧ RepW (wr.drewN k) G2 (ints (lens wd z b)) ∧ G1 < s15 ∧ G2 < s15 ∧ s7 < s15 ∧ w.heap.size + 1 < s15) ∧ LvB base s15 A' cap' q m B1 d1' xs (wr.drewN k)) ∧ RepW (wr.drewN k) G3 (ints want)))
                      have z0 : wr.cell? ⟨s15, 0, none⟩ = some (.slice A' (q).length cap') := cell_of_row wr s15 0 _ _ _ hB.out.1.2.z
                      have hbj := hK2.out j hlt
                      have c1 := hwat.out j hlt wr hB.out.2
                      by_cases hjm : (j : Int) = m
                      · have e1 : ((j : Int) != m) = false := by simp [hjm]
                        clear hjm hB hbj c1
                        go_wp2_with fail
                        go_quiet (fail)
                        go_wp2_with fail
                        go_roundw
                        case rel => exact ⟨j + 1, by go_num, hlt, Lib.hid (hBd.out _)⟩
                        case measure => simp only [intOf]; omega
                      · have e1 : ((j : Int) != m) = true := by simp [hjm]
                        have hjl : j < (q).length := by rw [hqw.out]; exact hlt
                        obtain ⟨g8, eA, _, _, _, hcell, _⟩ := hB.out.1.2.r.at_ hjl
                        subst eA
                        have c0 : wr.cell? ⟨g8, j, none⟩ = some (.int .i64 ((q).getD j 0)) := by
                          have := hcell 0 (by decide)
                          rw [show j * inE.k + 0 = j by show j * 1 + 0 = j; omega] at this
                          rw [this, List.getD_eq_getElem?_getD, List.getElem?_eq_getElem hjl]; rfl
                        have hxy : (q).getD j 0 = want.getD j 0 := Decidable.not_not.1 (fun h => of_decide_eq_false hbj ⟨hjm, h⟩)
                        rw [hxy] at c0
                        generalize want.getD j 0 = x9 at c0 c1
                        have hli : (j : Int) < ((q).length : Int) := by omega
                        have hli2 : (j : Int) < (wd : Int) + 1 := by omega
                        have hli3 : j ≤ wd := by omega
                        clear hB hbj hcell hxy
                        go_wp2_with fail
                        go_quiet (fail)
                        go_wp2_with fail
                        go_roundw
                        case rel => exact ⟨j + 1, by go_num, hlt, Lib.hid (hBd.out _)⟩
                        case measure => simp only [intOf]; omega
                · obtain ⟨p, p1, p2, p3, p4, p5, p6, p7, p8⟩ := P2
                  rw [P1] at y0
                  rw [p1] at y1
                  have hdd9 := hD3H.out
                  rw [P1, p1] at hdd9
                  obtain ⟨dr, hdr⟩ : ∃ dr, d.r = dr := ⟨_, rfl⟩
                  rw [hdr] at y2 p6 p7 hdd9
                  have hdb : 0 ≤ dr ∧ dr ≤ 5000 := by
                    have := Nat.div_le_self n wd
                    omega
                  have hv : parV D Z B O A (z : Int) dr = (p : Int) := by rw [p6, hprH.out, p2]
                  have hpa := Lib.hid (fun W => (by
                    have h := parity_any D Z B O A (z : Int) dr W
                    rw [hv] at h
                    exact h : Calls Try.prog 28 #[.agg #[.int .i64 D, .int .i64 Z, .int .i64 B, .int .i64 O, .int .i64 A], .int .i64 (z : Int), .int .i64 dr] W fun e w' => e = .returned (.int .i64 (p : Int)) ∧ Below W.heap.size W w'))
                  have hK2 : Hid (∀ s : Nat, s < wd + 1 → bad want (q.set p (dr + 1)) m s = false) := Lib.hid (by rw [p7] at p8; exact p8)
                  have hpl : p < q.length := by rw [hqw.out]; exact p3
                  obtain ⟨g9, eA, _, _, _, _, hfr9⟩ := hF3.out.1.2.r.at_ hpl
                  subst eA
                  have hel : Hid (∀ W, LvB base s15 (some ⟨g9, 0, none⟩) cap' q m B1 d1' xs W → W.cell? ⟨g9, p, none⟩ = some (.int .i64 dr) ∧ W.frozen? ⟨g9, p, none⟩ = false) := Lib.hid (fun W hV => by
                    obtain ⟨g', e', _, _, _, hc, hf⟩ := hV.r.at_ hpl
                    injection e' with e'; injection e' with e'; subst e'
                    have := hc 0 (by decide)
                    rw [show p * inE.k + 0 = p by show p * 1 + 0 = p; omega] at this
                    refine ⟨?_, hf p⟩
                    rw [this, ← p7, List.getD_eq_getElem?_getD, List.getElem?_eq_getElem hpl]; rfl)
                  have hdrH := Lib.hid hdd9
                  have epm : ((p : Int) == m) = false := by simp [p4]
                  have hpli : (p : Int) < (q.length : Int) := by omega
                  have drw : IntKind.i64.wrap (dr + 1) = dr + 1 := IntWalk.i64_in _ (by omega)
                  have drw2 : wrap64 (dr + 1) = dr + 1 := IntWalk.wrap64_in _ (by omega)
                  have hpi1 : (p : Int) < (wd : Int) + 1 := by omega
                  have hpi2 : p ≤ wd := by omega
                  clear hthH hprPH hD3H P1 p1 p2 p5 p6 p7 p8 hdr hv hfr9 hdd9
                  go_upto_region 29 with fail
                  have hS0 : (fun W => (((MeB w s7 D Z B O A q0 q1 q2 q3 W ∧ RepW W G1 (ints (lens wd z r)) ∧ RepW W G2 (ints (lens wd z b)) ∧ G1 < s15 ∧ G2 < s15 ∧ s7 < s15 ∧ w.heap.size + 1 < s15) ∧ LvB base s15 (some ⟨g9, 0, none⟩) cap' q m B1 d1' xs W) ∧ RepW W G3 (ints want)) ∧ W.heap[s20]? = some (.cells #[.int .i64 1, .int .i64 (p : Int), .int .i64 dr] 70 (0, 0))) w27.drew := ⟨⟨⟨⟨hF3.out.1.1.1.below (Below.refl _ _).drew, hF3.out.1.1.2.1.below (Below.refl _ _).drew, hF3.out.1.1.2.2.1.below (Below.refl _ _).drew, hF3.out.1.1.2.2.2⟩, hF3.out.1.2.below (Below.refl _ _).drew⟩, hF3.out.2.below (Below.refl _ _).drew⟩, hdrH.out⟩
                  clear hF3 hdrH y0 y1 y2 yl
                  refine region_anyC (fun _ => true) (fun W => (((MeB w s7 D Z B O A q0 q1 q2 q3 W ∧ RepW W G1 (ints (lens wd z r)) ∧ RepW W G2 (ints (lens wd z b)) ∧ G1 < s15 ∧ G2 < s15 ∧ s7 < s15 ∧ w.heap.size + 1 < s15) ∧ LvB base s15 (some ⟨g9, 0, none⟩) cap' q m B1 d1' xs W) ∧ RepW W G3 (ints want)) ∧ W.heap[s20]? = some (.cells #[.int .i64 1, .int .i64 (p : Int), .int .i64 dr] 70 (0, 0))) (by kernel_rfl) ?_
                  refine anyL_take 0 (v := ?_) rfl (by kernel_rfl) (fun _ _ _ h => h) (Or.inl ⟨by rfl, ?_⟩) hS0 ?_
                  rotate_left
                  focus (intro W hW; go_simp; try with_reducible rfl)
                  simp only [Act.put, List.setIfInBounds_toArray, List.set_cons_zero, List.set_cons_succ]
                  refine anyL_take 1 (v := ?_) rfl (by kernel_rfl) (fun _ _ _ h => h) (Or.inl ⟨by rfl, ?_⟩) hS0 ?_
                  rotate_left
                  focus (intro W hW; have z0 := cell_of_row W s15 0 _ _ _ hW.1.1.2.z; go_simp; try with_reducible rfl)
                  simp only [Act.put, List.setIfInBounds_toArray, List.set_cons_zero, List.set_cons_succ]
                  refine anyL_take 2 (v := ?_) rfl (by kernel_rfl) (fun _ _ _ h => h) (Or.inl ⟨by rfl, ?_⟩) hS0 ?_
                  rotate_left
                  focus (intro W hW; go_simp; try with_reducible rfl)
                  simp only [Act.put, List.setIfInBounds_toArray, List.set_cons_zero, List.set_cons_succ]
                  refine anyL_take 3 (v := ?_) rfl (by kernel_rfl) (fun _ _ _ h => h) (Or.inl ⟨by rfl, ?_⟩) hS0 ?_
                  rotate_left
                  focus (intro W hW; have y1 := cell_of_row W s20 1 _ _ _ hW.2; go_simp; try with_reducible rfl)
                  simp only [Act.put, List.setIfInBounds_toArray, List.set_cons_zero, List.set_cons_succ]
                  refine anyL_take 4 (v := ?_) rfl (by kernel_rfl) (fun _ _ _ h => h) (Or.inl ⟨by rfl, ?_⟩) hS0 ?_
                  rotate_left
                  focus (intro W hW; go_simp; try with_reducible rfl)
                  simp only [Act.put, List.setIfInBounds_toArray, List.set_cons_zero, List.set_cons_succ]
                  refine anyL_take 5 (v := ?_) rfl (by kernel_rfl) (fun _ _ _ h => h) (Or.inl ⟨by rfl, ?_⟩) hS0 ?_
                  rotate_left
                  focus (intro W hW; have ce := (hel.out W hW.1.1.2).1; go_simp; try with_reducible rfl)
                  simp only [Act.put, List.setIfInBounds_toArray, List.set_cons_zero, List.set_cons_succ]
                  refine anyL_take 6 (v := ?_) rfl (by kernel_rfl) (fun _ _ _ h => h) (Or.inl ⟨by rfl, ?_⟩) hS0 ?_
                  rotate_left
                  focus (intro W hW; go_simp; try with_reducible rfl)
                  simp only [Act.put, List.setIfInBounds_toArray, List.set_cons_zero, List.set_cons_succ]
                  refine anyL_take 7 (v := ?_) rfl (by kernel_rfl) (fun _ _ _ h => h) (Or.inl ⟨by rfl, ?_⟩) hS0 ?_
                  rotate_left
                  focus (intro W hW; have y2 := cell_of_row W s20 2 _ _ _ hW.2; go_simp; try with_reducible rfl)
                  simp only [Act.put, List.setIfInBounds_toArray, List.set_cons_zero, List.set_cons_succ]
                  refine anyL_take 8 (v := ?_) rfl (by kernel_rfl) (fun _ _ _ h => h) (Or.inl ⟨by rfl, ?_⟩) hS0 ?_
                  rotate_left
                  focus (intro W hW; go_simp; try with_reducible rfl)
                  simp only [Act.put, List.setIfInBounds_toArray, List.set_cons_zero, List.set_cons_succ]
                  refine anyL_take 9 (v := ?_) rfl (by kernel_rfl) (fun _ _ _ h => h) (Or.inl ⟨by rfl, ?_⟩) hS0 ?_
                  rotate_left
                  focus (intro W hW; go_simp; try with_reducible rfl)
                  simp only [Act.put, List.setIfInBounds_toArray, List.set_cons_zero, List.set_cons_succ]
                  refine anyL_take 10 (v := ?_) rfl (by kernel_rfl) (fun _ _ _ h => h) (Or.inl ⟨by rfl, ?_⟩) hS0 ?_
                  rotate_left
                  focus (intro W hW; go_simp; try with_reducible rfl)
                  simp only [Act.put, List.setIfInBounds_toArray, List.set_cons_zero, List.set_cons_succ]
                  refine anyL_take 11 (v := ?_) rfl (by kernel_rfl) (fun _ _ _ h => h) (Or.inl ⟨by rfl, ?_⟩) hS0 ?_
                  rotate_left
                  focus (intro W hW; have y1 := cell_of_row W s20 1 _ _ _ hW.2; go_simp; try with_reducible rfl)
                  simp only [Act.put, List.setIfInBounds_toArray, List.set_cons_zero, List.set_cons_succ]
                  refine anyL_take 12 (v := ?_) rfl (by kernel_rfl) (fun _ _ _ h => h) (Or.inl ⟨by rfl, ?_⟩) hS0 ?_
                  rotate_left
                  focus (intro W hW; go_simp; try with_reducible rfl)
                  simp only [Act.put, List.setIfInBounds_toArray, List.set_cons_zero, List.set_cons_succ]
                  refine anyL_take 13 (v := ?_) rfl (by kernel_rfl) (fun _ _ _ h => h) (Or.inl ⟨by rfl, ?_⟩) hS0 ?_
                  rotate_left
                  focus (intro W hW; go_simp; try with_reducible rfl)
                  simp only [Act.put, List.setIfInBounds_toArray, List.set_cons_zero, List.set_cons_succ]
                  refine anyL_take 14 (v := ?_) rfl (by kernel_rfl) (fun _ _ _ h => h) (Or.inl ⟨by rfl, ?_⟩) hS0 ?_
                  rotate_left
                  focus (intro W hW; go_simp; try with_reducible rfl)
                  simp only [Act.put, List.setIfInBounds_toArray, List.set_cons_zero, List.set_cons_succ]
                  refine anyL_take 15 (v := ?_) rfl (by kernel_rfl) (fun _ _ _ h => h) (Or.inl ⟨by rfl, ?_⟩) hS0 ?_
                  rotate_left
                  focus (intro W hW; go_simp; try with_reducible rfl)
                  simp only [Act.put, List.setIfInBounds_toArray, List.set_cons_zero, List.set_cons_succ]
                  refine anyL_take 16 (v := ?_) rfl (by kernel_rfl) (fun _ _ _ h => h) (Or.inl ⟨by rfl, ?_⟩) hS0 ?_
                  rotate_left
                  focus (intro W hW; go_simp; try with_reducible rfl)
                  simp only [Act.put, List.setIfInBounds_toArray, List.set_cons_zero, List.set_cons_succ]
                  refine anyL_take 17 (v := ?_) rfl (by kernel_rfl) (fun _ _ _ h => h) (Or.inl ⟨by rfl, ?_⟩) hS0 ?_
                  rotate_left
                  focus (intro W hW; have y1 := cell_of_row W s20 1 _ _ _ hW.2; go_simp; try with_reducible rfl)
                  simp only [Act.put, List.setIfInBounds_toArray, List.set_cons_zero, List.set_cons_succ]
                  refine anyL_take 18 (v := ?_) rfl (by kernel_rfl) (fun _ _ _ h => h) (Or.inl ⟨by rfl, ?_⟩) hS0 ?_
                  rotate_left
                  focus (intro W hW; obtain ⟨k0, k1, k2, k3, k4, _⟩ := hW.1.1.1.1.c; go_simp; try with_reducible rfl)
                  simp only [Act.put, List.setIfInBounds_toArray, List.set_cons_zero, List.set_cons_succ]
                  refine anyL_take 19 (v := ?_) rfl (by kernel_rfl) (fun _ _ _ h => h) (Or.inl ⟨by rfl, ?_⟩) hS0 ?_
                  rotate_left
                  focus (intro W hW; go_simp; try with_reducible rfl)
                  simp only [Act.put, List.setIfInBounds_toArray, List.set_cons_zero, List.set_cons_succ]
                  refine anyL_take 20 (v := ?_) rfl (by kernel_rfl) (fun _ _ _ h => h) (Or.inl ⟨by rfl, ?_⟩) hS0 ?_
                  rotate_left
                  focus (intro W hW; go_simp; try with_reducible rfl)
                  simp only [Act.put, List.setIfInBounds_toArray, List.set_cons_zero, List.set_cons_succ]
                  refine anyL_take 21 (v := ?_) rfl (by kernel_rfl) (fun _ _ _ h => h) (Or.inl ⟨by rfl, ?_⟩) hS0 ?_
                  rotate_left
                  focus (intro W hW; have y2 := cell_of_row W s20 2 _ _ _ hW.2; go_simp; try with_reducible rfl)
                  simp only [Act.put, List.setIfInBounds_toArray, List.set_cons_zero, List.set_cons_succ]
                  refine anyL_one 22 rfl (by kernel_rfl) (fun K hK => ?_)
                  go_simp
                  refine (hpa.out _).mono ?_
                  rintro e' w29 ⟨rfl, hb29⟩
                  have hS1 : (fun W => (((MeB w s7 D Z B O A q0 q1 q2 q3 W ∧ RepW W G1 (ints (lens wd z r)) ∧ RepW W G2 (ints (lens wd z b)) ∧ G1 < s15 ∧ G2 < s15 ∧ s7 < s15 ∧ w.heap.size + 1 < s15) ∧ LvB base s15 (some ⟨g9, 0, none⟩) cap' q m B1 d1' xs W) ∧ RepW W G3 (ints want)) ∧ W.heap[s20]? = some (.cells #[.int .i64 1, .int .i64 (p : Int), .int .i64 dr] 70 (0, 0))) w29 := ⟨⟨⟨⟨hS0.1.1.1.1.below hb29, hS0.1.1.1.2.1.below hb29, hS0.1.1.1.2.2.1.below hb29, hS0.1.1.1.2.2.2⟩, hS0.1.1.2.below hb29⟩, hS0.1.2.below hb29⟩, (hb29.block _ (Array.getElem?_eq_some_iff.1 hS0.2).1).trans hS0.2⟩
                  clear hS0 hb29 hpa
                  refine hK.out _ _ (fun _ => hS1) ?_
                  clear hK K
                  try simp only [Act.put, List.setIfInBounds_toArray, List.set_cons_zero, List.set_cons_succ]
                  refine anyL_take 23 (v := ?_) rfl (by kernel_rfl) (fun _ _ _ h => h) (Or.inl ⟨by rfl, ?_⟩) hS1 ?_
                  rotate_left
                  focus (intro W hW; go_simp; try with_reducible rfl)
                  simp only [Act.put, List.setIfInBounds_toArray, List.set_cons_zero, List.set_cons_succ]
                  refine anyL_take 24 (v := ?_) rfl (by kernel_rfl) (fun _ _ _ h => h) (Or.inl ⟨by rfl, ?_⟩) hS1 ?_
                  rotate_left
                  focus (intro W hW; go_simp; try with_reducible rfl)
                  simp only [Act.put, List.setIfInBounds_toArray, List.set_cons_zero, List.set_cons_succ]
                  refine anyC_done (by kernel_rfl) ?_ _
                  obtain ⟨⟨hQ1, hQ2⟩, hQ3⟩ := hS1
                  obtain ⟨ce, cf⟩ := hel.out _ hQ1.2
                  have z0 : w29.cell? ⟨s15, 0, none⟩ = some (.slice (some ⟨g9, 0, none⟩) q.length cap') := cell_of_row w29 s15 0 _ _ _ hQ1.2.z
                  have y0 : w29.cell? ⟨s20, 0, none⟩ = some (.int .i64 1) := cell_of_row w29 _ 0 _ _ _ hQ3
                  have y1 : w29.cell? ⟨s20, 1, none⟩ = some (.int .i64 (p : Int)) := cell_of_row w29 _ 1 _ _ _ hQ3
                  have y2 : w29.cell? ⟨s20, 2, none⟩ = some (.int .i64 dr) := cell_of_row w29 _ 2 _ _ _ hQ3
                  have zl := lt_of_cell ce
                  obtain ⟨hset, hlow⟩ := hQ1.2.set hpl (dr + 1)
                  have hne3 := hG3.out g9 rfl
                  have hne4 := hgs.out g9 rfl
                  have hfin := Lib.hid (⟨⟨⟨⟨hQ1.1.1.low hlow (Nat.lt_trans hQ1.1.2.2.2.2.2.1 hQ1.2.hs) (Nat.lt_trans hQ1.1.2.2.2.2.2.2 hQ1.2.hs), (hlow.block _ (Nat.lt_trans hQ1.1.2.2.2.1 hQ1.2.hs)).trans hQ1.1.2.1, (hlow.block _ (Nat.lt_trans hQ1.1.2.2.2.2.1 hQ1.2.hs)).trans hQ1.1.2.2.1, hQ1.1.2.2.2⟩, hset⟩, (Below.heap_setCell w29 ⟨g9, p, none⟩ _ _ (fun e => hne3 e.symm)).trans hQ2⟩, (Below.heap_setCell w29 ⟨g9, p, none⟩ _ _ (fun e => hne4 e.symm)).trans hQ3⟩ : (((MeB w s7 D Z B O A q0 q1 q2 q3 (w29.setCell ⟨g9, p, none⟩ (.int .i64 (dr + 1))) ∧ RepW (w29.setCell ⟨g9, p, none⟩ (.int .i64 (dr + 1))) G1 (ints (lens wd z r)) ∧ RepW (w29.setCell ⟨g9, p, none⟩ (.int .i64 (dr + 1))) G2 (ints (lens wd z b)) ∧ G1 < s15 ∧ G2 < s15 ∧ s7 < s15 ∧ w.heap.size + 1 < s15) ∧ LvB base s15 (some ⟨g9, 0, none⟩) cap' (q.set p (dr + 1)) m B1 d1' xs (w29.setCell ⟨g9, p, none⟩ (.int .i64 (dr + 1)))) ∧ RepW (w29.setCell ⟨g9, p, none⟩ (.int .i64 (dr + 1))) G3 (ints want)) ∧ (w29.setCell ⟨g9, p, none⟩ (.int .i64 (dr + 1))).heap[s20]? = some (.cells #[.int .i64 1, .int .i64 (p : Int), .int .i64 dr] 70 (0, 0)))
                  clear hQ1 hQ2 hQ3 hset hlow hne3 hne4 hgs hG3 hel
                  go_upto_region 32 with fail
                  refine fresh_world (fun W => (((MeB w s7 D Z B O A q0 q1 q2 q3 W ∧ RepW W G1 (ints (lens wd z r)) ∧ RepW W G2 (ints (lens wd z b)) ∧ G1 < s15 ∧ G2 < s15 ∧ s7 < s15 ∧ w.heap.size + 1 < s15) ∧ LvB base s15 (some ⟨g9, 0, none⟩) cap' (q.set p (dr + 1)) m B1 d1' xs W) ∧ RepW W G3 (ints want)) ∧ W.heap[s20]? = some (.cells #[.int .i64 1, .int .i64 (p : Int), .int .i64 dr] 70 (0, 0))) hfin.out ?_
                  clear hfin ce cf z0 y0 y1 y2 zl drw drw2
                  rintro w32 ⟨hQ, hQ3⟩
                  have y0 : w32.cell? ⟨s20, 0, none⟩ = some (.int .i64 1) := cell_of_row w32 _ 0 _ _ _ hQ3
                  have hF32 := Lib.hid hQ
                  have hqlw : Hid ((q.set p (dr + 1)).length = wd + 1) := Lib.hid (by rw [List.length_set]; exact hqw.out)
                  clear hQ hQ3
                  generalize q.set p (dr + 1) = ql at hF32 hK2 hqlw
                  go_wp2_with fail
                  go_loopw [23] (fun ii wr => ∃ j : Nat, ii = .int .i64 (j : Int) ∧ j ≤ wd + 1 ∧ Hid (((MeB w s7 D Z B O A q0 q1 q2 q3 wr ∧ RepW wr G1 (ints (lens wd z r)) ∧ RepW wr G2 (ints (lens wd z b)) ∧ G1 < s15 ∧ G2 < s15 ∧ s7 < s15 ∧ w.heap.size + 1 < s15) ∧ LvB base s15 (some ⟨g9, 0, none⟩) cap' ql m B1 d1' xs wr) ∧ RepW wr G3 (ints want))) (fun ii _ => wd + 1 - (intOf ii).toNat)
                  case atStart => exact ⟨0, rfl, Nat.zero_le _, hF32⟩
                  case round =>
                    obtain ⟨j, rfl, hj, hB⟩ := hrel
                    clear hF32 y0
                    obtain ⟨g0, g1, g2, g3, g4, _⟩ := hB.out.1.1.1.m.g
                    by_cases hlt : j < wd + 1
                    case neg =>
                      have hx : ¬ (j : Int) < D := by have := hDH.out; omega
                      have hF := Lib.hid hB.out.1.1.1.m.bw
                      clear hB
                      go_wp2_with fail
                      go_ret
                      exact ⟨rfl, hF.out⟩
                    case pos =>
                      have hx : (j : Int) < D := by have := hDH.out; omega
                      have iw : IntKind.i64.wrap ((j : Int) + 1) = (j : Int) + 1 := IntWalk.i64_in _ (by omega)
                      have hBd := Lib.hid (fun k => (⟨⟨⟨hB.out.1.1.1.below (below_drewN (Below.refl _ wr) k), hB.out.1.1.2.1.below (below_drewN (Below.refl _ wr) k), hB.out.1.1.2.2.1.below (below_drewN (Below.refl _ wr) k), hB.out.1.1.2.2.2⟩, hB.out.1.2.below (below_drewN (Below.refl _ wr) k)⟩, hB.out.2.below (below_drewN (Below.refl _ wr) k)⟩ : ((MeB w s7 D Z B O A q0 q1 q2 q3 (wr.drewN k) ∧ RepW (wr.drewN k) G1 (ints (lens wd z r)) ∧ RepW (wr.drewN k) G2 (ints (lens wd z b)) ∧ G1 < s15 ∧ G2 < s15 ∧ s7 < s15 ∧ w.heap.size + 1 < s15) ∧ LvB base s15 (some ⟨g9, 0, none⟩) cap' ql m B1 d1' xs (wr.drewN k)) ∧ RepW (wr.drewN k) G3 (ints want)))
                      have z0 : wr.cell? ⟨s15, 0, none⟩ = some (.slice (some ⟨g9, 0, none⟩) (ql).length cap') := cell_of_row wr s15 0 _ _ _ hB.out.1.2.z
                      have hbj := hK2.out j hlt
                      have c1 := hwat.out j hlt wr hB.out.2
                      by_cases hjm : (j : Int) = m
                      · have e1 : ((j : Int) != m) = false := by simp [hjm]
                        clear hjm hB hbj c1
                        go_wp2_with fail
                        go_quiet (fail)
                        go_wp2_with fail
                        go_roundw
                        case rel => exact ⟨j + 1, by go_num, hlt, Lib.hid (hBd.out _)⟩
                        case measure => simp only [intOf]; omega
                      · have e1 : ((j : Int) != m) = true := by simp [hjm]
                        have hjl : j < (ql).length := by rw [hqlw.out]; exact hlt
                        obtain ⟨g8, eA, _, _, _, hcell, _⟩ := hB.out.1.2.r.at_ hjl
                        injection eA with eA; injection eA with eA; subst eA
                        have c0 : wr.cell? ⟨g9, j, none⟩ = some (.int .i64 ((ql).getD j 0)) := by
                          have := hcell 0 (by decide)
                          rw [show j * inE.k + 0 = j by show j * 1 + 0 = j; omega] at this
                          rw [this, List.getD_eq_getElem?_getD, List.getElem?_eq_getElem hjl]; rfl
                        have hxy : (ql).getD j 0 = want.getD j 0 := Decidable.not_not.1 (fun h => of_decide_eq_false hbj ⟨hjm, h⟩)
                        rw [hxy] at c0
                        generalize want.getD j 0 = x9 at c0 c1
                        have hli : (j : Int) < ((ql).length : Int) := by omega
                        have hli2 : (j : Int) < (wd : Int) + 1 := by omega
                        have hli3 : j ≤ wd := by omega
                        clear hB hbj hcell hxy
                        go_wp2_with fail
                        go_quiet (fail)
                        go_wp2_with fail
                        go_roundw
                        case rel => exact ⟨j + 1, by go_num, hlt, Lib.hid (hBd.out _)⟩
                        case measure => simp only [intOf]; omega
                · have e1 : (d.k == 1) = false := by rw [beq_eq_false_iff_ne]; omega
                  have e0 : (d.k == 0) = false := by rw [beq_eq_false_iff_ne]; omega
                  have hM3 := Lib.hid M3
                  generalize d.k = dk at y0 e1 e0
                  clear M1 M2 M3 hthH hprPH hgs hD3H y1 y2 hG3
                  go_wp2_with fail
                  go_loopw [24, 25] (fun mm ii wr => ∃ (j : Nat) (mo : Bool), ii = .int .i64 (j : Int) ∧ mm = .bool mo ∧ j ≤ wd + 1 ∧ Hid (mo = true ↔ ∃ s : Nat, s < j ∧ (s : Int) ≠ m ∧ want.getD s 0 < q.getD s 0) ∧ Hid (((MeB w s7 D Z B O A q0 q1 q2 q3 wr ∧ RepW wr G1 (ints (lens wd z r)) ∧ RepW wr G2 (ints (lens wd z b)) ∧ G1 < s15 ∧ G2 < s15 ∧ s7 < s15 ∧ w.heap.size + 1 < s15) ∧ LvB base s15 A' cap' q m B1 d1' xs wr) ∧ RepW wr G3 (ints want))) (fun _ ii _ => wd + 1 - (intOf ii).toNat)
                  case atStart => exact ⟨0, false, rfl, rfl, Nat.zero_le _, Lib.hid ⟨fun h => (by cases h), fun ⟨s, h, _⟩ => absurd h (Nat.not_lt_zero _)⟩, hF3⟩
                  case round =>
                    obtain ⟨j, mo, rfl, rfl, hj, hmo, hB⟩ := hrel
                    clear hF3 y0 yl
                    obtain ⟨g0, g1, g2, g3, g4, _⟩ := hB.out.1.1.1.m.g
                    by_cases hlt : j < wd + 1
                    case neg =>
                      have hx : ¬ (j : Int) < D := by have := hDH.out; omega
                      have hF := Lib.hid hB.out.1.1.1.m.bw
                      have hmt : Hid (mo = true) := Lib.hid (hmo.out.2 (by
                        obtain ⟨s9, s91, s92, s93⟩ := hM3.out
                        exact ⟨s9, by omega, s92, s93⟩))
                      clear hB hmo hM3
                      go_wp2_with fail
                      go_ret
                      exact ⟨by rw [hmt.out]; rfl, hF.out⟩
                    case pos =>
                      have hx : (j : Int) < D := by have := hDH.out; omega
                      have iw : IntKind.i64.wrap ((j : Int) + 1) = (j : Int) + 1 := IntWalk.i64_in _ (by omega)
                      have hBd := Lib.hid (fun k => (⟨⟨⟨hB.out.1.1.1.below (below_drewN (Below.refl _ wr) k), hB.out.1.1.2.1.below (below_drewN (Below.refl _ wr) k), hB.out.1.1.2.2.1.below (below_drewN (Below.refl _ wr) k), hB.out.1.1.2.2.2⟩, hB.out.1.2.below (below_drewN (Below.refl _ wr) k)⟩, hB.out.2.below (below_drewN (Below.refl _ wr) k)⟩ : ((MeB w s7 D Z B O A q0 q1 q2 q3 (wr.drewN k) ∧ RepW (wr.drewN k) G1 (ints (lens wd z r)) ∧ RepW (wr.drewN k) G2 (ints (lens wd z b)) ∧ G1 < s15 ∧ G2 < s15 ∧ s7 < s15 ∧ w.heap.size + 1 < s15) ∧ LvB base s15 A' cap' q m B1 d1' xs (wr.drewN k)) ∧ RepW (wr.drewN k) G3 (ints want)))
                      have z0 : wr.cell? ⟨s15, 0, none⟩ = some (.slice A' q.length cap') := cell_of_row wr s15 0 _ _ _ hB.out.1.2.z
                      have c1 := hwat.out j hlt wr hB.out.2
                      have hst : (∃ s : Nat, s < j + 1 ∧ (s : Int) ≠ m ∧ want.getD s 0 < q.getD s 0) ↔ (mo = true ∨ ((j : Int) ≠ m ∧ want.getD j 0 < q.getD j 0)) := by
                        rw [hmo.out]
                        constructor
                        · rintro ⟨s, h1, h2, h3⟩
                          by_cases e : s = j
                          · rw [e] at h2 h3; exact .inr ⟨h2, h3⟩
                          · exact .inl ⟨s, by omega, h2, h3⟩
                        · rintro (⟨s, h1, h2, h3⟩ | ⟨h2, h3⟩)
                          · exact ⟨s, by omega, h2, h3⟩
                          · exact ⟨j, by omega, h2, h3⟩
                      have hstH := Lib.hid hst
                      clear hst hmo
                      cases mo with
                      | true =>
                        have hm2 : Hid (∃ s : Nat, s < j + 1 ∧ (s : Int) ≠ m ∧ want.getD s 0 < q.getD s 0) := Lib.hid (hstH.out.2 (Or.inl rfl))
                        clear hB c1 hstH
                        go_wp2_with fail
                        go_quiet (fail)
                        go_wp2_with fail
                        go_roundw
                        case rel => exact ⟨j + 1, true, by go_num, rfl, hlt, Lib.hid (Iff.intro (fun _ => hm2.out) (fun _ => rfl)), Lib.hid (hBd.out _)⟩
                        case measure => simp only [intOf]; omega
                      | false =>
                        by_cases hjm : (j : Int) = m
                        · have e1 : ((j : Int) != m) = false := by simp [hjm]
                          have hm2 : Hid ((false = true) ↔ ∃ s : Nat, s < j + 1 ∧ (s : Int) ≠ m ∧ want.getD s 0 < q.getD s 0) := Lib.hid ⟨fun h => (by cases h), fun h => by
                            rcases hstH.out.1 h with h | h
                            · cases h
                            · exact absurd hjm h.1⟩
                          clear hB c1 hstH hjm
                          go_wp2_with fail
                          go_quiet (fail)
                          go_wp2_with fail
                          go_roundw
                          case rel => exact ⟨j + 1, false, by go_num, rfl, hlt, hm2, Lib.hid (hBd.out _)⟩
                          case measure => simp only [intOf]; omega
                        · have e1 : ((j : Int) != m) = true := by simp [hjm]
                          have hjl : j < q.length := by rw [hqw.out]; exact hlt
                          obtain ⟨g8, eA, _, _, _, hcell, _⟩ := hB.out.1.2.r.at_ hjl
                          subst eA
                          have c0 : wr.cell? ⟨g8, j, none⟩ = some (.int .i64 (q.getD j 0)) := by
                            have := hcell 0 (by decide)
                            rw [show j * inE.k + 0 = j by show j * 1 + 0 = j; omega] at this
                            rw [this, List.getD_eq_getElem?_getD, List.getElem?_eq_getElem hjl]; rfl
                          obtain ⟨x8, hx8⟩ : ∃ x, q.getD j 0 = x := ⟨_, rfl⟩
                          obtain ⟨x9, hx9⟩ : ∃ x, want.getD j 0 = x := ⟨_, rfl⟩
                          rw [hx8] at c0
                          rw [hx9] at c1
                          have hst2 : (∃ s : Nat, s < j + 1 ∧ (s : Int) ≠ m ∧ want.getD s 0 < q.getD s 0) ↔ x9 < x8 := by
                            rw [hstH.out, hx8, hx9]
                            exact ⟨fun h => h.elim (fun h => (by cases h)) (fun h => h.2), fun h => .inr ⟨hjm, h⟩⟩
                          have hst2H := Lib.hid hst2
                          have hli : (j : Int) < (q.length : Int) := by omega
                          have hli2 : (j : Int) < (wd : Int) + 1 := by omega
                          have hli3 : j ≤ wd := by omega
                          clear hB hcell hx8 hx9 hst2 hstH
                          by_cases hg : x9 < x8
                          · have hm2 : Hid (∃ s : Nat, s < j + 1 ∧ (s : Int) ≠ m ∧ want.getD s 0 < q.getD s 0) := Lib.hid (hst2H.out.2 hg)
                            clear hst2H
                            go_wp2_with fail
                            go_quiet (fail)
                            go_wp2_with fail
                            go_roundw
                            case rel => exact ⟨j + 1, true, by go_num, rfl, hlt, Lib.hid (Iff.intro (fun _ => hm2.out) (fun _ => rfl)), Lib.hid (hBd.out _)⟩
                            case measure => simp only [intOf]; omega
                          · have hm2 : Hid ((false = true) ↔ ∃ s : Nat, s < j + 1 ∧ (s : Int) ≠ m ∧ want.getD s 0 < q.getD s 0) := Lib.hid ⟨fun h => (by cases h), fun h => absurd (hst2H.out.1 h) hg⟩
                            have dg : decide (x9 < x8) = false := decide_eq_false hg
                            clear hst2H
                            go_wp2_with fail
                            go_quiet (fail)
                            go_wp2_with fail
                            go_roundw
                            case rel => exact ⟨j + 1, false, by go_num, rfl, hlt, hm2, Lib.hid (hBd.out _)⟩
                            case measure => simp only [intOf]; omega
      case pos =>
        have hlt2 : (i : Int) < D := by have := hDH.out; omega
        by_cases hil : (0 : Int) < (ls.length : Int)
        case pos =>
          have hmod := mod_nat (i := i) (n := ls.length) (by omega)
          have hin : i % ls.length < ls.length := Nat.mod_lt _ (by omega)
          obtain ⟨ba, oa, rfl, e0⟩ := ints_at (hAH.out wr hB.out.1.1.m.bw) hin
          generalize ls.getD (i % ls.length) 0 = y0 at e0
          obtain ⟨hmod1, hmod2⟩ := hmod
          obtain ⟨k, hk1, hk2⟩ := mask_nat2 y0 10 1023 rfl (by decide)
          have hmk : bits .and .i64 y0 1023 = (k : Int) := hk2
          have hn0 : ¬ (ls.length : Int) = 0 := by omega
          have hn1 : ¬ (ls.length : Int) = -1 := by omega
          clear hk1 hk2
          obtain ⟨p, hp⟩ : ∃ p, i % ls.length = p := ⟨_, rfl⟩
          rw [hp] at hmod1 hmod2 hin e0
          have hinI : (p : Int) < (ls.length : Int) := by omega
          clear hp
          go_upto_region 19 with fail
          refine fresh_world (fun W => (MeB w s7 D Z B O A q0 q1 q2 q3 W ∧ RepW W G1 (ints (lens wd z r)) ∧ RepW W G2 (ints (lens wd z b)) ∧ G1 < s15 ∧ G2 < s15 ∧ s7 < s15 ∧ w.heap.size + 1 < s15) ∧ LvB base s15 A' cap' q m none 0 [] W) hB.out ?_
          clear hB hmod1 hmod2 hin e0 hmk hn0 hn1 hinI g0 g1 g2 g3 g4
          rintro wx ⟨hL, hV⟩
          have hrow0 := hL.2.1
          have hll : i < (lens wd z r).length := by rw [lens_len]; exact hlt
          have hlr : i < (lens wd z b).length := by rw [lens_len]; exact hlt
          have hea2 : (lens wd z r).getD i 0 = len wd z r (i : Int) := by rw [List.getD_eq_getElem?_getD, List.getElem?_eq_getElem hll]; exact lens_at hll
          have heb2 : (lens wd z b).getD i 0 = len wd z b (i : Int) := by rw [List.getD_eq_getElem?_getD, List.getElem?_eq_getElem hlr]; exact lens_at hlr
          obtain ⟨la, hea⟩ : ∃ la, (lens wd z r).getD i 0 = la := ⟨_, rfl⟩
          obtain ⟨lb, heb⟩ : ∃ lb, (lens wd z b).getD i 0 = lb := ⟨_, rfl⟩
          have hlim := hlm.out i
          rw [← hea2, ← heb2, hea, heb] at hlim
          rw [hea] at hea2
          rw [heb] at heb2
          have hea2H := Lib.hid hea2
          have heb2H := Lib.hid heb2
          clear hea2 heb2
          obtain ⟨d, dd, y, x, n1, n2, n3, n4, n5, n6, n7, n8, n9, n10, hx1, hx2⟩ := keep_nums k hlim.1 hlim.2.1 hlim.2.2
          have hxab : la ≤ x ∧ x ≤ lb := ⟨hx1, hx2⟩
          clear hlim hrow0 hx1 hx2
          have hcz : wx.cell? ⟨s15, 0, none⟩ = some (.slice A' i cap') := by
            have := cell_of_row wx s15 0 _ _ _ hV.z
            rw [hql.out] at this
            exact this
          have hli1 : (i : Int) < (wd : Int) + 1 := by omega
          have hli2 : i < wd + 1 := hlt
          have hli3 : i ≤ wd := by omega
          have hS0 : (fun W => MeB w s7 D Z B O A q0 q1 q2 q3 W ∧ RepW W G1 (ints (lens wd z r)) ∧ RepW W G2 (ints (lens wd z b)) ∧ W.cell? ⟨s15, 0, none⟩ = some (.slice A' i cap')) wx.drew := ⟨hL.1.below (Below.refl _ _).drew, hL.2.1, hL.2.2.1, hcz⟩
          refine region_anyC (fun i => decide (i < 22)) (fun W => MeB w s7 D Z B O A q0 q1 q2 q3 W ∧ RepW W G1 (ints (lens wd z r)) ∧ RepW W G2 (ints (lens wd z b)) ∧ W.cell? ⟨s15, 0, none⟩ = some (.slice A' i cap')) (by kernel_rfl) ?_
          refine anyL_take 0 (v := ?_) rfl (by kernel_rfl) (fun _ _ _ h => h) (Or.inl ⟨by rfl, ?_⟩) hS0 ?_
          rotate_left
          focus (intro W hW; go_simp; try with_reducible rfl)
          simp only [Act.put, List.setIfInBounds_toArray, List.set_cons_zero, List.set_cons_succ]
          refine anyL_take 1 (v := ?_) rfl (by kernel_rfl) (fun _ _ _ h => h) (Or.inl ⟨by rfl, ?_⟩) hS0 ?_
          rotate_left
          focus (intro W hW; have f0 := hW.2.2.2; go_simp; try with_reducible rfl)
          simp only [Act.put, List.setIfInBounds_toArray, List.set_cons_zero, List.set_cons_succ]
          refine anyL_take 2 (v := ?_) rfl (by kernel_rfl) (fun _ _ _ h => h) (Or.inl ⟨by rfl, ?_⟩) hS0 ?_
          rotate_left
          focus (intro W hW; go_simp; try with_reducible rfl)
          simp only [Act.put, List.setIfInBounds_toArray, List.set_cons_zero, List.set_cons_succ]
          refine anyL_take 3 (v := ?_) rfl (by kernel_rfl) (fun _ _ _ h => h) (Or.inl ⟨by rfl, ?_⟩) hS0 ?_
          rotate_left
          focus (intro W hW; go_simp; try with_reducible rfl)
          simp only [Act.put, List.setIfInBounds_toArray, List.set_cons_zero, List.set_cons_succ]
          refine anyL_take 4 (v := ?_) rfl (by kernel_rfl) (fun _ _ _ h => h) (Or.inl ⟨by rfl, ?_⟩) hS0 ?_
          rotate_left
          focus (intro W hW; go_simp; try with_reducible rfl)
          simp only [Act.put, List.setIfInBounds_toArray, List.set_cons_zero, List.set_cons_succ]
          refine anyL_take 5 (v := ?_) rfl (by kernel_rfl) (fun _ _ _ h => h) (Or.inl ⟨by rfl, ?_⟩) hS0 ?_
          rotate_left
          focus (intro W hW; have f0 := hW.2.1.at_ (s := i) hll; rw [hea] at f0; go_simp; try with_reducible rfl)
          simp only [Act.put, List.setIfInBounds_toArray, List.set_cons_zero, List.set_cons_succ]
          refine anyL_take 6 (v := ?_) rfl (by kernel_rfl) (fun _ _ _ h => h) (Or.inl ⟨by rfl, ?_⟩) hS0 ?_
          rotate_left
          focus (intro W hW; go_simp; try with_reducible rfl)
          simp only [Act.put, List.setIfInBounds_toArray, List.set_cons_zero, List.set_cons_succ]
          refine anyL_take 7 (v := ?_) rfl (by kernel_rfl) (fun _ _ _ h => h) (Or.inl ⟨by rfl, ?_⟩) hS0 ?_
          rotate_left
          focus (intro W hW; go_simp; try with_reducible rfl)
          simp only [Act.put, List.setIfInBounds_toArray, List.set_cons_zero, List.set_cons_succ]
          refine anyL_take 8 (v := ?_) rfl (by kernel_rfl) (fun _ _ _ h => h) (Or.inl ⟨by rfl, ?_⟩) hS0 ?_
          rotate_left
          focus (intro W hW; go_simp; try with_reducible rfl)
          simp only [Act.put, List.setIfInBounds_toArray, List.set_cons_zero, List.set_cons_succ]
          refine anyL_take 9 (v := ?_) rfl (by kernel_rfl) (fun _ _ _ h => h) (Or.inl ⟨by rfl, ?_⟩) hS0 ?_
          rotate_left
          focus (intro W hW; go_simp; try with_reducible rfl)
          simp only [Act.put, List.setIfInBounds_toArray, List.set_cons_zero, List.set_cons_succ]
          refine anyL_take 10 (v := ?_) rfl (by kernel_rfl) (fun _ _ _ h => h) (Or.inl ⟨by rfl, ?_⟩) hS0 ?_
          rotate_left
          focus (intro W hW; have f0 := hW.2.2.1.at_ (s := i) hlr; rw [heb] at f0; go_simp; try with_reducible rfl)
          simp only [Act.put, List.setIfInBounds_toArray, List.set_cons_zero, List.set_cons_succ]
          refine anyL_take 11 (v := ?_) rfl (by kernel_rfl) (fun _ _ _ h => h) (Or.inl ⟨by rfl, ?_⟩) hS0 ?_
          rotate_left
          focus (intro W hW; go_simp; try with_reducible rfl)
          simp only [Act.put, List.setIfInBounds_toArray, List.set_cons_zero, List.set_cons_succ]
          refine anyL_take 12 (v := ?_) rfl (by kernel_rfl) (fun _ _ _ h => h) (Or.inl ⟨by rfl, ?_⟩) hS0 ?_
          rotate_left
          focus (intro W hW; go_simp; try with_reducible rfl)
          simp only [Act.put, List.setIfInBounds_toArray, List.set_cons_zero, List.set_cons_succ]
          refine anyL_take 13 (v := ?_) rfl (by kernel_rfl) (fun _ _ _ h => h) (Or.inl ⟨by rfl, ?_⟩) hS0 ?_
          rotate_left
          focus (intro W hW; go_simp; try with_reducible rfl)
          simp only [Act.put, List.setIfInBounds_toArray, List.set_cons_zero, List.set_cons_succ]
          refine anyL_take 14 (v := ?_) rfl (by kernel_rfl) (fun _ _ _ h => h) (Or.inl ⟨by rfl, ?_⟩) hS0 ?_
          rotate_left
          focus (intro W hW; have f0 := hW.2.1.at_ (s := i) hll; rw [hea] at f0; go_simp; try with_reducible rfl)
          simp only [Act.put, List.setIfInBounds_toArray, List.set_cons_zero, List.set_cons_succ]
          refine anyL_take 15 (v := ?_) rfl (by kernel_rfl) (fun _ _ _ h => h) (Or.inl ⟨by rfl, ?_⟩) hS0 ?_
          rotate_left
          focus (intro W hW; go_simp; try with_reducible rfl)
          simp only [Act.put, List.setIfInBounds_toArray, List.set_cons_zero, List.set_cons_succ]
          refine anyL_take 16 (v := ?_) rfl (by kernel_rfl) (fun _ _ _ h => h) (Or.inl ⟨by rfl, ?_⟩) hS0 ?_
          rotate_left
          focus (intro W hW; go_simp; try with_reducible rfl)
          simp only [Act.put, List.setIfInBounds_toArray, List.set_cons_zero, List.set_cons_succ]
          refine anyL_take 17 (v := ?_) rfl (by kernel_rfl) (fun _ _ _ h => h) (Or.inl ⟨by rfl, ?_⟩) hS0 ?_
          rotate_left
          focus (intro W hW; go_simp; try with_reducible rfl)
          simp only [Act.put, List.setIfInBounds_toArray, List.set_cons_zero, List.set_cons_succ]
          refine anyL_take 18 (v := ?_) rfl (by kernel_rfl) (fun _ _ _ h => h) (Or.inl ⟨by rfl, ?_⟩) hS0 ?_
          rotate_left
          focus (intro W hW; go_simp; try with_reducible rfl)
          simp only [Act.put, List.setIfInBounds_toArray, List.set_cons_zero, List.set_cons_succ]
          generalize hwy : wx.drew = wy at hS0 ⊢
          have hLy : (MeB w s7 D Z B O A q0 q1 q2 q3 wy ∧ RepW wy G1 (ints (lens wd z r)) ∧ RepW wy G2 (ints (lens wd z b)) ∧ G1 < s15 ∧ G2 < s15 ∧ s7 < s15 ∧ w.heap.size + 1 < s15) := by rw [← hwy]; exact ⟨hL.1.below (Below.refl _ _).drew, hL.2⟩
          have hVy : LvB base s15 A' cap' q m none 0 [] wy := by rw [← hwy]; exact hV.below (Below.refl _ _).drew
          clear hwy hL hV
          refine anyL_one 19 rfl (by kernel_rfl) (fun K hK => ?_)
          go_simp
          have ha := (Below.refl wy.heap.size wy).alloc (Nat.le_refl _) (.cells #[.int .i64 x] 3)
          have hn := World.alloc_heap_new wy (.cells #[.int .i64 x] 3)
          have hV1 := hVy.below ha
          have hL1 : (MeB w s7 D Z B O A q0 q1 q2 q3 (wy.alloc (.cells #[.int .i64 x] 3)) ∧ RepW (wy.alloc (.cells #[.int .i64 x] 3)) G1 (ints (lens wd z r)) ∧ RepW (wy.alloc (.cells #[.int .i64 x] 3)) G2 (ints (lens wd z b)) ∧ G1 < s15 ∧ G2 < s15 ∧ s7 < s15 ∧ w.heap.size + 1 < s15) := ⟨hLy.1.below ha, hLy.2.1.below ha, hLy.2.2.1.below ha, hLy.2.2.2⟩
          have hc1 := keepC hS0.2.2.2 ha
          refine hK.out _ _ (fun _ => ⟨hL1.1, hL1.2.1, hL1.2.2.1, hc1⟩) ?_
          clear hK K hS0 hVy hLy ha
          try simp only [Act.put, List.setIfInBounds_toArray, List.set_cons_zero, List.set_cons_succ]
          obtain ⟨A3, cap3, W6, hrun, hrow, hgr, hor⟩ := Enc.Row.append (E := inE) (P := Try.prog) Try.underlying24 infoIn (by decide) (by decide) hV1.r (m := wy.heap.size) (x := x) (fun j hj => by
            match j, hj with
            | 0, _ => exact cell_of_row _ _ 0 _ _ _ hn) (by have := hql.out; omega) hV1.hb 24
          have hpush := hV1.push hrow hgr hor
          have hb6 : Below base (wy.alloc (.cells #[.int .i64 x] 3)) W6 := (Below.refl base _).grown hgr hV1.hb (fun k e => (rowI_own hV1.r e).2)
          rw [hql.out] at hrun hpush
          refine anyL_one 20 rfl (by kernel_rfl) (fun K hK => ?_)
          refine append_run_step rfl (.tmp 109) (.tmp 127) 24 rfl rfl rfl hrun ?_
          have hz6 := (hb6.block s15 hV1.hs).trans hV1.z
          have hL6 : (MeB w s7 D Z B O A q0 q1 q2 q3 W6 ∧ RepW W6 G1 (ints (lens wd z r)) ∧ RepW W6 G2 (ints (lens wd z b)) ∧ G1 < s15 ∧ G2 < s15 ∧ s7 < s15 ∧ w.heap.size + 1 < s15) := ⟨hL1.1.low hb6 (Nat.lt_trans hL1.2.2.2.2.2.1 hV1.hs) (Nat.lt_trans hL1.2.2.2.2.2.2 hV1.hs), (hb6.block _ (Nat.lt_trans hL1.2.2.2.1 hV1.hs)).trans hL1.2.1, (hb6.block _ (Nat.lt_trans hL1.2.2.2.2.1 hV1.hs)).trans hL1.2.2.1, hL1.2.2.2⟩
          have hc6 : W6.cell? ⟨s15, 0, none⟩ = some (.slice A' i cap') := (hb6.cell (p := ⟨s15, 0, none⟩) hV1.hs).trans hc1
          refine hK.out _ _ (fun _ => ⟨hL6.1, hL6.2.1, hL6.2.2.1, hc6⟩) ?_
          clear hK K hc1 hL1 hb6 hrun hrow hgr hor hn
          try simp only [Act.put, List.setIfInBounds_toArray, List.set_cons_zero, List.set_cons_succ]
          have zf : W6.frozen? ⟨s15, 0, none⟩ = false := by simp [World.frozen?, hz6]
          have zl := lt_of_cell hc6
          have hSx : (fun W => MeB w s7 D Z B O A q0 q1 q2 q3 W ∧ RepW W G1 (ints (lens wd z r)) ∧ RepW W G2 (ints (lens wd z b)) ∧ W.cell? ⟨s15, 0, none⟩ = some (.slice A' i cap')) W6 := ⟨hL6.1, hL6.2.1, hL6.2.2.1, hc6⟩
          refine anyL_take 21 (v := ?_) rfl (by kernel_rfl) (fun _ _ _ h => h) (Or.inl ⟨by rfl, ?_⟩) hSx ?_
          rotate_left
          focus (intro W hW; go_simp; try with_reducible rfl)
          simp only [Act.put, List.setIfInBounds_toArray, List.set_cons_zero, List.set_cons_succ]
          clear hSx
          refine anyL_one 22 rfl (by kernel_rfl) (fun K hK => ?_)
          go_simp
          refine hK.out _ _ (fun h => absurd h (by decide)) ?_
          clear hK K
          try simp only [Act.put, List.setIfInBounds_toArray, List.set_cons_zero, List.set_cons_succ]
          refine anyC_done (by kernel_rfl) ?_ _
          have hlow := (Below.refl s15 W6).setCell (p := ⟨s15, 0, none⟩) (Nat.le_refl _) (.slice A3 (i + 1) cap3)
          have hL7 : (MeB w s7 D Z B O A q0 q1 q2 q3 (W6.setCell ⟨s15, 0, none⟩ (.slice A3 (i + 1) cap3)) ∧ RepW (W6.setCell ⟨s15, 0, none⟩ (.slice A3 (i + 1) cap3)) G1 (ints (lens wd z r)) ∧ RepW (W6.setCell ⟨s15, 0, none⟩ (.slice A3 (i + 1) cap3)) G2 (ints (lens wd z b)) ∧ G1 < s15 ∧ G2 < s15 ∧ s7 < s15 ∧ w.heap.size + 1 < s15) := ⟨hL6.1.low hlow hL6.2.2.2.2.2.1 hL6.2.2.2.2.2.2, (hlow.block _ hL6.2.2.2.1).trans hL6.2.1, (hlow.block _ hL6.2.2.2.2.1).trans hL6.2.2.1, hL6.2.2.2⟩
          have hV7 := hpush.1
          have hlx : (q ++ [x]).length = i + 1 := by rw [List.length_append, hql.out]; rfl
          have hqr7 : Hid (∀ j, j < i + 1 → len wd z r (j : Int) ≤ (q ++ [x]).getD j 0 ∧ (q ++ [x]).getD j 0 ≤ len wd z b (j : Int)) := Lib.hid (fun j hj => by
            by_cases e : j = i
            · have e2 : (q ++ [x]).getD j 0 = x := by
                rw [e, List.getD_eq_getElem?_getD, List.getElem?_append_right (by rw [hql.out]; omega), hql.out, Nat.sub_self]; rfl
              rw [e2, e, ← hea2H.out, ← heb2H.out]
              exact hxab
            · have e2 : (q ++ [x]).getD j 0 = q.getD j 0 := by
                rw [List.getD_eq_getElem?_getD, List.getElem?_append_left (by rw [hql.out]; omega), ← List.getD_eq_getElem?_getD]
              rw [e2]
              exact hqr.out j (by omega))
          have hfin := Lib.hid (And.intro hL7 hV7)
          have hlxH := Lib.hid hlx
          clear hL6 hL7 hV7 hV1 hlow hpush hz6 hc6 zf zl hlx hcz
          have iw : IntKind.i64.wrap ((i : Int) + 1) = (i : Int) + 1 := IntWalk.i64_in _ (by have := hi; omega)
          generalize W6.setCell ⟨s15, 0, none⟩ (.slice A3 (i + 1) cap3) = w9 at hfin ⊢
          go_wp2_with fail
          go_roundw
          case rel => exact ⟨i + 1, q ++ [x], A3, cap3, by go_num, hlt, hlxH, hqr7, hfin⟩
          case measure => simp only [intOf]; omega
        case neg =>
          obtain ⟨k, hk⟩ : ∃ k : Nat, k = 0 := ⟨0, rfl⟩
          go_upto_region 19 with fail
          refine fresh_world (fun W => (MeB w s7 D Z B O A q0 q1 q2 q3 W ∧ RepW W G1 (ints (lens wd z r)) ∧ RepW W G2 (ints (lens wd z b)) ∧ G1 < s15 ∧ G2 < s15 ∧ s7 < s15 ∧ w.heap.size + 1 < s15) ∧ LvB base s15 A' cap' q m none 0 [] W) hB.out ?_
          clear hB g0 g1 g2 g3 g4
          rintro wx ⟨hL, hV⟩
          have hrow0 := hL.2.1
          have hll : i < (lens wd z r).length := by rw [lens_len]; exact hlt
          have hlr : i < (lens wd z b).length := by rw [lens_len]; exact hlt
          have hea2 : (lens wd z r).getD i 0 = len wd z r (i : Int) := by rw [List.getD_eq_getElem?_getD, List.getElem?_eq_getElem hll]; exact lens_at hll
          have heb2 : (lens wd z b).getD i 0 = len wd z b (i : Int) := by rw [List.getD_eq_getElem?_getD, List.getElem?_eq_getElem hlr]; exact lens_at hlr
          obtain ⟨la, hea⟩ : ∃ la, (lens wd z r).getD i 0 = la := ⟨_, rfl⟩
          obtain ⟨lb, heb⟩ : ∃ lb, (lens wd z b).getD i 0 = lb := ⟨_, rfl⟩
          have hlim := hlm.out i
          rw [← hea2, ← heb2, hea, heb] at hlim
          rw [hea] at hea2
          rw [heb] at heb2
          have hea2H := Lib.hid hea2
          have heb2H := Lib.hid heb2
          clear hea2 heb2
          obtain ⟨d, dd, y, x, n1, n2, n3, n4, n5, n6, n7, n8, n9, n10, hx1, hx2⟩ := keep_nums 0 hlim.1 hlim.2.1 hlim.2.2
          have y00 : y = 0 := by
            have h : (((0 : Nat) : Int)).tmod dd = (y : Int) := n7
            rw [show ((0 : Nat) : Int) = 0 from rfl, Int.zero_tmod] at h
            omega
          subst y00
          have n9' : IntKind.i64.wrap la = x := by simpa using n9
          have n10' : wrap64 la = x := by simpa using n10
          have hxab : la ≤ x ∧ x ≤ lb := ⟨hx1, hx2⟩
          clear hlim hrow0 hx1 hx2
          have hcz : wx.cell? ⟨s15, 0, none⟩ = some (.slice A' i cap') := by
            have := cell_of_row wx s15 0 _ _ _ hV.z
            rw [hql.out] at this
            exact this
          have hli1 : (i : Int) < (wd : Int) + 1 := by omega
          have hli2 : i < wd + 1 := hlt
          have hli3 : i ≤ wd := by omega
          have hS0 : (fun W => MeB w s7 D Z B O A q0 q1 q2 q3 W ∧ RepW W G1 (ints (lens wd z r)) ∧ RepW W G2 (ints (lens wd z b)) ∧ W.cell? ⟨s15, 0, none⟩ = some (.slice A' i cap')) wx.drew := ⟨hL.1.below (Below.refl _ _).drew, hL.2.1, hL.2.2.1, hcz⟩
          refine region_anyC (fun i => decide (i < 22)) (fun W => MeB w s7 D Z B O A q0 q1 q2 q3 W ∧ RepW W G1 (ints (lens wd z r)) ∧ RepW W G2 (ints (lens wd z b)) ∧ W.cell? ⟨s15, 0, none⟩ = some (.slice A' i cap')) (by kernel_rfl) ?_
          refine anyL_take 0 (v := ?_) rfl (by kernel_rfl) (fun _ _ _ h => h) (Or.inl ⟨by rfl, ?_⟩) hS0 ?_
          rotate_left
          focus (intro W hW; go_simp; try with_reducible rfl)
          simp only [Act.put, List.setIfInBounds_toArray, List.set_cons_zero, List.set_cons_succ]
          refine anyL_take 1 (v := ?_) rfl (by kernel_rfl) (fun _ _ _ h => h) (Or.inl ⟨by rfl, ?_⟩) hS0 ?_
          rotate_left
          focus (intro W hW; have f0 := hW.2.2.2; go_simp; try with_reducible rfl)
          simp only [Act.put, List.setIfInBounds_toArray, List.set_cons_zero, List.set_cons_succ]
          refine anyL_take 2 (v := ?_) rfl (by kernel_rfl) (fun _ _ _ h => h) (Or.inl ⟨by rfl, ?_⟩) hS0 ?_
          rotate_left
          focus (intro W hW; go_simp; try with_reducible rfl)
          simp only [Act.put, List.setIfInBounds_toArray, List.set_cons_zero, List.set_cons_succ]
          refine anyL_take 3 (v := ?_) rfl (by kernel_rfl) (fun _ _ _ h => h) (Or.inl ⟨by rfl, ?_⟩) hS0 ?_
          rotate_left
          focus (intro W hW; go_simp; try with_reducible rfl)
          simp only [Act.put, List.setIfInBounds_toArray, List.set_cons_zero, List.set_cons_succ]
          refine anyL_take 4 (v := ?_) rfl (by kernel_rfl) (fun _ _ _ h => h) (Or.inl ⟨by rfl, ?_⟩) hS0 ?_
          rotate_left
          focus (intro W hW; go_simp; try with_reducible rfl)
          simp only [Act.put, List.setIfInBounds_toArray, List.set_cons_zero, List.set_cons_succ]
          refine anyL_take 5 (v := ?_) rfl (by kernel_rfl) (fun _ _ _ h => h) (Or.inl ⟨by rfl, ?_⟩) hS0 ?_
          rotate_left
          focus (intro W hW; have f0 := hW.2.1.at_ (s := i) hll; rw [hea] at f0; go_simp; try with_reducible rfl)
          simp only [Act.put, List.setIfInBounds_toArray, List.set_cons_zero, List.set_cons_succ]
          refine anyL_take 6 (v := ?_) rfl (by kernel_rfl) (fun _ _ _ h => h) (Or.inl ⟨by rfl, ?_⟩) hS0 ?_
          rotate_left
          focus (intro W hW; go_simp; try with_reducible rfl)
          simp only [Act.put, List.setIfInBounds_toArray, List.set_cons_zero, List.set_cons_succ]
          refine anyL_take 7 (v := ?_) rfl (by kernel_rfl) (fun _ _ _ h => h) (Or.inl ⟨by rfl, ?_⟩) hS0 ?_
          rotate_left
          focus (intro W hW; go_simp; try with_reducible rfl)
          simp only [Act.put, List.setIfInBounds_toArray, List.set_cons_zero, List.set_cons_succ]
          refine anyL_take 8 (v := ?_) rfl (by kernel_rfl) (fun _ _ _ h => h) (Or.inl ⟨by rfl, ?_⟩) hS0 ?_
          rotate_left
          focus (intro W hW; go_simp; try with_reducible rfl)
          simp only [Act.put, List.setIfInBounds_toArray, List.set_cons_zero, List.set_cons_succ]
          refine anyL_take 9 (v := ?_) rfl (by kernel_rfl) (fun _ _ _ h => h) (Or.inl ⟨by rfl, ?_⟩) hS0 ?_
          rotate_left
          focus (intro W hW; go_simp; try with_reducible rfl)
          simp only [Act.put, List.setIfInBounds_toArray, List.set_cons_zero, List.set_cons_succ]
          refine anyL_take 10 (v := ?_) rfl (by kernel_rfl) (fun _ _ _ h => h) (Or.inl ⟨by rfl, ?_⟩) hS0 ?_
          rotate_left
          focus (intro W hW; have f0 := hW.2.2.1.at_ (s := i) hlr; rw [heb] at f0; go_simp; try with_reducible rfl)
          simp only [Act.put, List.setIfInBounds_toArray, List.set_cons_zero, List.set_cons_succ]
          refine anyL_take 11 (v := ?_) rfl (by kernel_rfl) (fun _ _ _ h => h) (Or.inl ⟨by rfl, ?_⟩) hS0 ?_
          rotate_left
          focus (intro W hW; go_simp; try with_reducible rfl)
          simp only [Act.put, List.setIfInBounds_toArray, List.set_cons_zero, List.set_cons_succ]
          refine anyL_take 12 (v := ?_) rfl (by kernel_rfl) (fun _ _ _ h => h) (Or.inl ⟨by rfl, ?_⟩) hS0 ?_
          rotate_left
          focus (intro W hW; go_simp; try with_reducible rfl)
          simp only [Act.put, List.setIfInBounds_toArray, List.set_cons_zero, List.set_cons_succ]
          refine anyL_take 13 (v := ?_) rfl (by kernel_rfl) (fun _ _ _ h => h) (Or.inl ⟨by rfl, ?_⟩) hS0 ?_
          rotate_left
          focus (intro W hW; go_simp; try with_reducible rfl)
          simp only [Act.put, List.setIfInBounds_toArray, List.set_cons_zero, List.set_cons_succ]
          refine anyL_take 14 (v := ?_) rfl (by kernel_rfl) (fun _ _ _ h => h) (Or.inl ⟨by rfl, ?_⟩) hS0 ?_
          rotate_left
          focus (intro W hW; have f0 := hW.2.1.at_ (s := i) hll; rw [hea] at f0; go_simp; try with_reducible rfl)
          simp only [Act.put, List.setIfInBounds_toArray, List.set_cons_zero, List.set_cons_succ]
          refine anyL_take 15 (v := ?_) rfl (by kernel_rfl) (fun _ _ _ h => h) (Or.inl ⟨by rfl, ?_⟩) hS0 ?_
          rotate_left
          focus (intro W hW; go_simp; try with_reducible rfl)
          simp only [Act.put, List.setIfInBounds_toArray, List.set_cons_zero, List.set_cons_succ]
          refine anyL_take 16 (v := ?_) rfl (by kernel_rfl) (fun _ _ _ h => h) (Or.inl ⟨by rfl, ?_⟩) hS0 ?_
          rotate_left
          focus (intro W hW; go_simp; try with_reducible rfl)
          simp only [Act.put, List.setIfInBounds_toArray, List.set_cons_zero, List.set_cons_succ]
          refine anyL_take 17 (v := ?_) rfl (by kernel_rfl) (fun _ _ _ h => h) (Or.inl ⟨by rfl, ?_⟩) hS0 ?_
          rotate_left
          focus (intro W hW; go_simp; try with_reducible rfl)
          simp only [Act.put, List.setIfInBounds_toArray, List.set_cons_zero, List.set_cons_succ]
          refine anyL_take 18 (v := ?_) rfl (by kernel_rfl) (fun _ _ _ h => h) (Or.inl ⟨by rfl, ?_⟩) hS0 ?_
          rotate_left
          focus (intro W hW; go_simp; try with_reducible rfl)
          simp only [Act.put, List.setIfInBounds_toArray, List.set_cons_zero, List.set_cons_succ]
          generalize hwy : wx.drew = wy at hS0 ⊢
          have hLy : (MeB w s7 D Z B O A q0 q1 q2 q3 wy ∧ RepW wy G1 (ints (lens wd z r)) ∧ RepW wy G2 (ints (lens wd z b)) ∧ G1 < s15 ∧ G2 < s15 ∧ s7 < s15 ∧ w.heap.size + 1 < s15) := by rw [← hwy]; exact ⟨hL.1.below (Below.refl _ _).drew, hL.2⟩
          have hVy : LvB base s15 A' cap' q m none 0 [] wy := by rw [← hwy]; exact hV.below (Below.refl _ _).drew
          clear hwy hL hV
          refine anyL_one 19 rfl (by kernel_rfl) (fun K hK => ?_)
          go_simp
          have ha := (Below.refl wy.heap.size wy).alloc (Nat.le_refl _) (.cells #[.int .i64 x] 3)
          have hn := World.alloc_heap_new wy (.cells #[.int .i64 x] 3)
          have hV1 := hVy.below ha
          have hL1 : (MeB w s7 D Z B O A q0 q1 q2 q3 (wy.alloc (.cells #[.int .i64 x] 3)) ∧ RepW (wy.alloc (.cells #[.int .i64 x] 3)) G1 (ints (lens wd z r)) ∧ RepW (wy.alloc (.cells #[.int .i64 x] 3)) G2 (ints (lens wd z b)) ∧ G1 < s15 ∧ G2 < s15 ∧ s7 < s15 ∧ w.heap.size + 1 < s15) := ⟨hLy.1.below ha, hLy.2.1.below ha, hLy.2.2.1.below ha, hLy.2.2.2⟩
          have hc1 := keepC hS0.2.2.2 ha
          refine hK.out _ _ (fun _ => ⟨hL1.1, hL1.2.1, hL1.2.2.1, hc1⟩) ?_
          clear hK K hS0 hVy hLy ha
          try simp only [Act.put, List.setIfInBounds_toArray, List.set_cons_zero, List.set_cons_succ]
          obtain ⟨A3, cap3, W6, hrun, hrow, hgr, hor⟩ := Enc.Row.append (E := inE) (P := Try.prog) Try.underlying24 infoIn (by decide) (by decide) hV1.r (m := wy.heap.size) (x := x) (fun j hj => by
            match j, hj with
            | 0, _ => exact cell_of_row _ _ 0 _ _ _ hn) (by have := hql.out; omega) hV1.hb 24
          have hpush := hV1.push hrow hgr hor
          have hb6 : Below base (wy.alloc (.cells #[.int .i64 x] 3)) W6 := (Below.refl base _).grown hgr hV1.hb (fun k e => (rowI_own hV1.r e).2)
          rw [hql.out] at hrun hpush
          refine anyL_one 20 rfl (by kernel_rfl) (fun K hK => ?_)
          refine append_run_step rfl (.tmp 109) (.tmp 127) 24 rfl rfl rfl hrun ?_
          have hz6 := (hb6.block s15 hV1.hs).trans hV1.z
          have hL6 : (MeB w s7 D Z B O A q0 q1 q2 q3 W6 ∧ RepW W6 G1 (ints (lens wd z r)) ∧ RepW W6 G2 (ints (lens wd z b)) ∧ G1 < s15 ∧ G2 < s15 ∧ s7 < s15 ∧ w.heap.size + 1 < s15) := ⟨hL1.1.low hb6 (Nat.lt_trans hL1.2.2.2.2.2.1 hV1.hs) (Nat.lt_trans hL1.2.2.2.2.2.2 hV1.hs), (hb6.block _ (Nat.lt_trans hL1.2.2.2.1 hV1.hs)).trans hL1.2.1, (hb6.block _ (Nat.lt_trans hL1.2.2.2.2.1 hV1.hs)).trans hL1.2.2.1, hL1.2.2.2⟩
          have hc6 : W6.cell? ⟨s15, 0, none⟩ = some (.slice A' i cap') := (hb6.cell (p := ⟨s15, 0, none⟩) hV1.hs).trans hc1
          refine hK.out _ _ (fun _ => ⟨hL6.1, hL6.2.1, hL6.2.2.1, hc6⟩) ?_
          clear hK K hc1 hL1 hb6 hrun hrow hgr hor hn
          try simp only [Act.put, List.setIfInBounds_toArray, List.set_cons_zero, List.set_cons_succ]
          have zf : W6.frozen? ⟨s15, 0, none⟩ = false := by simp [World.frozen?, hz6]
          have zl := lt_of_cell hc6
          have hSx : (fun W => MeB w s7 D Z B O A q0 q1 q2 q3 W ∧ RepW W G1 (ints (lens wd z r)) ∧ RepW W G2 (ints (lens wd z b)) ∧ W.cell? ⟨s15, 0, none⟩ = some (.slice A' i cap')) W6 := ⟨hL6.1, hL6.2.1, hL6.2.2.1, hc6⟩
          refine anyL_take 21 (v := ?_) rfl (by kernel_rfl) (fun _ _ _ h => h) (Or.inl ⟨by rfl, ?_⟩) hSx ?_
          rotate_left
          focus (intro W hW; go_simp; try with_reducible rfl)
          simp only [Act.put, List.setIfInBounds_toArray, List.set_cons_zero, List.set_cons_succ]
          clear hSx
          refine anyL_one 22 rfl (by kernel_rfl) (fun K hK => ?_)
          go_simp
          refine hK.out _ _ (fun h => absurd h (by decide)) ?_
          clear hK K
          try simp only [Act.put, List.setIfInBounds_toArray, List.set_cons_zero, List.set_cons_succ]
          refine anyC_done (by kernel_rfl) ?_ _
          have hlow := (Below.refl s15 W6).setCell (p := ⟨s15, 0, none⟩) (Nat.le_refl _) (.slice A3 (i + 1) cap3)
          have hL7 : (MeB w s7 D Z B O A q0 q1 q2 q3 (W6.setCell ⟨s15, 0, none⟩ (.slice A3 (i + 1) cap3)) ∧ RepW (W6.setCell ⟨s15, 0, none⟩ (.slice A3 (i + 1) cap3)) G1 (ints (lens wd z r)) ∧ RepW (W6.setCell ⟨s15, 0, none⟩ (.slice A3 (i + 1) cap3)) G2 (ints (lens wd z b)) ∧ G1 < s15 ∧ G2 < s15 ∧ s7 < s15 ∧ w.heap.size + 1 < s15) := ⟨hL6.1.low hlow hL6.2.2.2.2.2.1 hL6.2.2.2.2.2.2, (hlow.block _ hL6.2.2.2.1).trans hL6.2.1, (hlow.block _ hL6.2.2.2.2.1).trans hL6.2.2.1, hL6.2.2.2⟩
          have hV7 := hpush.1
          have hlx : (q ++ [x]).length = i + 1 := by rw [List.length_append, hql.out]; rfl
          have hqr7 : Hid (∀ j, j < i + 1 → len wd z r (j : Int) ≤ (q ++ [x]).getD j 0 ∧ (q ++ [x]).getD j 0 ≤ len wd z b (j : Int)) := Lib.hid (fun j hj => by
            by_cases e : j = i
            · have e2 : (q ++ [x]).getD j 0 = x := by
                rw [e, List.getD_eq_getElem?_getD, List.getElem?_append_right (by rw [hql.out]; omega), hql.out, Nat.sub_self]; rfl
              rw [e2, e, ← hea2H.out, ← heb2H.out]
              exact hxab
            · have e2 : (q ++ [x]).getD j 0 = q.getD j 0 := by
                rw [List.getD_eq_getElem?_getD, List.getElem?_append_left (by rw [hql.out]; omega), ← List.getD_eq_getElem?_getD]
              rw [e2]
              exact hqr.out j (by omega))
          have hfin := Lib.hid (And.intro hL7 hV7)
          have hlxH := Lib.hid hlx
          clear hL6 hL7 hV7 hV1 hlow hpush hz6 hc6 zf zl hlx hcz
          have iw : IntKind.i64.wrap ((i : Int) + 1) = (i : Int) + 1 := IntWalk.i64_in _ (by have := hi; omega)
          generalize W6.setCell ⟨s15, 0, none⟩ (.slice A3 (i + 1) cap3) = w9 at hfin ⊢
          go_wp2_with fail
          go_roundw
          case rel => exact ⟨i + 1, q ++ [x], A3, cap3, by go_num, hlt, hlxH, hqr7, hfin⟩
          case measure => simp only [intOf]; omega
end Go.Proofs.Ytdnedahbghhpgaa
