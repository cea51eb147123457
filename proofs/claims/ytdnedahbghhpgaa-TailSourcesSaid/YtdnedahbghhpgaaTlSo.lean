/- TailSources: the walk. -/
import Derived.Test.YtdnedahbghhpgaaRvL
import Derived.Test.YtdnedahbghhpgaaTlVw
import Derived.Test.YtdnedahbghhpgaaTlGm
namespace Go.Proofs.Ytdnedahbghhpgaa
open Go.RowKit Tl

/-- The arguments' boxes. -/
structure SoB (w : World) (D Z Bk O Ac : Int) (A : Option Addr) (ca : Nat) (ls : List Int) (m : Int) (Bn : Option Addr) (cb : Nat) (ns : List (Int × Int)) (W : World) : Prop where
  g : GeoAt W w.heap.size D Z Bk O Ac
  v : VwB W (w.heap.size + 1) A ca Bn cb ⟨ls, m, ns⟩
  bw : Below w.heap.size w W
theorem SoB.below {w W W' : World} {D Z Bk O Ac : Int} {A : Option Addr} {ca : Nat} {ls : List Int} {m : Int} {Bn : Option Addr} {cb : Nat} {ns : List (Int × Int)} (h : SoB w D Z Bk O Ac A ca ls m Bn cb ns W) (hb : Below W.heap.size W W') : SoB w D Z Bk O Ac A ca ls m Bn cb ns W' := ⟨h.g.below hb, h.v.below hb, bmore h.bw hb⟩
theorem SoB.new (w : World) (D Z Bk O Ac : Int) (A : Option Addr) (ca : Nat) (ls : List Int) (m : Int) (Bn : Option Addr) (cb : Nat) (ns : List (Int × Int)) (hA : IntsIn w A ls) (hP : ntE.In w Bn ns) : SoB w D Z Bk O Ac A ca ls m Bn cb ns ((w.alloc (.cells #[.int .i64 D, .int .i64 Z, .int .i64 Bk, .int .i64 O, .int .i64 Ac] 23)).alloc (.cells #[.slice A ls.length ca, .int .i64 m, .slice Bn ns.length cb] 27)) := by
  have s1 := World.size_alloc w (.cells #[.int .i64 D, .int .i64 Z, .int .i64 Bk, .int .i64 O, .int .i64 Ac] 23)
  have g1 := GeoAt.new w D Z Bk O Ac 23
  have b1 := (Below.refl w.heap.size w).alloc (Nat.le_refl _) (.cells #[.int .i64 D, .int .i64 Z, .int .i64 Bk, .int .i64 O, .int .i64 Ac] 23)
  have hI : VwIn (w.alloc (.cells #[.int .i64 D, .int .i64 Z, .int .i64 Bk, .int .i64 O, .int .i64 Ac] 23)) A Bn ⟨ls, m, ns⟩ := ⟨hA.below b1, hP.below b1⟩
  generalize w.alloc (.cells #[.int .i64 D, .int .i64 Z, .int .i64 Bk, .int .i64 O, .int .i64 Ac] 23) = W1 at s1 g1 b1 hI ⊢
  have v2 := VwB.new (ca := ca) (cb := cb) hI 27
  have a2 := (Below.refl W1.heap.size W1).alloc (Nat.le_refl _) (.cells #[.slice A ls.length ca, .int .i64 m, .slice Bn ns.length cb] 27)
  rw [s1] at v2
  exact ⟨g1.below a2, v2, bmore b1 a2⟩
/-- The two views. -/
structure SoC (w : World) (s7 s8 : Nat) (D Z Bk O Ac : Int) (A : Option Addr) (ca : Nat) (ls : List Int) (m : Int) (Bn : Option Addr) (cb : Nat) (ns : List (Int × Int)) (A1 : Option Addr) (c1 : Nat) (B1 : Option Addr) (d1 : Nat) (A2 : Option Addr) (c2 : Nat) (B2 : Option Addr) (d2 : Nat) (xs : List (Int × Int)) (W : World) : Prop where
  b : SoB w D Z Bk O Ac A ca ls m Bn cb ns W
  z1 : W.heap[s7]? = some (.cells #[.slice A1 ls.length c1, .int .i64 m, .slice B1 xs.length d1] 31 (0, 0))
  z2 : W.heap[s8]? = some (.cells #[.slice A2 ls.length c2, .int .i64 m, .slice B2 xs.length d2] 34 (0, 0))
  i1 : VwIn W A1 B1 ⟨ls, m, xs⟩
  i2 : VwIn W A2 B2 ⟨ls, m, xs⟩
theorem VwIn.belowT {W W' : World} {A B : Option Addr} {v : Vw} (h : VwIn W A B v) (hb : Below W.heap.size W W') : VwIn W' A B v := ⟨h.ls.below hb, h.ns.below hb⟩
theorem SoC.below {w W W' : World} {s7 s8 : Nat} {D Z Bk O Ac : Int} {A : Option Addr} {ca : Nat} {ls : List Int} {m : Int} {Bn : Option Addr} {cb : Nat} {ns : List (Int × Int)} {A1 : Option Addr} {c1 : Nat} {B1 : Option Addr} {d1 : Nat} {A2 : Option Addr} {c2 : Nat} {B2 : Option Addr} {d2 : Nat} {xs : List (Int × Int)} (h : SoC w s7 s8 D Z Bk O Ac A ca ls m Bn cb ns A1 c1 B1 d1 A2 c2 B2 d2 xs W) (hb : Below W.heap.size W W') : SoC w s7 s8 D Z Bk O Ac A ca ls m Bn cb ns A1 c1 B1 d1 A2 c2 B2 d2 xs W' :=
  ⟨h.b.below hb, (hb.block _ (Array.getElem?_eq_some_iff.1 h.z1).1).trans h.z1, (hb.block _ (Array.getElem?_eq_some_iff.1 h.z2).1).trans h.z2, h.i1.belowT hb, h.i2.belowT hb⟩
theorem two_geo (W : World) (D Z B O A : Int) (t1 t2 : TypeId) : GeoAt (((W.alloc (.cells #[.int .i64 D, .int .i64 Z, .int .i64 B, .int .i64 O, .int .i64 A] t1)).alloc (.cells #[.int .i64 D, .int .i64 Z, .int .i64 B, .int .i64 O, .int .i64 A] t2)).drew) W.heap.size D Z B O A ∧ GeoAt (((W.alloc (.cells #[.int .i64 D, .int .i64 Z, .int .i64 B, .int .i64 O, .int .i64 A] t1)).alloc (.cells #[.int .i64 D, .int .i64 Z, .int .i64 B, .int .i64 O, .int .i64 A] t2)).drew) (W.heap.size + 1) D Z B O A ∧ Below W.heap.size W (((W.alloc (.cells #[.int .i64 D, .int .i64 Z, .int .i64 B, .int .i64 O, .int .i64 A] t1)).alloc (.cells #[.int .i64 D, .int .i64 Z, .int .i64 B, .int .i64 O, .int .i64 A] t2)).drew) := by
  have s1 := World.size_alloc W (.cells #[.int .i64 D, .int .i64 Z, .int .i64 B, .int .i64 O, .int .i64 A] t1)
  have g1 := GeoAt.new W D Z B O A t1
  have b1 := (Below.refl W.heap.size W).alloc (Nat.le_refl _) (.cells #[.int .i64 D, .int .i64 Z, .int .i64 B, .int .i64 O, .int .i64 A] t1)
  generalize W.alloc (.cells #[.int .i64 D, .int .i64 Z, .int .i64 B, .int .i64 O, .int .i64 A] t1) = W1 at s1 g1 b1 ⊢
  have g2 := GeoAt.new W1 D Z B O A t2
  have a2 := (Below.refl W1.heap.size W1).alloc (Nat.le_refl _) (.cells #[.int .i64 D, .int .i64 Z, .int .i64 B, .int .i64 O, .int .i64 A] t2)
  rw [s1] at g2
  have g1' := g1.below a2
  have b2 := bmore b1 a2
  generalize W1.alloc (.cells #[.int .i64 D, .int .i64 Z, .int .i64 B, .int .i64 O, .int .i64 A] t2) = W2 at g2 g1' b2 ⊢
  exact ⟨g1'.below (Below.refl _ _).drew, g2.below (Below.refl _ _).drew, b2.drew⟩
set_option maxRecDepth 100000 in
set_option maxHeartbeats 4000000 in
theorem sources_law (w : World) (D Z Bk O Ac : Int) (A : Option Addr) (ca : Nat) (ls : List Int) (m : Int) (Bn : Option Addr) (cb : Nat) (ns : List (Int × Int)) (zone : Int) (hA : IntsIn w A ls) (hA0 : A = none → ca = 0) (hP : ntE.In w Bn ns) :
    Calls Try.prog 3 #[.agg #[.int .i64 D, .int .i64 Z, .int .i64 Bk, .int .i64 O, .int .i64 Ac], .int .i64 zone, .agg #[.slice A ls.length ca, .int .i64 m, .slice Bn ns.length cb]] w fun e w' => e = .returned (.bool true) ∧ Below w.heap.size w w' := by
  have hN := Lib.hid (SoB.new w D Z Bk O Ac A ca ls m Bn cb ns hA hP)
  have hA0H := Lib.hid hA0
  clear hA hA0 hP
  go_enter Try.func3, Try.ntmps3
  go_upto_region 1 with fail
  refine fresh_world (fun W => SoB w D Z Bk O Ac A ca ls m Bn cb ns W) hN.out ?_
  clear hN
  rintro W1 h1
  have h1H := Lib.hid h1
  clear h1
  go_wp2_with fail
  (with_reducible refine (speaks12 _).mono ?_)
  rintro e w1 ⟨rfl, hb1⟩
  have h1 := h1H.out.below hb1
  clear h1H hb1
  have v0 : w1.cell? ⟨w.heap.size + 1, 0, none⟩ = some (.slice A ls.length ca) := h1.v.c0
  have v1 : w1.cell? ⟨w.heap.size + 1, 1, none⟩ = some (.int .i64 m) := h1.v.c1
  have v2 : w1.cell? ⟨w.heap.size + 1, 2, none⟩ = some (.slice Bn ns.length cb) := h1.v.c2
  by_cases hl : (40 : Int) < (ls.length : Int)
  · have hF := Lib.hid h1.bw
    clear h1
    go_wp2_with fail
    go_ret
    exact ⟨rfl, hF.out⟩
  · have hvw := Lib.hid (views_any w1 A ca ls m Bn cb ns h1.v.i.ls hA0H.out (by omega) h1.v.i.ns)
    have h1H := Lib.hid (fun W (hb : Below w1.heap.size w1 W) => h1.below hb)
    have hlH : Hid (ls.length ≤ 40) := Lib.hid (by omega)
    clear h1
    go_wp2_with fail
    (with_reducible refine hvw.out.mono ?_)
    rintro e w3 ⟨A1, c1, B1, d1, A2, c2, B2, d2, rfl, hi1, hn1, hi2, hn2, hb3, _⟩
    clear v0 v1 v2 hvw hl hA0H
    have hxl : (ns.take 40).length ≤ 40 := by rw [List.length_take]; omega
    generalize ns.take 40 = xs at hi1 hn1 hi2 hn2 hxl ⊢
    have hb := h1H.out w3 hb3
    have a1 := (Below.refl w3.heap.size w3).alloc (Nat.le_refl _) (.cells #[.slice A1 ls.length c1, .int .i64 m, .slice B1 xs.length d1] 31)
    have n1 := World.alloc_heap_new w3 (.cells #[.slice A1 ls.length c1, .int .i64 m, .slice B1 xs.length d1] 31)
    have s1 := World.size_alloc w3 (.cells #[.slice A1 ls.length c1, .int .i64 m, .slice B1 xs.length d1] 31)
    have a2 := (Below.refl (w3.alloc (.cells #[.slice A1 ls.length c1, .int .i64 m, .slice B1 xs.length d1] 31)).heap.size (w3.alloc (.cells #[.slice A1 ls.length c1, .int .i64 m, .slice B1 xs.length d1] 31))).alloc (Nat.le_refl _) (.cells #[.slice A2 ls.length c2, .int .i64 m, .slice B2 xs.length d2] 34)
    have n2 := World.alloc_heap_new (w3.alloc (.cells #[.slice A1 ls.length c1, .int .i64 m, .slice B1 xs.length d1] 31)) (.cells #[.slice A2 ls.length c2, .int .i64 m, .slice B2 xs.length d2] 34)
    rw [s1] at n2
    have hC : SoC w w3.heap.size (w3.heap.size + 1) D Z Bk O Ac A ca ls m Bn cb ns A1 c1 B1 d1 A2 c2 B2 d2 xs _ := ⟨(hb.below a1).below a2, (a2.block _ (Array.getElem?_eq_some_iff.1 n1).1).trans n1, n2, (VwIn.belowT ⟨hi1, hn1⟩ a1).belowT a2, (VwIn.belowT ⟨hi2, hn2⟩ a1).belowT a2⟩
    have hCH := Lib.hid hC
    have hxlH := Lib.hid hxl
    clear hb a1 n1 s1 a2 n2 hC hi1 hn1 hi2 hn2 hb3 h1H hxl
    go_upto_region 6 with fail
    generalize w3.heap.size = s7 at hCH ⊢
    refine fresh_world (fun W => SoC w s7 (s7 + 1) D Z Bk O Ac A ca ls m Bn cb ns A1 c1 B1 d1 A2 c2 B2 d2 xs W) hCH.out ?_
    clear hCH
    generalize s7 + 1 = s8
    rintro w6 h6
    obtain ⟨g0, g1, g2, g3, g4, _⟩ := h6.b.g
    have h6H := Lib.hid (fun W (hb : Below w6.heap.size w6 W) => h6.below hb)
    clear h6
    go_region
    · have ht := two_geo w6 D Z Bk O Ac 37 38
      have h7 := h6H.out _ ht.2.2
      have h7H := Lib.hid (And.intro h7 (And.intro ht.1 ht.2.1))
      clear ht h7 h6H g0 g1 g2 g3 g4
      go_upto_region 7 with fail
      generalize w6.heap.size = sA at h7H ⊢
      refine fresh_world (fun W => SoC w s7 s8 D Z Bk O Ac A ca ls m Bn cb ns A1 c1 B1 d1 A2 c2 B2 d2 xs W ∧ GeoAt W sA D Z Bk O Ac ∧ GeoAt W (sA + 1) D Z Bk O Ac) h7H.out ?_
      clear h7H
      generalize sA + 1 = sB
      rintro w7 h7
      have hS0 : (fun W => SoC w s7 s8 D Z Bk O Ac A ca ls m Bn cb ns A1 c1 B1 d1 A2 c2 B2 d2 xs W ∧ GeoAt W sA D Z Bk O Ac ∧ GeoAt W sB D Z Bk O Ac) w7.drew := ⟨h7.1.below (Below.refl _ _).drew, h7.2.1.below (Below.refl _ _).drew, h7.2.2.below (Below.refl _ _).drew⟩
      have hlen := Lib.hid (fun W (h : VwIn W A1 B1 ⟨ls, m, xs⟩) => length_any12 D Z Bk O Ac zone A1 c1 B1 d1 ⟨ls, m, xs⟩ W h (by have := hlH.out; show ls.length ≤ 1000000; omega) (by have := hxlH.out; show xs.length ≤ 1000000; omega))
      have hrlen := Lib.hid (fun W (h : VwIn W A2 B2 ⟨ls, m, xs⟩) => rlength_any D Z Bk O Ac zone A2 c2 ls m B2 d2 xs W h.ls h.ns (by have := hlH.out; omega) (by have := hxlH.out; omega))
      have hsrc := Lib.hid (fun b W (h : VwIn W A1 B1 ⟨ls, m, xs⟩) => source_any D Z Bk O Ac zone A1 c1 B1 d1 ⟨ls, m, xs⟩ b W h (by have := hlH.out; show ls.length ≤ 1000000; omega) (by have := hxlH.out; show xs.length ≤ 1000000; omega))
      have hrsrc := Lib.hid (fun b W (h : VwIn W A2 B2 ⟨ls, m, xs⟩) => rsource_any D Z Bk O Ac zone A2 c2 ls m B2 d2 xs b W h.ls h.ns (by have := hlH.out; omega) (by have := hxlH.out; omega))
      dsimp only at hlen hsrc
      generalize lenV D Z Bk O Ac zone ⟨ls, m, xs⟩ = L at hlen hrlen
      generalize srcV D Z Bk O Ac zone ⟨ls, m, xs⟩ = sf at hsrc hrsrc
      clear h7
      refine region_anyC (fun _ => true) (fun W => SoC w s7 s8 D Z Bk O Ac A ca ls m Bn cb ns A1 c1 B1 d1 A2 c2 B2 d2 xs W ∧ GeoAt W sA D Z Bk O Ac ∧ GeoAt W sB D Z Bk O Ac) (by kernel_rfl) ?_
      refine anyL_take 0 (v := ?_) rfl (by kernel_rfl) (fun _ _ _ h => h) (Or.inl ⟨by rfl, ?_⟩) hS0 ?_
      rotate_left
      focus (intro W hW; obtain ⟨j0, j1, j2, j3, j4, _⟩ := hW.2.1; obtain ⟨k0, k1, k2, k3, k4, _⟩ := hW.2.2; go_simp; try with_reducible rfl)
      simp only [Act.put, List.setIfInBounds_toArray, List.set_cons_zero, List.set_cons_succ]
      refine anyL_take 1 (v := ?_) rfl (by kernel_rfl) (fun _ _ _ h => h) (Or.inl ⟨by rfl, ?_⟩) hS0 ?_
      rotate_left
      focus (intro W hW; go_simp; try with_reducible rfl)
      simp only [Act.put, List.setIfInBounds_toArray, List.set_cons_zero, List.set_cons_succ]
      refine anyL_take 2 (v := ?_) rfl (by kernel_rfl) (fun _ _ _ h => h) (Or.inl ⟨by rfl, ?_⟩) hS0 ?_
      rotate_left
      focus (intro W hW; have x0 := cell_of_row W _ 0 _ _ _ hW.1.z1; have x1 := cell_of_row W _ 1 _ _ _ hW.1.z1; have x2 := cell_of_row W _ 2 _ _ _ hW.1.z1; go_simp; try with_reducible rfl)
      simp only [Act.put, List.setIfInBounds_toArray, List.set_cons_zero, List.set_cons_succ]
      refine anyL_take 4 (v := ?_) rfl (by kernel_rfl) (fun _ _ _ h => h) (Or.inl ⟨by rfl, ?_⟩) hS0 ?_
      rotate_left
      focus (intro W hW; obtain ⟨j0, j1, j2, j3, j4, _⟩ := hW.2.1; obtain ⟨k0, k1, k2, k3, k4, _⟩ := hW.2.2; go_simp; try with_reducible rfl)
      simp only [Act.put, List.setIfInBounds_toArray, List.set_cons_zero, List.set_cons_succ]
      refine anyL_take 5 (v := ?_) rfl (by kernel_rfl) (fun _ _ _ h => h) (Or.inl ⟨by rfl, ?_⟩) hS0 ?_
      rotate_left
      focus (intro W hW; go_simp; try with_reducible rfl)
      simp only [Act.put, List.setIfInBounds_toArray, List.set_cons_zero, List.set_cons_succ]
      refine anyL_take 6 (v := ?_) rfl (by kernel_rfl) (fun _ _ _ h => h) (Or.inl ⟨by rfl, ?_⟩) hS0 ?_
      rotate_left
      focus (intro W hW; have y0 := cell_of_row W _ 0 _ _ _ hW.1.z2; have y1 := cell_of_row W _ 1 _ _ _ hW.1.z2; have y2 := cell_of_row W _ 2 _ _ _ hW.1.z2; go_simp; try with_reducible rfl)
      simp only [Act.put, List.setIfInBounds_toArray, List.set_cons_zero, List.set_cons_succ]
      refine anyL_one 3 rfl (by kernel_rfl) (fun K hK => ?_)
      go_simp
      refine (hlen.out _ hS0.1.i1).mono ?_
      rintro e' wz ⟨rfl, hbz⟩
      have hS1 : (fun W => SoC w s7 s8 D Z Bk O Ac A ca ls m Bn cb ns A1 c1 B1 d1 A2 c2 B2 d2 xs W ∧ GeoAt W sA D Z Bk O Ac ∧ GeoAt W sB D Z Bk O Ac) wz := ⟨hS0.1.below hbz, hS0.2.1.below hbz, hS0.2.2.below hbz⟩
      clear hS0 hbz
      refine hK.out _ _ (fun _ => hS1) ?_
      clear hK K
      try simp only [Act.put, List.setIfInBounds_toArray, List.set_cons_zero, List.set_cons_succ]
      refine anyL_one 7 rfl (by kernel_rfl) (fun K hK => ?_)
      go_simp
      refine (hrlen.out _ hS1.1.i2).mono ?_
      rintro e' wy ⟨rfl, hby⟩
      have hS2 : (fun W => SoC w s7 s8 D Z Bk O Ac A ca ls m Bn cb ns A1 c1 B1 d1 A2 c2 B2 d2 xs W ∧ GeoAt W sA D Z Bk O Ac ∧ GeoAt W sB D Z Bk O Ac) wy := ⟨hS1.1.below hby, hS1.2.1.below hby, hS1.2.2.below hby⟩
      clear hS1 hby
      refine hK.out _ _ (fun _ => hS2) ?_
      clear hK K
      try simp only [Act.put, List.setIfInBounds_toArray, List.set_cons_zero, List.set_cons_succ]
      refine anyL_take 8 (v := ?_) rfl (by kernel_rfl) (fun _ _ _ h => h) (Or.inl ⟨by rfl, ?_⟩) hS2 ?_
      rotate_left
      focus (intro W hW; go_simp; try with_reducible rfl)
      simp only [Act.put, List.setIfInBounds_toArray, List.set_cons_zero, List.set_cons_succ]
      refine anyC_done (by kernel_rfl) ?_ _
      have h8H := Lib.hid hS2
      clear hS2 hlen hrlen
      go_wp2_with fail
      go_loopw [11] (fun ii wr => ∃ b : Int, ii = .int .i64 b ∧ -1 ≤ b ∧ b ≤ 60 ∧ Hid (SoC w s7 s8 D Z Bk O Ac A ca ls m Bn cb ns A1 c1 B1 d1 A2 c2 B2 d2 xs wr ∧ GeoAt wr sA D Z Bk O Ac ∧ GeoAt wr sB D Z Bk O Ac)) (fun ii _ => (60 - intOf ii).toNat)
      case atStart => exact ⟨-1, rfl, by omega, by omega, h8H⟩
      case round =>
        obtain ⟨b, rfl, hb1, hb2, hB⟩ := hrel
        clear h8H
        by_cases hlt : b < 60
        case neg =>
          have hF := Lib.hid hB.out.1.b.bw
          clear hB
          go_wp2_with fail
          go_ret
          exact ⟨rfl, hF.out⟩
        case pos =>
          have iw : IntKind.i64.wrap (b + 1) = b + 1 := IntWalk.i64_in _ (by omega)
          obtain ⟨j0, j1, j2, j3, j4, _⟩ := hB.out.2.1
          obtain ⟨k0, k1, k2, k3, k4, _⟩ := hB.out.2.2
          have x0 : wr.cell? ⟨s7, 0, none⟩ = some _ := cell_of_row wr _ 0 _ _ _ hB.out.1.z1
          have x1 : wr.cell? ⟨s7, 1, none⟩ = some _ := cell_of_row wr _ 1 _ _ _ hB.out.1.z1
          have x2 : wr.cell? ⟨s7, 2, none⟩ = some _ := cell_of_row wr _ 2 _ _ _ hB.out.1.z1
          have y0 : wr.cell? ⟨s8, 0, none⟩ = some _ := cell_of_row wr _ 0 _ _ _ hB.out.1.z2
          have y1 : wr.cell? ⟨s8, 1, none⟩ = some _ := cell_of_row wr _ 1 _ _ _ hB.out.1.z2
          have y2 : wr.cell? ⟨s8, 2, none⟩ = some _ := cell_of_row wr _ 2 _ _ _ hB.out.1.z2
          have hc := hsrc.out b wr hB.out.1.i1
          have hBI := Lib.hid (fun W (hb : Below wr.heap.size wr W) => (⟨hB.out.1.below hb, hB.out.2.1.below hb, hB.out.2.2.below hb⟩ : SoC w s7 s8 D Z Bk O Ac A ca ls m Bn cb ns A1 c1 B1 d1 A2 c2 B2 d2 xs W ∧ GeoAt W sA D Z Bk O Ac ∧ GeoAt W sB D Z Bk O Ac))
          obtain ⟨⟨p1, p2⟩, hp⟩ : ∃ p, sf b = p := ⟨_, rfl⟩
          rw [hp] at hc
          have hcH := Lib.hid hc
          have hpH := Lib.hid hp
          clear hc hp hB
          go_wp2_with fail
          (with_reducible refine hcH.out.mono ?_)
          rintro e w8 ⟨rfl, hb8⟩
          have hB8 := hBI.out _ hb8
          clear hb8 hcH hBI j0 j1 j2 j3 j4 k0 k1 k2 k3 k4 x0 x1 x2 y0 y1 y2
          obtain ⟨j0, j1, j2, j3, j4, _⟩ := hB8.2.1
          obtain ⟨k0, k1, k2, k3, k4, _⟩ := hB8.2.2
          have x0 : w8.cell? ⟨s7, 0, none⟩ = some _ := cell_of_row w8 _ 0 _ _ _ hB8.1.z1
          have x1 : w8.cell? ⟨s7, 1, none⟩ = some _ := cell_of_row w8 _ 1 _ _ _ hB8.1.z1
          have x2 : w8.cell? ⟨s7, 2, none⟩ = some _ := cell_of_row w8 _ 2 _ _ _ hB8.1.z1
          have y0 : w8.cell? ⟨s8, 0, none⟩ = some _ := cell_of_row w8 _ 0 _ _ _ hB8.1.z2
          have y1 : w8.cell? ⟨s8, 1, none⟩ = some _ := cell_of_row w8 _ 1 _ _ _ hB8.1.z2
          have y2 : w8.cell? ⟨s8, 2, none⟩ = some _ := cell_of_row w8 _ 2 _ _ _ hB8.1.z2
          have hc2 := hrsrc.out b w8 hB8.1.i2
          rw [hpH.out] at hc2
          have hc2H := Lib.hid hc2
          have hBI := Lib.hid (fun W (hb : Below w8.heap.size w8 W) => (⟨hB8.1.below hb, hB8.2.1.below hb, hB8.2.2.below hb⟩ : SoC w s7 s8 D Z Bk O Ac A ca ls m Bn cb ns A1 c1 B1 d1 A2 c2 B2 d2 xs W ∧ GeoAt W sA D Z Bk O Ac ∧ GeoAt W sB D Z Bk O Ac))
          clear hc2 hB8 hpH
          go_wp2_with fail
          (with_reducible refine hc2H.out.mono ?_)
          rintro e w9 ⟨rfl, hb9⟩
          have hB9 := Lib.hid (hBI.out _ hb9)
          clear hb9 hc2H hBI j0 j1 j2 j3 j4 k0 k1 k2 k3 k4 x0 x1 x2 y0 y1 y2
          go_wp2_with fail
          go_roundw
          case rel => exact ⟨b + 1, by go_num, by omega, by omega, hB9⟩
          case measure => simp only [intOf]; omega
    · have ht := two_geo w6 D Z Bk O Ac 38 37
      have h7 := h6H.out _ ht.2.2
      have h7H := Lib.hid (And.intro h7 (And.intro ht.1 ht.2.1))
      clear ht h7 h6H g0 g1 g2 g3 g4
      go_upto_region 7 with fail
      generalize w6.heap.size = sA at h7H ⊢
      refine fresh_world (fun W => SoC w s7 s8 D Z Bk O Ac A ca ls m Bn cb ns A1 c1 B1 d1 A2 c2 B2 d2 xs W ∧ GeoAt W sA D Z Bk O Ac ∧ GeoAt W (sA + 1) D Z Bk O Ac) h7H.out ?_
      clear h7H
      generalize sA + 1 = sB
      rintro w7 h7
      have hS0 : (fun W => SoC w s7 s8 D Z Bk O Ac A ca ls m Bn cb ns A1 c1 B1 d1 A2 c2 B2 d2 xs W ∧ GeoAt W sA D Z Bk O Ac ∧ GeoAt W sB D Z Bk O Ac) w7.drew := ⟨h7.1.below (Below.refl _ _).drew, h7.2.1.below (Below.refl _ _).drew, h7.2.2.below (Below.refl _ _).drew⟩
      have hlen := Lib.hid (fun W (h : VwIn W A1 B1 ⟨ls, m, xs⟩) => length_any12 D Z Bk O Ac zone A1 c1 B1 d1 ⟨ls, m, xs⟩ W h (by have := hlH.out; show ls.length ≤ 1000000; omega) (by have := hxlH.out; show xs.length ≤ 1000000; omega))
      have hrlen := Lib.hid (fun W (h : VwIn W A2 B2 ⟨ls, m, xs⟩) => rlength_any D Z Bk O Ac zone A2 c2 ls m B2 d2 xs W h.ls h.ns (by have := hlH.out; omega) (by have := hxlH.out; omega))
      have hsrc := Lib.hid (fun b W (h : VwIn W A1 B1 ⟨ls, m, xs⟩) => source_any D Z Bk O Ac zone A1 c1 B1 d1 ⟨ls, m, xs⟩ b W h (by have := hlH.out; show ls.length ≤ 1000000; omega) (by have := hxlH.out; show xs.length ≤ 1000000; omega))
      have hrsrc := Lib.hid (fun b W (h : VwIn W A2 B2 ⟨ls, m, xs⟩) => rsource_any D Z Bk O Ac zone A2 c2 ls m B2 d2 xs b W h.ls h.ns (by have := hlH.out; omega) (by have := hxlH.out; omega))
      dsimp only at hlen hsrc
      generalize lenV D Z Bk O Ac zone ⟨ls, m, xs⟩ = L at hlen hrlen
      generalize srcV D Z Bk O Ac zone ⟨ls, m, xs⟩ = sf at hsrc hrsrc
      clear h7
      refine region_anyC (fun _ => true) (fun W => SoC w s7 s8 D Z Bk O Ac A ca ls m Bn cb ns A1 c1 B1 d1 A2 c2 B2 d2 xs W ∧ GeoAt W sA D Z Bk O Ac ∧ GeoAt W sB D Z Bk O Ac) (by kernel_rfl) ?_
      refine anyL_take 0 (v := ?_) rfl (by kernel_rfl) (fun _ _ _ h => h) (Or.inl ⟨by rfl, ?_⟩) hS0 ?_
      rotate_left
      focus (intro W hW; obtain ⟨j0, j1, j2, j3, j4, _⟩ := hW.2.1; obtain ⟨k0, k1, k2, k3, k4, _⟩ := hW.2.2; go_simp; try with_reducible rfl)
      simp only [Act.put, List.setIfInBounds_toArray, List.set_cons_zero, List.set_cons_succ]
      refine anyL_take 1 (v := ?_) rfl (by kernel_rfl) (fun _ _ _ h => h) (Or.inl ⟨by rfl, ?_⟩) hS0 ?_
      rotate_left
      focus (intro W hW; go_simp; try with_reducible rfl)
      simp only [Act.put, List.setIfInBounds_toArray, List.set_cons_zero, List.set_cons_succ]
      refine anyL_take 2 (v := ?_) rfl (by kernel_rfl) (fun _ _ _ h => h) (Or.inl ⟨by rfl, ?_⟩) hS0 ?_
      rotate_left
      focus (intro W hW; have x0 := cell_of_row W _ 0 _ _ _ hW.1.z1; have x1 := cell_of_row W _ 1 _ _ _ hW.1.z1; have x2 := cell_of_row W _ 2 _ _ _ hW.1.z1; go_simp; try with_reducible rfl)
      simp only [Act.put, List.setIfInBounds_toArray, List.set_cons_zero, List.set_cons_succ]
      refine anyL_take 4 (v := ?_) rfl (by kernel_rfl) (fun _ _ _ h => h) (Or.inl ⟨by rfl, ?_⟩) hS0 ?_
      rotate_left
      focus (intro W hW; obtain ⟨j0, j1, j2, j3, j4, _⟩ := hW.2.1; obtain ⟨k0, k1, k2, k3, k4, _⟩ := hW.2.2; go_simp; try with_reducible rfl)
      simp only [Act.put, List.setIfInBounds_toArray, List.set_cons_zero, List.set_cons_succ]
      refine anyL_take 5 (v := ?_) rfl (by kernel_rfl) (fun _ _ _ h => h) (Or.inl ⟨by rfl, ?_⟩) hS0 ?_
      rotate_left
      focus (intro W hW; go_simp; try with_reducible rfl)
      simp only [Act.put, List.setIfInBounds_toArray, List.set_cons_zero, List.set_cons_succ]
      refine anyL_take 6 (v := ?_) rfl (by kernel_rfl) (fun _ _ _ h => h) (Or.inl ⟨by rfl, ?_⟩) hS0 ?_
      rotate_left
      focus (intro W hW; have y0 := cell_of_row W _ 0 _ _ _ hW.1.z2; have y1 := cell_of_row W _ 1 _ _ _ hW.1.z2; have y2 := cell_of_row W _ 2 _ _ _ hW.1.z2; go_simp; try with_reducible rfl)
      simp only [Act.put, List.setIfInBounds_toArray, List.set_cons_zero, List.set_cons_succ]
      refine anyL_one 3 rfl (by kernel_rfl) (fun K hK => ?_)
      go_simp
      refine (hlen.out _ hS0.1.i1).mono ?_
      rintro e' wz ⟨rfl, hbz⟩
      have hS1 : (fun W => SoC w s7 s8 D Z Bk O Ac A ca ls m Bn cb ns A1 c1 B1 d1 A2 c2 B2 d2 xs W ∧ GeoAt W sA D Z Bk O Ac ∧ GeoAt W sB D Z Bk O Ac) wz := ⟨hS0.1.below hbz, hS0.2.1.below hbz, hS0.2.2.below hbz⟩
      clear hS0 hbz
      refine hK.out _ _ (fun _ => hS1) ?_
      clear hK K
      try simp only [Act.put, List.setIfInBounds_toArray, List.set_cons_zero, List.set_cons_succ]
      refine anyL_one 7 rfl (by kernel_rfl) (fun K hK => ?_)
      go_simp
      refine (hrlen.out _ hS1.1.i2).mono ?_
      rintro e' wy ⟨rfl, hby⟩
      have hS2 : (fun W => SoC w s7 s8 D Z Bk O Ac A ca ls m Bn cb ns A1 c1 B1 d1 A2 c2 B2 d2 xs W ∧ GeoAt W sA D Z Bk O Ac ∧ GeoAt W sB D Z Bk O Ac) wy := ⟨hS1.1.below hby, hS1.2.1.below hby, hS1.2.2.below hby⟩
      clear hS1 hby
      refine hK.out _ _ (fun _ => hS2) ?_
      clear hK K
      try simp only [Act.put, List.setIfInBounds_toArray, List.set_cons_zero, List.set_cons_succ]
      refine anyL_take 8 (v := ?_) rfl (by kernel_rfl) (fun _ _ _ h => h) (Or.inl ⟨by rfl, ?_⟩) hS2 ?_
      rotate_left
      focus (intro W hW; go_simp; try with_reducible rfl)
      simp only [Act.put, List.setIfInBounds_toArray, List.set_cons_zero, List.set_cons_succ]
      refine anyC_done (by kernel_rfl) ?_ _
      have h8H := Lib.hid hS2
      clear hS2 hlen hrlen
      go_wp2_with fail
      go_loopw [11] (fun ii wr => ∃ b : Int, ii = .int .i64 b ∧ -1 ≤ b ∧ b ≤ 60 ∧ Hid (SoC w s7 s8 D Z Bk O Ac A ca ls m Bn cb ns A1 c1 B1 d1 A2 c2 B2 d2 xs wr ∧ GeoAt wr sA D Z Bk O Ac ∧ GeoAt wr sB D Z Bk O Ac)) (fun ii _ => (60 - intOf ii).toNat)
      case atStart => exact ⟨-1, rfl, by omega, by omega, h8H⟩
      case round =>
        obtain ⟨b, rfl, hb1, hb2, hB⟩ := hrel
        clear h8H
        by_cases hlt : b < 60
        case neg =>
          have hF := Lib.hid hB.out.1.b.bw
          clear hB
          go_wp2_with fail
          go_ret
          exact ⟨rfl, hF.out⟩
        case pos =>
          have iw : IntKind.i64.wrap (b + 1) = b + 1 := IntWalk.i64_in _ (by omega)
          obtain ⟨j0, j1, j2, j3, j4, _⟩ := hB.out.2.1
          obtain ⟨k0, k1, k2, k3, k4, _⟩ := hB.out.2.2
          have x0 : wr.cell? ⟨s7, 0, none⟩ = some _ := cell_of_row wr _ 0 _ _ _ hB.out.1.z1
          have x1 : wr.cell? ⟨s7, 1, none⟩ = some _ := cell_of_row wr _ 1 _ _ _ hB.out.1.z1
          have x2 : wr.cell? ⟨s7, 2, none⟩ = some _ := cell_of_row wr _ 2 _ _ _ hB.out.1.z1
          have y0 : wr.cell? ⟨s8, 0, none⟩ = some _ := cell_of_row wr _ 0 _ _ _ hB.out.1.z2
          have y1 : wr.cell? ⟨s8, 1, none⟩ = some _ := cell_of_row wr _ 1 _ _ _ hB.out.1.z2
          have y2 : wr.cell? ⟨s8, 2, none⟩ = some _ := cell_of_row wr _ 2 _ _ _ hB.out.1.z2
          have hc := hsrc.out b wr hB.out.1.i1
          have hBI := Lib.hid (fun W (hb : Below wr.heap.size wr W) => (⟨hB.out.1.below hb, hB.out.2.1.below hb, hB.out.2.2.below hb⟩ : SoC w s7 s8 D Z Bk O Ac A ca ls m Bn cb ns A1 c1 B1 d1 A2 c2 B2 d2 xs W ∧ GeoAt W sA D Z Bk O Ac ∧ GeoAt W sB D Z Bk O Ac))
          obtain ⟨⟨p1, p2⟩, hp⟩ : ∃ p, sf b = p := ⟨_, rfl⟩
          rw [hp] at hc
          have hcH := Lib.hid hc
          have hpH := Lib.hid hp
          clear hc hp hB
          go_wp2_with fail
          (with_reducible refine hcH.out.mono ?_)
          rintro e w8 ⟨rfl, hb8⟩
          have hB8 := hBI.out _ hb8
          clear hb8 hcH hBI j0 j1 j2 j3 j4 k0 k1 k2 k3 k4 x0 x1 x2 y0 y1 y2
          obtain ⟨j0, j1, j2, j3, j4, _⟩ := hB8.2.1
          obtain ⟨k0, k1, k2, k3, k4, _⟩ := hB8.2.2
          have x0 : w8.cell? ⟨s7, 0, none⟩ = some _ := cell_of_row w8 _ 0 _ _ _ hB8.1.z1
          have x1 : w8.cell? ⟨s7, 1, none⟩ = some _ := cell_of_row w8 _ 1 _ _ _ hB8.1.z1
          have x2 : w8.cell? ⟨s7, 2, none⟩ = some _ := cell_of_row w8 _ 2 _ _ _ hB8.1.z1
          have y0 : w8.cell? ⟨s8, 0, none⟩ = some _ := cell_of_row w8 _ 0 _ _ _ hB8.1.z2
          have y1 : w8.cell? ⟨s8, 1, none⟩ = some _ := cell_of_row w8 _ 1 _ _ _ hB8.1.z2
          have y2 : w8.cell? ⟨s8, 2, none⟩ = some _ := cell_of_row w8 _ 2 _ _ _ hB8.1.z2
          have hc2 := hrsrc.out b w8 hB8.1.i2
          rw [hpH.out] at hc2
          have hc2H := Lib.hid hc2
          have hBI := Lib.hid (fun W (hb : Below w8.heap.size w8 W) => (⟨hB8.1.below hb, hB8.2.1.below hb, hB8.2.2.below hb⟩ : SoC w s7 s8 D Z Bk O Ac A ca ls m Bn cb ns A1 c1 B1 d1 A2 c2 B2 d2 xs W ∧ GeoAt W sA D Z Bk O Ac ∧ GeoAt W sB D Z Bk O Ac))
          clear hc2 hB8 hpH
          go_wp2_with fail
          (with_reducible refine hc2H.out.mono ?_)
          rintro e w9 ⟨rfl, hb9⟩
          have hB9 := Lib.hid (hBI.out _ hb9)
          clear hb9 hc2H hBI j0 j1 j2 j3 j4 k0 k1 k2 k3 k4 x0 x1 x2 y0 y1 y2
          go_wp2_with fail
          go_roundw
          case rel => exact ⟨b + 1, by go_num, by omega, by omega, hB9⟩
          case measure => simp only [intOf]; omega
end Go.Proofs.Ytdnedahbghhpgaa
