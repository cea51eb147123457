/- TailGrows: the walk. -/
import Derived.Test.YtdnedahbghhpgaaTlGm
import Derived.Test.YtdnedahbghhpgaaTlVw
import Derived.Test.YtdnedahbghhpgaaSRef
namespace Go.Proofs.Ytdnedahbghhpgaa
open Go.RowKit Tl

/-- The arguments' boxes. -/
structure GrB (w : World) (D Z Bk O Ac z0 s0 : Int) (A : Option Addr) (ca : Nat) (ls : List Int) (m : Int) (Bn : Option Addr) (cb : Nat) (ns : List (Int × Int)) (W : World) : Prop where
  g : GeoAt W w.heap.size D Z Bk O Ac
  a0 : W.cell? ⟨w.heap.size + 1, 0, none⟩ = some (.int .i64 z0)
  a1 : W.cell? ⟨w.heap.size + 1, 1, none⟩ = some (.int .i64 s0)
  v : VwB W (w.heap.size + 2) A ca Bn cb ⟨ls, m, ns⟩
  bw : Below w.heap.size w W
theorem GrB.below {w W W' : World} {D Z Bk O Ac z0 s0 : Int} {A : Option Addr} {ca : Nat} {ls : List Int} {m : Int} {Bn : Option Addr} {cb : Nat} {ns : List (Int × Int)} (h : GrB w D Z Bk O Ac z0 s0 A ca ls m Bn cb ns W) (hb : Below W.heap.size W W') : GrB w D Z Bk O Ac z0 s0 A ca ls m Bn cb ns W' := ⟨h.g.below hb, keepC h.a0 hb, keepC h.a1 hb, h.v.below hb, bmore h.bw hb⟩
theorem GrB.new (w : World) (D Z Bk O Ac z0 s0 : Int) (A : Option Addr) (ca : Nat) (ls : List Int) (m : Int) (Bn : Option Addr) (cb : Nat) (ns : List (Int × Int)) (hA : IntsIn w A ls) (hP : ntE.In w Bn ns) : GrB w D Z Bk O Ac z0 s0 A ca ls m Bn cb ns (((w.alloc (.cells #[.int .i64 D, .int .i64 Z, .int .i64 Bk, .int .i64 O, .int .i64 Ac] 23)).alloc (.cells #[.int .i64 z0, .int .i64 s0] 45)).alloc (.cells #[.slice A ls.length ca, .int .i64 m, .slice Bn ns.length cb] 27)) := by
  have s1 := World.size_alloc w (.cells #[.int .i64 D, .int .i64 Z, .int .i64 Bk, .int .i64 O, .int .i64 Ac] 23)
  have g1 := GeoAt.new w D Z Bk O Ac 23
  have b1 := (Below.refl w.heap.size w).alloc (Nat.le_refl _) (.cells #[.int .i64 D, .int .i64 Z, .int .i64 Bk, .int .i64 O, .int .i64 Ac] 23)
  generalize w.alloc (.cells #[.int .i64 D, .int .i64 Z, .int .i64 Bk, .int .i64 O, .int .i64 Ac] 23) = W1 at s1 g1 b1 ⊢
  have s2 := World.size_alloc W1 (.cells #[.int .i64 z0, .int .i64 s0] 45)
  have k0 : (W1.alloc (.cells #[.int .i64 z0, .int .i64 s0] 45)).cell? ⟨W1.heap.size, 0, none⟩ = some (.int .i64 z0) := cell_of_row _ _ 0 _ _ _ (World.alloc_heap_new W1 _)
  have k1 : (W1.alloc (.cells #[.int .i64 z0, .int .i64 s0] 45)).cell? ⟨W1.heap.size, 1, none⟩ = some (.int .i64 s0) := cell_of_row _ _ 1 _ _ _ (World.alloc_heap_new W1 _)
  have a2 := (Below.refl W1.heap.size W1).alloc (Nat.le_refl _) (.cells #[.int .i64 z0, .int .i64 s0] 45)
  rw [s1] at k0 k1 s2
  have g2 := g1.below a2
  have b2 := bmore b1 a2
  clear a2 g1 b1
  generalize W1.alloc (.cells #[.int .i64 z0, .int .i64 s0] 45) = W2 at s2 k0 k1 g2 b2 ⊢
  have hI : VwIn W2 A Bn ⟨ls, m, ns⟩ := ⟨hA.below b2, hP.below b2⟩
  have v2 := VwB.new (ca := ca) (cb := cb) hI 27
  have a2 := (Below.refl W2.heap.size W2).alloc (Nat.le_refl _) (.cells #[.slice A ls.length ca, .int .i64 m, .slice Bn ns.length cb] 27)
  rw [s2] at v2
  exact ⟨g2.below a2, keepC k0 a2, keepC k1 a2, v2, bmore b2 a2⟩
/-- The view that grows. -/
structure GrC (wv w3 : World) (A1 : Option Addr) (c1 : Nat) (ls : List Int) (m : Int) (B1 : Option Addr) (d1 : Nat) (xs : List (Int × Int)) (W : World) : Prop where
  z : W.heap[w3.heap.size]? = some (.cells #[.slice A1 ls.length c1, .int .i64 m, .slice B1 xs.length d1] 31 (0, 0))
  r : inE.Row W (wv.heap.size + 3) 3 A1 c1 ls
  n : ntE.Row W (wv.heap.size + 3) 48 B1 d1 xs
  ap : ∀ g, A1 = some ⟨g, 0, none⟩ → B1 ≠ some ⟨g, 0, none⟩
  e1 : ∀ g, A1 = some ⟨g, 0, none⟩ → g ≠ w3.heap.size
  e2 : ∀ g, B1 = some ⟨g, 0, none⟩ → g ≠ w3.heap.size
  hk : wv.heap.size + 3 ≤ w3.heap.size
  b : Below wv.heap.size wv W
section
variable {wv w3 W W' : World} {A1 : Option Addr} {c1 : Nat} {ls : List Int} {m : Int} {B1 : Option Addr} {d1 : Nat} {xs : List (Int × Int)}
theorem GrC.below (h : GrC wv w3 A1 c1 ls m B1 d1 xs W) (hb : Below W.heap.size W W') : GrC wv w3 A1 c1 ls m B1 d1 xs W' :=
  ⟨(hb.block _ (Array.getElem?_eq_some_iff.1 h.z).1).trans h.z, h.r.below hb, h.n.below hb, h.ap, h.e1, h.e2, h.hk, bmore h.b hb⟩
theorem GrC.vw (h : GrC wv w3 A1 c1 ls m B1 d1 xs W) : VwIn W A1 B1 ⟨ls, m, xs⟩ := ⟨ints_of h.r.in_, h.n.in_⟩
/-- A slot has another length. -/
theorem GrC.set {g : Nat} (h : GrC wv w3 (some ⟨g, 0, none⟩) c1 ls m B1 d1 xs W) {i : Nat} (hi : i < ls.length) (x : Int) : GrC wv w3 (some ⟨g, 0, none⟩) c1 (ls.set i x) m B1 d1 xs (W.setCell ⟨g, i, none⟩ (.int .i64 x)) := by
  have hr := h.r.store hi x
  have e : Enc.storeAt W g (i * inE.k) (inE.c x) = W.setCell ⟨g, i, none⟩ (.int .i64 x) := by
    show W.setCell ⟨g, i * 1, none⟩ _ = _
    rw [Nat.mul_one]
  rw [e] at hr
  have hg : wv.heap.size + 3 ≤ g := by
    rcases h.r.form with ⟨h0, _⟩ | ⟨g', h0, h1, _⟩
    · cases h0
    · injection h0 with h0; injection h0 with h0; omega
  refine ⟨?_, hr, h.n.far (grownV W g i _) (fun g' e' e'' => by injection e'' with e''; subst e''; exact h.ap _ rfl e'), h.ap, h.e1, h.e2, h.hk, h.b.setCell (by show wv.heap.size ≤ g; omega) _⟩
  rw [List.length_set]
  exact (Below.heap_setCell W ⟨g, i, none⟩ _ _ (fun e => h.e1 g rfl e.symm)).trans h.z
/-- A note more. -/
theorem GrC.more {W1 : World} {A' : Option Addr} {cap' : Nat} {y : Int × Int} (h : GrC wv w3 A1 c1 ls m B1 d1 xs W) (hrow : ntE.Row W1 (wv.heap.size + 3) 48 A' cap' (xs ++ [y])) (hg : W.grownBy W1 (Value.slice B1 xs.length d1).ownBlock) (ho : A' = B1 ∨ A' = some ⟨W.heap.size, 0, none⟩) :
    GrC wv w3 A1 c1 ls m A' cap' (xs ++ [y]) (W1.setCell ⟨w3.heap.size, 2, none⟩ (.slice A' (xs.length + 1) cap')) := by
  have hzl := (Array.getElem?_eq_some_iff.1 h.z).1
  have hge : ∀ g, (Value.slice B1 xs.length d1).ownBlock = some g → B1 = some ⟨g, 0, none⟩ ∧ wv.heap.size + 3 ≤ g := fun g e => row_own h.n e
  have hB : wv.heap.size + 3 ≤ W.heap.size := by have := h.hk; omega
  have hb1 : Below wv.heap.size wv W1 := h.b.trans ((Below.refl wv.heap.size W).grown hg (by omega) (fun k e => by have := (hge k e).2; omega))
  have hz1 : W1.heap[w3.heap.size]? = some (.cells #[.slice A1 ls.length c1, .int .i64 m, .slice B1 xs.length d1] 31 (0, 0)) := by
    have := hg.block w3.heap.size hzl (fun e => h.e2 _ (hge _ e.symm).1 rfl)
    rw [this]; exact h.z
  have hn : (xs ++ [y]).length = xs.length + 1 := by simp
  have he2 : ∀ g, A' = some ⟨g, 0, none⟩ → g ≠ w3.heap.size := fun g e => by
    rcases ho with h1 | h1
    · rw [h1] at e; exact h.e2 g e
    · rw [h1] at e; injection e with e; injection e with e; omega
  have hap : ∀ g, A1 = some ⟨g, 0, none⟩ → A' ≠ some ⟨g, 0, none⟩ := fun g e e' => by
    rcases ho with h1 | h1
    · rw [h1] at e'; exact h.ap g e e'
    · rw [h1] at e'; injection e' with e'; injection e' with e'
      rcases h.r.form with ⟨h2, _⟩ | ⟨g', h2, _, h3, _⟩
      · rw [h2] at e; cases e
      · rw [h2] at e; injection e with e; injection e with e; omega
  refine ⟨?_, (h.r.far hg (fun g e e' => h.ap g e (hge g e').1)).far (grownV W1 w3.heap.size 2 _) (fun g e e' => by injection e' with e'; exact h.e1 g e e'.symm), hrow.far (grownV W1 w3.heap.size 2 _) (fun g e e' => by injection e' with e'; exact he2 g e e'.symm), hap, h.e1, he2, h.hk, hb1.setCell (by show wv.heap.size ≤ w3.heap.size; have := h.hk; omega) _⟩
  rw [hn]
  exact heap_setV hz1 2 _
end
theorem mod_slot (x : Int) {D : Int} (h1 : 3 ≤ D) (h2 : D ≤ 16) : ∃ (t : Int) (c : Nat), x.tmod D = t ∧ IntKind.i64.wrap t = t ∧ wrap64 (t + D) = t + D ∧ IntKind.i64.wrap (t + D) = t + D ∧ (t + D).tmod D = (c : Int) ∧ (c : Int) < D ∧ IntKind.i64.wrap (c : Int) = (c : Int) := by
  have h3 := Int.tmod_lt_of_pos x (show 0 < D by omega)
  have h4 := Int.lt_tmod_of_pos x (show 0 < D by omega)
  obtain ⟨t, ht⟩ : ∃ t, x.tmod D = t := ⟨_, rfl⟩
  rw [ht] at h3 h4
  have h5 : 0 ≤ (t + D).tmod D := by
    rw [Int.tmod_eq_emod_of_nonneg (by omega)]; exact Int.emod_nonneg _ (by omega)
  have h6 := Int.tmod_lt_of_pos (t + D) (show 0 < D by omega)
  obtain ⟨c, hc⟩ := Int.eq_ofNat_of_zero_le h5
  exact ⟨t, c, ht, IntWalk.i64_in _ (by omega), IntWalk.wrap64_in _ (by omega), IntWalk.i64_in _ (by omega), hc, by rw [← hc]; exact h6, IntWalk.i64_in _ (by omega)⟩
theorem GrC.mid {wv w3 W W1 : World} {A1 : Option Addr} {c1 : Nat} {ls : List Int} {m : Int} {B1 : Option Addr} {d1 : Nat} {xs : List (Int × Int)} (h : GrC wv w3 A1 c1 ls m B1 d1 xs W) (hg : W.grownBy W1 (Value.slice B1 xs.length d1).ownBlock) :
    W1.heap[w3.heap.size]? = some (.cells #[.slice A1 ls.length c1, .int .i64 m, .slice B1 xs.length d1] 31 (0, 0)) := by
  have := hg.block w3.heap.size (Array.getElem?_eq_some_iff.1 h.z).1 (fun e => h.e2 _ (row_own h.n e.symm).1 rfl)
  rw [this]; exact h.z
theorem two_nums (c : Nat) : ∃ k : Int, (c : Int).tmod 2 = k ∧ IntKind.i64.wrap k = k ∧ IntKind.i64.wrap (1 + k) = 1 + k ∧ wrap64 (1 + k) = 1 + k := by
  have h3 := Int.tmod_lt_of_pos (c : Int) (show (0 : Int) < 2 by omega)
  have h4 := Int.lt_tmod_of_pos (c : Int) (show (0 : Int) < 2 by omega)
  exact ⟨_, rfl, IntWalk.i64_in _ (by omega), IntWalk.i64_in _ (by omega), IntWalk.wrap64_in _ (by omega)⟩
namespace Tl
/-- A slot's length that grows by one as Go reckons it. -/
theorem len_wrap {ls : List Int} {m : Int} {ns : List (Int × Int)} {D Z B O A zone : Int} {s : Nat} (hs : s < ls.length) (hb : ls.getD s 0 < B) (hB : B ≤ 256) : lenV D Z B O A zone ⟨ls, m, ns⟩ ≤ lenV D Z B O A zone ⟨ls.set s (IntKind.i64.wrap (ls.getD s 0 + 1)), m, ns⟩ := by
  have e : ls.getD s 0 = ls[s] := by rw [List.getD_eq_getElem?_getD, List.getElem?_eq_getElem hs]; rfl
  rw [e] at hb ⊢
  by_cases h0 : 0 ≤ ls[s]
  · rw [IntWalk.i64_in _ (by omega)]
    exact len_more hs hb
  · have hno : okB D B ⟨ls, m, ns⟩ = false := by
      refine decide_eq_false fun h => ?_
      have := (h.2.2.2 _ (List.getElem_mem hs)).1
      omega
    have : lenV D Z B O A zone ⟨ls, m, ns⟩ = 0 := by
      unfold lenV
      refine lead_eq (Nat.zero_le _) (fun k hk => absurd hk (Nat.not_lt_zero _)) (fun _ => decide_eq_false fun h => h ?_)
      unfold srcV
      rw [if_neg]
      rw [hno, Bool.and_false]; decide
    omega
end Tl
set_option maxRecDepth 100000 in
set_option maxHeartbeats 4000000 in
theorem grows_law (w : World) (D Z Bk O Ac z0 s0 : Int) (A : Option Addr) (ca : Nat) (ls : List Int) (m : Int) (Bn : Option Addr) (cb : Nat) (ns : List (Int × Int)) (hA : IntsIn w A ls) (hA0 : A = none → ca = 0) (hP : ntE.In w Bn ns) :
    Calls Try.prog 4 #[.agg #[.int .i64 D, .int .i64 Z, .int .i64 Bk, .int .i64 O, .int .i64 Ac], .agg #[.int .i64 z0, .int .i64 s0], .agg #[.slice A ls.length ca, .int .i64 m, .slice Bn ns.length cb]] w fun e w' => e = .returned (.bool true) ∧ Below w.heap.size w w' := by
  have hN := Lib.hid (GrB.new w D Z Bk O Ac z0 s0 A ca ls m Bn cb ns hA hP)
  have hA0H := Lib.hid hA0
  clear hA hA0 hP
  go_enter Try.func4, Try.ntmps4
  go_upto_region 1 with fail
  refine fresh_world (fun W => GrB w D Z Bk O Ac z0 s0 A ca ls m Bn cb ns W) hN.out ?_
  clear hN
  rintro W1 h1
  have a0 := h1.a0
  have a1 := h1.a1
  have h1H := Lib.hid (fun k => h1.below (below_drewN (Below.refl _ W1) k))
  clear h1
  go_quiet (fail)
  go_wp2_with fail
  (with_reducible refine (speaks12 _).mono ?_)
  rintro e w1 ⟨rfl, hb1⟩
  have h1 := (h1H.out _).below hb1
  have hB1 := Lib.hid h1
  obtain ⟨g0, g1, g2, g3, g4, _⟩ := h1.g
  clear h1H hb1 h1 a0 a1
  go_upto_region 5 with fail
  have hG7 := GeoAt.new w1 D Z Bk O Ac 37
  have hB4 := hB1.out.below ((Below.refl w1.heap.size w1).alloc (Nat.le_refl _) (.cells #[.int .i64 D, .int .i64 Z, .int .i64 Bk, .int .i64 O, .int .i64 Ac] 37))
  clear g0 g1 g2 g3 g4
  generalize w1.heap.size = s7 at hG7 ⊢
  refine fresh_world (fun W => GrB w D Z Bk O Ac z0 s0 A ca ls m Bn cb ns W ∧ GeoAt W s7 D Z Bk O Ac) ⟨hB4, hG7⟩ ?_
  clear hG7 hB4 hB1
  rintro w4 ⟨h4, k4⟩
  have v0 : w4.cell? ⟨w.heap.size + 2, 0, none⟩ = some (.slice A ls.length ca) := h4.v.c0
  have hH4 := Lib.hid h4
  have hK4 := Lib.hid k4
  obtain ⟨g0, g1, g2, g3, g4, _⟩ := h4.g
  clear h4 k4
  have c1 := Lib.hid (fun W => refgood_any D Z Bk O Ac W)
  cases hg : goodB D Z Bk O Ac with
  | false =>
    rw [hg] at c1
    go_wp2_with fail
    (with_reducible refine (c1.out _).mono ?_)
    rintro e w2 ⟨rfl, hb2⟩
    have hF := Lib.hid (bmore hH4.out.bw hb2)
    clear hH4 hK4 hb2 v0 g0 g1 g2 g3 g4
    go_wp2_with fail
    go_ret
    exact ⟨rfl, hF.out⟩
  | true =>
    rw [hg] at c1
    have hgp := goodB_iff.1 hg
    have hD3 : 3 ≤ D := hgp.1
    have hD16 : D ≤ 16 := hgp.2.1
    have hBk : Bk ≤ 256 := hgp.2.2.2.2.2.1
    clear hgp
    go_wp2_with fail
    (with_reducible refine (c1.out _).mono ?_)
    rintro e w2 ⟨rfl, hb2⟩
    have hH := Lib.hid (hH4.out.below hb2)
    have hK := Lib.hid (hK4.out.below hb2)
    clear hH4 hK4 hb2 v0 g0 g1 g2 g3 g4 c1
    obtain ⟨g0, g1, g2, g3, g4, _⟩ := hH.out.g
    have v0 : w2.cell? ⟨w.heap.size + 2, 0, none⟩ = some (.slice A ls.length ca) := hH.out.v.c0
    have v1 : w2.cell? ⟨w.heap.size + 2, 1, none⟩ = some (.int .i64 m) := hH.out.v.c1
    have v2 : w2.cell? ⟨w.heap.size + 2, 2, none⟩ = some (.slice Bn ns.length cb) := hH.out.v.c2
    by_cases hlD : (ls.length : Int) = D
    case neg =>
      have hbn : ((ls.length : Int) != D) = true := by simp [hlD]
      have hF := Lib.hid hH.out.bw
      clear hH hK
      go_wp2_with fail
      go_ret
      exact ⟨rfl, hF.out⟩
    case pos =>
      have hbn : ((ls.length : Int) != D) = false := by simp [hlD]
      have hlDH := Lib.hid hlD
      have hvw := Lib.hid (fun W (hb : Below w2.heap.size w2 W) => views_any W A ca ls m Bn cb ns (hH.out.v.i.ls.below hb) hA0H.out (by omega) (hH.out.v.i.ns.below hb))
      clear hlD
      go_wp2_with fail
      (with_reducible refine (hvw.out _ (Below.refl _ _)).mono ?_)
      rintro e w3 ⟨A1, c1, B1, d1, A2, c2, B2, d2, rfl, _, _, _, _, hb3, hr1, hm1, hap⟩
      clear v0 v1 v2 hvw hbn g0 g1 g2 g3 g4
      have hxl : (ns.take 40).length ≤ 40 := by rw [List.length_take]; omega
      generalize ns.take 40 = xs at hr1 hm1 hxl ⊢
      have hz8 : GrC w2 w3 A1 c1 ls m B1 d1 xs (((w3.alloc (.cells #[.slice A1 ls.length c1, .int .i64 m, .slice B1 xs.length d1] 31)).alloc (.cells #[.slice A2 ls.length c2, .int .i64 m, .slice B2 xs.length d2] 34))) := by
        have a1 := (Below.refl w3.heap.size w3).alloc (Nat.le_refl _) (.cells #[.slice A1 ls.length c1, .int .i64 m, .slice B1 xs.length d1] 31)
        have q1 : ∀ g, A1 = some ⟨g, 0, none⟩ → g ≠ w3.heap.size := fun g e => by
          rcases hr1.form with ⟨h2, _⟩ | ⟨g', h2, _, h3, _⟩
          · rw [h2] at e; cases e
          · rw [h2] at e; injection e with e; injection e with e; omega
        have q2 : ∀ g, B1 = some ⟨g, 0, none⟩ → g ≠ w3.heap.size := fun g e => by
          rcases hm1.form with ⟨h2, _⟩ | ⟨g', h2, _, h3, _⟩
          · rw [h2] at e; cases e
          · rw [h2] at e; injection e with e; injection e with e; omega
        have q3 : w2.heap.size + 3 ≤ w3.heap.size := by
          rcases hr1.form with ⟨_, _, h2⟩ | ⟨g', _, h1, h3, _⟩
          · have := hlDH.out; rw [h2, List.length_nil] at this; omega
          · omega
        exact GrC.below ⟨World.alloc_heap_new w3 _, hr1.below a1, hm1.below a1, hap, q1, q2, q3, bmore hb3 a1⟩ ((Below.refl _ _).alloc (Nat.le_refl _) _)
      have hz8H := Lib.hid hz8
      have hG3 := Lib.hid (fun W (hb : Below w2.heap.size w2 W) => hK.out.below hb)
      have hX3 := Lib.hid (fun W (hb : Below w2.heap.size w2 W) => hH.out.g.below hb)
      have hB3 := Lib.hid (fun W (hb : Below w2.heap.size w2 W) => bmore hH.out.bw hb)
      have hxlH := Lib.hid hxl
      clear hr1 hm1 hap hb3 hH hK hxl hA0H hz8
      go_upto_region 8 with fail
      refine fresh_world (fun W => GrC w2 w3 A1 c1 ls m B1 d1 xs W) hz8H.out ?_
      clear hz8H
      rintro w8 h8
      have hlen := Lib.hid (fun W A B c d (ks : List Int) ys (h : VwIn W A B ⟨ks, m, ys⟩) (hk : ks.length ≤ 1000000) (hy : ys.length ≤ 1000000) => length_any12 D Z Bk O Ac z0 A c B d ⟨ks, m, ys⟩ W h hk hy)
      dsimp only at hlen
      obtain ⟨g0, g1, g2, g3, g4, _⟩ := hG3.out _ h8.b
      have z0' : w8.cell? ⟨w3.heap.size, 0, none⟩ = some (.slice A1 ls.length c1) := cell_of_row w8 w3.heap.size 0 _ _ _ h8.z
      have z1 : w8.cell? ⟨w3.heap.size, 1, none⟩ = some (.int .i64 m) := cell_of_row w8 w3.heap.size 1 _ _ _ h8.z
      have z2 : w8.cell? ⟨w3.heap.size, 2, none⟩ = some (.slice B1 xs.length d1) := cell_of_row w8 w3.heap.size 2 _ _ _ h8.z
      have hl1 := Lib.hid (hlen.out w8 A1 B1 c1 d1 ls xs h8.vw (by have := hlDH.out; omega) (by have := hxlH.out; omega))
      obtain ⟨n0, hn0⟩ : ∃ n, lenV D Z Bk O Ac z0 ⟨ls, m, xs⟩ = n := ⟨_, rfl⟩
      rw [hn0] at hl1
      have hn0H := Lib.hid hn0
      have h8H := Lib.hid h8
      clear h8 hn0
      go_wp2_with fail
      (with_reducible refine hl1.out.mono ?_)
      rintro e w9 ⟨rfl, hb9⟩
      have h9 := h8H.out.below hb9
      clear hl1 h8H hb9 g0 g1 g2 g3 g4 z0' z1 z2
      obtain ⟨g0, g1, g2, g3, g4, _⟩ := hX3.out _ h9.b
      obtain ⟨t, c, t1, t2, t3, t4, t5, t6, t7⟩ := mod_slot s0 hD3 hD16
      have hD0 : ¬ D = 0 := by omega
      have h9H := Lib.hid (fun k => h9.below (below_drewN (Below.refl _ w9) k))
      clear h9
      go_upto_region 9 with fail
      go_quiet (fail)
      go_upto_region 10 with fail
      refine fresh_world (fun W => GrC w2 w3 A1 c1 ls m B1 d1 xs W) (h9H.out _) ?_
      clear h9H t1 t2 t3 t4 t5 t7 g0 g1 g2 g3 g4 hD0
      rintro w10 h10
      have hcl : c < ls.length := by have := hlDH.out; omega
      obtain ⟨g, eA, _, _, _, hcell, hfr⟩ := h10.r.at_ hcl
      subst eA
      have e0 : w10.cell? ⟨g, c, none⟩ = some (.int .i64 (ls.getD c 0)) := by
        have := hcell 0 (by decide)
        rw [show c * inE.k + 0 = c by show c * 1 + 0 = c; omega] at this
        rw [this, List.getD_eq_getElem?_getD, List.getElem?_eq_getElem hcl]; rfl
      have z0' : w10.cell? ⟨w3.heap.size, 0, none⟩ = some (.slice (some ⟨g, 0, none⟩) ls.length c1) := cell_of_row w10 w3.heap.size 0 _ _ _ h10.z
      have z1 : w10.cell? ⟨w3.heap.size, 1, none⟩ = some (.int .i64 m) := cell_of_row w10 w3.heap.size 1 _ _ _ h10.z
      have z2 : w10.cell? ⟨w3.heap.size, 2, none⟩ = some (.slice B1 xs.length d1) := cell_of_row w10 w3.heap.size 2 _ _ _ h10.z
      obtain ⟨g0, g1, g2, g3, g4, _⟩ := hX3.out _ h10.b
      obtain ⟨y, hy⟩ : ∃ y, ls.getD c 0 = y := ⟨_, rfl⟩
      have hlw := fun (h : ls.getD c 0 < Bk) => len_wrap (m := m) (ns := xs) (D := D) (Z := Z) (B := Bk) (O := O) (A := Ac) (zone := z0) hcl h hBk
      rw [hy] at e0 hlw
      obtain ⟨y', hy'⟩ : ∃ y', IntKind.i64.wrap (y + 1) = y' := ⟨_, rfl⟩
      rw [hy', hn0H.out] at hlw
      have hy2 : wrap64 (y + 1) = y' := by rw [← hy', IntKind.wrap_i64]; unfold wrap64; rfl
      have hlwH := Lib.hid hlw
      have h10H := Lib.hid (fun k => h10.below (below_drewN (Below.refl _ w10) k))
      clear h10 hcell hlw hy
      by_cases hlt : y < Bk
      case pos =>
        go_quiet (fail)
        go_upto_region 11 with fail
        refine fresh_world (fun W => GrC w2 w3 (some ⟨g, 0, none⟩) c1 ls m B1 d1 xs W ∧ W.cell? ⟨g, c, none⟩ = some (.int .i64 y) ∧ W.frozen? ⟨g, c, none⟩ = false) ⟨h10H.out _, keepC e0 (below_drewN (Below.refl _ w10) _), hfr c⟩ ?_
        clear h10H e0 hfr z0' z1 z2 g0 g1 g2 g3 g4
        rintro w11 ⟨h11, e0, hfr⟩
        obtain ⟨g0, g1, g2, g3, g4, _⟩ := hG3.out _ h11.b
        have z0' : w11.cell? ⟨w3.heap.size, 0, none⟩ = some (.slice (some ⟨g, 0, none⟩) ls.length c1) := cell_of_row w11 w3.heap.size 0 _ _ _ h11.z
        have z1 : w11.cell? ⟨w3.heap.size, 1, none⟩ = some (.int .i64 m) := cell_of_row w11 w3.heap.size 1 _ _ _ h11.z
        have z2 : w11.cell? ⟨w3.heap.size, 2, none⟩ = some (.slice B1 xs.length d1) := cell_of_row w11 w3.heap.size 2 _ _ _ h11.z
        have zl := lt_of_cell e0
        have hset := Lib.hid (h11.set hcl y')
        clear h11
        go_upto_region 12 with fail
        refine fresh_world (fun W => GrC w2 w3 (some ⟨g, 0, none⟩) c1 (ls.set c y') m B1 d1 xs W) hset.out ?_
        clear hset e0 hfr z0' z1 z2 zl hy' hy2 g0 g1 g2 g3 g4
        have hmo := hlwH.out hlt
        have hkl : (ls.set c y').length = ls.length := List.length_set ..
        generalize ls.set c y' = ks at hmo hkl ⊢
        have hmoH := Lib.hid hmo
        have hklH := Lib.hid hkl
        clear hmo hkl hlwH hlt
        rintro w12 h12
        obtain ⟨g0, g1, g2, g3, g4, _⟩ := hG3.out _ h12.b
        have z0' : w12.cell? ⟨w3.heap.size, 0, none⟩ = some (.slice (some ⟨g, 0, none⟩) ks.length c1) := cell_of_row w12 w3.heap.size 0 _ _ _ h12.z
        have z1 : w12.cell? ⟨w3.heap.size, 1, none⟩ = some (.int .i64 m) := cell_of_row w12 w3.heap.size 1 _ _ _ h12.z
        have z2 : w12.cell? ⟨w3.heap.size, 2, none⟩ = some (.slice B1 xs.length d1) := cell_of_row w12 w3.heap.size 2 _ _ _ h12.z
        have hl2 := Lib.hid (hlen.out w12 (some ⟨g, 0, none⟩) B1 c1 d1 ks xs h12.vw (by have := hlDH.out; have := hklH.out; omega) (by have := hxlH.out; omega))
        obtain ⟨n1, hn1⟩ : ∃ n, lenV D Z Bk O Ac z0 ⟨ks, m, xs⟩ = n := ⟨_, rfl⟩
        rw [hn1] at hl2
        have hm1 := hmoH.out
        rw [hn1] at hm1
        have hn1H := Lib.hid hn1
        have h12H := Lib.hid h12
        clear h12 hn1 hmoH
        go_wp2_with fail
        (with_reducible refine hl2.out.mono ?_)
        rintro e w13 ⟨rfl, hb13⟩
        have h13 := h12H.out.below hb13
        clear hl2 h12H hb13 g0 g1 g2 g3 g4 z0' z1 z2
        obtain ⟨k, k1, k2, k3, k4⟩ := two_nums c
        have hR4 := h13.n.alloc (.cells #[.int .i64 (c : Int), .int .i64 (1 + k)] 48)
        have h13a := h13.below ((Below.refl w13.heap.size w13).alloc (Nat.le_refl _) (.cells #[.int .i64 (c : Int), .int .i64 (1 + k)] 48))
        have hnew := World.alloc_heap_new w13 (.cells #[.int .i64 (c : Int), .int .i64 (1 + k)] 48)
        obtain ⟨A', cap', W6, hrun6, hR6, hG6, ho6⟩ := Enc.Row.append (E := ntE) (P := Try.prog) Try.underlying29 infoN1 (by decide) (by decide) hR4 (m := w13.heap.size) (x := ((c : Int), 1 + k)) (fun j hj => by
          match j, hj with
          | 0, _ => exact cell_of_row _ _ 0 _ _ _ hnew
          | 1, _ => exact cell_of_row _ _ 1 _ _ _ hnew) (by have := hxlH.out; omega) (by have := h13a.hk; have := (Array.getElem?_eq_some_iff.1 h13a.z).1; omega) 29
        have hfin := h13a.more hR6 hG6 ho6
        have y6 := h13a.mid hG6
        have zf : ∀ j, W6.frozen? ⟨w3.heap.size, j, none⟩ = false := fun j => by simp [World.frozen?, y6]
        have z2' : W6.cell? ⟨w3.heap.size, 2, none⟩ = some (.slice B1 xs.length d1) := cell_of_row W6 w3.heap.size 2 _ _ _ y6
        have zl := lt_of_cell z2'
        obtain ⟨g0, g1, g2, g3, g4, _⟩ := hG3.out _ h13.b
        have z0' : w13.cell? ⟨w3.heap.size, 0, none⟩ = some (.slice (some ⟨g, 0, none⟩) ks.length c1) := cell_of_row w13 w3.heap.size 0 _ _ _ h13.z
        have z1 : w13.cell? ⟨w3.heap.size, 1, none⟩ = some (.int .i64 m) := cell_of_row w13 w3.heap.size 1 _ _ _ h13.z
        have z2 : w13.cell? ⟨w3.heap.size, 2, none⟩ = some (.slice B1 xs.length d1) := cell_of_row w13 w3.heap.size 2 _ _ _ h13.z
        have hrunH := Lib.hid hrun6
        have hfinH := Lib.hid hfin
        clear hrun6 hfin hR6 hG6 ho6 hR4 h13a hnew y6 h13
        go_upto_region 14 with (at_builtin; refine append_run_wp rfl _ _ _ rfl rfl rfl hrunH.out ?_; clear hrunH)
        refine fresh_world (fun W => GrC w2 w3 (some ⟨g, 0, none⟩) c1 ks m A' cap' (xs ++ [((c : Int), 1 + k)]) W) hfinH.out ?_
        clear hfinH zf z2' zl z0' z1 z2 g0 g1 g2 g3 g4 k1 k2 k3 k4
        rintro w14 h14
        have hxx : (xs ++ [((c : Int), 1 + k)]).length = xs.length + 1 := by simp
        obtain ⟨g0, g1, g2, g3, g4, _⟩ := hG3.out _ h14.b
        have z0' : w14.cell? ⟨w3.heap.size, 0, none⟩ = some (.slice (some ⟨g, 0, none⟩) ks.length c1) := cell_of_row w14 w3.heap.size 0 _ _ _ h14.z
        have z1 : w14.cell? ⟨w3.heap.size, 1, none⟩ = some (.int .i64 m) := cell_of_row w14 w3.heap.size 1 _ _ _ h14.z
        have z2 : w14.cell? ⟨w3.heap.size, 2, none⟩ = some (.slice A' (xs ++ [((c : Int), 1 + k)]).length cap') := cell_of_row w14 w3.heap.size 2 _ _ _ h14.z
        have hl3 := Lib.hid (hlen.out w14 (some ⟨g, 0, none⟩) A' c1 cap' ks (xs ++ [((c : Int), 1 + k)]) h14.vw (by have := hlDH.out; have := hklH.out; omega) (by have := hxlH.out; omega))
        have hm2 : n1 ≤ lenV D Z Bk O Ac z0 ⟨ks, m, xs ++ [((c : Int), 1 + k)]⟩ := by rw [← hn1H.out]; exact len_note _
        generalize lenV D Z Bk O Ac z0 ⟨ks, m, xs ++ [((c : Int), 1 + k)]⟩ = n2 at hl3 hm2
        have hq1 : (n0 : Int) ≤ (n1 : Int) := by omega
        have hq2 : (n1 : Int) ≤ (n2 : Int) := by omega
        have h14H := Lib.hid h14
        clear h14
        rw [hxx] at hl3 z2
        go_wp2_with fail
        (with_reducible refine hl3.out.mono ?_)
        rintro e w15 ⟨rfl, hb15⟩
        have hF := Lib.hid (hB3.out _ (h14H.out.below hb15).b)
        clear hl3 h14H hb15 g0 g1 g2 g3 g4 z0' z1 z2 hlen hG3 hX3 hB3
        go_wp2_with fail
        go_ret
        exact ⟨rfl, hF.out⟩
      case neg =>
        go_quiet (fail)
        go_upto_region 12 with fail
        refine fresh_world (fun W => GrC w2 w3 (some ⟨g, 0, none⟩) c1 ls m B1 d1 xs W) (h10H.out _) ?_
        clear h10H e0 hfr z0' z1 z2 hy' hy2 g0 g1 g2 g3 g4 hlwH
        have hmoH : Hid (n0 ≤ lenV D Z Bk O Ac z0 ⟨ls, m, xs⟩) := Lib.hid (by rw [hn0H.out]; exact Nat.le_refl _)
        have hklH : Hid (ls.length = ls.length) := Lib.hid rfl
        rintro w12 h12
        obtain ⟨g0, g1, g2, g3, g4, _⟩ := hG3.out _ h12.b
        have z0' : w12.cell? ⟨w3.heap.size, 0, none⟩ = some (.slice (some ⟨g, 0, none⟩) ls.length c1) := cell_of_row w12 w3.heap.size 0 _ _ _ h12.z
        have z1 : w12.cell? ⟨w3.heap.size, 1, none⟩ = some (.int .i64 m) := cell_of_row w12 w3.heap.size 1 _ _ _ h12.z
        have z2 : w12.cell? ⟨w3.heap.size, 2, none⟩ = some (.slice B1 xs.length d1) := cell_of_row w12 w3.heap.size 2 _ _ _ h12.z
        have hl2 := Lib.hid (hlen.out w12 (some ⟨g, 0, none⟩) B1 c1 d1 ls xs h12.vw (by have := hlDH.out; have := hklH.out; omega) (by have := hxlH.out; omega))
        obtain ⟨n1, hn1⟩ : ∃ n, lenV D Z Bk O Ac z0 ⟨ls, m, xs⟩ = n := ⟨_, rfl⟩
        rw [hn1] at hl2
        have hm1 := hmoH.out
        rw [hn1] at hm1
        have hn1H := Lib.hid hn1
        have h12H := Lib.hid h12
        clear h12 hn1 hmoH
        go_wp2_with fail
        (with_reducible refine hl2.out.mono ?_)
        rintro e w13 ⟨rfl, hb13⟩
        have h13 := h12H.out.below hb13
        clear hl2 h12H hb13 g0 g1 g2 g3 g4 z0' z1 z2
        obtain ⟨k, k1, k2, k3, k4⟩ := two_nums c
        have hR4 := h13.n.alloc (.cells #[.int .i64 (c : Int), .int .i64 (1 + k)] 48)
        have h13a := h13.below ((Below.refl w13.heap.size w13).alloc (Nat.le_refl _) (.cells #[.int .i64 (c : Int), .int .i64 (1 + k)] 48))
        have hnew := World.alloc_heap_new w13 (.cells #[.int .i64 (c : Int), .int .i64 (1 + k)] 48)
        obtain ⟨A', cap', W6, hrun6, hR6, hG6, ho6⟩ := Enc.Row.append (E := ntE) (P := Try.prog) Try.underlying29 infoN1 (by decide) (by decide) hR4 (m := w13.heap.size) (x := ((c : Int), 1 + k)) (fun j hj => by
          match j, hj with
          | 0, _ => exact cell_of_row _ _ 0 _ _ _ hnew
          | 1, _ => exact cell_of_row _ _ 1 _ _ _ hnew) (by have := hxlH.out; omega) (by have := h13a.hk; have := (Array.getElem?_eq_some_iff.1 h13a.z).1; omega) 29
        have hfin := h13a.more hR6 hG6 ho6
        have y6 := h13a.mid hG6
        have zf : ∀ j, W6.frozen? ⟨w3.heap.size, j, none⟩ = false := fun j => by simp [World.frozen?, y6]
        have z2' : W6.cell? ⟨w3.heap.size, 2, none⟩ = some (.slice B1 xs.length d1) := cell_of_row W6 w3.heap.size 2 _ _ _ y6
        have zl := lt_of_cell z2'
        obtain ⟨g0, g1, g2, g3, g4, _⟩ := hG3.out _ h13.b
        have z0' : w13.cell? ⟨w3.heap.size, 0, none⟩ = some (.slice (some ⟨g, 0, none⟩) ls.length c1) := cell_of_row w13 w3.heap.size 0 _ _ _ h13.z
        have z1 : w13.cell? ⟨w3.heap.size, 1, none⟩ = some (.int .i64 m) := cell_of_row w13 w3.heap.size 1 _ _ _ h13.z
        have z2 : w13.cell? ⟨w3.heap.size, 2, none⟩ = some (.slice B1 xs.length d1) := cell_of_row w13 w3.heap.size 2 _ _ _ h13.z
        have hrunH := Lib.hid hrun6
        have hfinH := Lib.hid hfin
        clear hrun6 hfin hR6 hG6 ho6 hR4 h13a hnew y6 h13
        go_upto_region 14 with (at_builtin; refine append_run_wp rfl _ _ _ rfl rfl rfl hrunH.out ?_; clear hrunH)
        refine fresh_world (fun W => GrC w2 w3 (some ⟨g, 0, none⟩) c1 ls m A' cap' (xs ++ [((c : Int), 1 + k)]) W) hfinH.out ?_
        clear hfinH zf z2' zl z0' z1 z2 g0 g1 g2 g3 g4 k1 k2 k3 k4
        rintro w14 h14
        have hxx : (xs ++ [((c : Int), 1 + k)]).length = xs.length + 1 := by simp
        obtain ⟨g0, g1, g2, g3, g4, _⟩ := hG3.out _ h14.b
        have z0' : w14.cell? ⟨w3.heap.size, 0, none⟩ = some (.slice (some ⟨g, 0, none⟩) ls.length c1) := cell_of_row w14 w3.heap.size 0 _ _ _ h14.z
        have z1 : w14.cell? ⟨w3.heap.size, 1, none⟩ = some (.int .i64 m) := cell_of_row w14 w3.heap.size 1 _ _ _ h14.z
        have z2 : w14.cell? ⟨w3.heap.size, 2, none⟩ = some (.slice A' (xs ++ [((c : Int), 1 + k)]).length cap') := cell_of_row w14 w3.heap.size 2 _ _ _ h14.z
        have hl3 := Lib.hid (hlen.out w14 (some ⟨g, 0, none⟩) A' c1 cap' ls (xs ++ [((c : Int), 1 + k)]) h14.vw (by have := hlDH.out; have := hklH.out; omega) (by have := hxlH.out; omega))
        have hm2 : n1 ≤ lenV D Z Bk O Ac z0 ⟨ls, m, xs ++ [((c : Int), 1 + k)]⟩ := by rw [← hn1H.out]; exact len_note _
        generalize lenV D Z Bk O Ac z0 ⟨ls, m, xs ++ [((c : Int), 1 + k)]⟩ = n2 at hl3 hm2
        have hq1 : (n0 : Int) ≤ (n1 : Int) := by omega
        have hq2 : (n1 : Int) ≤ (n2 : Int) := by omega
        have h14H := Lib.hid h14
        clear h14
        rw [hxx] at hl3 z2
        go_wp2_with fail
        (with_reducible refine hl3.out.mono ?_)
        rintro e w15 ⟨rfl, hb15⟩
        have hF := Lib.hid (hB3.out _ (h14H.out.below hb15).b)
        clear hl3 h14H hb15 g0 g1 g2 g3 g4 z0' z1 z2 hlen hG3 hX3 hB3
        go_wp2_with fail
        go_ret
        exact ⟨rfl, hF.out⟩
