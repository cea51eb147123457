/- RebuildHalf: the walk. -/
import Derived.Test.YtdjdldcpaidmnaaRbL
namespace Go.Proofs.Ytdjdldcpaidmnaa
open Go.RowKit Rec Bk Rb

theorem recs_far {W W' : World} {r : Nat} {A : Option Addr} {L : List Rc} (h : RecsAt W A L) (hg : W.grownBy W' (some r)) (hA : ∀ g off, A = some ⟨g, off, none⟩ → g ≠ r) : RecsAt W' A L := by
  rcases h with h0 | ⟨g, off, e, hgl, hc⟩
  · exact .inl h0
  · have := hA g off e
    exact .inr ⟨g, off, e, Nat.lt_of_lt_of_le hgl hg.size, fun i hi j hj => (World.cell?_of_block (a := ⟨g, _, none⟩) (hg.block g hgl (by simp; omega))).trans (hc i hi j hj)⟩
/-- A book in a box, a list beside it. -/
structure HfW (w W : World) (s7 s9 : Nat) (D Z B O A : Int) (C1 : Option Addr) (e1 : Nat) (C2 : Option Addr) (e2 : Nat) (b : Bo) (Al : Option Addr) (L : List Rc) : Prop where
  r : RbW w W s7 s9 D Z B O A C1 e1 C2 e2 b
  l : RecsAt W Al L
  a : ∀ g off, Al = some ⟨g, off, none⟩ → g ≠ s9
theorem HfW.below {w W W' : World} {s7 s9 : Nat} {D Z B O A : Int} {C1 C2 Al : Option Addr} {e1 e2 : Nat} {b : Bo} {L : List Rc} (h : HfW w W s7 s9 D Z B O A C1 e1 C2 e2 b Al L) (hb : Below W.heap.size W W') : HfW w W' s7 s9 D Z B O A C1 e1 C2 e2 b Al L := ⟨h.r.below hb, h.l.below hb, h.a⟩
theorem HfW.put {w W : World} {s7 s3 : Nat} {D Z B O A : Int} {C1 C2 B1 B2 Al : Option Addr} {e1 e2 d1 d2 : Nat} {b0 b : Bo} {L : List Rc} (h : HfW w W s7 s3 D Z B O A C1 e1 C2 e2 b0 Al L) (hI : BkIn W B1 d1 B2 d2 b) {n : Nat} (hN : NewB n B1 B2) (hn : s3 < n) :
    HfW w (((((W.setCell ⟨s3, 0, none⟩ (.int .i64 b.q)).setCell ⟨s3, 1, none⟩ (.slice B1 b.zs.length d1)).setCell ⟨s3, 2, none⟩ (.slice B2 b.ms.length d2)).setCell ⟨s3, 3, none⟩ (.int .i64 b.sl)).setCell ⟨s3, 4, none⟩ (.int .i64 b.cu)) s7 s3 D Z B O A B1 d1 B2 d2 b Al L :=
  ⟨h.r.put hI (fun g off e => (by have := hN.1 g off e; omega)) (fun g off e => (by have := hN.2 g off e; omega)), recs_far h.l (grownBy_put W s3 _ _ _ _ _) h.a, h.a⟩
theorem recs_lt {W : World} {A : Option Addr} {L : List Rc} (h : RecsAt W A L) (hL : L ≠ []) {n : Nat} (hn : W.heap.size ≤ n) : ∀ g off, A = some ⟨g, off, none⟩ → g ≠ n := fun g off e => by
  rcases h with h0 | ⟨g', off', e', hgl, _⟩
  · exact absurd h0 hL
  · rw [e] at e'; injection e' with e'; injection e' with e'; omega
namespace Rb
/-- The books while the two records are noted. -/
theorem half_books {n m s : Nat} {D : Int} (hs : s < m) (hm : m ≤ 16) (hD : D = (m : Int)) {c : Nat} (hc : c < 3) :
    (stB (newBk n m) (begXs D s) c).ms.length = m ∧ 0 ≤ (stB (newBk n m) (begXs D s) c).q ∧ (stB (newBk n m) (begXs D s) c).q ≤ 4611686018427387904 ∧
    ((¬ Busy (stB (newBk n m) (begXs D s) c) D s ∧ D ∉ (stB (newBk n m) (begXs D s) c).ms ∧ (stB (newBk n m) (begXs D s) c).ms[s]? = some (s : Int)) ∨
      (Busy (stB (newBk n m) (begXs D s) c) D s ∧ (stB (newBk n m) (begXs D s) c).ms[s]? = some D ∧ (stB (newBk n m) (begXs D s) c).sl = (s : Int) ∧ hasB (stB (newBk n m) (begXs D s) c) (s : Int) 2 = false)) := by
  have hl : (newBk n m).ms.length = m := newMs_len m
  have hat : (newMs m)[s]? = some (s : Int) := by unfold newMs; simp [hs]
  have hno := new_no (n := n) hD
  refine ⟨by rw [stB_ml]; exact hl, by rw [stB_q]; show (0 : Int) ≤ 0 + (c : Int); omega, by rw [stB_q]; show (0 : Int) + (c : Int) ≤ _; omega, ?_⟩
  rcases (by omega : c = 0 ∨ c = 1 ∨ c = 2) with rfl | rfl | rfl
  · left
    show ¬ Busy (newBk n m) D s ∧ D ∉ (newBk n m).ms ∧ (newBk n m).ms[s]? = some (s : Int)
    exact ⟨fun h => absurd (show (0 : Int) ≤ -1 from h.1) (by decide), hno, hat⟩
  · left
    rw [stB_one _ _ _ (by omega)]
    refine ⟨?_, hno, hat⟩
    rintro ⟨_, h | h⟩
    · exact h rfl
    · have h2 : (newMs m)[s]! = D := h
      rw [getElem!_def, hat] at h2
      have h3 : (s : Int) = D := h2
      omega
  · right
    rw [stB_two _ _ _ (by rw [hl]; exact hs) (by omega)]
    have hat2 : ((newMs m).set s D)[s]? = some D := by rw [List.getElem?_set_self (by rw [newMs_len]; exact hs)]
    refine ⟨⟨?_, .inr ?_⟩, hat2, rfl, ?_⟩
    · show (0 : Int) ≤ (s : Int); omega
    · show ((newMs m).set s D)[s]! = D
      rw [getElem!_def, hat2]
    · refine decide_eq_false ?_
      rintro ⟨_, _, h | h⟩
      · exact h rfl
      · exact absurd (show (2 : Int) < 2 from h) (by decide)
end Rb
theorem beg_bsy (w : World) (D Z B O A : Int) (A1 : Option Addr) (c1 : Nat) (A2 : Option Addr) (c2 : Nat) (b : Bo) (s : Nat) (h : BkIn w A1 c1 A2 c2 b) (hq : 0 ≤ b.q ∧ b.q ≤ 4611686018427387904) (hG : goodB D Z B O A = true) (hm : (b.ms.length : Int) = D) (hs : s < b.ms.length) (hn : Busy b D s) :
    Calls Try.prog 21 #[.agg #[.int .i64 D, .int .i64 Z, .int .i64 B, .int .i64 O, .int .i64 A], .agg #[.int .i64 b.q, .slice A1 b.zs.length c1, .slice A2 b.ms.length c2, .int .i64 b.sl, .int .i64 b.cu], .int .i64 (s : Int)] w
      fun e w' => ∃ (B1 : Option Addr) (d1 : Nat) (B2 : Option Addr) (d2 : Nat) (Al : Option Addr) (cap : Nat), e = .returned (.tuple #[.slice Al 0 cap, .agg #[.int .i64 0, .slice B1 0 d1, .slice B2 0 d2, .int .i64 0, .int .i64 0], .int .i64 3]) ∧ Below w.heap.size w w' := by
  refine (begin_any w D Z B O A A1 c1 A2 c2 b s h hq hG hm hs).mono ?_
  rintro e w' ⟨code, L, b', B1, d1, B2, d2, Al, cap, rfl, hR, hRow, hI2, hN, hb⟩
  obtain ⟨rfl, rfl, rfl⟩ := beg_busy hR hn
  exact ⟨B1, d1, B2, d2, Al, cap, rfl, hb⟩
set_option maxRecDepth 100000 in
set_option maxHeartbeats 4000000 in
theorem half_law (w : World) (D Z B O A a a2 : Int) :
    Calls Try.prog 6 #[.agg #[.int .i64 D, .int .i64 Z, .int .i64 B, .int .i64 O, .int .i64 A], .int .i64 a, .int .i64 a2] w fun e w' => e = .returned (.bool true) ∧ Below w.heap.size w w' := by
  have hG := Lib.hid (GeoAt.new w D Z B O A 55)
  have hB := Lib.hid ((Below.refl w.heap.size w).alloc (Nat.le_refl _) (.cells #[.int .i64 D, .int .i64 Z, .int .i64 B, .int .i64 O, .int .i64 A] 55))
  go_enter Try.func6, Try.ntmps6
  go_upto_region 1 with fail
  refine fresh_world (fun W => GeoAt W w.heap.size D Z B O A ∧ Below w.heap.size w W) ⟨hG.out, hB.out⟩ ?_
  clear hG hB
  rintro W1 h1
  have h1H := Lib.hid h1
  clear h1
  go_wp2_with fail
  (with_reducible refine (speaks16 _).mono ?_)
  rintro e w1 ⟨rfl, hb1⟩
  have h1 := h1H.out.1.below hb1
  have h2 := bmore h1H.out.2 hb1
  obtain ⟨g0, g1, g2, g3, g4, _⟩ := h1
  have hG7 := GeoAt.new w1 D Z B O A 30
  have ha := (Below.refl w1.heap.size w1).alloc (Nat.le_refl _) (.cells #[.int .i64 D, .int .i64 Z, .int .i64 B, .int .i64 O, .int .i64 A] 30)
  have hN7 : Hid (RbG w w1.heap.size D Z B O A (w1.alloc (.cells #[.int .i64 D, .int .i64 Z, .int .i64 B, .int .i64 O, .int .i64 A] 30))) := Lib.hid ⟨(h1H.out.1.below hb1).below ha, hG7, bmore h2 ha, (h1H.out.1.below hb1).2.2.2.2.2⟩
  clear h1H hb1 h2 hG7 ha
  go_upto_region 4 with fail
  generalize w1.heap.size = s7 at hN7 ⊢
  refine fresh_world (fun W => RbG w s7 D Z B O A W) hN7.out ?_
  clear hN7 g0 g1 g2 g3 g4
  rintro w4 h4
  have h4H := Lib.hid h4
  obtain ⟨g0, g1, g2, g3, g4, _⟩ := h4.1
  have c1 := Lib.hid (fun W => refgood_any D Z B O A W)
  clear h4
  cases hg : goodB D Z B O A with
  | false =>
    rw [hg] at c1
    go_wp2_with fail
    (with_reducible refine (c1.out _).mono ?_)
    rintro e w2 ⟨rfl, hb2⟩
    have hF := Lib.hid (h4H.out.below hb2).2.2.1
    clear h4H hb2 g0 g1 g2 g3 g4
    go_wp2_with fail
    go_ret
    exact ⟨rfl, hF.out⟩
  | true =>
    rw [hg] at c1
    have hgp := goodB_iff.1 hg
    obtain ⟨m, hD⟩ : ∃ m : Nat, D = (m : Int) := ⟨D.toNat, by have := hgp.1; omega⟩
    obtain ⟨n, hZ⟩ : ∃ n : Nat, Z = (n : Int) + 3 := ⟨(Z - 3).toNat, by have := hgp.2.2.1; omega⟩
    have hm16 : m ≤ 16 := by have := hgp.2.1; omega
    have hm3 : 3 ≤ m := by have := hgp.1; omega
    have hn61 : n ≤ 61 := by have := hgp.2.2.2.1; omega
    have hn2 : 2 ≤ n := by have := hgp.2.2.1; omega
    have hb0 : newOf D Z B O A = newBk n m := by unfold newOf; rw [if_pos hg, show (Z - 3).toNat = n by omega, show D.toNat = m by omega]
    have hnw := Lib.hid (fun W => new_anyB W D Z B O A)
    rw [hb0] at hnw
    obtain ⟨t1, s, x1, x2, x3, x4, x5, x6, x7, x8, x9⟩ := mod_more16 a (m := D) (by omega) (by omega)
    have hsm : s < m := by omega
    have hZH := Lib.hid hZ
    have hDH := Lib.hid hD
    have hgH := Lib.hid hg
    clear hgp hb0 hD hZ hg
    go_wp2_with fail
    (with_reducible refine (c1.out _).mono ?_)
    rintro e w2 ⟨rfl, hb2⟩
    have h2 := h4H.out.below hb2
    have h2H := Lib.hid h2
    clear h4H hb2 g0 g1 g2 g3 g4 c1 h2
    obtain ⟨g0, g1, g2, g3, g4, _⟩ := h2H.out.1
    go_upto_region 6 with fail
    go_quiet (fail)
    go_upto_region 7 with fail
    refine fresh_world (fun W => RbG w s7 D Z B O A W) (h2H.out.below (below_drewN (Below.refl _ w2) _)) ?_
    clear g0 g1 g2 g3 g4 h2H x1 x2 x3 x4 x5 x6 x7 x8 x9
    rintro w7 h7
    have hbg := Lib.hid (fun W A1 c1 A2 c2 (h : BkIn W A1 c1 A2 c2 (newBk n m)) => beg_ok W D Z B O A A1 c1 A2 c2 (newBk n m) s h (by show (0 : Int) ≤ 0 ∧ (0 : Int) ≤ 4611686018427387904; decide) hgH.out (by rw [hDH.out]; show ((newMs m).length : Int) = _; rw [newMs_len]) (by show s < (newMs m).length; rw [newMs_len]; exact hsm) (fun h => absurd (show (0 : Int) ≤ -1 from h.1) (by decide)) (new_no hDH.out))
    have hne : Hid ((begB (newBk n m) D s).zs ≠ [] ∧ (begB (newBk n m) D s).ms ≠ []) := Lib.hid ⟨fun h => by
      have h1 : (newZ n).length = 0 := by rw [show newZ n = [] from h]; rfl
      rw [newZ_len] at h1; omega, fun h => by
      have h1 : ((newMs m).set s D).length = 0 := by rw [show (newMs m).set s D = [] from h]; rfl
      rw [List.length_set, newMs_len] at h1; omega⟩
    have hnl : Hid ((newBk n m).zs.length = n ∧ (newBk n m).ms.length = m) := Lib.hid ⟨newZ_len n, newMs_len m⟩
    have hS : (fun W => RbG w s7 D Z B O A W) w7.drew := h7.below (Below.refl _ _).drew
    clear h7
    have hLs : Hid (begL (newBk n m) D s = stL (newBk n m) (begXs D s) 2) := Lib.hid (stL_two (newBk n m) D s (by omega)).symm
    have hxl : Hid (∀ c, c < 3 → _) := Lib.hid (fun c hc => half_books (n := n) hsm hm16 hDH.out (c := c) hc)
    have hlt := Lib.hid (stL_len (newBk n m) (begXs D s) 2)
    have hnx2 : Hid (∀ k, k < 2 → (stL (newBk n m) (begXs D s) 2)[k]! = nxt (stB (newBk n m) (begXs D s) k) (begXs D s)[k]!) := Lib.hid (fun k hk => by
      rcases (by omega : k = 0 ∨ k = 1) with rfl | rfl <;> rfl)
    have hstS : Hid (∀ k, stB (newBk n m) (begXs D s) (k + 1) = noteB (stB (newBk n m) (begXs D s) k) (nxt (stB (newBk n m) (begXs D s) k) (begXs D s)[k]!)) := Lib.hid (fun k => rfl)
    have hst0 : Hid (stB (newBk n m) (begXs D s) 0 = newBk n m) := Lib.hid rfl
    generalize hbb : begB (newBk n m) D s = bb at hbg hne
    rw [hLs.out] at hbg
    generalize stL (newBk n m) (begXs D s) 2 = ll at hbg hlt hnx2 hLs
    generalize begXs D s = xs at hxl hnx2 hstS hst0
    generalize newBk n m = b0 at hnw hbg hnl hxl hnx2 hstS hst0 hLs hbb
    clear hbb hLs
    go_cut [8, 9, 10] from 34 to 42 (fun v8 v9 v10 wx => ∃ (s9 : Nat) (B1 : Option Addr) (d1 : Nat) (B2 : Option Addr) (d2 : Nat) (Al : Option Addr) (cap : Nat), v8 = .slice Al 2 cap ∧ v9 = .pointer (some ⟨s9, 0, none⟩) ∧ v10 = .int .i64 0 ∧ RbW w wx s7 s9 D Z B O A B1 d1 B2 d2 bb ∧ RecsAt wx Al ll)
    case first =>
      refine region_anyC (fun _ => true) (fun W => RbG w s7 D Z B O A W) (by kernel_rfl) ?_
      generalize w7.drew = wa at hS ⊢
      refine anyL_take 0 (v := ?_) rfl (by kernel_rfl) (fun _ _ _ h => h) (Or.inl ⟨by rfl, ?_⟩) hS ?_
      rotate_left
      focus (intro W hW; obtain ⟨_, ⟨g0, g1, g2, g3, g4, _⟩, _⟩ := hW; go_simp; try with_reducible rfl)
      simp only [Act.put, List.setIfInBounds_toArray, List.set_cons_zero, List.set_cons_succ]
      refine anyL_take 1 (v := ?_) rfl (by kernel_rfl) (fun _ _ _ h => h) (Or.inl ⟨by rfl, ?_⟩) hS ?_
      rotate_left
      focus (intro W hW; obtain ⟨_, ⟨g0, g1, g2, g3, g4, _⟩, _⟩ := hW; go_simp; try with_reducible rfl)
      simp only [Act.put, List.setIfInBounds_toArray, List.set_cons_zero, List.set_cons_succ]
      refine anyL_take 3 (v := ?_) rfl (by kernel_rfl) (fun _ _ _ h => h) (Or.inl ⟨by rfl, ?_⟩) hS ?_
      rotate_left
      focus (intro W hW; go_simp; try with_reducible rfl)
      simp only [Act.put, List.setIfInBounds_toArray, List.set_cons_zero, List.set_cons_succ]
      refine anyL_two 2 9 rfl rfl (by kernel_rfl) (fun K hK => ?_) (fun K hK => ?_)
      case refine_1 =>
        go_simp
        refine (hnw.out wa).mono ?_
        rintro e' wax ⟨A1, c1, A2, c2, rfl, hO, hb⟩
        have hI := hO.in_
        have hS' : (fun W => RbG w s7 D Z B O A W) wax := hS.below hb
        refine hK.out _ _ (fun _ => hS') ?_
        clear hK K hS hb hO
        have hS := hS'
        clear hS'
        try simp only [Act.put, List.setIfInBounds_toArray, List.set_cons_zero, List.set_cons_succ]
        refine anyL_two 4 9 rfl rfl (by kernel_rfl) (fun K hK => ?_) (fun K hK => ?_)
        case refine_1 =>
          go_simp
          refine (hbg.out wax A1 c1 A2 c2 hI).mono ?_
          rintro e' waxx ⟨B1, d1, B2, d2, Al, cap, rfl, hRow, hI2, hN, hb⟩
          have hS' : (fun W => RbG w s7 D Z B O A W) waxx := hS.below hb
          refine hK.out _ _ (fun _ => hS') ?_
          clear hK K hS hb hI hN
          have hS := hS'
          clear hS'
          try simp only [Act.put, List.setIfInBounds_toArray, List.set_cons_zero, List.set_cons_succ]
          refine anyL_take 5 (v := ?_) rfl (by kernel_rfl) (fun _ _ _ h => h) (Or.inl ⟨by rfl, ?_⟩) hS ?_
          rotate_left
          focus (intro W hW; go_simp; try with_reducible rfl)
          simp only [Act.put, List.setIfInBounds_toArray, List.set_cons_zero, List.set_cons_succ]
          refine anyL_take 6 (v := ?_) rfl (by kernel_rfl) (fun _ _ _ h => h) (Or.inl ⟨by rfl, ?_⟩) hS ?_
          rotate_left
          focus (intro W hW; go_simp; try with_reducible rfl)
          simp only [Act.put, List.setIfInBounds_toArray, List.set_cons_zero, List.set_cons_succ]
          refine anyL_take 7 (v := ?_) rfl (by kernel_rfl) (fun _ _ _ h => h) (Or.inl ⟨by rfl, ?_⟩) hS ?_
          rotate_left
          focus (intro W hW; go_simp; try with_reducible rfl)
          simp only [Act.put, List.setIfInBounds_toArray, List.set_cons_zero, List.set_cons_succ]
          refine anyL_take 8 (v := ?_) rfl (by kernel_rfl) (fun _ _ _ h => h) (Or.inl ⟨by rfl, ?_⟩) hS ?_
          rotate_left
          focus (intro W hW; go_simp; try with_reducible rfl)
          simp only [Act.put, List.setIfInBounds_toArray, List.set_cons_zero, List.set_cons_succ]
          refine anyL_one 9 rfl (by kernel_rfl) (fun K hK => ?_)
          go_simp
          have ha := (Below.refl waxx.heap.size waxx).alloc (Nat.le_refl _) (.cells #[.int .i64 0, .slice none 0 0, .slice none 0 0, .int .i64 0, .int .i64 0] 58)
          have hX : BkAt (waxx.alloc (.cells #[.int .i64 0, .slice none 0 0, .slice none 0 0, .int .i64 0, .int .i64 0] 58)) waxx.heap.size none 0 none 0 noB := BkAt.new waxx none 0 none 0 noB 58
          have hz : s7 < waxx.heap.size := hS.lt
          have hS' : (fun W => RbG w s7 D Z B O A W) (waxx.alloc (.cells #[.int .i64 0, .slice none 0 0, .slice none 0 0, .int .i64 0, .int .i64 0] 58)) := hS.below ha
          have hAp := ap_new hI2 hRow (hne.out.1) (hne.out.2)
          have hI2' := hI2.below ha
          have hRow' := hRow.below ha
          clear hI2 hRow
          have hI2 := hI2'
          have hRow := hRow'
          clear hI2' hRow'
          have hzl : waxx.heap.size < (waxx.alloc (.cells #[.int .i64 0, .slice none 0 0, .slice none 0 0, .int .i64 0, .int .i64 0] 58)).heap.size := hX.lt
          generalize waxx.alloc (.cells #[.int .i64 0, .slice none 0 0, .slice none 0 0, .int .i64 0, .int .i64 0] 58) = waxxx at hS' hX hzl hI2 hRow ⊢
          generalize waxx.heap.size = s9 at hX hz hzl hAp ⊢
          refine hK.out _ _ (fun _ => hS') ?_
          clear hK K hS ha
          have hS := hS'
          clear hS'
          try simp only [Act.put, List.setIfInBounds_toArray, List.set_cons_zero, List.set_cons_succ]
          have hfin := Lib.hid (rb_put hS hX hI2 hRow hAp hz)
          obtain ⟨p0, p1, p2, p3, p4, pf⟩ := hX
          have hS2 := Lib.hid hfin.out.1.g
          clear hI2 hRow hAp hz
          refine anyL_one 10 rfl (by kernel_rfl) (fun K hK => ?_)
          go_simp
          refine hK.out _ _ (fun _ => hS) ?_
          clear hK K
          try simp only [Act.put, List.setIfInBounds_toArray, List.set_cons_zero, List.set_cons_succ]
          refine anyL_one 11 rfl (by kernel_rfl) (fun K hK => ?_)
          go_simp
          refine hK.out _ _ (fun _ => hS2.out) ?_
          clear hK K
          try simp only [Act.put, List.setIfInBounds_toArray, List.set_cons_zero, List.set_cons_succ]
          refine anyL_one 12 rfl (by kernel_rfl) (fun K hK => ?_)
          go_simp
          refine hK.out _ _ (fun _ => hS2.out) ?_
          clear hK K
          try simp only [Act.put, List.setIfInBounds_toArray, List.set_cons_zero, List.set_cons_succ]
          refine anyC_done (by kernel_rfl) ?_ _
          clear p0 p1 p2 p3 p4 pf hS hS2
          go_wp2_with fail
          go_meet
          exact ⟨s9, B1, d1, B2, d2, Al, cap, rfl, rfl, rfl, hfin.out⟩
        case refine_2 =>
          go_simp
          have ha := (Below.refl wax.heap.size wax).alloc (Nat.le_refl _) (.cells #[.int .i64 0, .slice none 0 0, .slice none 0 0, .int .i64 0, .int .i64 0] 58)
          have hX : BkAt (wax.alloc (.cells #[.int .i64 0, .slice none 0 0, .slice none 0 0, .int .i64 0, .int .i64 0] 58)) wax.heap.size none 0 none 0 noB := BkAt.new wax none 0 none 0 noB 58
          have hz : s7 < wax.heap.size := hS.lt
          have hS' : (fun W => RbG w s7 D Z B O A W) (wax.alloc (.cells #[.int .i64 0, .slice none 0 0, .slice none 0 0, .int .i64 0, .int .i64 0] 58)) := hS.below ha
          have hI' := hI.below ha
          clear hI
          have hI := hI'
          clear hI'
          have hzl : wax.heap.size < (wax.alloc (.cells #[.int .i64 0, .slice none 0 0, .slice none 0 0, .int .i64 0, .int .i64 0] 58)).heap.size := hX.lt
          generalize wax.alloc (.cells #[.int .i64 0, .slice none 0 0, .slice none 0 0, .int .i64 0, .int .i64 0] 58) = waxx at hS' hX hzl hI ⊢
          generalize wax.heap.size = s9 at hX hz hzl ⊢
          refine hK.out _ _ (fun _ => hS') ?_
          clear hK K hS ha
          have hS := hS'
          clear hS'
          try simp only [Act.put, List.setIfInBounds_toArray, List.set_cons_zero, List.set_cons_succ]
          refine anyL_one 4 rfl (by kernel_rfl) (fun K hK => ?_)
          go_simp
          refine (hbg.out waxx A1 c1 A2 c2 hI).mono ?_
          rintro e' waxxx ⟨B1, d1, B2, d2, Al, cap, rfl, hRow, hI2, hN, hb⟩
          have hS' : (fun W => RbG w s7 D Z B O A W) waxxx := hS.below hb
          have hAp := ap_old hN hRow hzl
          have hX' := hX.below hb
          clear hX hzl
          have hX := hX'
          clear hX'
          refine hK.out _ _ (fun _ => hS') ?_
          clear hK K hS hb hI hN
          have hS := hS'
          clear hS'
          try simp only [Act.put, List.setIfInBounds_toArray, List.set_cons_zero, List.set_cons_succ]
          refine anyL_take 5 (v := ?_) rfl (by kernel_rfl) (fun _ _ _ h => h) (Or.inl ⟨by rfl, ?_⟩) hS ?_
          rotate_left
          focus (intro W hW; go_simp; try with_reducible rfl)
          simp only [Act.put, List.setIfInBounds_toArray, List.set_cons_zero, List.set_cons_succ]
          refine anyL_take 6 (v := ?_) rfl (by kernel_rfl) (fun _ _ _ h => h) (Or.inl ⟨by rfl, ?_⟩) hS ?_
          rotate_left
          focus (intro W hW; go_simp; try with_reducible rfl)
          simp only [Act.put, List.setIfInBounds_toArray, List.set_cons_zero, List.set_cons_succ]
          refine anyL_take 7 (v := ?_) rfl (by kernel_rfl) (fun _ _ _ h => h) (Or.inl ⟨by rfl, ?_⟩) hS ?_
          rotate_left
          focus (intro W hW; go_simp; try with_reducible rfl)
          simp only [Act.put, List.setIfInBounds_toArray, List.set_cons_zero, List.set_cons_succ]
          refine anyL_take 8 (v := ?_) rfl (by kernel_rfl) (fun _ _ _ h => h) (Or.inl ⟨by rfl, ?_⟩) hS ?_
          rotate_left
          focus (intro W hW; go_simp; try with_reducible rfl)
          simp only [Act.put, List.setIfInBounds_toArray, List.set_cons_zero, List.set_cons_succ]
          have hfin := Lib.hid (rb_put hS hX hI2 hRow hAp hz)
          obtain ⟨p0, p1, p2, p3, p4, pf⟩ := hX
          have hS2 := Lib.hid hfin.out.1.g
          clear hI2 hRow hAp hz
          refine anyL_one 10 rfl (by kernel_rfl) (fun K hK => ?_)
          go_simp
          refine hK.out _ _ (fun _ => hS) ?_
          clear hK K
          try simp only [Act.put, List.setIfInBounds_toArray, List.set_cons_zero, List.set_cons_succ]
          refine anyL_one 11 rfl (by kernel_rfl) (fun K hK => ?_)
          go_simp
          refine hK.out _ _ (fun _ => hS2.out) ?_
          clear hK K
          try simp only [Act.put, List.setIfInBounds_toArray, List.set_cons_zero, List.set_cons_succ]
          refine anyL_one 12 rfl (by kernel_rfl) (fun K hK => ?_)
          go_simp
          refine hK.out _ _ (fun _ => hS2.out) ?_
          clear hK K
          try simp only [Act.put, List.setIfInBounds_toArray, List.set_cons_zero, List.set_cons_succ]
          refine anyC_done (by kernel_rfl) ?_ _
          clear p0 p1 p2 p3 p4 pf hS hS2
          go_wp2_with fail
          go_meet
          exact ⟨s9, B1, d1, B2, d2, Al, cap, rfl, rfl, rfl, hfin.out⟩
      case refine_2 =>
        go_simp
        have ha := (Below.refl wa.heap.size wa).alloc (Nat.le_refl _) (.cells #[.int .i64 0, .slice none 0 0, .slice none 0 0, .int .i64 0, .int .i64 0] 58)
        have hX : BkAt (wa.alloc (.cells #[.int .i64 0, .slice none 0 0, .slice none 0 0, .int .i64 0, .int .i64 0] 58)) wa.heap.size none 0 none 0 noB := BkAt.new wa none 0 none 0 noB 58
        have hz : s7 < wa.heap.size := hS.lt
        have hS' : (fun W => RbG w s7 D Z B O A W) (wa.alloc (.cells #[.int .i64 0, .slice none 0 0, .slice none 0 0, .int .i64 0, .int .i64 0] 58)) := hS.below ha
        have hzl : wa.heap.size < (wa.alloc (.cells #[.int .i64 0, .slice none 0 0, .slice none 0 0, .int .i64 0, .int .i64 0] 58)).heap.size := hX.lt
        generalize wa.alloc (.cells #[.int .i64 0, .slice none 0 0, .slice none 0 0, .int .i64 0, .int .i64 0] 58) = wax at hS' hX hzl ⊢
        generalize wa.heap.size = s9 at hX hz hzl ⊢
        refine hK.out _ _ (fun _ => hS') ?_
        clear hK K hS ha
        have hS := hS'
        clear hS'
        try simp only [Act.put, List.setIfInBounds_toArray, List.set_cons_zero, List.set_cons_succ]
        refine anyL_one 2 rfl (by kernel_rfl) (fun K hK => ?_)
        go_simp
        refine (hnw.out wax).mono ?_
        rintro e' waxx ⟨A1, c1, A2, c2, rfl, hO, hb⟩
        have hI := hO.in_
        have hS' : (fun W => RbG w s7 D Z B O A W) waxx := hS.below hb
        have hX' := hX.below hb
        have hzl' : s9 < waxx.heap.size := hX'.lt
        clear hX hzl
        have hX := hX'
        have hzl := hzl'
        clear hX' hzl'
        refine hK.out _ _ (fun _ => hS') ?_
        clear hK K hS hb hO
        have hS := hS'
        clear hS'
        try simp only [Act.put, List.setIfInBounds_toArray, List.set_cons_zero, List.set_cons_succ]
        refine anyL_one 4 rfl (by kernel_rfl) (fun K hK => ?_)
        go_simp
        refine (hbg.out waxx A1 c1 A2 c2 hI).mono ?_
        rintro e' waxxx ⟨B1, d1, B2, d2, Al, cap, rfl, hRow, hI2, hN, hb⟩
        have hS' : (fun W => RbG w s7 D Z B O A W) waxxx := hS.below hb
        have hAp := ap_old hN hRow hzl
        have hX' := hX.below hb
        clear hX hzl
        have hX := hX'
        clear hX'
        refine hK.out _ _ (fun _ => hS') ?_
        clear hK K hS hb hI hN
        have hS := hS'
        clear hS'
        try simp only [Act.put, List.setIfInBounds_toArray, List.set_cons_zero, List.set_cons_succ]
        refine anyL_take 5 (v := ?_) rfl (by kernel_rfl) (fun _ _ _ h => h) (Or.inl ⟨by rfl, ?_⟩) hS ?_
        rotate_left
        focus (intro W hW; go_simp; try with_reducible rfl)
        simp only [Act.put, List.setIfInBounds_toArray, List.set_cons_zero, List.set_cons_succ]
        refine anyL_take 6 (v := ?_) rfl (by kernel_rfl) (fun _ _ _ h => h) (Or.inl ⟨by rfl, ?_⟩) hS ?_
        rotate_left
        focus (intro W hW; go_simp; try with_reducible rfl)
        simp only [Act.put, List.setIfInBounds_toArray, List.set_cons_zero, List.set_cons_succ]
        refine anyL_take 7 (v := ?_) rfl (by kernel_rfl) (fun _ _ _ h => h) (Or.inl ⟨by rfl, ?_⟩) hS ?_
        rotate_left
        focus (intro W hW; go_simp; try with_reducible rfl)
        simp only [Act.put, List.setIfInBounds_toArray, List.set_cons_zero, List.set_cons_succ]
        refine anyL_take 8 (v := ?_) rfl (by kernel_rfl) (fun _ _ _ h => h) (Or.inl ⟨by rfl, ?_⟩) hS ?_
        rotate_left
        focus (intro W hW; go_simp; try with_reducible rfl)
        simp only [Act.put, List.setIfInBounds_toArray, List.set_cons_zero, List.set_cons_succ]
        have hfin := Lib.hid (rb_put hS hX hI2 hRow hAp hz)
        obtain ⟨p0, p1, p2, p3, p4, pf⟩ := hX
        have hS2 := Lib.hid hfin.out.1.g
        clear hI2 hRow hAp hz
        refine anyL_one 10 rfl (by kernel_rfl) (fun K hK => ?_)
        go_simp
        refine hK.out _ _ (fun _ => hS) ?_
        clear hK K
        try simp only [Act.put, List.setIfInBounds_toArray, List.set_cons_zero, List.set_cons_succ]
        refine anyL_one 11 rfl (by kernel_rfl) (fun K hK => ?_)
        go_simp
        refine hK.out _ _ (fun _ => hS2.out) ?_
        clear hK K
        try simp only [Act.put, List.setIfInBounds_toArray, List.set_cons_zero, List.set_cons_succ]
        refine anyL_one 12 rfl (by kernel_rfl) (fun K hK => ?_)
        go_simp
        refine hK.out _ _ (fun _ => hS2.out) ?_
        clear hK K
        try simp only [Act.put, List.setIfInBounds_toArray, List.set_cons_zero, List.set_cons_succ]
        refine anyC_done (by kernel_rfl) ?_ _
        clear p0 p1 p2 p3 p4 pf hS hS2
        go_wp2_with fail
        go_meet
        exact ⟨s9, B1, d1, B2, d2, Al, cap, rfl, rfl, rfl, hfin.out⟩
    case rest =>
      obtain ⟨s9, B1, d1, B2, d2, Al, cap, rfl, rfl, rfl, hW, hL⟩ := hcut
      have hGH := Lib.hid hW.g
      have hLH := Lib.hid hL
      clear hW hS hbg hne hnl hL
      obtain ⟨c0, c1, c2, c3, c4, _⟩ := hGH.out.2.1
      go_wp2_with fail
      (with_reducible refine (hnw.out _).mono ?_)
      rintro e w3 ⟨C1, e1, C2, e2, rfl, hO, hb3⟩
      have hX := BkAt.new w3 C1 e1 C2 e2 b0 58
      have ha := (Below.refl w3.heap.size w3).alloc (Nat.le_refl _) (.cells #[.int .i64 b0.q, .slice C1 b0.zs.length e1, .slice C2 b0.ms.length e2, .int .i64 b0.sl, .int .i64 b0.cu] 58)
      have hlne : ll ≠ [] := fun h => by have h1 := hlt.out; rw [h] at h1; cases h1
      have h3 := Lib.hid (⟨⟨(hGH.out.below hb3).below ha, hX, hO.in_.below ha, (hGH.out.below hb3).lt⟩, (hLH.out.below hb3).below ha, recs_lt (hLH.out.below hb3) hlne (Nat.le_refl _)⟩ : HfW w _ s7 w3.heap.size D Z B O A C1 e1 C2 e2 b0 Al ll)
      clear hGH hLH hb3 hO hX ha hnw c0 c1 c2 c3 c4 hlne
      go_upto_region 11 with fail
      generalize w3.heap.size = s11 at h3 ⊢
      refine fresh_world (fun W => HfW w W s7 s11 D Z B O A C1 e1 C2 e2 b0 Al ll) h3.out ?_
      clear h3
      rintro w4 h4
      have h4H := Lib.hid h4
      clear h4
      obtain ⟨t2, c, y1, y2, y3, y4, y5, y6, y7, y8, y9⟩ := mod_more16 a2 (m := 3) (by omega) (by omega)
      have z1 : IntKind.i64.wrap (t2 + 2) = t2 + 2 := IntWalk.i64_in _ (by have := Int.tmod_lt_of_pos a2 (show (0 : Int) < 3 by omega); have := Int.lt_tmod_of_pos a2 (show (0 : Int) < 3 by omega); omega)
      have z2 : IntKind.i64.wrap (t2 + 2 + 1) = t2 + 2 + 1 := IntWalk.i64_in _ (by have := Int.tmod_lt_of_pos a2 (show (0 : Int) < 3 by omega); have := Int.lt_tmod_of_pos a2 (show (0 : Int) < 3 by omega); omega)
      have z3 : (t2 + 2 + 1).tmod 3 = (c : Int) := by rw [show t2 + 2 + 1 = t2 + 3 by omega]; exact y2
      have hc3 : c < 3 := by omega
      go_upto_region 12 with fail
      clear y1 y2 y3 y4 y5 y6 y7 y8 y9 z1 z2 z3
      go_wp2_with fail
      go_loopw [13] (fun i wr => ∃ (k : Nat) (C1 : Option Addr) (e1 : Nat) (C2 : Option Addr) (e2 : Nat), k ≤ c ∧ i = .int .i64 (k : Int) ∧ Hid (HfW w wr s7 s11 D Z B O A C1 e1 C2 e2 (stB b0 xs k) Al ll)) (fun i _ => c - (intOf i).toNat)
      case atStart => exact ⟨0, C1, e1, C2, e2, Nat.zero_le _, rfl, by rw [hst0.out]; exact h4H⟩
      case round =>
        clear h4H
        obtain ⟨k, C1, e1, C2, e2, hk, rfl, hW⟩ := hrel
        by_cases hlt2 : k < c
        case pos =>
          have hkw : IntKind.i64.wrap ((k : Int) + 1) = (k : Int) + 1 := IntWalk.i64_in _ (by omega)
          have hkl : k < ll.length := by rw [hlt.out]; omega
          have hk2 : (k : Int) < 2 := by omega
          obtain ⟨g, off, rfl, hgl, x0, x1, x2, x3, x4, x5, x6⟩ := hW.out.l.at_ hkl
          have hgb : ll[k] = ll[k]! := (getElem!_pos ll k hkl).symm
          have hn := hnx2.out k (by omega)
          have hs1 := hstS.out k
          rw [← hn, ← hgb] at hs1
          have hs1H := Lib.hid hs1
          have hSS : (fun W' => BkAt W' s11 C1 e1 C2 e2 (stB b0 xs k) ∧ Lst W' g (off + k * 7) ll[k]) wr.drew := ⟨hW.out.r.k.below (Below.refl _ _).drew, x0, x1, x2, x3, x4, x5, x6⟩
          have hWd := Lib.hid (hW.out.below (Below.refl _ _).drew)
          clear hgb hn hs1 x0 x1 x2 x3 x4 x5 x6 hW
          generalize ll[k] = x at hs1H hSS
          generalize hbk : stB b0 xs k = bk at hs1H hSS hWd
          clear hbk
          have hgd : g < wr.drew.heap.size := hgl
          clear hgl
          go_upto_region 15 with fail
          have hsl : Hid (s11 < wr.drew.heap.size) := Lib.hid hWd.out.r.k.lt
          have hnote := Lib.hid (note_any wr.drew C1 e1 C2 e2 bk x hWd.out.r.i)
          refine region_anyC (fun i => decide (i < 5)) (fun W' => BkAt W' s11 C1 e1 C2 e2 bk ∧ Lst W' g (off + k * 7) x) (by kernel_rfl) ?_
          generalize wr.drew = wd at hSS hWd hgd hsl hnote ⊢
          refine anyL_take 0 (v := ?_) rfl (by kernel_rfl) (fun _ _ _ h => h) (Or.inl ⟨by rfl, ?_⟩) hSS ?_
          rotate_left
          focus (intro W hW; obtain ⟨⟨f0, f1, f2, f3, f4, _⟩, _⟩ := hW; go_simp; try with_reducible rfl)
          simp only [Act.put, List.setIfInBounds_toArray, List.set_cons_zero, List.set_cons_succ]
          refine anyL_take 1 (v := ?_) rfl (by kernel_rfl) (fun _ _ _ h => h) (Or.inl ⟨by rfl, ?_⟩) hSS ?_
          rotate_left
          focus (intro W hW; go_simp; try with_reducible rfl)
          simp only [Act.put, List.setIfInBounds_toArray, List.set_cons_zero, List.set_cons_succ]
          refine anyL_take 2 (v := ?_) rfl (by kernel_rfl) (fun _ _ _ h => h) (Or.inl ⟨by rfl, ?_⟩) hSS ?_
          rotate_left
          focus (intro W hW; go_simp; try with_reducible rfl)
          simp only [Act.put, List.setIfInBounds_toArray, List.set_cons_zero, List.set_cons_succ]
          refine anyL_take 3 (v := ?_) rfl (by kernel_rfl) (fun _ _ _ h => h) (Or.inl ⟨by rfl, ?_⟩) hSS ?_
          rotate_left
          focus (intro W hW; go_simp; try with_reducible rfl)
          simp only [Act.put, List.setIfInBounds_toArray, List.set_cons_zero, List.set_cons_succ]
          refine anyL_take 4 (v := ?_) rfl (by kernel_rfl) (fun _ _ _ h => h) (Or.inl ⟨by rfl, ?_⟩) hSS ?_
          rotate_left
          focus (intro W hW; obtain ⟨_, f0, f1, f2, f3, f4, f5, f6⟩ := hW; go_simp; try with_reducible rfl)
          simp only [Act.put, List.setIfInBounds_toArray, List.set_cons_zero, List.set_cons_succ]
          refine anyL_one 5 rfl (by kernel_rfl) (fun K hK => ?_)
          go_simp
          refine hnote.out.mono ?_
          rintro e' w6 ⟨N1, n1, N2, n2, rfl, hO, hb6⟩
          refine hK.out _ _ (fun h => absurd h (by decide)) ?_
          clear hK K hnote
          try simp only [Act.put, List.setIfInBounds_toArray, List.set_cons_zero, List.set_cons_succ]
          have hW6 := hWd.out.below hb6
          have hput := Lib.hid (hW6.put hO.in_ (NewB.of hO (Nat.le_refl _)) hsl.out)
          rw [← hs1H.out] at hput
          obtain ⟨k0, k1, k2, k3, k4, kf⟩ := hW6.r.k
          clear hO hb6 hW6 hSS
          refine anyL_one 6 rfl (by kernel_rfl) (fun K hK => ?_)
          go_simp
          refine hK.out _ _ (fun h => absurd h (by decide)) ?_
          clear hK K
          try simp only [Act.put, List.setIfInBounds_toArray, List.set_cons_zero, List.set_cons_succ]
          refine anyC_done (by kernel_rfl) ?_ _
          clear k0 k1 k2 k3 k4 kf
          go_wp2_with fail
          go_roundw
          case rel => exact ⟨k + 1, N1, n1, N2, n2, by omega, by go_num, Lib.hid (by rw [hs1H.out]; rw [hs1H.out] at hput; exact hput.out)⟩
          case measure => simp only [intOf]; omega
        case neg =>
          obtain rfl : k = c := by omega
          have hnlt : ¬ (k : Int) < (k : Int) := by omega
          obtain ⟨hml, hq0, hq1, hcase⟩ := hxl.out k hc3
          have hqH := Lib.hid (And.intro hq0 hq1)
          have hmlH := Lib.hid hml
          clear hq0 hq1 hml hxl hnx2 hstS hst0 hlt
          generalize stB b0 xs k = bc at hW hcase hqH hmlH
          clear hlt2 hk
          have hsm2 : s < bc.ms.length := by rw [hmlH.out]; exact hsm
          have hsl1 : (s : Int) < (bc.ms.length : Int) := by omega
          obtain ⟨gm, offm, hgm, hgml, hcell⟩ := hW.out.r.i.m.at_ hsm2
          have hgb : bc.ms[s] = bc.ms[s]! := (getElem!_pos bc.ms s hsm2).symm
          have hgq : bc.ms[s]? = some bc.ms[s] := List.getElem?_eq_getElem hsm2
          subst hgm
          rcases hcase with ⟨hnb, hnd, hat⟩ | ⟨hbusy, hat, hsl, hhas⟩
          case inl =>
            rw [hgq] at hat
            have hval : bc.ms[s] = (s : Int) := by injection hat
            have hcell2 : wr.cell? ⟨gm, offm + s, none⟩ = some (.int .i64 (s : Int)) := hcell.trans (by rw [← hval])
            have hne : ((s : Int) == D) = false := by have := hDH.out; simp; omega
            have hbg := Lib.hid (fun W A1 c1 A2 c2 (h : BkIn W A1 c1 A2 c2 bc) => beg_ok W D Z B O A A1 c1 A2 c2 bc s h hqH.out hgH.out (by rw [hmlH.out]; exact hDH.out.symm) hsm2 hnb hnd)
            have hms2 : Hid ((begB bc D s).ms[s]? = some D ∧ (begB bc D s).ms.length = bc.ms.length ∧ (begB bc D s).sl = (s : Int) ∧ hasB (begB bc D s) (s : Int) 2 = false) := Lib.hid ⟨List.getElem?_set_self hsm2, by show (bc.ms.set s D).length = _; rw [List.length_set], rfl, decide_eq_false (by
              rintro ⟨_, _, h | h⟩
              · exact h rfl
              · exact absurd (show (2 : Int) < 2 from h) (by decide))⟩
            clear hgb hgq hat hval hcell hnb hnd
            have g0 := hW.out.r.g.1.1
            have hgl := hW.out.r.g.1.2.2.2.2.2
            have k2 := hW.out.r.k.c2
            have hkl := hW.out.r.k.lt
            go_upto_region 16 with fail
            go_quiet (fail)
            go_upto_region 17 with fail
            refine fresh_world (fun W => RbW w W s7 s11 D Z B O A C1 e1 (some ⟨gm, offm, none⟩) e2 bc) (hW.out.r.below (below_drewN (Below.refl _ wr) _)) ?_
            clear hW g0 hgl k2 hkl hcell2 hgml
            rintro w8 h8
            have h8H := Lib.hid h8
            obtain ⟨k0, k1, k2, k3, k4, kf⟩ := h8.k
            obtain ⟨c0, c1, c2, c3, c4, _⟩ := h8.g.2.1
            have hbc := Lib.hid (hbg.out w8 C1 e1 (some ⟨gm, offm, none⟩) e2 h8.i)
            clear h8 hbg
            go_wp2_with fail
            (with_reducible refine hbc.out.mono ?_)
            rintro e w9 ⟨E1, f1, E2, f2, Ax, cx, rfl, _, hI9, hN9, hb9⟩
            have h9 := h8H.out.below hb9
            generalize begB bc D s = bz at hI9 hms2 ⊢
            have hX := BkAt.new w9 E1 f1 E2 f2 bz 58
            have ha := (Below.refl w9.heap.size w9).alloc (Nat.le_refl _) (.cells #[.int .i64 bz.q, .slice E1 bz.zs.length f1, .slice E2 bz.ms.length f2, .int .i64 bz.sl, .int .i64 bz.cu] 58)
            have hfin := Lib.hid (⟨h9.g.below ha, hX, hI9.below ha, h9.g.lt⟩ : RbW w _ s7 w9.heap.size D Z B O A E1 f1 E2 f2 bz)
            clear h9 hb9 hX ha hI9 hN9 hbc h8H k0 k1 k2 k3 k4 kf c0 c1 c2 c3 c4
            go_upto_region 22 with fail
            generalize w9.heap.size = s16 at hfin ⊢
            refine fresh_world (fun W => RbW w W s7 s16 D Z B O A E1 f1 E2 f2 bz) hfin.out ?_
            clear hfin
            rintro wA hA
            have hml2 := hms2.out.2.1
            have hsmz : s < bz.ms.length := by rw [hml2]; exact hsm2
            have hsl2 : (s : Int) < (bz.ms.length : Int) := by omega
            obtain ⟨gz, offz, hgz, hgzl, hcz⟩ := hA.i.m.at_ hsmz
            have hatz := hms2.out.1
            rw [List.getElem?_eq_getElem hsmz] at hatz
            have hvz : bz.ms[s] = D := by injection hatz
            have hcz2 : wA.cell? ⟨gz, offz + s, none⟩ = some (.int .i64 D) := hcz.trans (by rw [← hvz])
            subst hgz
            have hslz := Lib.hid hms2.out.2.2.1
            have hhs := Lib.hid (fun W => has_anyB W E1 f1 (some ⟨gz, offz, none⟩) f2 bz (s : Int) 2)
            rw [hms2.out.2.2.2, hslz.out] at hhs
            have hSA : (fun W' => (GeoAt W' w.heap.size D Z B O A ∧ BkAt W' s16 E1 f1 (some ⟨gz, offz, none⟩) f2 bz) ∧ W'.cell? ⟨gz, offz + s, none⟩ = some (.int .i64 D)) wA.drew := ⟨⟨hA.g.1.below (Below.refl _ _).drew, hA.k.below (Below.refl _ _).drew⟩, hcz2⟩
            have hFA := Lib.hid (hA.g.2.2.1.trans (show Below w.heap.size wA wA.drew from (Below.refl _ _).drew))
            have hsz := hA.g.2.2.1.size
            clear hA hgzl hcz hatz hvz hcz2 hml2 hms2 hsm2
            refine region_anyC (fun _ => true) (fun W' => (GeoAt W' w.heap.size D Z B O A ∧ BkAt W' s16 E1 f1 (some ⟨gz, offz, none⟩) f2 bz) ∧ W'.cell? ⟨gz, offz + s, none⟩ = some (.int .i64 D)) (by kernel_rfl) ?_
            generalize wA.drew = wd at hSA hFA ⊢
            refine anyL_take 0 (v := ?_) rfl (by kernel_rfl) (fun _ _ _ h => h) (Or.inl ⟨by rfl, ?_⟩) hSA ?_
            rotate_left
            focus (intro W hW; go_simp; try with_reducible rfl)
            simp only [Act.put, List.setIfInBounds_toArray, List.set_cons_zero, List.set_cons_succ]
            refine anyL_take 1 (v := ?_) rfl (by kernel_rfl) (fun _ _ _ h => h) (Or.inl ⟨by rfl, ?_⟩) hSA ?_
            rotate_left
            focus (intro W hW; go_simp; try with_reducible rfl)
            simp only [Act.put, List.setIfInBounds_toArray, List.set_cons_zero, List.set_cons_succ]
            refine anyL_take 2 (v := ?_) rfl (by kernel_rfl) (fun _ _ _ h => h) (Or.inl ⟨by rfl, ?_⟩) hSA ?_
            rotate_left
            focus (intro W hW; go_simp; try with_reducible rfl)
            simp only [Act.put, List.setIfInBounds_toArray, List.set_cons_zero, List.set_cons_succ]
            refine anyL_take 3 (v := ?_) rfl (by kernel_rfl) (fun _ _ _ h => h) (Or.inl ⟨by rfl, ?_⟩) hSA ?_
            rotate_left
            focus (intro W hW; go_simp; try with_reducible rfl)
            simp only [Act.put, List.setIfInBounds_toArray, List.set_cons_zero, List.set_cons_succ]
            refine anyL_take 4 (v := ?_) rfl (by kernel_rfl) (fun _ _ _ h => h) (Or.inl ⟨by rfl, ?_⟩) hSA ?_
            rotate_left
            focus (intro W hW; obtain ⟨⟨⟨g0, g1, g2, g3, g4, _⟩, ⟨f0, f1', f2', f3, f4, _⟩⟩, hcz⟩ := hW; rw [hslz.out] at f3; go_simp; try with_reducible rfl)
            simp only [Act.put, List.setIfInBounds_toArray, List.set_cons_zero, List.set_cons_succ]
            refine anyL_take 5 (v := ?_) rfl (by kernel_rfl) (fun _ _ _ h => h) (Or.inl ⟨by rfl, ?_⟩) hSA ?_
            rotate_left
            focus (intro W hW; go_simp; try with_reducible rfl)
            simp only [Act.put, List.setIfInBounds_toArray, List.set_cons_zero, List.set_cons_succ]
            refine anyL_take 6 (v := ?_) rfl (by kernel_rfl) (fun _ _ _ h => h) (Or.inl ⟨by rfl, ?_⟩) hSA ?_
            rotate_left
            focus (intro W hW; go_simp; try with_reducible rfl)
            simp only [Act.put, List.setIfInBounds_toArray, List.set_cons_zero, List.set_cons_succ]
            refine anyL_take 7 (v := ?_) rfl (by kernel_rfl) (fun _ _ _ h => h) (Or.inl ⟨by rfl, ?_⟩) hSA ?_
            rotate_left
            focus (intro W hW; go_simp; try with_reducible rfl)
            simp only [Act.put, List.setIfInBounds_toArray, List.set_cons_zero, List.set_cons_succ]
            refine anyL_take 8 (v := ?_) rfl (by kernel_rfl) (fun _ _ _ h => h) (Or.inl ⟨by rfl, ?_⟩) hSA ?_
            rotate_left
            focus (intro W hW; go_simp; try with_reducible rfl)
            simp only [Act.put, List.setIfInBounds_toArray, List.set_cons_zero, List.set_cons_succ]
            refine anyL_take 9 (v := ?_) rfl (by kernel_rfl) (fun _ _ _ h => h) (Or.inl ⟨by rfl, ?_⟩) hSA ?_
            rotate_left
            focus (intro W hW; go_simp; try with_reducible rfl)
            simp only [Act.put, List.setIfInBounds_toArray, List.set_cons_zero, List.set_cons_succ]
            refine anyL_take 10 (v := ?_) rfl (by kernel_rfl) (fun _ _ _ h => h) (Or.inl ⟨by rfl, ?_⟩) hSA ?_
            rotate_left
            focus (intro W hW; obtain ⟨⟨⟨g0, g1, g2, g3, g4, _⟩, ⟨f0, f1', f2', f3, f4, _⟩⟩, hcz⟩ := hW; rw [hslz.out] at f3; go_simp; try with_reducible rfl)
            simp only [Act.put, List.setIfInBounds_toArray, List.set_cons_zero, List.set_cons_succ]
            refine anyL_take 11 (v := ?_) rfl (by kernel_rfl) (fun _ _ _ h => h) (Or.inl ⟨by rfl, ?_⟩) hSA ?_
            rotate_left
            focus (intro W hW; go_simp; try with_reducible rfl)
            simp only [Act.put, List.setIfInBounds_toArray, List.set_cons_zero, List.set_cons_succ]
            refine anyL_take 12 (v := ?_) rfl (by kernel_rfl) (fun _ _ _ h => h) (Or.inl ⟨by rfl, ?_⟩) hSA ?_
            rotate_left
            focus (intro W hW; go_simp; try with_reducible rfl)
            simp only [Act.put, List.setIfInBounds_toArray, List.set_cons_zero, List.set_cons_succ]
            refine anyL_take 13 (v := ?_) rfl (by kernel_rfl) (fun _ _ _ h => h) (Or.inl ⟨by rfl, ?_⟩) hSA ?_
            rotate_left
            focus (intro W hW; obtain ⟨⟨⟨g0, g1, g2, g3, g4, _⟩, ⟨f0, f1', f2', f3, f4, _⟩⟩, hcz⟩ := hW; rw [hslz.out] at f3; go_simp; try with_reducible rfl)
            simp only [Act.put, List.setIfInBounds_toArray, List.set_cons_zero, List.set_cons_succ]
            refine anyL_take 14 (v := ?_) rfl (by kernel_rfl) (fun _ _ _ h => h) (Or.inl ⟨by rfl, ?_⟩) hSA ?_
            rotate_left
            focus (intro W hW; go_simp; try with_reducible rfl)
            simp only [Act.put, List.setIfInBounds_toArray, List.set_cons_zero, List.set_cons_succ]
            refine anyL_take 15 (v := ?_) rfl (by kernel_rfl) (fun _ _ _ h => h) (Or.inl ⟨by rfl, ?_⟩) hSA ?_
            rotate_left
            focus (intro W hW; obtain ⟨⟨⟨g0, g1, g2, g3, g4, _⟩, ⟨f0, f1', f2', f3, f4, _⟩⟩, hcz⟩ := hW; rw [hslz.out] at f3; go_simp; try with_reducible rfl)
            simp only [Act.put, List.setIfInBounds_toArray, List.set_cons_zero, List.set_cons_succ]
            refine anyL_take 16 (v := ?_) rfl (by kernel_rfl) (fun _ _ _ h => h) (Or.inl ⟨by rfl, ?_⟩) hSA ?_
            rotate_left
            focus (intro W hW; go_simp; try with_reducible rfl)
            simp only [Act.put, List.setIfInBounds_toArray, List.set_cons_zero, List.set_cons_succ]
            refine anyL_take 17 (v := ?_) rfl (by kernel_rfl) (fun _ _ _ h => h) (Or.inl ⟨by rfl, ?_⟩) hSA ?_
            rotate_left
            focus (intro W hW; go_simp; try with_reducible rfl)
            simp only [Act.put, List.setIfInBounds_toArray, List.set_cons_zero, List.set_cons_succ]
            refine anyL_take 18 (v := ?_) rfl (by kernel_rfl) (fun _ _ _ h => h) (Or.inl ⟨by rfl, ?_⟩) hSA ?_
            rotate_left
            focus (intro W hW; go_simp; try with_reducible rfl)
            simp only [Act.put, List.setIfInBounds_toArray, List.set_cons_zero, List.set_cons_succ]
            refine anyL_take 19 (v := ?_) rfl (by kernel_rfl) (fun _ _ _ h => h) (Or.inl ⟨by rfl, ?_⟩) hSA ?_
            rotate_left
            focus (intro W hW; obtain ⟨⟨⟨g0, g1, g2, g3, g4, _⟩, ⟨f0, f1', f2', f3, f4, _⟩⟩, hcz⟩ := hW; rw [hslz.out] at f3; go_simp; try with_reducible rfl)
            simp only [Act.put, List.setIfInBounds_toArray, List.set_cons_zero, List.set_cons_succ]
            refine anyL_take 20 (v := ?_) rfl (by kernel_rfl) (fun _ _ _ h => h) (Or.inl ⟨by rfl, ?_⟩) hSA ?_
            rotate_left
            focus (intro W hW; go_simp; try with_reducible rfl)
            simp only [Act.put, List.setIfInBounds_toArray, List.set_cons_zero, List.set_cons_succ]
            refine anyL_one 21 rfl (by kernel_rfl) (fun K hK => ?_)
            go_simp
            (with_reducible refine (hhs.out _).mono ?_)
            rintro e' wB ⟨rfl, hbB⟩
            have hSB : (fun W' => (GeoAt W' w.heap.size D Z B O A ∧ BkAt W' s16 E1 f1 (some ⟨gz, offz, none⟩) f2 bz) ∧ W'.cell? ⟨gz, offz + s, none⟩ = some (.int .i64 D)) wB := ⟨⟨hSA.1.1.below hbB, hSA.1.2.below hbB⟩, (hbB.cell (lt_of_cell hSA.2)).trans hSA.2⟩
            have hFB := Lib.hid (bmore hFA.out hbB)
            refine hK.out _ _ (fun _ => hSB) ?_
            clear hK K hSA hbB hFA
            try simp only [Act.put, List.setIfInBounds_toArray, List.set_cons_zero, List.set_cons_succ]
            refine anyL_take 22 (v := ?_) rfl (by kernel_rfl) (fun _ _ _ h => h) (Or.inl ⟨by rfl, ?_⟩) hSB ?_
            rotate_left
            focus (intro W hW; go_simp; try with_reducible rfl)
            simp only [Act.put, List.setIfInBounds_toArray, List.set_cons_zero, List.set_cons_succ]
            refine anyL_take 23 (v := ?_) rfl (by kernel_rfl) (fun _ _ _ h => h) (Or.inl ⟨by rfl, ?_⟩) hSB ?_
            rotate_left
            focus (intro W hW; go_simp; try with_reducible rfl)
            simp only [Act.put, List.setIfInBounds_toArray, List.set_cons_zero, List.set_cons_succ]
            refine anyL_one 24 rfl (by kernel_rfl) (fun K hK => ?_)
            go_simp
            refine hK.out _ _ (fun _ => hSB) ?_
            clear hK K
            try simp only [Act.put, List.setIfInBounds_toArray, List.set_cons_zero, List.set_cons_succ]
            refine anyC_done (by kernel_rfl) ?_ _
            clear hSB
            go_wp2_with fail
            go_ret
            exact ⟨rfl, hFB.out⟩
          case inr =>
            rw [hgq] at hat
            have hval : bc.ms[s] = D := by injection hat
            have hcell2 : wr.cell? ⟨gm, offm + s, none⟩ = some (.int .i64 D) := hcell.trans (by rw [← hval])
            have hbg := Lib.hid (fun W A1 c1 A2 c2 (h : BkIn W A1 c1 A2 c2 bc) => beg_bsy W D Z B O A A1 c1 A2 c2 bc s h hqH.out hgH.out (by rw [hmlH.out]; exact hDH.out.symm) hsm2 hbusy)
            clear hgb hgq hat hval hcell hbusy
            have g0 := hW.out.r.g.1.1
            have hgl := hW.out.r.g.1.2.2.2.2.2
            have k2 := hW.out.r.k.c2
            have hkl := hW.out.r.k.lt
            go_upto_region 16 with fail
            go_quiet (fail)
            go_upto_region 17 with fail
            refine fresh_world (fun W => RbW w W s7 s11 D Z B O A C1 e1 (some ⟨gm, offm, none⟩) e2 bc) (hW.out.r.below (below_drewN (Below.refl _ wr) _)) ?_
            clear hW g0 hgl k2 hkl hcell2 hgml
            rintro w8 h8
            have h8H := Lib.hid h8
            obtain ⟨k0, k1, k2, k3, k4, kf⟩ := h8.k
            obtain ⟨c0, c1, c2, c3, c4, _⟩ := h8.g.2.1
            have hbc := Lib.hid (fun W (hb : Below w8.heap.size w8 W) => hbg.out W C1 e1 (some ⟨gm, offm, none⟩) e2 (h8H.out.i.below hb))
            rw [hsl] at k3
            have hsne : ((s : Int) != (s : Int)) = false := by simp
            have hhs := Lib.hid (fun W => has_anyB W C1 e1 (some ⟨gm, offm, none⟩) e2 bc (s : Int) 2)
            rw [hhas, hsl] at hhs
            rw [hsl] at hbc
            clear h8 hbg hhas
            go_wp2_with fail
            (with_reducible refine (hhs.out _).mono ?_)
            rintro e w9 ⟨rfl, hb9⟩
            have h9 := h8H.out.below hb9
            have hbd := Lib.hid (hbc.out w9 hb9)
            clear hbc hb9 hhs h8H k0 k1 k2 k3 k4 kf c0 c1 c2 c3 c4
            obtain ⟨k0, k1, k2, k3, k4, kf⟩ := h9.k
            rw [hsl] at k3
            obtain ⟨c0, c1, c2, c3, c4, _⟩ := h9.g.2.1
            have h9H := Lib.hid h9.g.2.2.1
            clear h9
            go_wp2_with fail
            (with_reducible refine hbd.out.mono ?_)
            rintro e wA ⟨E1, f1, E2, f2, Ax, cx, rfl, hbA⟩
            have hF := Lib.hid ((bmore h9H.out hbA).alloc (bmore h9H.out hbA).size (.cells #[.int .i64 0, .slice E1 0 f1, .slice E2 0 f2, .int .i64 0, .int .i64 0] 58))
            clear hbd hbA h9H k0 k1 k2 k3 k4 kf c0 c1 c2 c3 c4
            go_wp2_with fail
            go_ret
            exact ⟨rfl, hF.out⟩
end Go.Proofs.Ytdjdldcpaidmnaa
