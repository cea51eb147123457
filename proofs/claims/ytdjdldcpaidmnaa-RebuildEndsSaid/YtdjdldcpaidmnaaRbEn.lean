/- RebuildEnds: the walk. -/
import Derived.Test.YtdjdldcpaidmnaaRbL
import Derived.Test.YtdjdldcpaidmnaaRbE
import Derived.Test.YtdjdldcpaidmnaaNBf
namespace Go.Proofs.Ytdjdldcpaidmnaa
open Go.RowKit Rec Bk Rb

theorem beg_spent (w : World) (D Z B O A : Int) (A1 : Option Addr) (c1 : Nat) (A2 : Option Addr) (c2 : Nat) (b : Bo) (s : Nat) (h : BkIn w A1 c1 A2 c2 b) (hq : 0 ≤ b.q ∧ b.q ≤ 4611686018427387904) (hG : goodB D Z B O A = true) (hm : (b.ms.length : Int) = D) (hs : s < b.ms.length) (hn : ¬ Busy b D s) (hd : D ∈ b.ms) :
    Calls Try.prog 21 #[.agg #[.int .i64 D, .int .i64 Z, .int .i64 B, .int .i64 O, .int .i64 A], .agg #[.int .i64 b.q, .slice A1 b.zs.length c1, .slice A2 b.ms.length c2, .int .i64 b.sl, .int .i64 b.cu], .int .i64 (s : Int)] w
      fun e w' => ∃ (B1 : Option Addr) (d1 : Nat) (B2 : Option Addr) (d2 : Nat) (Al : Option Addr) (cap : Nat), e = .returned (.tuple #[.slice Al 0 cap, .agg #[.int .i64 0, .slice B1 0 d1, .slice B2 0 d2, .int .i64 0, .int .i64 0], .int .i64 13]) ∧ Below w.heap.size w w' := by
  refine (begin_any w D Z B O A A1 c1 A2 c2 b s h hq hG hm hs).mono ?_
  rintro e w' ⟨code, L, b', B1, d1, B2, d2, Al, cap, rfl, hR, hRow, hI2, hN, hb⟩
  obtain ⟨rfl, rfl, rfl⟩ := beg_none hR hn hd
  exact ⟨B1, d1, B2, d2, Al, cap, rfl, hb⟩
/-- A book in its box, a row of numbers beside it. -/
structure EnW (w W : World) (s7 s8 base : Nat) (D Z B O A : Int) (C1 : Option Addr) (e1 : Nat) (C2 : Option Addr) (e2 : Nat) (b : Bo) (As : Option Addr) (caps : Nat) (q : List Int) : Prop where
  r : RbW w W s7 s8 D Z B O A C1 e1 C2 e2 b
  n : NRow W base As caps q
  ap : ∀ g, As = some ⟨g, 0, none⟩ → (∀ g' off, C1 = some ⟨g', off, none⟩ → g' ≠ g) ∧ ∀ g' off, C2 = some ⟨g', off, none⟩ → g' ≠ g
  lt : s8 < base
  le : base ≤ W.heap.size
theorem EnW.below {w W W' : World} {s7 s8 base : Nat} {D Z B O A : Int} {C1 C2 As : Option Addr} {e1 e2 caps : Nat} {b : Bo} {q : List Int} (h : EnW w W s7 s8 base D Z B O A C1 e1 C2 e2 b As caps q) (hb : Below W.heap.size W W') : EnW w W' s7 s8 base D Z B O A C1 e1 C2 e2 b As caps q := ⟨h.r.below hb, h.n.below hb, h.ap, h.lt, Nat.le_trans h.le hb.size⟩
theorem EnW.app {w W : World} {s7 s8 base : Nat} {D Z B O A : Int} {C1 C2 As : Option Addr} {e1 e2 caps : Nat} {b : Bo} {q : List Int} (h : EnW w W s7 s8 base D Z B O A C1 e1 C2 e2 b As caps q) (hz : b.zs ≠ []) (hm : b.ms ≠ []) {m : Nat} {z : Int} (hc : W.cell? ⟨m, 0, none⟩ = some (.int .i64 z)) (hl : q.length ≤ 1000000) :
    ∃ A' cap' W', (Builtin.append_ #[26, 26] 26 #[.slice As q.length caps, .slice (some ⟨m, 0, none⟩) 1 1]).run Try.prog W = .ok (.slice A' (q.length + 1) cap') W' ∧ EnW w W' s7 s8 base D Z B O A C1 e1 C2 e2 b A' cap' (q ++ [z]) := by
  obtain ⟨A', cap', W', h1, h2, h3, h4⟩ := h.n.append hc hl h.le
  have hbl := h.n.grown h3 h.le
  have hlt := h.lt
  have hlt2 := h.r.lt
  have hoff1 : ∀ g off, C1 = some ⟨g, off, none⟩ → g < W.heap.size := fun g off e => by
    rcases h.r.i.z with h0 | ⟨g', off', e', hl', _⟩
    · exact absurd h0 hz
    · rw [e] at e'; injection e' with e'; injection e' with e'; omega
  have hoff2 : ∀ g off, C2 = some ⟨g, off, none⟩ → g < W.heap.size := fun g off e => by
    rcases h.r.i.m with h0 | ⟨g', off', e', hl', _⟩
    · exact absurd h0 hm
    · rw [e] at e'; injection e' with e'; injection e' with e'; omega
  have hI : BkIn W' C1 e1 C2 e2 b := by
    rcases h.n.form with ⟨rfl, _⟩ | ⟨g, rfl, _⟩
    · refine h.r.i.below ⟨h3.os, h3.tape, h3.output, h3.size, fun k hk => h3.block k hk (by simp [Value.ownBlock])⟩
    · have h3' : W.grownBy W' (some g) := h3
      exact bkin_far h.r.i h3' (h.ap g rfl).1 (h.ap g rfl).2
  refine ⟨A', cap', W', h1, ⟨⟨h.r.g.low hbl (by omega), h.r.k.of (hbl.block _ hlt), hI, h.r.lt⟩, h2, fun g e => ?_, h.lt, Nat.le_trans h.le h3.size⟩⟩
  rcases h4 with rfl | rfl
  · exact h.ap g e
  · injection e with e; injection e with e
    exact ⟨fun g' off e' => (by have := hoff1 g' off e'; omega), fun g' off e' => (by have := hoff2 g' off e'; omega)⟩
theorem EnW.put {w W : World} {s7 s3 base : Nat} {D Z B O A : Int} {C1 C2 B1 B2 As : Option Addr} {e1 e2 d1 d2 caps : Nat} {b0 b : Bo} {q : List Int} (h : EnW w W s7 s3 base D Z B O A C1 e1 C2 e2 b0 As caps q) (hI : BkIn W B1 d1 B2 d2 b) {n : Nat} (hN : NewB n B1 B2) (hn : base ≤ n) (hA : ∀ g, As = some ⟨g, 0, none⟩ → g < n) :
    EnW w (((((W.setCell ⟨s3, 0, none⟩ (.int .i64 b.q)).setCell ⟨s3, 1, none⟩ (.slice B1 b.zs.length d1)).setCell ⟨s3, 2, none⟩ (.slice B2 b.ms.length d2)).setCell ⟨s3, 3, none⟩ (.int .i64 b.sl)).setCell ⟨s3, 4, none⟩ (.int .i64 b.cu)) s7 s3 base D Z B O A B1 d1 B2 d2 b As caps q := by
  have hlt := h.lt
  have hg := grownBy_put W s3 (.int .i64 b.q) (.slice B1 b.zs.length d1) (.slice B2 b.ms.length d2) (.int .i64 b.sl) (.int .i64 b.cu)
  refine ⟨h.r.put hI (fun g off e => (by have := hN.1 g off e; omega)) (fun g off e => (by have := hN.2 g off e; omega)), h.n.far hg (fun g e e' => ?_), fun g e => ?_, h.lt, Nat.le_trans h.le hg.size⟩
  · injection e' with e'
    rcases h.n.form with ⟨e2, _⟩ | ⟨g2, e2, hge, _⟩
    · rw [e] at e2; cases e2
    · rw [e] at e2; injection e2 with e2; injection e2 with e2; omega
  · have := hA g e
    exact ⟨fun g' off e' => (by have := hN.1 g' off e'; omega), fun g' off e' => (by have := hN.2 g' off e'; omega)⟩
theorem row_lt {W : World} {base cap : Nat} {A : Option Addr} {zs : List Int} (h : NRow W base A cap zs) {n : Nat} (hn : W.heap.size ≤ n) : ∀ g, A = some ⟨g, 0, none⟩ → g < n := fun g e => by
  rcases h.form with ⟨e2, _⟩ | ⟨g2, e2, _, hl, _⟩
  · rw [e] at e2; cases e2
  · rw [e] at e2; injection e2 with e2; injection e2 with e2; omega
theorem ints_at16 {W : World} {A : Option Addr} {zs : List Int} (h : IntsIn W A zs) {k : Nat} (hk : k < zs.length) : ∃ b off, A = some ⟨b, off, none⟩ ∧ W.cell? ⟨b, off + k, none⟩ = some (.int .i64 (zs.getD k 0)) := by
  obtain ⟨b, off, e, _, hc⟩ := h.at_ hk
  refine ⟨b, off, e, hc.trans ?_⟩
  rw [List.getD_eq_getElem?_getD, List.getElem?_eq_getElem hk]
  rfl
theorem next_slot {s m : Nat} (hs : s < m) (hm : 2 ≤ m) : ∃ o : Nat, ((s : Int) + 1).tmod (m : Int) = (o : Int) ∧ o ≠ s ∧ o < m := by
  refine ⟨(s + 1) % m, ?_, ?_, Nat.mod_lt _ (by omega)⟩
  · rw [Int.tmod_eq_emod_of_nonneg (by omega)]; push_cast; rfl
  · by_cases h : s + 1 = m
    · rw [h, Nat.mod_self]; omega
    · rw [Nat.mod_eq_of_lt (by omega)]; omega
set_option maxRecDepth 100000 in
set_option maxHeartbeats 4000000 in
theorem ends_law (w : World) (D Z B O A a : Int) (Ao : Option Addr) (co : Nat) (os : List Int) (hos : IntsIn w Ao os) :
    Calls Try.prog 4 #[.agg #[.int .i64 D, .int .i64 Z, .int .i64 B, .int .i64 O, .int .i64 A], .int .i64 a, .slice Ao os.length co] w fun e w' => e = .returned (.bool true) ∧ Below w.heap.size w w' := by
  have hoH := Lib.hid (fun W (hb : Below w.heap.size w W) => hos.below hb)
  clear hos
  have hG := Lib.hid (GeoAt.new w D Z B O A 55)
  have hB := Lib.hid ((Below.refl w.heap.size w).alloc (Nat.le_refl _) (.cells #[.int .i64 D, .int .i64 Z, .int .i64 B, .int .i64 O, .int .i64 A] 55))
  go_enter Try.func4, Try.ntmps4
  go_upto_region 1 with fail
  refine fresh_world (fun W => GeoAt W w.heap.size D Z B O A ∧ Below w.heap.size w W) ⟨hG.out, hB.out⟩ ?_
  clear hG hB
  rintro W1 h1
  have h1H := Lib.hid h1
  clear h1
  go_wp2_with fail
  (with_reducible refine (speaks16 _).mono ?_)
  rintro e w1 ⟨rfl, hb1⟩
  have h1 := h1H.out.1.below hb1
  have h2 := bmore h1H.out.2 hb1
  obtain ⟨g0, g1, g2, g3, g4, _⟩ := h1
  have hG7 := GeoAt.new w1 D Z B O A 30
  have ha := (Below.refl w1.heap.size w1).alloc (Nat.le_refl _) (.cells #[.int .i64 D, .int .i64 Z, .int .i64 B, .int .i64 O, .int .i64 A] 30)
  have hN7 : Hid (RbG w w1.heap.size D Z B O A (w1.alloc (.cells #[.int .i64 D, .int .i64 Z, .int .i64 B, .int .i64 O, .int .i64 A] 30))) := Lib.hid ⟨(h1H.out.1.below hb1).below ha, hG7, bmore h2 ha, (h1H.out.1.below hb1).2.2.2.2.2⟩
  clear h1H hb1 h2 hG7 ha
  go_upto_region 4 with fail
  generalize w1.heap.size = s7 at hN7 ⊢
  refine fresh_world (fun W => RbG w s7 D Z B O A W) hN7.out ?_
  clear hN7 g0 g1 g2 g3 g4
  rintro w4 h4
  have h4H := Lib.hid h4
  obtain ⟨g0, g1, g2, g3, g4, _⟩ := h4.1
  have c1 := Lib.hid (fun W => refgood_any D Z B O A W)
  clear h4
  cases hg : goodB D Z B O A with
  | false =>
    rw [hg] at c1
    go_wp2_with fail
    (with_reducible refine (c1.out _).mono ?_)
    rintro e w2 ⟨rfl, hb2⟩
    have hF := Lib.hid (h4H.out.below hb2).2.2.1
    clear h4H hb2 g0 g1 g2 g3 g4
    go_wp2_with fail
    go_ret
    exact ⟨rfl, hF.out⟩
  | true =>
    rw [hg] at c1
    have hgp := goodB_iff.1 hg
    obtain ⟨m, hD⟩ : ∃ m : Nat, D = (m : Int) := ⟨D.toNat, by have := hgp.1; omega⟩
    obtain ⟨n, hZ⟩ : ∃ n : Nat, Z = (n : Int) + 3 := ⟨(Z - 3).toNat, by have := hgp.2.2.1; omega⟩
    have hm16 : m ≤ 16 := by have := hgp.2.1; omega
    have hm3 : 3 ≤ m := by have := hgp.1; omega
    have hn61 : n ≤ 61 := by have := hgp.2.2.2.1; omega
    have hn2 : 2 ≤ n := by have := hgp.2.2.1; omega
    have hb0 : newOf D Z B O A = newBk n m := by unfold newOf; rw [if_pos hg, show (Z - 3).toNat = n by omega, show D.toNat = m by omega]
    have hnw := Lib.hid (fun W => new_anyB W D Z B O A)
    rw [hb0] at hnw
    obtain ⟨t1, s, x1, x2, x3, x4, x5, x6, x7, x8, x9⟩ := mod_more16 a (m := D) (by omega) (by omega)
    have hsm : s < m := by omega
    have hZH := Lib.hid hZ
    have hDH := Lib.hid hD
    have hgH := Lib.hid hg
    clear hgp hb0 hD hZ hg
    go_wp2_with fail
    (with_reducible refine (c1.out _).mono ?_)
    rintro e w2 ⟨rfl, hb2⟩
    have h2 := h4H.out.below hb2
    have h2H := Lib.hid h2
    clear h4H hb2 g0 g1 g2 g3 g4 c1 h2
    obtain ⟨g0, g1, g2, g3, g4, _⟩ := h2H.out.1
    go_upto_region 6 with fail
    go_quiet (fail)
    go_upto_region 7 with fail
    refine fresh_world (fun W => RbG w s7 D Z B O A W) (h2H.out.below (below_drewN (Below.refl _ w2) _)) ?_
    clear g0 g1 g2 g3 g4 h2H x1 x2 x3 x4 x5 x6 x7 x8 x9
    rintro w7 h7
    have hb0 : Hid (EnB D Z n m 0 (newBk n m)) := Lib.hid (EnB.new (by have := hZH.out; omega) hDH.out)
    have h7H := Lib.hid h7
    clear h7
    generalize newBk n m = b0 at hnw hb0
    obtain ⟨c0, c1, c2, c3, c4, _⟩ := h7H.out.2.1
    go_wp2_with fail
    (with_reducible refine (hnw.out _).mono ?_)
    rintro e w3 ⟨C1, e1, C2, e2, rfl, hO, hb3⟩
    have hX := BkAt.new w3 C1 e1 C2 e2 b0 58
    have ha := (Below.refl w3.heap.size w3).alloc (Nat.le_refl _) (.cells #[.int .i64 b0.q, .slice C1 b0.zs.length e1, .slice C2 b0.ms.length e2, .int .i64 b0.sl, .int .i64 b0.cu] 58)
    have h3 := Lib.hid (⟨(h7H.out.below hb3).below ha, hX, hO.in_.below ha, (h7H.out.below hb3).lt⟩ : RbW w _ s7 w3.heap.size D Z B O A C1 e1 C2 e2 b0)
    clear h7H hb3 hO hX ha hnw c0 c1 c2 c3 c4
    go_upto_region 8 with fail
    generalize w3.heap.size = s8 at h3 ⊢
    refine fresh_world (fun W => RbW w W s7 s8 D Z B O A C1 e1 C2 e2 b0) h3.out ?_
    clear h3
    rintro w4 h4
    have h4H := Lib.hid h4
    clear h4
    go_wp2_with fail
    go_loopw [9] (fun i wr => ∃ (k : Nat) (b : Bo) (C1 : Option Addr) (e1 : Nat) (C2 : Option Addr) (e2 : Nat), k ≤ 20 ∧ k ≤ os.length ∧ i = .int .i64 (k : Int) ∧ Hid (EnB D Z n m k b) ∧ Hid (RbW w wr s7 s8 D Z B O A C1 e1 C2 e2 b)) (fun i _ => 20 - (intOf i).toNat)
    case atStart => exact ⟨0, b0, C1, e1, C2, e2, Nat.zero_le _, Nat.zero_le _, rfl, hb0, h4H⟩
    case round =>
      clear h4H hb0
      obtain ⟨k, b, C1, e1, C2, e2, hk, hko, rfl, hE, hW⟩ := hrel
      obtain ⟨t, ht⟩ : ∃ t : Bool, (t = true ↔ (k < os.length ∧ k < 20)) := ⟨decide (k < os.length ∧ k < 20), by simp⟩
      have htH := Lib.hid ht
      clear ht
      go_upto_region 9 with fail
      go_cut [49] from 42 to 77 (fun c wx => c = .bool t ∧ wx = wr)
      case first =>
        by_cases hlo : (k : Int) < (os.length : Int)
        case neg =>
          have hf : t = false := by cases t with
            | false => rfl
            | true => exact absurd (htH.out.1 rfl).1 (by omega)
          subst hf
          go_wp2_with fail
          go_meet
          exact ⟨rfl, rfl⟩
        case pos =>
          have htd : Hid (t = decide ((k : Int) < 20)) := Lib.hid (by
            rw [Bool.eq_iff_iff, htH.out, decide_eq_true_eq]
            omega)
          go_wp2_with fail
          go_meet
          exact ⟨by rw [htd.out], rfl⟩
      case rest =>
        obtain ⟨rfl, rfl⟩ := hcut
        cases t with
        | false =>
          have hlk : Hid (k ≤ 20) := Lib.hid hk
          clear htH hk hko
          have hEH := hE
          have hWH := hW
          have hE := hEH.out
          have hW := hWH.out
          have hk := hlk.out
          have hml : Hid (b.ms.length = m) := Lib.hid hE.v.ml
          have hqb := hE.q
          have hbg := Lib.hid (fun W A1 c1 A2 c2 (h : BkIn W A1 c1 A2 c2 b) => beg_ok W D Z B O A A1 c1 A2 c2 b s h (by omega) hgH.out (by rw [hml.out]; exact hDH.out.symm) (by rw [hml.out]; exact hsm) (fun h => (by have h1 := h.1; have h2 := hEH.out.s; omega)) (by rw [hEH.out.ms]; exact new_no (n := n) hDH.out))
          have hk0 : Hid (begB b D s = bkk (b.q + 2) b.zs (b.ms.set s D) s Z 0) := Lib.hid (begB_kk b D s (by have := hZH.out; omega))
          have hmD : Hid (D ∈ b.ms.set s D ∧ (b.ms.set s D).length = m) := Lib.hid ⟨List.mem_set (by rw [hml.out]; exact hsm) _, by rw [List.length_set]; exact hml.out⟩
          have hzs : Hid (b.zs.length = n ∧ (b.zs.map Zo.p).Nodup ∧ ∀ x ∈ b.zs, 2 ≤ x.p ∧ x.p < Z) := Lib.hid ⟨hE.v.zl, hE.v.zn, fun x hx => ⟨(hE.v.z x hx).1, (hE.v.z x hx).2.1⟩⟩
          have hQ : Hid (0 ≤ b.q + 2 ∧ b.q + 2 ≤ 100) := Lib.hid (by omega)
          clear hE hW hk hqb
          obtain ⟨c0, c1, c2, c3, c4, _⟩ := hWH.out.g.2.1
          obtain ⟨k0, k1, k2, k3, k4, kf⟩ := hWH.out.k
          have hbc := Lib.hid (hbg.out _ _ _ _ _ hWH.out.i)
          clear hbg hEH hml
          go_wp2_with fail
          (with_reducible refine hbc.out.mono ?_)
          rintro e w5 ⟨B1, d1, B2, d2, Al, capl, rfl, _, hI5, hN5, hb5⟩
          have hW5 := hWH.out.below hb5
          have hs8 := hWH.out.k.lt
          have hput := hW5.put hI5 (fun g off e => (by have := hN5.1 g off e; omega)) (fun g off e => (by have := hN5.2 g off e; omega))
          rw [hk0.out] at hput
          clear k0 k1 k2 k3 k4 kf c0 c1 c2 c3 c4
          obtain ⟨k0, k1, k2, k3, k4, kf⟩ := hW5.k
          have hputH := Lib.hid hput
          clear hbc hI5 hN5 hb5 hW5 hs8 hput hWH
          have hk0' := hk0
          generalize hbb : begB b D s = bb at hk0' ⊢
          rw [← hk0'.out] at hputH
          go_upto_region 14 with fail
          refine fresh_world (fun W => RbW w W s7 s8 D Z B O A B1 d1 B2 d2 bb) hputH.out ?_
          clear k0 k1 k2 k3 k4 kf hputH
          rintro w6 h6
          rw [hk0'.out] at h6
          clear hk0 hk0' hbb
          generalize b.q + 2 = Q at h6 hQ
          generalize b.zs = zs at h6 hzs
          generalize b.ms.set s D = ms at h6 hmD
          have hstart := Lib.hid (⟨h6, NRow.nil _ _, fun g e => (by cases e), h6.k.lt, Nat.le_refl _⟩ : EnW w w6 s7 s8 w6.heap.size D Z B O A B1 d1 B2 d2 (bkk Q zs ms s Z 0) none 0 [])
          generalize w6.heap.size = base at hstart
          clear h6
          have hhs := Lib.hid (fun W A1 c1 A2 c2 b x p => has_anyB W A1 c1 A2 c2 b x p)
          have had := Lib.hid (fun W A1 c1 A2 c2 b (h : BkIn W A1 c1 A2 c2 b) (hq : 0 ≤ b.q ∧ b.q ≤ 4611686018427387904) => advance_any W D Z B O A A1 c1 A2 c2 b h hq (by have := hZH.out; omega))
          have hnx := Lib.hid (fun W A1 c1 A2 c2 b (h : BkIn W A1 c1 A2 c2 b) => next_any16 D Z B O A A1 c1 A2 c2 b W h h.zl)
          go_wp2_with fail
          go_loopw [13, 14] (fun sn p wr => ∃ (k : Nat) (As : Option Addr) (caps : Nat) (q : List Int) (C1 : Option Addr) (e1 : Nat) (C2 : Option Addr) (e2 : Nat), k ≤ n + 1 ∧ p = .int .i64 ((k + 2 : Nat) : Int) ∧ sn = .slice As (cntZ zs (2 + (k : Int))) caps ∧ Hid (q.length = cntZ zs (2 + (k : Int))) ∧ Hid (EnW w wr s7 s8 base D Z B O A C1 e1 C2 e2 (bkk Q zs ms s Z k) As caps q)) (fun _ p _ => n + 3 - (intOf p).toNat)
          case atStart => exact ⟨0, none, 0, [], B1, d1, B2, d2, Nat.zero_le _, rfl, by rw [cnt_zero (fun z hz => by have := (hzs.out.2.2 z hz).1; omega)], Lib.hid (by rw [cnt_zero (fun z hz => by have := (hzs.out.2.2 z hz).1; omega)]; rfl), hstart⟩
          case round =>
            clear hstart
            obtain ⟨k, As, caps, q, C1, e1, C2, e2, hk, rfl, rfl, hql, hW⟩ := hrel
            have hcq : Hid (cntZ zs (2 + (k : Int)) ≤ n) := Lib.hid (by have := List.countP_le_length (l := zs) (p := fun z => decide (z.p < 2 + (k : Int))); rw [hzs.out.1] at this; exact this)
            have hqk : Hid (0 ≤ (bkk Q zs ms s Z k).q ∧ (bkk Q zs ms s Z k).q ≤ 4611686018427387904) := Lib.hid (by rw [bkk_q]; have := hQ.out; omega)
            have g1 := hW.out.r.g.1.2.1
            by_cases hlt : k ≤ n
            case pos =>
              have hkZ2 : 2 + (k : Int) < Z := by have := hZH.out; omega
              have hkZ : ((k + 2 : Nat) : Int) < Z := by omega
              have hpw : IntKind.i64.wrap (((k + 2 : Nat) : Int) + 1) = ((k + 2 : Nat) : Int) + 1 := IntWalk.i64_in _ (by omega)
              have hjn : Hid (((k + 2 : Nat) : Int) + 1 = ((k + 1 + 2 : Nat) : Int) ∧ 2 + (k : Int) = ((k + 2 : Nat) : Int) ∧ n + 3 - (k + 1 + 2) < n + 3 - (k + 2)) := Lib.hid (by omega)
              have hh1 : Hid (hasB (bkk Q zs ms s Z k) (s : Int) ((k + 2 : Nat) : Int) = false) := Lib.hid (by rw [has_on hkZ2 (by rw [hmD.out.2]; exact hsm)]; exact decide_eq_false (by omega))
              have hh2 : Hid (hasB (bkk Q zs ms s Z k) (s : Int) (((k + 2 : Nat) : Int) - 1) = true) := Lib.hid (by rw [has_on hkZ2 (by rw [hmD.out.2]; exact hsm)]; exact decide_eq_true (by omega))
              obtain ⟨o2, hmod, hon, hom2⟩ := next_slot hsm (show 2 ≤ m by omega)
              have hh3 : Hid (hasB (bkk Q zs ms s Z k) (o2 : Int) ((k + 2 : Nat) : Int) = true) := Lib.hid (has_else hon (by rw [hmD.out.2]; exact hom2) _)
              have hmodD : ((s : Int) + 1).tmod D = (o2 : Int) := by rw [hDH.out]; exact hmod
              have hDn0 : ¬ D = 0 := by have := hDH.out; omega
              have hDn1 : ¬ D = -1 := by have := hDH.out; omega
              have hs1w : IntKind.i64.wrap ((s : Int) + 1) = (s : Int) + 1 := IntWalk.i64_in _ (by omega)
              have ho2w : IntKind.i64.wrap (o2 : Int) = (o2 : Int) := IntWalk.i64_in _ (by omega)
              have hp1w : IntKind.i64.wrap (((k + 2 : Nat) : Int) - 1) = ((k + 2 : Nat) : Int) - 1 := IntWalk.i64_in _ (by omega)
              have hnk := Lib.hid (fun p i t (h : NextR (bkk Q zs ms s Z k) Z p i t) => next_kk h hkZ2)
              have hadv : Hid (advB (bkk Q zs ms s Z k) Z = bkk Q zs ms s Z (k + 1) ∧ 0 ≤ (bkk Q zs ms s Z k).sl) := Lib.hid ⟨bkk_adv (by omega) hkZ2, by rw [(bkk_on hkZ2).1]; omega⟩
              have hbz : Hid ((bkk Q zs ms s Z k).zs = zs ∧ (bkk Q zs ms s Z k).ms = ms) := Lib.hid ⟨bkk_zs .., bkk_ms ..⟩
              have hk1s : Hid (cntZ zs (2 + ((k + 1 : Nat) : Int)) = cntZ zs (2 + (k : Int) + 1)) := Lib.hid (by rw [show (2 + ((k + 1 : Nat) : Int)) = 2 + (k : Int) + 1 by omega])
              have hcf := Lib.hid (fun i (h : FirstZ zs (2 + (k : Int)) i) => cnt_first hzs.out.2.1 h)
              generalize hc : cntZ zs (2 + (k : Int)) = cn at hql hcq hcf ⊢
              clear hc
              generalize bkk Q zs ms s Z k = bk at hW hqk hh1 hh2 hh3 hnk hadv hbz
              have hk2 : (k = 0 ∧ decide (2 < ((k + 2 : Nat) : Int)) = false) ∨ (decide (2 < ((k + 2 : Nat) : Int)) = true) := by
                by_cases h : k = 0
                · exact .inl ⟨h, decide_eq_false (by omega)⟩
                · exact .inr (decide_eq_true (by omega))
              have hpe : ((k + 2 : Nat) : Int) = 2 + (k : Int) := by omega
              rw [hpe] at hkZ hpw hjn hh1 hh2 hh3 hp1w hk2 ⊢
              clear hpe hk
              obtain ⟨k0, k1, k2, k3, k4, _⟩ := hW.out.r.k
              obtain ⟨c0, c1, c2, c3, c4, _⟩ := hW.out.r.g.2.1
              have hnc := Lib.hid (hnx.out _ _ _ _ _ _ hW.out.r.i)
              generalize hPd : 2 + (k : Int) = P at hkZ2 hkZ hpw hjn hh1 hh2 hh3 hp1w hnk hk1s hcf hk2 hnc ⊢
              have hPH := Lib.hid hPd
              have hltH := Lib.hid hlt
              clear hPd hlt
              go_wp2_with fail
              (with_reducible refine hnc.out.mono ?_)
              rintro e w7 ⟨p, i, t, rfl, hR, hb7⟩
              obtain ⟨rfl, rfl, hfz⟩ := hnk.out _ _ _ hR
              have hW7 := Lib.hid (hW.out.below hb7)
              have hfzH := Lib.hid (hcf.out _ hfz)
              clear hnc hR hb7 hW hfz hcf hnk k0 k1 k2 k3 k4 c0 c1 c2 c3 c4 g1
              go_upto_region 21 with fail
              have hpp : (p != p) = false := by simp
              go_cut [136] from 94 to 136 (fun v wx => v = .bool false ∧ EnW w wx s7 s8 base D Z B O A C1 e1 C2 e2 bk As caps q)
              case first =>
                have hc1 := Lib.hid (fun W => hhs.out W C1 e1 C2 e2 bk (s : Int) p)
                rw [hh1.out] at hc1
                have hc2 := Lib.hid (fun W => hhs.out W C1 e1 C2 e2 bk (s : Int) (p - 1))
                rw [hh2.out] at hc2
                have hc3 := Lib.hid (fun W => hhs.out W C1 e1 C2 e2 bk (o2 : Int) p)
                rw [hh3.out] at hc3
                have hS : (fun W => EnW w W s7 s8 base D Z B O A C1 e1 C2 e2 bk As caps q) w7.drew := hW7.out.below (Below.refl _ _).drew
                clear hW7 hh1 hh2 hh3 hfzH hadv
                rcases hk2 with ⟨_, hd2⟩ | hd2
                case inl =>
                  refine region_anyC (fun _ => true) (fun W => EnW w W s7 s8 base D Z B O A C1 e1 C2 e2 bk As caps q) (by kernel_rfl) ?_
                  generalize w7.drew = wd at hS ⊢
                  refine anyL_take 0 (v := ?_) rfl (by kernel_rfl) (fun _ _ _ h => h) (Or.inl ⟨by rfl, ?_⟩) hS ?_
                  rotate_left
                  focus (intro W hW; go_simp; try with_reducible rfl)
                  simp only [Act.put, List.setIfInBounds_toArray, List.set_cons_zero, List.set_cons_succ]
                  refine anyL_take 1 (v := ?_) rfl (by kernel_rfl) (fun _ _ _ h => h) (Or.inl ⟨by rfl, ?_⟩) hS ?_
                  rotate_left
                  focus (intro W hW; go_simp; try with_reducible rfl)
                  simp only [Act.put, List.setIfInBounds_toArray, List.set_cons_zero, List.set_cons_succ]
                  refine anyL_take 2 (v := ?_) rfl (by kernel_rfl) (fun _ _ _ h => h) (Or.inl ⟨by rfl, ?_⟩) hS ?_
                  rotate_left
                  focus (intro W hW; go_simp; try with_reducible rfl)
                  simp only [Act.put, List.setIfInBounds_toArray, List.set_cons_zero, List.set_cons_succ]
                  refine anyL_take 3 (v := ?_) rfl (by kernel_rfl) (fun _ _ _ h => h) (Or.inl ⟨by rfl, ?_⟩) hS ?_
                  rotate_left
                  focus (intro W hW; go_simp; try with_reducible rfl)
                  simp only [Act.put, List.setIfInBounds_toArray, List.set_cons_zero, List.set_cons_succ]
                  refine anyL_take 4 (v := ?_) rfl (by kernel_rfl) (fun _ _ _ h => h) (Or.inl ⟨by rfl, ?_⟩) hS ?_
                  rotate_left
                  focus (intro W hW; go_simp; try with_reducible rfl)
                  simp only [Act.put, List.setIfInBounds_toArray, List.set_cons_zero, List.set_cons_succ]
                  refine anyL_take 5 (v := ?_) rfl (by kernel_rfl) (fun _ _ _ h => h) (Or.inl ⟨by rfl, ?_⟩) hS ?_
                  rotate_left
                  focus (intro W hW; go_simp; try with_reducible rfl)
                  simp only [Act.put, List.setIfInBounds_toArray, List.set_cons_zero, List.set_cons_succ]
                  refine anyL_take 6 (v := ?_) rfl (by kernel_rfl) (fun _ _ _ h => h) (Or.inl ⟨by rfl, ?_⟩) hS ?_
                  rotate_left
                  focus (intro W hW; go_simp; try with_reducible rfl)
                  simp only [Act.put, List.setIfInBounds_toArray, List.set_cons_zero, List.set_cons_succ]
                  refine anyL_take 7 (v := ?_) rfl (by kernel_rfl) (fun _ _ _ h => h) (Or.inl ⟨by rfl, ?_⟩) hS ?_
                  rotate_left
                  focus (intro W hW; go_simp; try with_reducible rfl)
                  simp only [Act.put, List.setIfInBounds_toArray, List.set_cons_zero, List.set_cons_succ]
                  refine anyL_take 8 (v := ?_) rfl (by kernel_rfl) (fun _ _ _ h => h) (Or.inl ⟨by rfl, ?_⟩) hS ?_
                  rotate_left
                  focus (intro W hW; obtain ⟨⟨⟨⟨g0, g1, g2, g3, g4, _⟩, _, _, _⟩, ⟨f0, f1, f2, f3, f4, _⟩, _, _⟩, _, _, _, _⟩ := hW; go_simp; try with_reducible rfl)
                  simp only [Act.put, List.setIfInBounds_toArray, List.set_cons_zero, List.set_cons_succ]
                  refine anyL_take 9 (v := ?_) rfl (by kernel_rfl) (fun _ _ _ h => h) (Or.inl ⟨by rfl, ?_⟩) hS ?_
                  rotate_left
                  focus (intro W hW; go_simp; try with_reducible rfl)
                  simp only [Act.put, List.setIfInBounds_toArray, List.set_cons_zero, List.set_cons_succ]
                  refine anyL_take 10 (v := ?_) rfl (by kernel_rfl) (fun _ _ _ h => h) (Or.inl ⟨by rfl, ?_⟩) hS ?_
                  rotate_left
                  focus (intro W hW; go_simp; try with_reducible rfl)
                  simp only [Act.put, List.setIfInBounds_toArray, List.set_cons_zero, List.set_cons_succ]
                  refine anyL_one 11 rfl (by kernel_rfl) (fun K hK => ?_)
                  go_simp
                  (with_reducible refine (hc1.out _).mono ?_)
                  rintro e' wt ⟨rfl, hbwt⟩
                  have hT : (fun W => EnW w W s7 s8 base D Z B O A C1 e1 C2 e2 bk As caps q) wt := hS.below hbwt
                  refine hK.out _ _ (fun _ => hT) ?_
                  clear hK K hS hbwt
                  try simp only [Act.put, List.setIfInBounds_toArray, List.set_cons_zero, List.set_cons_succ]
                  refine anyL_take 12 (v := ?_) rfl (by kernel_rfl) (fun _ _ _ h => h) (Or.inl ⟨by rfl, ?_⟩) hT ?_
                  rotate_left
                  focus (intro W hW; go_simp; try with_reducible rfl)
                  simp only [Act.put, List.setIfInBounds_toArray, List.set_cons_zero, List.set_cons_succ]
                  refine anyL_take 13 (v := ?_) rfl (by kernel_rfl) (fun _ _ _ h => h) (Or.inl ⟨by rfl, ?_⟩) hT ?_
                  rotate_left
                  focus (intro W hW; go_simp; try with_reducible rfl)
                  simp only [Act.put, List.setIfInBounds_toArray, List.set_cons_zero, List.set_cons_succ]
                  refine anyL_take 14 (v := ?_) rfl (by kernel_rfl) (fun _ _ _ h => h) (Or.inl ⟨by rfl, ?_⟩) hT ?_
                  rotate_left
                  focus (intro W hW; go_simp; try with_reducible rfl)
                  simp only [Act.put, List.setIfInBounds_toArray, List.set_cons_zero, List.set_cons_succ]
                  refine anyL_take 15 (v := ?_) rfl (by kernel_rfl) (fun _ _ _ h => h) (Or.inl ⟨by rfl, ?_⟩) hT ?_
                  rotate_left
                  focus (intro W hW; go_simp; try with_reducible rfl)
                  simp only [Act.put, List.setIfInBounds_toArray, List.set_cons_zero, List.set_cons_succ]
                  refine anyL_take 16 (v := ?_) rfl (by kernel_rfl) (fun _ _ _ h => h) (Or.inl ⟨by rfl, ?_⟩) hT ?_
                  rotate_left
                  focus (intro W hW; go_simp; try with_reducible rfl)
                  simp only [Act.put, List.setIfInBounds_toArray, List.set_cons_zero, List.set_cons_succ]
                  have hU := hT
                  clear hT
                  refine anyL_take 17 (v := undef) rfl (by kernel_rfl) (fun _ _ _ h => h) (Or.inr ⟨by rfl, rfl⟩) hU ?_
                  simp only [Act.put, List.setIfInBounds_toArray, List.set_cons_zero, List.set_cons_succ]
                  refine anyL_take 18 (v := undef) rfl (by kernel_rfl) (fun _ _ _ h => h) (Or.inr ⟨by rfl, rfl⟩) hU ?_
                  simp only [Act.put, List.setIfInBounds_toArray, List.set_cons_zero, List.set_cons_succ]
                  refine anyL_take 19 (v := undef) rfl (by kernel_rfl) (fun _ _ _ h => h) (Or.inr ⟨by rfl, rfl⟩) hU ?_
                  simp only [Act.put, List.setIfInBounds_toArray, List.set_cons_zero, List.set_cons_succ]
                  refine anyL_take 20 (v := undef) rfl (by kernel_rfl) (fun _ _ _ h => h) (Or.inr ⟨by rfl, rfl⟩) hU ?_
                  simp only [Act.put, List.setIfInBounds_toArray, List.set_cons_zero, List.set_cons_succ]
                  refine anyL_take 21 (v := undef) rfl (by kernel_rfl) (fun _ _ _ h => h) (Or.inr ⟨by rfl, rfl⟩) hU ?_
                  simp only [Act.put, List.setIfInBounds_toArray, List.set_cons_zero, List.set_cons_succ]
                  refine anyL_take 22 (v := undef) rfl (by kernel_rfl) (fun _ _ _ h => h) (Or.inr ⟨by rfl, rfl⟩) hU ?_
                  simp only [Act.put, List.setIfInBounds_toArray, List.set_cons_zero, List.set_cons_succ]
                  refine anyL_take 23 (v := ?_) rfl (by kernel_rfl) (fun _ _ _ h => h) (Or.inl ⟨by rfl, ?_⟩) hU ?_
                  rotate_left
                  focus (intro W hW; go_simp; try with_reducible rfl)
                  simp only [Act.put, List.setIfInBounds_toArray, List.set_cons_zero, List.set_cons_succ]
                  refine anyL_take 24 (v := ?_) rfl (by kernel_rfl) (fun _ _ _ h => h) (Or.inl ⟨by rfl, ?_⟩) hU ?_
                  rotate_left
                  focus (intro W hW; go_simp; try with_reducible rfl)
                  simp only [Act.put, List.setIfInBounds_toArray, List.set_cons_zero, List.set_cons_succ]
                  refine anyL_take 25 (v := ?_) rfl (by kernel_rfl) (fun _ _ _ h => h) (Or.inl ⟨by rfl, ?_⟩) hU ?_
                  rotate_left
                  focus (intro W hW; go_simp; try with_reducible rfl)
                  simp only [Act.put, List.setIfInBounds_toArray, List.set_cons_zero, List.set_cons_succ]
                  refine anyL_take 26 (v := ?_) rfl (by kernel_rfl) (fun _ _ _ h => h) (Or.inl ⟨by rfl, ?_⟩) hU ?_
                  rotate_left
                  focus (intro W hW; obtain ⟨⟨⟨⟨g0, g1, g2, g3, g4, _⟩, _, _, _⟩, ⟨f0, f1, f2, f3, f4, _⟩, _, _⟩, _, _, _, _⟩ := hW; go_simp; try with_reducible rfl)
                  simp only [Act.put, List.setIfInBounds_toArray, List.set_cons_zero, List.set_cons_succ]
                  refine anyL_take 27 (v := ?_) rfl (by kernel_rfl) (fun _ _ _ h => h) (Or.inl ⟨by rfl, ?_⟩) hU ?_
                  rotate_left
                  focus (intro W hW; go_simp; try with_reducible rfl)
                  simp only [Act.put, List.setIfInBounds_toArray, List.set_cons_zero, List.set_cons_succ]
                  refine anyL_take 28 (v := ?_) rfl (by kernel_rfl) (fun _ _ _ h => h) (Or.inl ⟨by rfl, ?_⟩) hU ?_
                  rotate_left
                  focus (intro W hW; go_simp; try with_reducible rfl)
                  simp only [Act.put, List.setIfInBounds_toArray, List.set_cons_zero, List.set_cons_succ]
                  refine anyL_take 29 (v := ?_) rfl (by kernel_rfl) (fun _ _ _ h => h) (Or.inl ⟨by rfl, ?_⟩) hU ?_
                  rotate_left
                  focus (intro W hW; go_simp; try with_reducible rfl)
                  simp only [Act.put, List.setIfInBounds_toArray, List.set_cons_zero, List.set_cons_succ]
                  refine anyL_take 30 (v := ?_) rfl (by kernel_rfl) (fun _ _ _ h => h) (Or.inl ⟨by rfl, ?_⟩) hU ?_
                  rotate_left
                  focus (intro W hW; obtain ⟨⟨⟨⟨g0, g1, g2, g3, g4, _⟩, _, _, _⟩, ⟨f0, f1, f2, f3, f4, _⟩, _, _⟩, _, _, _, _⟩ := hW; go_simp; try with_reducible rfl)
                  simp only [Act.put, List.setIfInBounds_toArray, List.set_cons_zero, List.set_cons_succ]
                  refine anyL_take 31 (v := ?_) rfl (by kernel_rfl) (fun _ _ _ h => h) (Or.inl ⟨by rfl, ?_⟩) hU ?_
                  rotate_left
                  focus (intro W hW; go_simp; try with_reducible rfl)
                  simp only [Act.put, List.setIfInBounds_toArray, List.set_cons_zero, List.set_cons_succ]
                  refine anyL_take 32 (v := ?_) rfl (by kernel_rfl) (fun _ _ _ h => h) (Or.inl ⟨by rfl, ?_⟩) hU ?_
                  rotate_left
                  focus (intro W hW; go_simp; try with_reducible rfl)
                  simp only [Act.put, List.setIfInBounds_toArray, List.set_cons_zero, List.set_cons_succ]
                  refine anyL_one 33 rfl (by kernel_rfl) (fun K hK => ?_)
                  go_simp
                  (with_reducible refine (hc3.out _).mono ?_)
                  rintro e' wv ⟨rfl, hbwv⟩
                  have hV : (fun W => EnW w W s7 s8 base D Z B O A C1 e1 C2 e2 bk As caps q) wv := hU.below hbwv
                  refine hK.out _ _ (fun _ => hV) ?_
                  clear hK K hU hbwv
                  try simp only [Act.put, List.setIfInBounds_toArray, List.set_cons_zero, List.set_cons_succ]
                  refine anyL_take 34 (v := ?_) rfl (by kernel_rfl) (fun _ _ _ h => h) (Or.inl ⟨by rfl, ?_⟩) hV ?_
                  rotate_left
                  focus (intro W hW; go_simp; try with_reducible rfl)
                  simp only [Act.put, List.setIfInBounds_toArray, List.set_cons_zero, List.set_cons_succ]
                  refine anyL_one 35 rfl (by kernel_rfl) (fun K hK => ?_)
                  go_simp
                  refine hK.out _ _ (fun _ => hV) ?_
                  clear hK K
                  try simp only [Act.put, List.setIfInBounds_toArray, List.set_cons_zero, List.set_cons_succ]
                  refine anyC_done (by kernel_rfl) ?_ _
                  go_wp2_with fail
                  go_meet
                  exact ⟨rfl, hV⟩
                case inr =>
                  refine region_anyC (fun _ => true) (fun W => EnW w W s7 s8 base D Z B O A C1 e1 C2 e2 bk As caps q) (by kernel_rfl) ?_
                  generalize w7.drew = wd at hS ⊢
                  refine anyL_take 0 (v := ?_) rfl (by kernel_rfl) (fun _ _ _ h => h) (Or.inl ⟨by rfl, ?_⟩) hS ?_
                  rotate_left
                  focus (intro W hW; go_simp; try with_reducible rfl)
                  simp only [Act.put, List.setIfInBounds_toArray, List.set_cons_zero, List.set_cons_succ]
                  refine anyL_take 1 (v := ?_) rfl (by kernel_rfl) (fun _ _ _ h => h) (Or.inl ⟨by rfl, ?_⟩) hS ?_
                  rotate_left
                  focus (intro W hW; go_simp; try with_reducible rfl)
                  simp only [Act.put, List.setIfInBounds_toArray, List.set_cons_zero, List.set_cons_succ]
                  refine anyL_take 2 (v := ?_) rfl (by kernel_rfl) (fun _ _ _ h => h) (Or.inl ⟨by rfl, ?_⟩) hS ?_
                  rotate_left
                  focus (intro W hW; go_simp; try with_reducible rfl)
                  simp only [Act.put, List.setIfInBounds_toArray, List.set_cons_zero, List.set_cons_succ]
                  refine anyL_take 3 (v := ?_) rfl (by kernel_rfl) (fun _ _ _ h => h) (Or.inl ⟨by rfl, ?_⟩) hS ?_
                  rotate_left
                  focus (intro W hW; go_simp; try with_reducible rfl)
                  simp only [Act.put, List.setIfInBounds_toArray, List.set_cons_zero, List.set_cons_succ]
                  refine anyL_take 4 (v := ?_) rfl (by kernel_rfl) (fun _ _ _ h => h) (Or.inl ⟨by rfl, ?_⟩) hS ?_
                  rotate_left
                  focus (intro W hW; go_simp; try with_reducible rfl)
                  simp only [Act.put, List.setIfInBounds_toArray, List.set_cons_zero, List.set_cons_succ]
                  refine anyL_take 5 (v := ?_) rfl (by kernel_rfl) (fun _ _ _ h => h) (Or.inl ⟨by rfl, ?_⟩) hS ?_
                  rotate_left
                  focus (intro W hW; go_simp; try with_reducible rfl)
                  simp only [Act.put, List.setIfInBounds_toArray, List.set_cons_zero, List.set_cons_succ]
                  refine anyL_take 6 (v := ?_) rfl (by kernel_rfl) (fun _ _ _ h => h) (Or.inl ⟨by rfl, ?_⟩) hS ?_
                  rotate_left
                  focus (intro W hW; go_simp; try with_reducible rfl)
                  simp only [Act.put, List.setIfInBounds_toArray, List.set_cons_zero, List.set_cons_succ]
                  refine anyL_take 7 (v := ?_) rfl (by kernel_rfl) (fun _ _ _ h => h) (Or.inl ⟨by rfl, ?_⟩) hS ?_
                  rotate_left
                  focus (intro W hW; go_simp; try with_reducible rfl)
                  simp only [Act.put, List.setIfInBounds_toArray, List.set_cons_zero, List.set_cons_succ]
                  refine anyL_take 8 (v := ?_) rfl (by kernel_rfl) (fun _ _ _ h => h) (Or.inl ⟨by rfl, ?_⟩) hS ?_
                  rotate_left
                  focus (intro W hW; obtain ⟨⟨⟨⟨g0, g1, g2, g3, g4, _⟩, _, _, _⟩, ⟨f0, f1, f2, f3, f4, _⟩, _, _⟩, _, _, _, _⟩ := hW; go_simp; try with_reducible rfl)
                  simp only [Act.put, List.setIfInBounds_toArray, List.set_cons_zero, List.set_cons_succ]
                  refine anyL_take 9 (v := ?_) rfl (by kernel_rfl) (fun _ _ _ h => h) (Or.inl ⟨by rfl, ?_⟩) hS ?_
                  rotate_left
                  focus (intro W hW; go_simp; try with_reducible rfl)
                  simp only [Act.put, List.setIfInBounds_toArray, List.set_cons_zero, List.set_cons_succ]
                  refine anyL_take 10 (v := ?_) rfl (by kernel_rfl) (fun _ _ _ h => h) (Or.inl ⟨by rfl, ?_⟩) hS ?_
                  rotate_left
                  focus (intro W hW; go_simp; try with_reducible rfl)
                  simp only [Act.put, List.setIfInBounds_toArray, List.set_cons_zero, List.set_cons_succ]
                  refine anyL_one 11 rfl (by kernel_rfl) (fun K hK => ?_)
                  go_simp
                  (with_reducible refine (hc1.out _).mono ?_)
                  rintro e' wt ⟨rfl, hbwt⟩
                  have hT : (fun W => EnW w W s7 s8 base D Z B O A C1 e1 C2 e2 bk As caps q) wt := hS.below hbwt
                  refine hK.out _ _ (fun _ => hT) ?_
                  clear hK K hS hbwt
                  try simp only [Act.put, List.setIfInBounds_toArray, List.set_cons_zero, List.set_cons_succ]
                  refine anyL_take 12 (v := ?_) rfl (by kernel_rfl) (fun _ _ _ h => h) (Or.inl ⟨by rfl, ?_⟩) hT ?_
                  rotate_left
                  focus (intro W hW; go_simp; try with_reducible rfl)
                  simp only [Act.put, List.setIfInBounds_toArray, List.set_cons_zero, List.set_cons_succ]
                  refine anyL_take 13 (v := ?_) rfl (by kernel_rfl) (fun _ _ _ h => h) (Or.inl ⟨by rfl, ?_⟩) hT ?_
                  rotate_left
                  focus (intro W hW; go_simp; try with_reducible rfl)
                  simp only [Act.put, List.setIfInBounds_toArray, List.set_cons_zero, List.set_cons_succ]
                  refine anyL_take 14 (v := ?_) rfl (by kernel_rfl) (fun _ _ _ h => h) (Or.inl ⟨by rfl, ?_⟩) hT ?_
                  rotate_left
                  focus (intro W hW; go_simp; try with_reducible rfl)
                  simp only [Act.put, List.setIfInBounds_toArray, List.set_cons_zero, List.set_cons_succ]
                  refine anyL_take 15 (v := ?_) rfl (by kernel_rfl) (fun _ _ _ h => h) (Or.inl ⟨by rfl, ?_⟩) hT ?_
                  rotate_left
                  focus (intro W hW; go_simp; try with_reducible rfl)
                  simp only [Act.put, List.setIfInBounds_toArray, List.set_cons_zero, List.set_cons_succ]
                  refine anyL_take 16 (v := ?_) rfl (by kernel_rfl) (fun _ _ _ h => h) (Or.inl ⟨by rfl, ?_⟩) hT ?_
                  rotate_left
                  focus (intro W hW; go_simp; try with_reducible rfl)
                  simp only [Act.put, List.setIfInBounds_toArray, List.set_cons_zero, List.set_cons_succ]
                  refine anyL_take 17 (v := ?_) rfl (by kernel_rfl) (fun _ _ _ h => h) (Or.inl ⟨by rfl, ?_⟩) hT ?_
                  rotate_left
                  focus (intro W hW; obtain ⟨⟨⟨⟨g0, g1, g2, g3, g4, _⟩, _, _, _⟩, ⟨f0, f1, f2, f3, f4, _⟩, _, _⟩, _, _, _, _⟩ := hW; go_simp; try with_reducible rfl)
                  simp only [Act.put, List.setIfInBounds_toArray, List.set_cons_zero, List.set_cons_succ]
                  refine anyL_take 18 (v := ?_) rfl (by kernel_rfl) (fun _ _ _ h => h) (Or.inl ⟨by rfl, ?_⟩) hT ?_
                  rotate_left
                  focus (intro W hW; go_simp; try with_reducible rfl)
                  simp only [Act.put, List.setIfInBounds_toArray, List.set_cons_zero, List.set_cons_succ]
                  refine anyL_take 19 (v := ?_) rfl (by kernel_rfl) (fun _ _ _ h => h) (Or.inl ⟨by rfl, ?_⟩) hT ?_
                  rotate_left
                  focus (intro W hW; go_simp; try with_reducible rfl)
                  simp only [Act.put, List.setIfInBounds_toArray, List.set_cons_zero, List.set_cons_succ]
                  refine anyL_take 20 (v := ?_) rfl (by kernel_rfl) (fun _ _ _ h => h) (Or.inl ⟨by rfl, ?_⟩) hT ?_
                  rotate_left
                  focus (intro W hW; go_simp; try with_reducible rfl)
                  simp only [Act.put, List.setIfInBounds_toArray, List.set_cons_zero, List.set_cons_succ]
                  refine anyL_one 21 rfl (by kernel_rfl) (fun K hK => ?_)
                  go_simp
                  (with_reducible refine (hc2.out _).mono ?_)
                  rintro e' wu ⟨rfl, hbwu⟩
                  have hU : (fun W => EnW w W s7 s8 base D Z B O A C1 e1 C2 e2 bk As caps q) wu := hT.below hbwu
                  refine hK.out _ _ (fun _ => hU) ?_
                  clear hK K hT hbwu
                  try simp only [Act.put, List.setIfInBounds_toArray, List.set_cons_zero, List.set_cons_succ]
                  refine anyL_take 22 (v := ?_) rfl (by kernel_rfl) (fun _ _ _ h => h) (Or.inl ⟨by rfl, ?_⟩) hU ?_
                  rotate_left
                  focus (intro W hW; go_simp; try with_reducible rfl)
                  simp only [Act.put, List.setIfInBounds_toArray, List.set_cons_zero, List.set_cons_succ]
                  refine anyL_take 23 (v := ?_) rfl (by kernel_rfl) (fun _ _ _ h => h) (Or.inl ⟨by rfl, ?_⟩) hU ?_
                  rotate_left
                  focus (intro W hW; go_simp; try with_reducible rfl)
                  simp only [Act.put, List.setIfInBounds_toArray, List.set_cons_zero, List.set_cons_succ]
                  refine anyL_take 24 (v := ?_) rfl (by kernel_rfl) (fun _ _ _ h => h) (Or.inl ⟨by rfl, ?_⟩) hU ?_
                  rotate_left
                  focus (intro W hW; go_simp; try with_reducible rfl)
                  simp only [Act.put, List.setIfInBounds_toArray, List.set_cons_zero, List.set_cons_succ]
                  refine anyL_take 25 (v := ?_) rfl (by kernel_rfl) (fun _ _ _ h => h) (Or.inl ⟨by rfl, ?_⟩) hU ?_
                  rotate_left
                  focus (intro W hW; go_simp; try with_reducible rfl)
                  simp only [Act.put, List.setIfInBounds_toArray, List.set_cons_zero, List.set_cons_succ]
                  refine anyL_take 26 (v := ?_) rfl (by kernel_rfl) (fun _ _ _ h => h) (Or.inl ⟨by rfl, ?_⟩) hU ?_
                  rotate_left
                  focus (intro W hW; obtain ⟨⟨⟨⟨g0, g1, g2, g3, g4, _⟩, _, _, _⟩, ⟨f0, f1, f2, f3, f4, _⟩, _, _⟩, _, _, _, _⟩ := hW; go_simp; try with_reducible rfl)
                  simp only [Act.put, List.setIfInBounds_toArray, List.set_cons_zero, List.set_cons_succ]
                  refine anyL_take 27 (v := ?_) rfl (by kernel_rfl) (fun _ _ _ h => h) (Or.inl ⟨by rfl, ?_⟩) hU ?_
                  rotate_left
                  focus (intro W hW; go_simp; try with_reducible rfl)
                  simp only [Act.put, List.setIfInBounds_toArray, List.set_cons_zero, List.set_cons_succ]
                  refine anyL_take 28 (v := ?_) rfl (by kernel_rfl) (fun _ _ _ h => h) (Or.inl ⟨by rfl, ?_⟩) hU ?_
                  rotate_left
                  focus (intro W hW; go_simp; try with_reducible rfl)
                  simp only [Act.put, List.setIfInBounds_toArray, List.set_cons_zero, List.set_cons_succ]
                  refine anyL_take 29 (v := ?_) rfl (by kernel_rfl) (fun _ _ _ h => h) (Or.inl ⟨by rfl, ?_⟩) hU ?_
                  rotate_left
                  focus (intro W hW; go_simp; try with_reducible rfl)
                  simp only [Act.put, List.setIfInBounds_toArray, List.set_cons_zero, List.set_cons_succ]
                  refine anyL_take 30 (v := ?_) rfl (by kernel_rfl) (fun _ _ _ h => h) (Or.inl ⟨by rfl, ?_⟩) hU ?_
                  rotate_left
                  focus (intro W hW; obtain ⟨⟨⟨⟨g0, g1, g2, g3, g4, _⟩, _, _, _⟩, ⟨f0, f1, f2, f3, f4, _⟩, _, _⟩, _, _, _, _⟩ := hW; go_simp; try with_reducible rfl)
                  simp only [Act.put, List.setIfInBounds_toArray, List.set_cons_zero, List.set_cons_succ]
                  refine anyL_take 31 (v := ?_) rfl (by kernel_rfl) (fun _ _ _ h => h) (Or.inl ⟨by rfl, ?_⟩) hU ?_
                  rotate_left
                  focus (intro W hW; go_simp; try with_reducible rfl)
                  simp only [Act.put, List.setIfInBounds_toArray, List.set_cons_zero, List.set_cons_succ]
                  refine anyL_take 32 (v := ?_) rfl (by kernel_rfl) (fun _ _ _ h => h) (Or.inl ⟨by rfl, ?_⟩) hU ?_
                  rotate_left
                  focus (intro W hW; go_simp; try with_reducible rfl)
                  simp only [Act.put, List.setIfInBounds_toArray, List.set_cons_zero, List.set_cons_succ]
                  refine anyL_one 33 rfl (by kernel_rfl) (fun K hK => ?_)
                  go_simp
                  (with_reducible refine (hc3.out _).mono ?_)
                  rintro e' wv ⟨rfl, hbwv⟩
                  have hV : (fun W => EnW w W s7 s8 base D Z B O A C1 e1 C2 e2 bk As caps q) wv := hU.below hbwv
                  refine hK.out _ _ (fun _ => hV) ?_
                  clear hK K hU hbwv
                  try simp only [Act.put, List.setIfInBounds_toArray, List.set_cons_zero, List.set_cons_succ]
                  refine anyL_take 34 (v := ?_) rfl (by kernel_rfl) (fun _ _ _ h => h) (Or.inl ⟨by rfl, ?_⟩) hV ?_
                  rotate_left
                  focus (intro W hW; go_simp; try with_reducible rfl)
                  simp only [Act.put, List.setIfInBounds_toArray, List.set_cons_zero, List.set_cons_succ]
                  refine anyL_one 35 rfl (by kernel_rfl) (fun K hK => ?_)
                  go_simp
                  refine hK.out _ _ (fun _ => hV) ?_
                  clear hK K
                  try simp only [Act.put, List.setIfInBounds_toArray, List.set_cons_zero, List.set_cons_succ]
                  refine anyC_done (by kernel_rfl) ?_ _
                  go_wp2_with fail
                  go_meet
                  exact ⟨rfl, hV⟩
              case rest =>
                obtain ⟨rfl, hW8⟩ := hcut
                clear hW7 hh1 hh2 hh3 hk2 hmodD hDn0 hDn1 hs1w ho2w hp1w hmod
                have hW8H := Lib.hid hW8
                clear hW8
                rcases hfzH.out with ⟨hi, hcn⟩ | ⟨j, hi, ⟨hjl, hjp⟩, hcn⟩
                case inl =>
                  subst hi
                  have hcn2 : Hid (cntZ zs (2 + ((k + 1 : Nat) : Int)) = cn) := Lib.hid (hk1s.out.trans hcn)
                  clear hcn hfzH hk1s
                  have hacc := Lib.hid (had.out _ _ _ _ _ _ hW8H.out.r.i hqk.out)
                  obtain ⟨k0, k1, k2, k3, k4, _⟩ := hW8H.out.r.k
                  obtain ⟨c0, c1, c2, c3, c4, _⟩ := hW8H.out.r.g.2.1
                  go_wp2_with fail
                  (with_reducible refine hacc.out.mono ?_)
                  rintro e w10 ⟨code, x, b', E1, f1, E2, f2, rfl, hRa, hIa, hNa, hba⟩
                  obtain ⟨rfl, rfl⟩ : code = 0 ∧ b' = bkk Q zs ms s Z (k + 1) := by
                    rcases hRa with ⟨h, _⟩ | ⟨_, h, _, h2⟩
                    · exact absurd hadv.out.2 (by omega)
                    · exact ⟨h, h2.trans hadv.out.1⟩
                  have hWa := hW8H.out.below hba
                  have hputa := Lib.hid (hWa.put hIa hNa hW8H.out.le (row_lt hW8H.out.n (Nat.le_refl _)))
                  clear k0 k1 k2 k3 k4 c0 c1 c2 c3 c4
                  obtain ⟨k0, k1, k2, k3, k4, kf⟩ := hWa.r.k
                  clear hRa hIa hNa hba hWa hacc hW8H
                  generalize hbn : bkk Q zs ms s Z (k + 1) = bn at hputa ⊢
                  have hbnH := Lib.hid hbn
                  clear hbn
                  go_wp2_with fail
                  go_roundw
                  case rel => exact ⟨k + 1, As, caps, q, E1, f1, E2, f2, by have := hltH.out; omega, by rw [← hjn.out.1], by rw [hcn2.out], Lib.hid (by rw [hcn2.out]; exact hql.out), Lib.hid (by rw [hbnH.out]; exact hputa.out)⟩
                  case measure => simp only [intOf]; have h1 := hjn.out.1; have h2 := hPH.out; have h3 := hltH.out; omega
                case inr =>
                  subst hi
                  have hcn2 : Hid (cntZ zs (2 + ((k + 1 : Nat) : Int)) = cn + 1) := Lib.hid (hk1s.out.trans hcn)
                  have hjl2 : j < bk.zs.length := by rw [hbz.out.1]; exact hjl
                  obtain ⟨gz, oz, hgz, _, z0, z1, z2⟩ := zo_at hW8H.out.r.i.z hjl2
                  have hjp2 : bk.zs[j].p = p := by
                    have : bk.zs[j] = zs[j] := by simp only [hbz.out.1]
                    rw [this]; exact hjp
                  rw [hjp2] at z0
                  have hj0 : (0 : Int) ≤ (j : Int) := Int.natCast_nonneg _
                  have hjlt : (j : Int) < (bk.zs.length : Int) := by omega
                  have hpp2 : (p != p) = false := by simp
                  subst hgz
                  have k1 := hW8H.out.r.k.c1
                  have hal := (Below.refl wc.heap.size wc).alloc (Nat.le_refl _) (.cells #[.int .i64 (j : Int)] 3)
                  have hzne : bk.zs ≠ [] := fun h => by rw [h] at hjl2; exact absurd hjl2 (Nat.not_lt_zero _)
                  have hmne : bk.ms ≠ [] := fun h => by
                    rw [hbz.out.2] at h
                    have h2 := hmD.out.2
                    rw [h] at h2
                    have h3 : 0 = m := h2
                    omega
                  obtain ⟨A3, cap3, w9, hrun, hW9⟩ := (hW8H.out.below hal).app hzne hmne (m := wc.heap.size) (z := (j : Int)) (by go_simp) (by rw [hql.out]; have := hcq.out; omega)
                  rw [hql.out] at hrun
                  have hrunH := Lib.hid hrun
                  have hW9H := Lib.hid hW9
                  have hql2 : Hid ((q ++ [(j : Int)]).length = cn + 1) := Lib.hid (by rw [List.length_append, hql.out]; rfl)
                  clear hrun hW9 hal hzne hmne hjp hjp2 hjl2 hjl hcn hfzH hk1s z1 z2 hW8H hql
                  go_upto_region 26 with fail
                  clear z0 k1 hjlt
                  go_upto_region 27 with (at_builtin; refine append_run_wp rfl _ _ _ rfl rfl rfl hrunH.out ?_; clear hrunH)
                  have hacc := Lib.hid (had.out _ _ _ _ _ _ hW9H.out.r.i hqk.out)
                  obtain ⟨k0, k1, k2, k3, k4, _⟩ := hW9H.out.r.k
                  obtain ⟨c0, c1, c2, c3, c4, _⟩ := hW9H.out.r.g.2.1
                  go_wp2_with fail
                  (with_reducible refine hacc.out.mono ?_)
                  rintro e w10 ⟨code, x, b', E1, f1, E2, f2, rfl, hRa, hIa, hNa, hba⟩
                  obtain ⟨rfl, rfl⟩ : code = 0 ∧ b' = bkk Q zs ms s Z (k + 1) := by
                    rcases hRa with ⟨h, _⟩ | ⟨_, h, _, h2⟩
                    · exact absurd hadv.out.2 (by omega)
                    · exact ⟨h, h2.trans hadv.out.1⟩
                  have hWa := hW9H.out.below hba
                  have hputa := Lib.hid (hWa.put hIa hNa hW9H.out.le (row_lt hW9H.out.n (Nat.le_refl _)))
                  clear k0 k1 k2 k3 k4 c0 c1 c2 c3 c4
                  obtain ⟨k0, k1, k2, k3, k4, kf⟩ := hWa.r.k
                  clear hRa hIa hNa hba hWa hacc hW9H
                  generalize hbn : bkk Q zs ms s Z (k + 1) = bn at hputa ⊢
                  have hbnH := Lib.hid hbn
                  clear hbn
                  go_wp2_with fail
                  go_roundw
                  case rel => exact ⟨k + 1, A3, cap3, q ++ [(j : Int)], E1, f1, E2, f2, by have := hltH.out; omega, by rw [← hjn.out.1], by rw [hcn2.out], Lib.hid (by rw [hcn2.out]; exact hql2.out), Lib.hid (by rw [hbnH.out]; exact hputa.out)⟩
                  case measure => simp only [intOf]; have h1 := hjn.out.1; have h2 := hPH.out; have h3 := hltH.out; omega
            case neg =>
              have hke : k = n + 1 := by omega
              have hnot : ¬ 2 + (k : Int) < Z := by have := hZH.out; omega
              have hkZ : ¬ ((k + 2 : Nat) : Int) < Z := by omega
              have hcn : cntZ zs (2 + (k : Int)) = n := by rw [cnt_all (fun z hz => by have := (hzs.out.2.2 z hz).2; omega)]; exact hzs.out.1
              rw [hcn] at hql ⊢
              have hne := Lib.hid (fun p i t (h : NextR (bkk Q zs ms s Z k) Z p i t) => next_end h hnot)
              have hsl := (bkk_off (q := Q) (zs := zs) (ms := ms) (s := s) hnot).1
              have hh := Lib.hid (fun W C1 e1 C2 e2 => hhs.out W C1 e1 C2 e2 (bkk Q zs ms s Z k) (s : Int) 2)
              rw [has_off hnot (by rw [hmD.out.2]; exact hsm)] at hh
              have hbs := Lib.hid (fun W A1 c1 A2 c2 (h : BkIn W A1 c1 A2 c2 (bkk Q zs ms s Z k)) => beg_spent W D Z B O A A1 c1 A2 c2 (bkk Q zs ms s Z k) s h hqk.out hgH.out (by rw [bkk_ms, hmD.out.2]; exact hDH.out.symm) (by rw [bkk_ms, hmD.out.2]; exact hsm) (spent_busy hnot) (by rw [bkk_ms]; exact hmD.out.1))
              have hzn := Lib.hid (fun W => zones_any D Z B O A W)
              rw [zonesV_good (goodB_iff.1 hgH.out), show Z - 3 = (n : Int) by have := hZH.out; omega] at hzn
              generalize bkk Q zs ms s Z k = bk at hW hne hsl hh hbs hqk
              have hslH := Lib.hid hsl
              generalize ((k + 2 : Nat) : Int) = P at hkZ ⊢
              clear hcn hke hnot hsl hk hlt
              obtain ⟨k0, k1, k2, k3, k4, _⟩ := hW.out.r.k
              obtain ⟨c0, c1, c2, c3, c4, _⟩ := hW.out.r.g.2.1
              have hnc := Lib.hid (hnx.out _ _ _ _ _ _ hW.out.r.i)
              go_wp2_with fail
              (with_reducible refine hnc.out.mono ?_)
              rintro e w7 ⟨p, i, t, rfl, hR, hb7⟩
              obtain ⟨rfl, rfl, rfl⟩ := hne.out _ _ _ hR
              have hW7 := hW.out.below hb7
              have hbc := Lib.hid (hbs.out _ _ _ _ _ hW7.r.i)
              have hW7H := Lib.hid hW7
              clear hnc hR hb7 hW hne k0 k1 k2 k3 k4 c0 c1 c2 c3 c4 g1
              obtain ⟨k0, k1, k2, k3, k4, _⟩ := hW7.r.k
              obtain ⟨c0, c1, c2, c3, c4, _⟩ := hW7.r.g.2.1
              clear hW7
              go_wp2_with fail
              (with_reducible refine hbc.out.mono ?_)
              rintro e w8 ⟨X1, x1, X2, x2, Ax, cx, rfl, hb8⟩
              have hW8 := Lib.hid ((hW7H.out.below hb8).below ((Below.refl w8.heap.size w8).alloc (Nat.le_refl _) (.cells #[.int .i64 0, .slice X1 0 x1, .slice X2 0 x2, .int .i64 0, .int .i64 0] 58)))
              clear hbc hb8 hW7H k0 k1 k2 k3 k4 c0 c1 c2 c3 c4
              go_upto_region 32 with fail
              generalize w8.heap.size = s22
              refine fresh_world (fun W => EnW w W s7 s8 base D Z B O A C1 e1 C2 e2 bk As caps q) hW8.out ?_
              clear hW8
              rintro w9 h9
              have h9H := Lib.hid h9
              obtain ⟨k0, k1, k2, k3, k4, _⟩ := h9.r.k
              have hkl := h9.r.k.lt
              rw [hslH.out] at k3
              have hhc := Lib.hid (fun W => hh.out W C1 e1 C2 e2)
              rw [hslH.out] at hhc
              clear h9 hh
              go_wp2_with fail
              (with_reducible refine (hhc.out _).mono ?_)
              rintro e wA ⟨rfl, hbA⟩
              have hA := h9H.out.below hbA
              have hAH := Lib.hid hA
              clear h9H hbA hhc k0 k1 k2 k3 k4 hkl
              obtain ⟨c0, c1, c2, c3, c4, _⟩ := hA.r.g.2.1
              clear hA
              go_wp2_with fail
              (with_reducible refine (hzn.out _).mono ?_)
              rintro e wB ⟨rfl, hbB⟩
              have hF := Lib.hid (bmore hAH.out.r.g.2.2.1 hbB)
              clear hAH hbB hzn c0 c1 c2 c3 c4
              go_wp2_with fail
              go_ret
              exact ⟨rfl, hF.out⟩
        | true =>
            obtain ⟨hlo, hl20⟩ := htH.out.1 rfl
            clear htH
            have hloI : (k : Int) < (os.length : Int) := by omega
            have hkw : IntKind.i64.wrap ((k : Int) + 1) = (k : Int) + 1 := IntWalk.i64_in _ (by omega)
            obtain ⟨gO, oO, rfl, e0⟩ := ints_at16 (hoH.out wc hW.out.g.2.2.1) (k := k) (by omega)
            generalize os.getD k 0 = x at e0
            obtain ⟨t2, j, y1, y2, y3, y4, y5, y6, y7, y8, y9⟩ := mod_more16 x (m := (n : Int)) (by omega) (by omega)
            have hjn : j < n := by omega
            have hzl := hE.out.v.zl
            have k1 := hW.out.k.c1
            rw [hzl] at k1
            have hkl := hW.out.k.lt
            go_upto_region 11 with fail
            go_quiet (fail)
            go_upto_region 12 with fail
            refine fresh_world (fun W => RbW w W s7 s8 D Z B O A C1 e1 C2 e2 b) (hW.out.below (below_drewN (Below.refl _ wc) _)) ?_
            clear y1 y2 y3 y4 y5 y6 y7 y8 y9 k1 hkl hW e0
            rintro w5 h5
            have hqb := hE.out.q
            have hqw : IntKind.i64.wrap (b.q + 1) = b.q + 1 := IntWalk.i64_in _ (by omega)
            have hS : (fun W => RbW w W s7 s8 D Z B O A C1 e1 C2 e2 b) w5.drew := h5.below (Below.refl _ _).drew
            have hfr := Lib.hid (fun W (h : RbW w W s7 s8 D Z B O A C1 e1 C2 e2 b) => free_any W C1 e1 C2 e2 b D Z B O A h.i (by have := hZH.out; omega))
            have hnt := Lib.hid (fun W x (h : RbW w W s7 s8 D Z B O A C1 e1 C2 e2 b) => note_any W C1 e1 C2 e2 b x h.i)
            have hstep := Lib.hid (fun f (hf : IsFree b.zs Z f) => hE.out.step (by have := hZH.out; omega) hjn hf)
            clear h5 hqb hzl
            refine region_anyC (fun i => decide (i < 9)) (fun W => RbW w W s7 s8 D Z B O A C1 e1 C2 e2 b) (by kernel_rfl) ?_
            generalize w5.drew = wd at hS ⊢
            refine anyL_take 0 (v := ?_) rfl (by kernel_rfl) (fun _ _ _ h => h) (Or.inl ⟨by rfl, ?_⟩) hS ?_
            rotate_left
            focus (intro W hW; obtain ⟨⟨_, ⟨g0, g1, g2, g3, g4, _⟩, _, _⟩, ⟨f0, f1, f2, f3, f4, _⟩, _, _⟩ := hW; go_simp; try with_reducible rfl)
            simp only [Act.put, List.setIfInBounds_toArray, List.set_cons_zero, List.set_cons_succ]
            refine anyL_take 1 (v := ?_) rfl (by kernel_rfl) (fun _ _ _ h => h) (Or.inl ⟨by rfl, ?_⟩) hS ?_
            rotate_left
            focus (intro W hW; go_simp; try with_reducible rfl)
            simp only [Act.put, List.setIfInBounds_toArray, List.set_cons_zero, List.set_cons_succ]
            refine anyL_take 2 (v := ?_) rfl (by kernel_rfl) (fun _ _ _ h => h) (Or.inl ⟨by rfl, ?_⟩) hS ?_
            rotate_left
            focus (intro W hW; obtain ⟨⟨_, ⟨g0, g1, g2, g3, g4, _⟩, _, _⟩, ⟨f0, f1, f2, f3, f4, _⟩, _, _⟩ := hW; go_simp; try with_reducible rfl)
            simp only [Act.put, List.setIfInBounds_toArray, List.set_cons_zero, List.set_cons_succ]
            refine anyL_take 3 (v := ?_) rfl (by kernel_rfl) (fun _ _ _ h => h) (Or.inl ⟨by rfl, ?_⟩) hS ?_
            rotate_left
            focus (intro W hW; go_simp; try with_reducible rfl)
            simp only [Act.put, List.setIfInBounds_toArray, List.set_cons_zero, List.set_cons_succ]
            refine anyL_take 4 (v := ?_) rfl (by kernel_rfl) (fun _ _ _ h => h) (Or.inl ⟨by rfl, ?_⟩) hS ?_
            rotate_left
            focus (intro W hW; go_simp; try with_reducible rfl)
            simp only [Act.put, List.setIfInBounds_toArray, List.set_cons_zero, List.set_cons_succ]
            refine anyL_take 5 (v := ?_) rfl (by kernel_rfl) (fun _ _ _ h => h) (Or.inl ⟨by rfl, ?_⟩) hS ?_
            rotate_left
            focus (intro W hW; obtain ⟨⟨_, ⟨g0, g1, g2, g3, g4, _⟩, _, _⟩, ⟨f0, f1, f2, f3, f4, _⟩, _, _⟩ := hW; go_simp; try with_reducible rfl)
            simp only [Act.put, List.setIfInBounds_toArray, List.set_cons_zero, List.set_cons_succ]
            refine anyL_take 6 (v := ?_) rfl (by kernel_rfl) (fun _ _ _ h => h) (Or.inl ⟨by rfl, ?_⟩) hS ?_
            rotate_left
            focus (intro W hW; obtain ⟨⟨_, ⟨g0, g1, g2, g3, g4, _⟩, _, _⟩, ⟨f0, f1, f2, f3, f4, _⟩, _, _⟩ := hW; go_simp; try with_reducible rfl)
            simp only [Act.put, List.setIfInBounds_toArray, List.set_cons_zero, List.set_cons_succ]
            refine anyL_one 7 rfl (by kernel_rfl) (fun K hK => ?_)
            go_simp
            (with_reducible refine (hfr.out _ hS).mono ?_)
            rintro e' wf ⟨f, rfl, hfree, hbf⟩
            have hS2 : (fun W => RbW w W s7 s8 D Z B O A C1 e1 C2 e2 b) wf := hS.below hbf
            refine hK.out _ _ (fun _ => hS2) ?_
            clear hK K hS hbf
            try simp only [Act.put, List.setIfInBounds_toArray, List.set_cons_zero, List.set_cons_succ]
            refine anyL_take 8 (v := ?_) rfl (by kernel_rfl) (fun _ _ _ h => h) (Or.inl ⟨by rfl, ?_⟩) hS2 ?_
            rotate_left
            focus (intro W hW; go_simp; try with_reducible rfl)
            simp only [Act.put, List.setIfInBounds_toArray, List.set_cons_zero, List.set_cons_succ]
            have hEn := Lib.hid (hstep.out f hfree)
            have hncall := Lib.hid (hnt.out wf ⟨3, b.q + 1, (j : Int), f, 1, 0, ⟨#[]⟩⟩ hS2)
            generalize noteB b ⟨3, b.q + 1, (j : Int), f, 1, 0, ⟨#[]⟩⟩ = bn at hEn hncall
            clear hstep hnt hfr hfree
            refine anyL_one 9 rfl (by kernel_rfl) (fun K hK => ?_)
            go_simp
            refine hncall.out.mono ?_
            rintro e' wn ⟨N1, n1, N2, n2, rfl, hO, hbn⟩
            refine hK.out _ _ (fun h => absurd h (by decide)) ?_
            clear hK K hncall
            try simp only [Act.put, List.setIfInBounds_toArray, List.set_cons_zero, List.set_cons_succ]
            have hSn := hS2.below hbn
            have hNn := NewB.of hO (Nat.le_refl _)
            have hs8 := hS2.k.lt
            have hput := Lib.hid (hSn.put hO.in_ (fun g off e => (by have := hNn.1 g off e; omega)) (fun g off e => (by have := hNn.2 g off e; omega)))
            obtain ⟨p0, p1, p2, p3, p4, pf⟩ := hSn.k
            clear hO hbn hSn hNn hs8 hS2
            refine anyL_one 10 rfl (by kernel_rfl) (fun K hK => ?_)
            go_simp
            refine hK.out _ _ (fun h => absurd h (by decide)) ?_
            clear hK K
            try simp only [Act.put, List.setIfInBounds_toArray, List.set_cons_zero, List.set_cons_succ]
            refine anyC_done (by kernel_rfl) ?_ _
            clear p0 p1 p2 p3 p4 pf
            go_wp2_with fail
            go_roundw
            case rel => exact ⟨k + 1, _, N1, n1, N2, n2, by omega, by omega, by go_num, hEn, hput⟩
            case measure => simp only [intOf]; omega
end Go.Proofs.Ytdjdldcpaidmnaa
