/- BookWrites, walked. -/
import Derived.Test.YtpmhfalhieinjaaBkWrtN
import Derived.BigQuiet
namespace Go.Proofs.Ytpmhfalhieinjaa
open Go.RowKit Rec Bk

set_option maxRecDepth 100000 in
set_option maxHeartbeats 8000000 in
theorem writes_law (D Z B O A : Int) (A0 : Option Addr) (cap0 : Nat) (ls : List PRow) (x : Int) (w : World) (hI : PIn w A0 ls) :
    Calls Try.prog 4 #[.agg #[.int .i64 D, .int .i64 Z, .int .i64 B, .int .i64 O, .int .i64 A], .slice A0 ls.length cap0, .int .i64 x] w fun e w' => e = .returned (.bool true) ∧ Below w.heap.size w w' := by
  have hst := Lib.hid (box_start w D Z B O A 23)
  have hgv := Lib.hid (fun W (hb : Below w.heap.size w W) => given10 W A0 cap0 ls (hI.below hb))
  clear hI
  go_enter Try.func4, Try.ntmps4
  obtain ⟨ff, hff⟩ : ∃ ff, ff = Try.f4 := ⟨_, rfl⟩
  rw [← hff]
  have hffH := Lib.hid hff
  clear hff
  go_upto_region 1 with fail
  refine fresh_world (fun W => GzAt W w.heap.size D Z B O A ∧ Below w.heap.size w W) hst.out ?_
  clear hst
  rintro W0 ⟨hg, hb⟩
  have hgH := Lib.hid hg
  have hbH := Lib.hid hb
  clear hg hb
  go_wp2_with fail
  refine (speaks10 _).mono ?_
  rintro e w1 ⟨rfl, hb1⟩
  have hg1 := Lib.hid (hgH.out.below hb1)
  have hb1H := Lib.hid (hbH.out.trans (hb1.mono hbH.out.size))
  clear hb1 hgH hbH
  go_wp2_with fail
  refine (hgv.out _ hb1H.out).mono ?_
  rintro e w2 ⟨Aa, ca, la, Ab, cb, lb, rfl, ha, hb, hO⟩
  have htw := reads_new D Z B O A ha hb Aa Ab ca cb
  have hlok := Lib.hid (giv_ok ha).1
  have hla8 : la.length ≤ 8 := by
    have := congrArg List.length ha
    unfold givL at this
    rw [List.length_map, List.length_map, List.length_take] at this
    omega
  have hlt1 : w.heap.size < w1.heap.size := lt_of_cell hg1.out.1
  have hN := Lib.hid (⟨hg1.out.below hO.bw, hO, hb1H.out.trans (hO.bw.mono hb1H.out.size), hlt1⟩ : WrW w w1 w2 D Z B O A Aa ca la Ab cb lb)
  clear ha hb hO hg1 hb1H hgv hlt1
  obtain ⟨x0, x1, x2, x3, x4⟩ := hN.out.g
  rcases htw with ⟨ev, hev, hra, hrb⟩ | ⟨n, m, hgd, hD, hn, hsays, hra, hrb⟩
  · have hraH := Lib.hid hra
    have hrbH := Lib.hid hrb
    clear hra hrb
    go_wp2_with fail
    refine (hraH.out _ hN.out.o.outA).mono ?_
    rintro e w3 ⟨rfl, hb3⟩
    have hN3 := Lib.hid (boxed (W := w3) (b := noB) (A1 := none) (c1 := 0) (A2 := none) (c2 := 0) ⟨.inl rfl, .inl rfl, fun _ => rfl, fun _ => rfl, Nat.zero_le _, Nat.zero_le _⟩ 33 (R := fun W => WrW w w1 W D Z B O A Aa ca la Ab cb lb) (hN.out.below hb3) (fun _ _ h hb => h.below hb))
    clear hN x0 x1 x2 x3 x4 hb3
    go_upto_region 5 with fail
    refine fresh_world (fun W' => BkAt W' w3.heap.size none 0 none 0 noB ∧ BkIn W' none 0 none 0 noB ∧ WrW w w1 W' D Z B O A Aa ca la Ab cb lb) hN3.out ?_
    clear hN3
    generalize w3.heap.size = X
    rintro W4 ⟨-, -, hN⟩
    have hNH := Lib.hid hN
    obtain ⟨x0, x1, x2, x3, x4⟩ := hN.g
    clear hN
    go_wp2_with fail
    refine (hrbH.out _ hNH.out.o.outB).mono ?_
    rintro e w5 ⟨rfl, hb5⟩
    have hbw := Lib.hid ((hNH.out.bw.trans (hb5.mono hNH.out.bw.size)).alloc (Nat.le_trans hNH.out.bw.size hb5.size) (.cells #[.int .i64 0, .slice none 0 0, .slice none 0 0, .int .i64 0, .int .i64 0] 40))
    clear hNH x0 x1 x2 x3 x4 hb5
    have hev' : (ev != 0) = true := by simp [hev]
    go_wp2_with fail
    rw [hffH.out]
    exact bodyPost_ret (v := .bool true) (by simp [results, Try.results4, go_sem]) rfl ⟨rfl, hbw.out⟩
  · subst hD
    have hraH := Lib.hid hra
    have hrbH := Lib.hid hrb
    have hq := read_q (n := n) (m := m) (lists_rc hlok.out)
    have hval := read_val hsays
    have hqm : ∀ y ∈ flatL la, y.s ≤ (readB n m (flatL la)).q := fun y hy => maxQ_le hy
    have hvH := Lib.hid hval
    have hqmH := Lib.hid hqm
    have hgdH := Lib.hid hgd
    have hnH := Lib.hid hn
    clear hra hrb hval hqm hgd hn hsays
    generalize readB n m (flatL la) = b at hraH hrbH hq hvH hqmH
    go_wp2_with fail
    refine (hraH.out _ hN.out.o.outA).mono ?_
    rintro e w3 ⟨A1, c1, A2, c2, rfl, hI, hb3, -⟩
    have hAX : ∀ g, Aa = some ⟨g, 0, none⟩ → g < w3.heap.size := fun g e => by
      rcases (hN.out.o.below hb3).a.form with ⟨e', _⟩ | ⟨g', e', _, hl, _⟩
      · rw [e'] at e; cases e
      · rw [e'] at e; injection e with e; injection e with e; omega
    have h1X : w1.heap.size ≤ w3.heap.size := Nat.le_trans hN.out.o.bw.size hb3.size
    have hN3 := Lib.hid (boxed hI 33 (R := fun W => WrW w w1 W (m : Int) Z B O A Aa ca la Ab cb lb) (hN.out.below hb3) (fun _ _ h hb => h.below hb))
    clear hN x0 x1 x2 x3 x4 hb3 hI hraH
    go_upto_region 5 with fail
    refine fresh_world (fun W' => BkAt W' w3.heap.size A1 c1 A2 c2 b ∧ BkIn W' A1 c1 A2 c2 b ∧ WrW w w1 W' (m : Int) Z B O A Aa ca la Ab cb lb) hN3.out ?_
    clear hN3
    generalize w3.heap.size = X at hAX h1X ⊢
    rintro W4 ⟨hB, hI, hN⟩
    have hNH := Lib.hid hN
    have hBH := Lib.hid hB
    have hIH := Lib.hid hI
    obtain ⟨x0, x1, x2, x3, x4⟩ := hN.g
    clear hN hB hI
    go_wp2_with fail
    refine (hrbH.out _ hNH.out.o.outB).mono ?_
    rintro e w5 ⟨A3, c3, A4, c4, rfl, hJ, hb5, hnew⟩
    have hA34 : ∀ g off, A3 = some ⟨g, off, none⟩ ∨ A4 = some ⟨g, off, none⟩ → X < g ∧ g < w5.heap.size := fun g off h => by
      have h1 := hnew g off h
      have h2 := hBH.out.lt
      omega
    clear hnew
    have hXY : X < w5.heap.size := (hBH.out.below hb5).lt
    have hN5 := Lib.hid (boxed hJ 40 (R := fun W => BkAt W X A1 c1 A2 c2 b ∧ BkIn W A1 c1 A2 c2 b ∧ WrW w w1 W (m : Int) Z B O A Aa ca la Ab cb lb) ⟨hBH.out.below hb5, hIH.out.below hb5, hNH.out.below hb5⟩ (fun _ _ h hb => ⟨h.1.below hb, h.2.1.below hb, h.2.2.below hb⟩))
    clear hBH hIH hNH x0 x1 x2 x3 x4 hb5 hJ hrbH
    go_upto_region 6 with fail
    refine fresh_world (fun W' => BkAt W' w5.heap.size A3 c3 A4 c4 b ∧ BkIn W' A3 c3 A4 c4 b ∧ BkAt W' X A1 c1 A2 c2 b ∧ BkIn W' A1 c1 A2 c2 b ∧ WrW w w1 W' (m : Int) Z B O A Aa ca la Ab cb lb) hN5.out ?_
    clear hN5
    generalize w5.heap.size = Y at hXY hA34 ⊢
    rintro W6 ⟨hC, hJ, hB, hI, hN⟩
    obtain ⟨q, zs, ms, sl, cu⟩ := b
    obtain ⟨q9, hq9⟩ : ∃ q9, q9 = q + ((recsB ⟨q, zs, ms, sl, cu⟩).length : Int) := ⟨_, rfl⟩
    have hnx : nextB ⟨q, zs, ms, sl, cu⟩ = ⟨q9, zs, ms, sl, cu⟩ := by
      rw [hq9, recsB_len, ← bare_len]
      rfl
    have hrx := records_any W6 A1 c1 A2 c2 ⟨q, zs, ms, sl, cu⟩ hI (by have h1 := hq.1; have h2 := hq.2; dsimp only at h1 h2 ⊢; omega)
    unfold RecPost at hrx
    have hry := fun W (hJ : BkIn W A3 c3 A4 c4 ⟨q, zs, ms, sl, cu⟩) => rrecords_any W A3 c3 A4 c4 ⟨q, zs, ms, sl, cu⟩ hJ (by have h1 := hq.1; have h2 := hq.2; dsimp only at h1 h2 ⊢; omega)
    unfold RecRPost at hry
    rw [recsR_recsB (b := ⟨q, zs, ms, sl, cu⟩) (by have h := hvH.out.c; dsimp only at h ⊢; omega)] at hry
    have hrl := recsB_len ⟨q, zs, ms, sl, cu⟩
    have hzb := hI.zl
    have hmb := hI.ml
    dsimp only at hrl hzb hmb hq
    rw [hnx] at hrx
    have hnxH := Lib.hid hnx
    obtain ⟨rs, hrs⟩ : ∃ rs, recsB ⟨q, zs, ms, sl, cu⟩ = rs := ⟨_, rfl⟩
    rw [hrs] at hrx hry hrl hq9
    have hrsH := Lib.hid hrs
    have hrlH := Lib.hid hrl
    have hq9H := Lib.hid hq9
    clear hq9
    have hrb : rs.length ≤ 200 := by omega
    have hr1 : 1 ≤ rs.length := by omega
    dsimp only at hrx hry
    have hrxH := Lib.hid hrx
    have hryH := Lib.hid hry
    clear hrx hry hnx hrs hrl hzb hmb
    have hNH := Lib.hid hN
    have hCH := Lib.hid hC
    have hJH := Lib.hid hJ
    obtain ⟨b0, b1, b2, b3, b4, bf⟩ := hB
    obtain ⟨y0, y1, y2, y3, y4, yf⟩ := hC
    dsimp only at b0 b1 b2 b3 b4 y0 y1 y2 y3 y4
    clear hN hI hJ
    go_wp2_with fail
    (with_reducible refine hrxH.out.mono ?_)
    rintro e w7 ⟨Al, cl, U1, d1, U2, d2, rfl, hR, hO, hb7⟩
    have hYU : Y < w7.heap.size := (hCH.out.below hb7).lt
    obtain ⟨gl, eAl, hg6, hgU, hrc⟩ : ∃ gl, Al = some ⟨gl, 0, none⟩ ∧ W6.heap.size ≤ gl ∧ gl < w7.heap.size ∧ rs.length ≤ cl := by
      rcases hR.form with ⟨_, _, e3⟩ | ⟨g, e, h1, h2, h3⟩
      · rw [e3] at hr1; exact absurd hr1 (by decide)
      · exact ⟨g, e, h1, h2, h3⟩
    have hYg : Y < gl := Nat.lt_of_lt_of_le hCH.out.lt hg6
    have hU12 : ∀ g off, U1 = some ⟨g, off, none⟩ ∨ U2 = some ⟨g, off, none⟩ → Y < g ∧ g < w7.heap.size := fun g off h => by
      have h1 := own_in hO.z hO.m g off h
      have h2 := hCH.out.lt
      omega
    subst eAl
    have hN7 := Lib.hid (boxed hO.in_ 33 (R := fun W => BkAt W Y A3 c3 A4 c4 ⟨q, zs, ms, sl, cu⟩ ∧ BkIn W A3 c3 A4 c4 ⟨q, zs, ms, sl, cu⟩ ∧ RecsAt W (some ⟨gl, 0, none⟩) rs ∧ WrW w w1 W (m : Int) Z B O A Aa ca la Ab cb lb) ⟨hCH.out.below hb7, hJH.out.below hb7, hR.recsAt, hNH.out.below hb7⟩ (fun _ _ h hb => ⟨h.1.below hb, h.2.1.below hb, RecsAt.below h.2.2.1 hb, h.2.2.2.below hb⟩))
    dsimp only at hN7
    clear b0 b1 b2 b3 b4 bf y0 y1 y2 y3 y4 yf hNH hCH hJH hO hR hb7 hrxH hg6
    go_upto_region 9 with fail
    refine fresh_world (fun W' => BkAt W' w7.heap.size U1 d1 U2 d2 ⟨q9, zs, ms, sl, cu⟩ ∧ BkIn W' U1 d1 U2 d2 ⟨q9, zs, ms, sl, cu⟩ ∧ BkAt W' Y A3 c3 A4 c4 ⟨q, zs, ms, sl, cu⟩ ∧ BkIn W' A3 c3 A4 c4 ⟨q, zs, ms, sl, cu⟩ ∧ RecsAt W' (some ⟨gl, 0, none⟩) rs ∧ WrW w w1 W' (m : Int) Z B O A Aa ca la Ab cb lb) hN7.out ?_
    clear hN7
    generalize w7.heap.size = U at hYU hgU hU12 ⊢
    rintro W8 ⟨hB, hI, hC, hJ, hR, hN⟩
    have hry := Lib.hid (hryH.out _ hJ)
    have hKH := Lib.hid (⟨hB, hI, hC, hJ, hR, hN⟩ : BkAt W8 U U1 d1 U2 d2 ⟨q9, zs, ms, sl, cu⟩ ∧ BkIn W8 U1 d1 U2 d2 ⟨q9, zs, ms, sl, cu⟩ ∧ BkAt W8 Y A3 c3 A4 c4 ⟨q, zs, ms, sl, cu⟩ ∧ BkIn W8 A3 c3 A4 c4 ⟨q, zs, ms, sl, cu⟩ ∧ RecsAt W8 (some ⟨gl, 0, none⟩) rs ∧ WrW w w1 W8 (m : Int) Z B O A Aa ca la Ab cb lb)
    obtain ⟨y0, y1, y2, y3, y4, yf⟩ := hC
    dsimp only at y0 y1 y2 y3 y4
    clear hB hI hJ hR hN hryH
    go_wp2_with fail
    (with_reducible refine hry.out.mono ?_)
    rintro e w9 ⟨Ay, cy, rfl, hRy, hb9⟩
    have hK9 := Lib.hid (show BkAt w9 U U1 d1 U2 d2 ⟨q9, zs, ms, sl, cu⟩ ∧ BkIn w9 U1 d1 U2 d2 ⟨q9, zs, ms, sl, cu⟩ ∧ BkAt w9 Y A3 c3 A4 c4 ⟨q, zs, ms, sl, cu⟩ ∧ BkIn w9 A3 c3 A4 c4 ⟨q, zs, ms, sl, cu⟩ ∧ RecsAt w9 (some ⟨gl, 0, none⟩) rs ∧ WrW w w1 w9 (m : Int) Z B O A Aa ca la Ab cb lb ∧ RecsAt w9 Ay rs from
      ⟨hKH.out.1.below hb9, hKH.out.2.1.below hb9, hKH.out.2.2.1.below hb9, hKH.out.2.2.2.1.below hb9, RecsAt.below hKH.out.2.2.2.2.1 hb9, hKH.out.2.2.2.2.2.below hb9, hRy.recsAt⟩)
    clear hKH hRy hb9 y0 y1 y2 y3 y4 yf hry
    obtain ⟨y0, y1, y2, y3, y4, yf⟩ := hK9.out.2.2.1
    obtain ⟨u0, u1, u2, u3, u4, uf⟩ := hK9.out.1
    dsimp only at y0 y1 y2 y3 y4 u0 u1 u2 u3 u4
    have hq9b : -9223372036854775808 ≤ q + (rs.length : Int) ∧ q + (rs.length : Int) ≤ 9223372036854775807 := by omega
    have hqw : IntKind.i64.wrap (q + (rs.length : Int)) = q9 := by rw [hq9H.out]; exact IntWalk.i64_in _ hq9b
    clear hq9b
    go_wp2_with fail
    clear y0 y1 y2 y3 y4 yf u0 u1 u2 u3 u4 uf hqw
    go_loopw [16] (fun i wr => ∃ j : Nat, j ≤ rs.length ∧ i = .int .i64 (j : Int) ∧ BkAt wr U U1 d1 U2 d2 ⟨q9, zs, ms, sl, cu⟩ ∧ BkIn wr U1 d1 U2 d2 ⟨q9, zs, ms, sl, cu⟩ ∧ BkAt wr Y A3 c3 A4 c4 ⟨q, zs, ms, sl, cu⟩ ∧ BkIn wr A3 c3 A4 c4 ⟨q, zs, ms, sl, cu⟩ ∧ RecsAt wr (some ⟨gl, 0, none⟩) rs ∧ WrW w w1 wr (m : Int) Z B O A Aa ca la Ab cb lb ∧ RecsAt wr Ay rs) (fun i _ => rs.length - (intOf i).toNat)
    case atStart => exact ⟨0, Nat.zero_le _, rfl, hK9.out⟩
    case round =>
      clear hK9
      obtain ⟨j, hj, rfl, hK⟩ := hrel
      have hKH := Lib.hid hK
      by_cases hlt : j < rs.length
      case pos =>
        obtain ⟨g1, o1, e1, -, s0, s1, s2, s3, s4, s5, s6⟩ := hK.2.2.2.2.1.at_ hlt
        obtain ⟨g2, o2, e2, -, t0, t1, t2, t3, t4, t5, t6⟩ := hK.2.2.2.2.2.2.at_ hlt
        injection e1 with e1
        injection e1 with e1 e1'
        subst e1
        subst e1'
        subst e2
        rw [Nat.zero_add] at s0 s1 s2 s3 s4 s5 s6
        have hj1 : (j : Int) < (rs.length : Int) := by omega
        have hkw : IntKind.i64.wrap ((j : Int) + 1) = (j : Int) + 1 := IntWalk.i64_in _ (by omega)
        have hne := fun W => (refrec_eql W rs[j] rs[j]).2
        rw [eqR_self] at hne
        clear hK
        generalize rs[j] = z at s0 s1 s2 s3 s4 s5 s6 t0 t1 t2 t3 t4 t5 t6 hne
        go_wp2_with fail
        go_quiet (fail)
        go_wp2_with fail
        go_roundw
        case rel =>
          obtain ⟨n1, n2, n3, n4, n5, n6, n7⟩ := hKH.out
          have hd := below_drewN (Below.refl wr.heap.size wr)
          exact ⟨j + 1, by omega, by go_num, n1.below (hd _), n2.below (hd _), n3.below (hd _), n4.below (hd _), RecsAt.below n5 (hd _), n6.below (hd _), RecsAt.below n7 (hd _)⟩
        case measure => simp only [intOf]; omega
      case neg =>
        have hj1 : ¬ (j : Int) < (rs.length : Int) := by omega
        clear hlt hj
        obtain ⟨u0, u1, u2, u3, u4, uf⟩ := hK.1
        dsimp only at u0 u1 u2 u3 u4
        have hbw := Lib.hid hK.2.2.2.2.2.1.bw
        clear hK
        by_cases hbig : q9 > 1099511627776
        · have hgt : (1099511627776 : Int) < q9 := hbig
          go_wp2_with fail
          rw [hffH.out]
          exact bodyPost_ret (v := .bool true) (by simp [results, Try.results4, go_sem]) rfl ⟨rfl, hbw.out⟩
        · have hgt : ¬ (1099511627776 : Int) < q9 := hbig
          obtain ⟨t, i', ht, t1, t2, ht3, ht4, hi'⟩ := into_modB x (rs.length + 1) (by omega) (by omega)
          have hcast : ((rs.length + 1 : Nat) : Int) = (rs.length : Int) + 1 := by omega
          rw [hcast] at ht t1 t2 ht3 ht4
          have hn0 : ¬ (rs.length : Int) + 1 = 0 := by omega
          have hw1 : IntKind.i64.wrap ((rs.length : Int) + 1) = (rs.length : Int) + 1 := IntWalk.i64_in _ (by omega)
          have hw2 : IntKind.i64.wrap (t + (rs.length : Int)) = t + (rs.length : Int) := IntWalk.i64_in _ (by omega)
          have hw3 : IntKind.i64.wrap (t + (rs.length : Int) + 1) = t + ((rs.length : Int) + 1) := by rw [IntWalk.i64_in _ (by omega)]; omega
          go_upto_region 20 with fail
          clear u0 u1 u2 u3 u4 uf ht t1 t2 ht3 ht4 hw1 hw2 hw3 hn0 hcast
          have hS := hKH.out.2.2.2.2.2.1.g
          refine region_anyC (fun _ => true) (fun W => GzAt W w.heap.size (m : Int) Z B O A) (by kernel_rfl) ?_
          have hS0 : GzAt wr.drew w.heap.size (m : Int) Z B O A := hS
          refine anyL_take 0 (v := ?_) rfl (by kernel_rfl) (fun _ _ _ h => h) (Or.inl ⟨by rfl, ?_⟩) hS0 ?_
          rotate_left
          focus (intro W hW; obtain ⟨x0, x1, x2, x3, x4⟩ := hW; go_simp; try with_reducible rfl)
          simp only [Act.put, List.setIfInBounds_toArray, List.set_cons_zero, List.set_cons_succ]
          refine anyL_take 2 (v := ?_) rfl (by kernel_rfl) (fun _ _ _ h => h) (Or.inl ⟨by rfl, ?_⟩) hS0 ?_
          rotate_left
          focus (intro W hW; go_simp; try with_reducible rfl)
          simp only [Act.put, List.setIfInBounds_toArray, List.set_cons_zero, List.set_cons_succ]
          refine anyL_take 3 (v := ?_) rfl (by kernel_rfl) (fun _ _ _ h => h) (Or.inl ⟨by rfl, ?_⟩) hS0 ?_
          rotate_left
          focus (intro W hW; go_simp; try with_reducible rfl)
          simp only [Act.put, List.setIfInBounds_toArray, List.set_cons_zero, List.set_cons_succ]
          have hle1 : (i' : Int) ≤ (rs.length : Int) := by omega
          have hle2 : (i' : Int) ≤ (cl : Int) := by omega
          refine anyL_take 4 (v := ?_) rfl (by kernel_rfl) (fun _ _ _ h => h) (Or.inl ⟨by rfl, ?_⟩) hS0 ?_
          rotate_left
          focus (intro W hW; go_simp; try with_reducible rfl)
          simp only [Act.put, List.setIfInBounds_toArray, List.set_cons_zero, List.set_cons_succ]
          refine anyL_take 7 (v := ?_) rfl (by kernel_rfl) (fun _ _ _ h => h) (Or.inl ⟨by rfl, ?_⟩) hS0 ?_
          rotate_left
          focus (intro W hW; go_simp; try with_reducible rfl)
          simp only [Act.put, List.setIfInBounds_toArray, List.set_cons_zero, List.set_cons_succ]
          refine anyL_take 8 (v := ?_) rfl (by kernel_rfl) (fun _ _ _ h => h) (Or.inl ⟨by rfl, ?_⟩) hS0 ?_
          rotate_left
          focus (intro W hW; go_simp; try with_reducible rfl)
          simp only [Act.put, List.setIfInBounds_toArray, List.set_cons_zero, List.set_cons_succ]
          refine anyL_take 9 (v := ?_) rfl (by kernel_rfl) (fun _ _ _ h => h) (Or.inl ⟨by rfl, ?_⟩) hS0 ?_
          rotate_left
          focus (intro W hW; go_simp; try with_reducible rfl)
          simp only [Act.put, List.setIfInBounds_toArray, List.set_cons_zero, List.set_cons_succ]
          refine anyL_take 10 (v := ?_) rfl (by kernel_rfl) (fun _ _ _ h => h) (Or.inl ⟨by rfl, ?_⟩) hS0 ?_
          rotate_left
          focus (intro W hW; go_simp; try with_reducible rfl)
          simp only [Act.put, List.setIfInBounds_toArray, List.set_cons_zero, List.set_cons_succ]
          obtain ⟨n1, n2, n3, n4, n5, n6, n7⟩ := hKH.out
          have hd := (Below.refl wr.heap.size wr).drew
          refine fresh_anyC (fun V => BkAt V U U1 d1 U2 d2 ⟨q9, zs, ms, sl, cu⟩ ∧ BkIn V U1 d1 U2 d2 ⟨q9, zs, ms, sl, cu⟩ ∧ BkAt V Y A3 c3 A4 c4 ⟨q, zs, ms, sl, cu⟩ ∧ BkIn V A3 c3 A4 c4 ⟨q, zs, ms, sl, cu⟩ ∧ RecsAt V (some ⟨gl, 0, none⟩) rs ∧ WrW w w1 V (m : Int) Z B O A Aa ca la Ab cb lb ∧ U < V.heap.size) ⟨n1.below hd, n2.below hd, n3.below hd, n4.below hd, RecsAt.below n5 hd, n6.below hd, n1.lt⟩ ?_
          clear hKH hS hS0 hd n1 n2 n3 n4 n5 n6 n7 hbw hle1 hle2
          rintro W2 hK2
          have hK2H := Lib.hid hK2
          obtain ⟨k1, k2, k3, k4, k5, k6, k7⟩ := hK2
          obtain ⟨od, hod, hdr⟩ := drop_at k5 (i := i') (by omega) hrc
          have htr := take_at (i := i') k5
          rw [hod]
          obtain ⟨drs, hdrs⟩ : ∃ d, d = rs.drop i' := ⟨_, rfl⟩
          obtain ⟨trs, htrs⟩ : ∃ d, d = rs.take i' := ⟨_, rfl⟩
          have hdl : drs.length = rs.length - i' := by rw [hdrs, List.length_drop]
          have htl : trs.length = i' := by rw [htrs, List.length_take]; omega
          rw [← hdrs] at hdr
          rw [← htrs] at htr
          have hgA : ∀ k, X ≤ k → Aa ≠ some ⟨k, 0, none⟩ := fun k hk e => by have := hAX k e; omega
          have hAw : Aa ≠ some ⟨w.heap.size, 0, none⟩ := fun e => by
            have h0 := k6.lt
            rcases k6.o.a.form with ⟨e', _⟩ | ⟨g', e', hge, _⟩
            · rw [e'] at e; cases e
            · rw [e'] at e; injection e with e; injection e with e; omega
          have hc : CxOk (⟨w, W2, w1.heap.size, Aa, ca, la, ⟨some ⟨gl, od, none⟩, cl - i', drs⟩, ⟨some ⟨gl, 0, none⟩, cl, trs⟩⟩ : Cx) := ⟨fun g e => by show g < W2.heap.size; have := hAX g e; omega, hla8, by show w1.heap.size ≤ W2.heap.size; omega, Nat.le_of_lt k6.lt⟩
          have hls := Lib.hid (show ∀ l ∈ (⟨some ⟨gl, od, none⟩, cl - i', drs⟩ : LRow) :: (la ++ [⟨some ⟨gl, 0, none⟩, cl, trs⟩]), RecsAt W2 l.A l.rs ∧ ∀ g off, l.A = some ⟨g, off, none⟩ → Aa ≠ some ⟨g, 0, none⟩ from fun l hl => by
            rcases List.mem_cons.1 hl with rfl | hl
            · exact ⟨hdr, fun g off e => by injection e with e; injection e with e; subst e; exact hgA gl (by omega)⟩
            · rcases List.mem_append.1 hl with hl | hl
              · exact ⟨(k6.o.fa l hl).r, fun g off e => ((k6.o.fa l hl).o g off e).2.1⟩
              · rw [List.mem_singleton.1 hl]
                exact ⟨htr, fun g off e => by injection e with e; injection e with e; subst e; exact hgA gl (by omega)⟩)
          have hrd := Lib.hid (fun W Aq cq (hI : ListsIn W Aq ((⟨some ⟨gl, od, none⟩, cl - i', drs⟩ : LRow) :: (la ++ [⟨some ⟨gl, 0, none⟩, cl, trs⟩]))) => read_parts Z B O A n m hgdH.out hnH.out hvH.out (by have h := hq9H.out; dsimp only; omega) k2.zl k2.ml (by have h := hvH.out.c; have h2 := (goodB_iff.1 hgdH.out).2.1; dsimp only at h ⊢; omega) hlok.out hla8 hqmH.out i' (by rw [hrsH.out]; exact hdrs) (by rw [hrsH.out]; exact htrs) W Aq cq hI)
          rw [hnxH.out] at hrd
          have hG := Lib.hid k6.g
          have hN0 := Lib.hid (fun g1 g2 a6 c6 g3 a12 c12 a13 c13 T => nd_start (g1 := g1) (g2 := g2) (a6 := a6) (c6 := c6) (g3 := g3) (a12 := a12) (c12 := c12) (a13 := a13) (c13 := c13) (T := T) (dl := ⟨some ⟨gl, od, none⟩, cl - i', drs⟩) (tl := ⟨some ⟨gl, 0, none⟩, cl, trs⟩) k6.bw k6.o.a)
          have hYA : Aa ≠ some ⟨Y, 0, none⟩ := hgA Y (by omega)
          have hUA : Aa ≠ some ⟨U, 0, none⟩ := hgA U (by omega)
          have hAk := Lib.hid hgA
          clear k1 k2 k3 k4 k5 k6 k7 hdr htr hdrs htrs hgA hod
          apply nodeE (fun E1 e1 E2 e2 g1 g2 a6 c6 g3 a12 c12 a13 c13 T W => Nd (⟨w, W2, w1.heap.size, Aa, ca, la, ⟨some ⟨gl, od, none⟩, cl - i', drs⟩, ⟨some ⟨gl, 0, none⟩, cl, trs⟩⟩ : Cx) true true true true true true true g1 g2 a6 c6 g3 a12 c12 a13 c13 T W ∧ BkO W W2.heap.size E1 e1 E2 e2 ⟨q9, zs, ms, sl, cu⟩ ∧ (E1 ≠ some ⟨T, 0, none⟩ ∧ E2 ≠ some ⟨T, 0, none⟩))
          intro kE
          apply node10 (fun (g1 g2 a6 c6 g3 a12 c12 a13 c13 T : Nat) (W : World) => Nd (⟨w, W2, w1.heap.size, Aa, ca, la, ⟨some ⟨gl, od, none⟩, cl - i', drs⟩, ⟨some ⟨gl, 0, none⟩, cl, trs⟩⟩ : Cx) true true true true true true true g1 g2 a6 c6 g3 a12 c12 a13 c13 T W)
          intro k1_5_6_11_12_13_18
          apply node9 (fun (g1 g2 a6 c6 g3 a12 c12 a13 c13 : Nat) (W : World) => ∃ T : Nat, Nd (⟨w, W2, w1.heap.size, Aa, ca, la, ⟨some ⟨gl, od, none⟩, cl - i', drs⟩, ⟨some ⟨gl, 0, none⟩, cl, trs⟩⟩ : Cx) true true true true true true false g1 g2 a6 c6 g3 a12 c12 a13 c13 T W)
          intro k1_5_6_11_12_13
          apply node8 (fun (g1 g2 a6 c6 g3 a12 c12 T : Nat) (W : World) => ∃ a13 c13 : Nat, Nd (⟨w, W2, w1.heap.size, Aa, ca, la, ⟨some ⟨gl, od, none⟩, cl - i', drs⟩, ⟨some ⟨gl, 0, none⟩, cl, trs⟩⟩ : Cx) true true true true true false true g1 g2 a6 c6 g3 a12 c12 a13 c13 T W)
          intro k1_5_6_11_12_18
          apply node7 (fun (g1 g2 a6 c6 g3 a12 c12 : Nat) (W : World) => ∃ a13 c13 T : Nat, Nd (⟨w, W2, w1.heap.size, Aa, ca, la, ⟨some ⟨gl, od, none⟩, cl - i', drs⟩, ⟨some ⟨gl, 0, none⟩, cl, trs⟩⟩ : Cx) true true true true true false false g1 g2 a6 c6 g3 a12 c12 a13 c13 T W)
          intro k1_5_6_11_12
          apply node6 (fun (g1 g2 a6 c6 g3 T : Nat) (W : World) => ∃ a12 c12 a13 c13 : Nat, Nd (⟨w, W2, w1.heap.size, Aa, ca, la, ⟨some ⟨gl, od, none⟩, cl - i', drs⟩, ⟨some ⟨gl, 0, none⟩, cl, trs⟩⟩ : Cx) true true true true false false true g1 g2 a6 c6 g3 a12 c12 a13 c13 T W)
          intro k1_5_6_11_18
          apply node5 (fun (g1 g2 a6 c6 g3 : Nat) (W : World) => ∃ a12 c12 a13 c13 T : Nat, Nd (⟨w, W2, w1.heap.size, Aa, ca, la, ⟨some ⟨gl, od, none⟩, cl - i', drs⟩, ⟨some ⟨gl, 0, none⟩, cl, trs⟩⟩ : Cx) true true true true false false false g1 g2 a6 c6 g3 a12 c12 a13 c13 T W)
          intro k1_5_6_11
          apply node5 (fun (g1 g2 a6 c6 T : Nat) (W : World) => ∃ g3 a12 c12 a13 c13 : Nat, Nd (⟨w, W2, w1.heap.size, Aa, ca, la, ⟨some ⟨gl, od, none⟩, cl - i', drs⟩, ⟨some ⟨gl, 0, none⟩, cl, trs⟩⟩ : Cx) true true true false false false true g1 g2 a6 c6 g3 a12 c12 a13 c13 T W)
          intro k1_5_6_18
          apply node4 (fun (g1 g2 g3 T : Nat) (W : World) => ∃ a6 c6 a12 c12 a13 c13 : Nat, Nd (⟨w, W2, w1.heap.size, Aa, ca, la, ⟨some ⟨gl, od, none⟩, cl - i', drs⟩, ⟨some ⟨gl, 0, none⟩, cl, trs⟩⟩ : Cx) true true false true false false true g1 g2 a6 c6 g3 a12 c12 a13 c13 T W)
          intro k1_5_11_18
          apply node4 (fun (g1 g2 a6 c6 : Nat) (W : World) => ∃ g3 a12 c12 a13 c13 T : Nat, Nd (⟨w, W2, w1.heap.size, Aa, ca, la, ⟨some ⟨gl, od, none⟩, cl - i', drs⟩, ⟨some ⟨gl, 0, none⟩, cl, trs⟩⟩ : Cx) true true true false false false false g1 g2 a6 c6 g3 a12 c12 a13 c13 T W)
          intro k1_5_6
          apply node3 (fun (g1 g2 g3 : Nat) (W : World) => ∃ a6 c6 a12 c12 a13 c13 T : Nat, Nd (⟨w, W2, w1.heap.size, Aa, ca, la, ⟨some ⟨gl, od, none⟩, cl - i', drs⟩, ⟨some ⟨gl, 0, none⟩, cl, trs⟩⟩ : Cx) true true false true false false false g1 g2 a6 c6 g3 a12 c12 a13 c13 T W)
          intro k1_5_11
          apply node3 (fun (g1 g2 T : Nat) (W : World) => ∃ a6 c6 g3 a12 c12 a13 c13 : Nat, Nd (⟨w, W2, w1.heap.size, Aa, ca, la, ⟨some ⟨gl, od, none⟩, cl - i', drs⟩, ⟨some ⟨gl, 0, none⟩, cl, trs⟩⟩ : Cx) true true false false false false true g1 g2 a6 c6 g3 a12 c12 a13 c13 T W)
          intro k1_5_18
          apply node3 (fun (g1 g3 T : Nat) (W : World) => ∃ g2 a6 c6 a12 c12 a13 c13 : Nat, Nd (⟨w, W2, w1.heap.size, Aa, ca, la, ⟨some ⟨gl, od, none⟩, cl - i', drs⟩, ⟨some ⟨gl, 0, none⟩, cl, trs⟩⟩ : Cx) true false false true false false true g1 g2 a6 c6 g3 a12 c12 a13 c13 T W)
          intro k1_11_18
          apply node3 (fun (g2 g3 T : Nat) (W : World) => ∃ g1 a6 c6 a12 c12 a13 c13 : Nat, Nd (⟨w, W2, w1.heap.size, Aa, ca, la, ⟨some ⟨gl, od, none⟩, cl - i', drs⟩, ⟨some ⟨gl, 0, none⟩, cl, trs⟩⟩ : Cx) false true false true false false true g1 g2 a6 c6 g3 a12 c12 a13 c13 T W)
          intro k5_11_18
          apply node2 (fun (g1 g2 : Nat) (W : World) => ∃ a6 c6 g3 a12 c12 a13 c13 T : Nat, Nd (⟨w, W2, w1.heap.size, Aa, ca, la, ⟨some ⟨gl, od, none⟩, cl - i', drs⟩, ⟨some ⟨gl, 0, none⟩, cl, trs⟩⟩ : Cx) true true false false false false false g1 g2 a6 c6 g3 a12 c12 a13 c13 T W)
          intro k1_5
          apply node2 (fun (g1 g3 : Nat) (W : World) => ∃ g2 a6 c6 a12 c12 a13 c13 T : Nat, Nd (⟨w, W2, w1.heap.size, Aa, ca, la, ⟨some ⟨gl, od, none⟩, cl - i', drs⟩, ⟨some ⟨gl, 0, none⟩, cl, trs⟩⟩ : Cx) true false false true false false false g1 g2 a6 c6 g3 a12 c12 a13 c13 T W)
          intro k1_11
          apply node2 (fun (g1 T : Nat) (W : World) => ∃ g2 a6 c6 g3 a12 c12 a13 c13 : Nat, Nd (⟨w, W2, w1.heap.size, Aa, ca, la, ⟨some ⟨gl, od, none⟩, cl - i', drs⟩, ⟨some ⟨gl, 0, none⟩, cl, trs⟩⟩ : Cx) true false false false false false true g1 g2 a6 c6 g3 a12 c12 a13 c13 T W)
          intro k1_18
          apply node2 (fun (g2 g3 : Nat) (W : World) => ∃ g1 a6 c6 a12 c12 a13 c13 T : Nat, Nd (⟨w, W2, w1.heap.size, Aa, ca, la, ⟨some ⟨gl, od, none⟩, cl - i', drs⟩, ⟨some ⟨gl, 0, none⟩, cl, trs⟩⟩ : Cx) false true false true false false false g1 g2 a6 c6 g3 a12 c12 a13 c13 T W)
          intro k5_11
          apply node2 (fun (g2 T : Nat) (W : World) => ∃ g1 a6 c6 g3 a12 c12 a13 c13 : Nat, Nd (⟨w, W2, w1.heap.size, Aa, ca, la, ⟨some ⟨gl, od, none⟩, cl - i', drs⟩, ⟨some ⟨gl, 0, none⟩, cl, trs⟩⟩ : Cx) false true false false false false true g1 g2 a6 c6 g3 a12 c12 a13 c13 T W)
          intro k5_18
          apply node2 (fun (g3 T : Nat) (W : World) => ∃ g1 g2 a6 c6 a12 c12 a13 c13 : Nat, Nd (⟨w, W2, w1.heap.size, Aa, ca, la, ⟨some ⟨gl, od, none⟩, cl - i', drs⟩, ⟨some ⟨gl, 0, none⟩, cl, trs⟩⟩ : Cx) false false false true false false true g1 g2 a6 c6 g3 a12 c12 a13 c13 T W)
          intro k11_18
          apply node1 (fun (g1 : Nat) (W : World) => ∃ g2 a6 c6 g3 a12 c12 a13 c13 T : Nat, Nd (⟨w, W2, w1.heap.size, Aa, ca, la, ⟨some ⟨gl, od, none⟩, cl - i', drs⟩, ⟨some ⟨gl, 0, none⟩, cl, trs⟩⟩ : Cx) true false false false false false false g1 g2 a6 c6 g3 a12 c12 a13 c13 T W)
          intro k1
          apply node1 (fun (g2 : Nat) (W : World) => ∃ g1 a6 c6 g3 a12 c12 a13 c13 T : Nat, Nd (⟨w, W2, w1.heap.size, Aa, ca, la, ⟨some ⟨gl, od, none⟩, cl - i', drs⟩, ⟨some ⟨gl, 0, none⟩, cl, trs⟩⟩ : Cx) false true false false false false false g1 g2 a6 c6 g3 a12 c12 a13 c13 T W)
          intro k5
          apply node1 (fun (g3 : Nat) (W : World) => ∃ g1 g2 a6 c6 a12 c12 a13 c13 T : Nat, Nd (⟨w, W2, w1.heap.size, Aa, ca, la, ⟨some ⟨gl, od, none⟩, cl - i', drs⟩, ⟨some ⟨gl, 0, none⟩, cl, trs⟩⟩ : Cx) false false false true false false false g1 g2 a6 c6 g3 a12 c12 a13 c13 T W)
          intro k11
          apply node1 (fun (T : Nat) (W : World) => ∃ g1 g2 a6 c6 g3 a12 c12 a13 c13 : Nat, Nd (⟨w, W2, w1.heap.size, Aa, ca, la, ⟨some ⟨gl, od, none⟩, cl - i', drs⟩, ⟨some ⟨gl, 0, none⟩, cl, trs⟩⟩ : Cx) false false false false false false true g1 g2 a6 c6 g3 a12 c12 a13 c13 T W)
          intro k18
          · refine fresh_anyC (fun V => ∃ g1 g2 a6 c6 g3 a12 c12 a13 c13 T : Nat, Nd (⟨w, W2, w1.heap.size, Aa, ca, la, ⟨some ⟨gl, od, none⟩, cl - i', drs⟩, ⟨some ⟨gl, 0, none⟩, cl, trs⟩⟩ : Cx) false false false false false false false g1 g2 a6 c6 g3 a12 c12 a13 c13 T V) ⟨0, 0, 0, 0, 0, 0, 0, 0, 0, 0, hN0.out 0 0 0 0 0 0 0 0 0 0⟩ ?_
            rintro W ⟨g1, g2, a6, c6, g3, a12, c12, a13, c13, T, hN⟩
            refine anyL_four 1 5 11 18 rfl rfl rfl rfl (by kernel_rfl) (fun K hK => ?_) (fun K hK => ?_) (fun K hK => ?_) (fun K hK => ?_)
            · have hn := Nd.op1 hN
              go_simp
              refine hK.out _ _ (fun _ => hn.geo hG.out hAw) ?_
              clear hK K
              try simp only [Act.put, List.setIfInBounds_toArray, List.set_cons_zero, List.set_cons_succ]
              refine fresh_anyC (fun V => Nd (⟨w, W2, w1.heap.size, Aa, ca, la, ⟨some ⟨gl, od, none⟩, cl - i', drs⟩, ⟨some ⟨gl, 0, none⟩, cl, trs⟩⟩ : Cx) true false false false false false false W.heap.size g2 a6 c6 g3 a12 c12 a13 c13 T V) hn ?_
              clear hn hN
              generalize W.heap.size = g1'
              rintro V hV
              exact k1 g1' V ⟨_, _, _, _, _, _, _, _, _, hV⟩
            · have hn := Nd.op5 hN
              dsimp only at hn
              rw [hdl] at hn
              go_simp
              refine hK.out _ _ (fun _ => hn.geo hG.out hAw) ?_
              clear hK K
              try simp only [Act.put, List.setIfInBounds_toArray, List.set_cons_zero, List.set_cons_succ]
              refine fresh_anyC (fun V => Nd (⟨w, W2, w1.heap.size, Aa, ca, la, ⟨some ⟨gl, od, none⟩, cl - i', drs⟩, ⟨some ⟨gl, 0, none⟩, cl, trs⟩⟩ : Cx) false true false false false false false g1 W.heap.size a6 c6 g3 a12 c12 a13 c13 T V) hn ?_
              clear hn hN
              generalize W.heap.size = g2'
              rintro V hV
              exact k5 g2' V ⟨_, _, _, _, _, _, _, _, _, hV⟩
            · have hn := Nd.op11 hN
              dsimp only at hn
              rw [htl] at hn
              go_simp
              refine hK.out _ _ (fun _ => hn.geo hG.out hAw) ?_
              clear hK K
              try simp only [Act.put, List.setIfInBounds_toArray, List.set_cons_zero, List.set_cons_succ]
              refine fresh_anyC (fun V => Nd (⟨w, W2, w1.heap.size, Aa, ca, la, ⟨some ⟨gl, od, none⟩, cl - i', drs⟩, ⟨some ⟨gl, 0, none⟩, cl, trs⟩⟩ : Cx) false false false true false false false g1 g2 a6 c6 W.heap.size a12 c12 a13 c13 T V) hn ?_
              clear hn hN
              generalize W.heap.size = g3'
              rintro V hV
              exact k11 g3' V ⟨_, _, _, _, _, _, _, _, _, hV⟩
            · have hn := Nd.op18 hN
              go_simp
              refine hK.out _ _ (fun _ => hn.geo hG.out hAw) ?_
              clear hK K
              try simp only [Act.put, List.setIfInBounds_toArray, List.set_cons_zero, List.set_cons_succ]
              refine fresh_anyC (fun V => Nd (⟨w, W2, w1.heap.size, Aa, ca, la, ⟨some ⟨gl, od, none⟩, cl - i', drs⟩, ⟨some ⟨gl, 0, none⟩, cl, trs⟩⟩ : Cx) false false false false false false true g1 g2 a6 c6 g3 a12 c12 a13 c13 W.heap.size V) hn ?_
              clear hn hN
              generalize W.heap.size = T'
              rintro V hV
              exact k18 T' V ⟨_, _, _, _, _, _, _, _, _, hV⟩
          · rintro T W ⟨g1, g2, a6, c6, g3, a12, c12, a13, c13, hN⟩
            refine anyL_three 1 5 11 rfl rfl rfl (by kernel_rfl) (fun K hK => ?_) (fun K hK => ?_) (fun K hK => ?_)
            · have hn := Nd.op1 hN
              go_simp
              refine hK.out _ _ (fun _ => hn.geo hG.out hAw) ?_
              clear hK K
              try simp only [Act.put, List.setIfInBounds_toArray, List.set_cons_zero, List.set_cons_succ]
              refine fresh_anyC (fun V => Nd (⟨w, W2, w1.heap.size, Aa, ca, la, ⟨some ⟨gl, od, none⟩, cl - i', drs⟩, ⟨some ⟨gl, 0, none⟩, cl, trs⟩⟩ : Cx) true false false false false false true W.heap.size g2 a6 c6 g3 a12 c12 a13 c13 T V) hn ?_
              clear hn hN
              generalize W.heap.size = g1'
              rintro V hV
              exact k1_18 g1' T V ⟨_, _, _, _, _, _, _, _, hV⟩
            · have hn := Nd.op5 hN
              dsimp only at hn
              rw [hdl] at hn
              go_simp
              refine hK.out _ _ (fun _ => hn.geo hG.out hAw) ?_
              clear hK K
              try simp only [Act.put, List.setIfInBounds_toArray, List.set_cons_zero, List.set_cons_succ]
              refine fresh_anyC (fun V => Nd (⟨w, W2, w1.heap.size, Aa, ca, la, ⟨some ⟨gl, od, none⟩, cl - i', drs⟩, ⟨some ⟨gl, 0, none⟩, cl, trs⟩⟩ : Cx) false true false false false false true g1 W.heap.size a6 c6 g3 a12 c12 a13 c13 T V) hn ?_
              clear hn hN
              generalize W.heap.size = g2'
              rintro V hV
              exact k5_18 g2' T V ⟨_, _, _, _, _, _, _, _, hV⟩
            · have hn := Nd.op11 hN
              dsimp only at hn
              rw [htl] at hn
              go_simp
              refine hK.out _ _ (fun _ => hn.geo hG.out hAw) ?_
              clear hK K
              try simp only [Act.put, List.setIfInBounds_toArray, List.set_cons_zero, List.set_cons_succ]
              refine fresh_anyC (fun V => Nd (⟨w, W2, w1.heap.size, Aa, ca, la, ⟨some ⟨gl, od, none⟩, cl - i', drs⟩, ⟨some ⟨gl, 0, none⟩, cl, trs⟩⟩ : Cx) false false false true false false true g1 g2 a6 c6 W.heap.size a12 c12 a13 c13 T V) hn ?_
              clear hn hN
              generalize W.heap.size = g3'
              rintro V hV
              exact k11_18 g3' T V ⟨_, _, _, _, _, _, _, _, hV⟩
          · rintro g3 W ⟨g1, g2, a6, c6, a12, c12, a13, c13, T, hN⟩
            refine anyL_three 1 5 18 rfl rfl rfl (by kernel_rfl) (fun K hK => ?_) (fun K hK => ?_) (fun K hK => ?_)
            · have hn := Nd.op1 hN
              go_simp
              refine hK.out _ _ (fun _ => hn.geo hG.out hAw) ?_
              clear hK K
              try simp only [Act.put, List.setIfInBounds_toArray, List.set_cons_zero, List.set_cons_succ]
              refine fresh_anyC (fun V => Nd (⟨w, W2, w1.heap.size, Aa, ca, la, ⟨some ⟨gl, od, none⟩, cl - i', drs⟩, ⟨some ⟨gl, 0, none⟩, cl, trs⟩⟩ : Cx) true false false true false false false W.heap.size g2 a6 c6 g3 a12 c12 a13 c13 T V) hn ?_
              clear hn hN
              generalize W.heap.size = g1'
              rintro V hV
              exact k1_11 g1' g3 V ⟨_, _, _, _, _, _, _, _, hV⟩
            · have hn := Nd.op5 hN
              dsimp only at hn
              rw [hdl] at hn
              go_simp
              refine hK.out _ _ (fun _ => hn.geo hG.out hAw) ?_
              clear hK K
              try simp only [Act.put, List.setIfInBounds_toArray, List.set_cons_zero, List.set_cons_succ]
              refine fresh_anyC (fun V => Nd (⟨w, W2, w1.heap.size, Aa, ca, la, ⟨some ⟨gl, od, none⟩, cl - i', drs⟩, ⟨some ⟨gl, 0, none⟩, cl, trs⟩⟩ : Cx) false true false true false false false g1 W.heap.size a6 c6 g3 a12 c12 a13 c13 T V) hn ?_
              clear hn hN
              generalize W.heap.size = g2'
              rintro V hV
              exact k5_11 g2' g3 V ⟨_, _, _, _, _, _, _, _, hV⟩
            · have hn := Nd.op18 hN
              go_simp
              refine hK.out _ _ (fun _ => hn.geo hG.out hAw) ?_
              clear hK K
              try simp only [Act.put, List.setIfInBounds_toArray, List.set_cons_zero, List.set_cons_succ]
              refine fresh_anyC (fun V => Nd (⟨w, W2, w1.heap.size, Aa, ca, la, ⟨some ⟨gl, od, none⟩, cl - i', drs⟩, ⟨some ⟨gl, 0, none⟩, cl, trs⟩⟩ : Cx) false false false true false false true g1 g2 a6 c6 g3 a12 c12 a13 c13 W.heap.size V) hn ?_
              clear hn hN
              generalize W.heap.size = T'
              rintro V hV
              exact k11_18 g3 T' V ⟨_, _, _, _, _, _, _, _, hV⟩
          · rintro g2 W ⟨g1, a6, c6, g3, a12, c12, a13, c13, T, hN⟩
            refine anyL_three 1 11 18 rfl rfl rfl (by kernel_rfl) (fun K hK => ?_) (fun K hK => ?_) (fun K hK => ?_)
            · have hn := Nd.op1 hN
              go_simp
              refine hK.out _ _ (fun _ => hn.geo hG.out hAw) ?_
              clear hK K
              try simp only [Act.put, List.setIfInBounds_toArray, List.set_cons_zero, List.set_cons_succ]
              refine fresh_anyC (fun V => Nd (⟨w, W2, w1.heap.size, Aa, ca, la, ⟨some ⟨gl, od, none⟩, cl - i', drs⟩, ⟨some ⟨gl, 0, none⟩, cl, trs⟩⟩ : Cx) true true false false false false false W.heap.size g2 a6 c6 g3 a12 c12 a13 c13 T V) hn ?_
              clear hn hN
              generalize W.heap.size = g1'
              rintro V hV
              exact k1_5 g1' g2 V ⟨_, _, _, _, _, _, _, _, hV⟩
            · have hn := Nd.op11 hN
              dsimp only at hn
              rw [htl] at hn
              go_simp
              refine hK.out _ _ (fun _ => hn.geo hG.out hAw) ?_
              clear hK K
              try simp only [Act.put, List.setIfInBounds_toArray, List.set_cons_zero, List.set_cons_succ]
              refine fresh_anyC (fun V => Nd (⟨w, W2, w1.heap.size, Aa, ca, la, ⟨some ⟨gl, od, none⟩, cl - i', drs⟩, ⟨some ⟨gl, 0, none⟩, cl, trs⟩⟩ : Cx) false true false true false false false g1 g2 a6 c6 W.heap.size a12 c12 a13 c13 T V) hn ?_
              clear hn hN
              generalize W.heap.size = g3'
              rintro V hV
              exact k5_11 g2 g3' V ⟨_, _, _, _, _, _, _, _, hV⟩
            · have hn := Nd.op18 hN
              go_simp
              refine hK.out _ _ (fun _ => hn.geo hG.out hAw) ?_
              clear hK K
              try simp only [Act.put, List.setIfInBounds_toArray, List.set_cons_zero, List.set_cons_succ]
              refine fresh_anyC (fun V => Nd (⟨w, W2, w1.heap.size, Aa, ca, la, ⟨some ⟨gl, od, none⟩, cl - i', drs⟩, ⟨some ⟨gl, 0, none⟩, cl, trs⟩⟩ : Cx) false true false false false false true g1 g2 a6 c6 g3 a12 c12 a13 c13 W.heap.size V) hn ?_
              clear hn hN
              generalize W.heap.size = T'
              rintro V hV
              exact k5_18 g2 T' V ⟨_, _, _, _, _, _, _, _, hV⟩
          · rintro g1 W ⟨g2, a6, c6, g3, a12, c12, a13, c13, T, hN⟩
            refine anyL_three 5 11 18 rfl rfl rfl (by kernel_rfl) (fun K hK => ?_) (fun K hK => ?_) (fun K hK => ?_)
            · have hn := Nd.op5 hN
              dsimp only at hn
              rw [hdl] at hn
              go_simp
              refine hK.out _ _ (fun _ => hn.geo hG.out hAw) ?_
              clear hK K
              try simp only [Act.put, List.setIfInBounds_toArray, List.set_cons_zero, List.set_cons_succ]
              refine fresh_anyC (fun V => Nd (⟨w, W2, w1.heap.size, Aa, ca, la, ⟨some ⟨gl, od, none⟩, cl - i', drs⟩, ⟨some ⟨gl, 0, none⟩, cl, trs⟩⟩ : Cx) true true false false false false false g1 W.heap.size a6 c6 g3 a12 c12 a13 c13 T V) hn ?_
              clear hn hN
              generalize W.heap.size = g2'
              rintro V hV
              exact k1_5 g1 g2' V ⟨_, _, _, _, _, _, _, _, hV⟩
            · have hn := Nd.op11 hN
              dsimp only at hn
              rw [htl] at hn
              go_simp
              refine hK.out _ _ (fun _ => hn.geo hG.out hAw) ?_
              clear hK K
              try simp only [Act.put, List.setIfInBounds_toArray, List.set_cons_zero, List.set_cons_succ]
              refine fresh_anyC (fun V => Nd (⟨w, W2, w1.heap.size, Aa, ca, la, ⟨some ⟨gl, od, none⟩, cl - i', drs⟩, ⟨some ⟨gl, 0, none⟩, cl, trs⟩⟩ : Cx) true false false true false false false g1 g2 a6 c6 W.heap.size a12 c12 a13 c13 T V) hn ?_
              clear hn hN
              generalize W.heap.size = g3'
              rintro V hV
              exact k1_11 g1 g3' V ⟨_, _, _, _, _, _, _, _, hV⟩
            · have hn := Nd.op18 hN
              go_simp
              refine hK.out _ _ (fun _ => hn.geo hG.out hAw) ?_
              clear hK K
              try simp only [Act.put, List.setIfInBounds_toArray, List.set_cons_zero, List.set_cons_succ]
              refine fresh_anyC (fun V => Nd (⟨w, W2, w1.heap.size, Aa, ca, la, ⟨some ⟨gl, od, none⟩, cl - i', drs⟩, ⟨some ⟨gl, 0, none⟩, cl, trs⟩⟩ : Cx) true false false false false false true g1 g2 a6 c6 g3 a12 c12 a13 c13 W.heap.size V) hn ?_
              clear hn hN
              generalize W.heap.size = T'
              rintro V hV
              exact k1_18 g1 T' V ⟨_, _, _, _, _, _, _, _, hV⟩
          · rintro g3 T W ⟨g1, g2, a6, c6, a12, c12, a13, c13, hN⟩
            refine anyL_two 1 5 rfl rfl (by kernel_rfl) (fun K hK => ?_) (fun K hK => ?_)
            · have hn := Nd.op1 hN
              go_simp
              refine hK.out _ _ (fun _ => hn.geo hG.out hAw) ?_
              clear hK K
              try simp only [Act.put, List.setIfInBounds_toArray, List.set_cons_zero, List.set_cons_succ]
              refine fresh_anyC (fun V => Nd (⟨w, W2, w1.heap.size, Aa, ca, la, ⟨some ⟨gl, od, none⟩, cl - i', drs⟩, ⟨some ⟨gl, 0, none⟩, cl, trs⟩⟩ : Cx) true false false true false false true W.heap.size g2 a6 c6 g3 a12 c12 a13 c13 T V) hn ?_
              clear hn hN
              generalize W.heap.size = g1'
              rintro V hV
              exact k1_11_18 g1' g3 T V ⟨_, _, _, _, _, _, _, hV⟩
            · have hn := Nd.op5 hN
              dsimp only at hn
              rw [hdl] at hn
              go_simp
              refine hK.out _ _ (fun _ => hn.geo hG.out hAw) ?_
              clear hK K
              try simp only [Act.put, List.setIfInBounds_toArray, List.set_cons_zero, List.set_cons_succ]
              refine fresh_anyC (fun V => Nd (⟨w, W2, w1.heap.size, Aa, ca, la, ⟨some ⟨gl, od, none⟩, cl - i', drs⟩, ⟨some ⟨gl, 0, none⟩, cl, trs⟩⟩ : Cx) false true false true false false true g1 W.heap.size a6 c6 g3 a12 c12 a13 c13 T V) hn ?_
              clear hn hN
              generalize W.heap.size = g2'
              rintro V hV
              exact k5_11_18 g2' g3 T V ⟨_, _, _, _, _, _, _, hV⟩
          · rintro g2 T W ⟨g1, a6, c6, g3, a12, c12, a13, c13, hN⟩
            refine anyL_two 1 11 rfl rfl (by kernel_rfl) (fun K hK => ?_) (fun K hK => ?_)
            · have hn := Nd.op1 hN
              go_simp
              refine hK.out _ _ (fun _ => hn.geo hG.out hAw) ?_
              clear hK K
              try simp only [Act.put, List.setIfInBounds_toArray, List.set_cons_zero, List.set_cons_succ]
              refine fresh_anyC (fun V => Nd (⟨w, W2, w1.heap.size, Aa, ca, la, ⟨some ⟨gl, od, none⟩, cl - i', drs⟩, ⟨some ⟨gl, 0, none⟩, cl, trs⟩⟩ : Cx) true true false false false false true W.heap.size g2 a6 c6 g3 a12 c12 a13 c13 T V) hn ?_
              clear hn hN
              generalize W.heap.size = g1'
              rintro V hV
              exact k1_5_18 g1' g2 T V ⟨_, _, _, _, _, _, _, hV⟩
            · have hn := Nd.op11 hN
              dsimp only at hn
              rw [htl] at hn
              go_simp
              refine hK.out _ _ (fun _ => hn.geo hG.out hAw) ?_
              clear hK K
              try simp only [Act.put, List.setIfInBounds_toArray, List.set_cons_zero, List.set_cons_succ]
              refine fresh_anyC (fun V => Nd (⟨w, W2, w1.heap.size, Aa, ca, la, ⟨some ⟨gl, od, none⟩, cl - i', drs⟩, ⟨some ⟨gl, 0, none⟩, cl, trs⟩⟩ : Cx) false true false true false false true g1 g2 a6 c6 W.heap.size a12 c12 a13 c13 T V) hn ?_
              clear hn hN
              generalize W.heap.size = g3'
              rintro V hV
              exact k5_11_18 g2 g3' T V ⟨_, _, _, _, _, _, _, hV⟩
          · rintro g2 g3 W ⟨g1, a6, c6, a12, c12, a13, c13, T, hN⟩
            refine anyL_two 1 18 rfl rfl (by kernel_rfl) (fun K hK => ?_) (fun K hK => ?_)
            · have hn := Nd.op1 hN
              go_simp
              refine hK.out _ _ (fun _ => hn.geo hG.out hAw) ?_
              clear hK K
              try simp only [Act.put, List.setIfInBounds_toArray, List.set_cons_zero, List.set_cons_succ]
              refine fresh_anyC (fun V => Nd (⟨w, W2, w1.heap.size, Aa, ca, la, ⟨some ⟨gl, od, none⟩, cl - i', drs⟩, ⟨some ⟨gl, 0, none⟩, cl, trs⟩⟩ : Cx) true true false true false false false W.heap.size g2 a6 c6 g3 a12 c12 a13 c13 T V) hn ?_
              clear hn hN
              generalize W.heap.size = g1'
              rintro V hV
              exact k1_5_11 g1' g2 g3 V ⟨_, _, _, _, _, _, _, hV⟩
            · have hn := Nd.op18 hN
              go_simp
              refine hK.out _ _ (fun _ => hn.geo hG.out hAw) ?_
              clear hK K
              try simp only [Act.put, List.setIfInBounds_toArray, List.set_cons_zero, List.set_cons_succ]
              refine fresh_anyC (fun V => Nd (⟨w, W2, w1.heap.size, Aa, ca, la, ⟨some ⟨gl, od, none⟩, cl - i', drs⟩, ⟨some ⟨gl, 0, none⟩, cl, trs⟩⟩ : Cx) false true false true false false true g1 g2 a6 c6 g3 a12 c12 a13 c13 W.heap.size V) hn ?_
              clear hn hN
              generalize W.heap.size = T'
              rintro V hV
              exact k5_11_18 g2 g3 T' V ⟨_, _, _, _, _, _, _, hV⟩
          · rintro g1 T W ⟨g2, a6, c6, g3, a12, c12, a13, c13, hN⟩
            refine anyL_two 5 11 rfl rfl (by kernel_rfl) (fun K hK => ?_) (fun K hK => ?_)
            · have hn := Nd.op5 hN
              dsimp only at hn
              rw [hdl] at hn
              go_simp
              refine hK.out _ _ (fun _ => hn.geo hG.out hAw) ?_
              clear hK K
              try simp only [Act.put, List.setIfInBounds_toArray, List.set_cons_zero, List.set_cons_succ]
              refine fresh_anyC (fun V => Nd (⟨w, W2, w1.heap.size, Aa, ca, la, ⟨some ⟨gl, od, none⟩, cl - i', drs⟩, ⟨some ⟨gl, 0, none⟩, cl, trs⟩⟩ : Cx) true true false false false false true g1 W.heap.size a6 c6 g3 a12 c12 a13 c13 T V) hn ?_
              clear hn hN
              generalize W.heap.size = g2'
              rintro V hV
              exact k1_5_18 g1 g2' T V ⟨_, _, _, _, _, _, _, hV⟩
            · have hn := Nd.op11 hN
              dsimp only at hn
              rw [htl] at hn
              go_simp
              refine hK.out _ _ (fun _ => hn.geo hG.out hAw) ?_
              clear hK K
              try simp only [Act.put, List.setIfInBounds_toArray, List.set_cons_zero, List.set_cons_succ]
              refine fresh_anyC (fun V => Nd (⟨w, W2, w1.heap.size, Aa, ca, la, ⟨some ⟨gl, od, none⟩, cl - i', drs⟩, ⟨some ⟨gl, 0, none⟩, cl, trs⟩⟩ : Cx) true false false true false false true g1 g2 a6 c6 W.heap.size a12 c12 a13 c13 T V) hn ?_
              clear hn hN
              generalize W.heap.size = g3'
              rintro V hV
              exact k1_11_18 g1 g3' T V ⟨_, _, _, _, _, _, _, hV⟩
          · rintro g1 g3 W ⟨g2, a6, c6, a12, c12, a13, c13, T, hN⟩
            refine anyL_two 5 18 rfl rfl (by kernel_rfl) (fun K hK => ?_) (fun K hK => ?_)
            · have hn := Nd.op5 hN
              dsimp only at hn
              rw [hdl] at hn
              go_simp
              refine hK.out _ _ (fun _ => hn.geo hG.out hAw) ?_
              clear hK K
              try simp only [Act.put, List.setIfInBounds_toArray, List.set_cons_zero, List.set_cons_succ]
              refine fresh_anyC (fun V => Nd (⟨w, W2, w1.heap.size, Aa, ca, la, ⟨some ⟨gl, od, none⟩, cl - i', drs⟩, ⟨some ⟨gl, 0, none⟩, cl, trs⟩⟩ : Cx) true true false true false false false g1 W.heap.size a6 c6 g3 a12 c12 a13 c13 T V) hn ?_
              clear hn hN
              generalize W.heap.size = g2'
              rintro V hV
              exact k1_5_11 g1 g2' g3 V ⟨_, _, _, _, _, _, _, hV⟩
            · have hn := Nd.op18 hN
              go_simp
              refine hK.out _ _ (fun _ => hn.geo hG.out hAw) ?_
              clear hK K
              try simp only [Act.put, List.setIfInBounds_toArray, List.set_cons_zero, List.set_cons_succ]
              refine fresh_anyC (fun V => Nd (⟨w, W2, w1.heap.size, Aa, ca, la, ⟨some ⟨gl, od, none⟩, cl - i', drs⟩, ⟨some ⟨gl, 0, none⟩, cl, trs⟩⟩ : Cx) true false false true false false true g1 g2 a6 c6 g3 a12 c12 a13 c13 W.heap.size V) hn ?_
              clear hn hN
              generalize W.heap.size = T'
              rintro V hV
              exact k1_11_18 g1 g3 T' V ⟨_, _, _, _, _, _, _, hV⟩
          · rintro g1 g2 W ⟨a6, c6, g3, a12, c12, a13, c13, T, hN⟩
            refine anyL_three 6 11 18 rfl rfl rfl (by kernel_rfl) (fun K hK => ?_) (fun K hK => ?_) (fun K hK => ?_)
            · obtain ⟨a6', c6', V, hrun, hn⟩ := Nd.op6 hN hc
              try dsimp only at hrun
              refine append_run_step rfl (.tmp 98) (.tmp 102) 26 rfl rfl rfl hrun ?_
              refine hK.out _ _ (fun _ => hn.geo hG.out hAw) ?_
              clear hK K hrun hN
              try simp only [Act.put, List.setIfInBounds_toArray, List.set_cons_zero, List.set_cons_succ]
              exact k1_5_6 g1 g2 a6' c6' V ⟨_, _, _, _, _, _, hn⟩
            · have hn := Nd.op11 hN
              dsimp only at hn
              rw [htl] at hn
              go_simp
              refine hK.out _ _ (fun _ => hn.geo hG.out hAw) ?_
              clear hK K
              try simp only [Act.put, List.setIfInBounds_toArray, List.set_cons_zero, List.set_cons_succ]
              refine fresh_anyC (fun V => Nd (⟨w, W2, w1.heap.size, Aa, ca, la, ⟨some ⟨gl, od, none⟩, cl - i', drs⟩, ⟨some ⟨gl, 0, none⟩, cl, trs⟩⟩ : Cx) true true false true false false false g1 g2 a6 c6 W.heap.size a12 c12 a13 c13 T V) hn ?_
              clear hn hN
              generalize W.heap.size = g3'
              rintro V hV
              exact k1_5_11 g1 g2 g3' V ⟨_, _, _, _, _, _, _, hV⟩
            · have hn := Nd.op18 hN
              go_simp
              refine hK.out _ _ (fun _ => hn.geo hG.out hAw) ?_
              clear hK K
              try simp only [Act.put, List.setIfInBounds_toArray, List.set_cons_zero, List.set_cons_succ]
              refine fresh_anyC (fun V => Nd (⟨w, W2, w1.heap.size, Aa, ca, la, ⟨some ⟨gl, od, none⟩, cl - i', drs⟩, ⟨some ⟨gl, 0, none⟩, cl, trs⟩⟩ : Cx) true true false false false false true g1 g2 a6 c6 g3 a12 c12 a13 c13 W.heap.size V) hn ?_
              clear hn hN
              generalize W.heap.size = T'
              rintro V hV
              exact k1_5_18 g1 g2 T' V ⟨_, _, _, _, _, _, _, hV⟩
          · rintro g2 g3 T W ⟨g1, a6, c6, a12, c12, a13, c13, hN⟩
            refine anyL_one 1 rfl (by kernel_rfl) (fun K hK => ?_)
            have hn := Nd.op1 hN
            go_simp
            refine hK.out _ _ (fun _ => hn.geo hG.out hAw) ?_
            clear hK K
            try simp only [Act.put, List.setIfInBounds_toArray, List.set_cons_zero, List.set_cons_succ]
            refine fresh_anyC (fun V => Nd (⟨w, W2, w1.heap.size, Aa, ca, la, ⟨some ⟨gl, od, none⟩, cl - i', drs⟩, ⟨some ⟨gl, 0, none⟩, cl, trs⟩⟩ : Cx) true true false true false false true W.heap.size g2 a6 c6 g3 a12 c12 a13 c13 T V) hn ?_
            clear hn hN
            generalize W.heap.size = g1'
            rintro V hV
            exact k1_5_11_18 g1' g2 g3 T V ⟨_, _, _, _, _, _, hV⟩
          · rintro g1 g3 T W ⟨g2, a6, c6, a12, c12, a13, c13, hN⟩
            refine anyL_one 5 rfl (by kernel_rfl) (fun K hK => ?_)
            have hn := Nd.op5 hN
            dsimp only at hn
            rw [hdl] at hn
            go_simp
            refine hK.out _ _ (fun _ => hn.geo hG.out hAw) ?_
            clear hK K
            try simp only [Act.put, List.setIfInBounds_toArray, List.set_cons_zero, List.set_cons_succ]
            refine fresh_anyC (fun V => Nd (⟨w, W2, w1.heap.size, Aa, ca, la, ⟨some ⟨gl, od, none⟩, cl - i', drs⟩, ⟨some ⟨gl, 0, none⟩, cl, trs⟩⟩ : Cx) true true false true false false true g1 W.heap.size a6 c6 g3 a12 c12 a13 c13 T V) hn ?_
            clear hn hN
            generalize W.heap.size = g2'
            rintro V hV
            exact k1_5_11_18 g1 g2' g3 T V ⟨_, _, _, _, _, _, hV⟩
          · rintro g1 g2 T W ⟨a6, c6, g3, a12, c12, a13, c13, hN⟩
            refine anyL_two 6 11 rfl rfl (by kernel_rfl) (fun K hK => ?_) (fun K hK => ?_)
            · obtain ⟨a6', c6', V, hrun, hn⟩ := Nd.op6 hN hc
              try dsimp only at hrun
              refine append_run_step rfl (.tmp 98) (.tmp 102) 26 rfl rfl rfl hrun ?_
              refine hK.out _ _ (fun _ => hn.geo hG.out hAw) ?_
              clear hK K hrun hN
              try simp only [Act.put, List.setIfInBounds_toArray, List.set_cons_zero, List.set_cons_succ]
              exact k1_5_6_18 g1 g2 a6' c6' T V ⟨_, _, _, _, _, hn⟩
            · have hn := Nd.op11 hN
              dsimp only at hn
              rw [htl] at hn
              go_simp
              refine hK.out _ _ (fun _ => hn.geo hG.out hAw) ?_
              clear hK K
              try simp only [Act.put, List.setIfInBounds_toArray, List.set_cons_zero, List.set_cons_succ]
              refine fresh_anyC (fun V => Nd (⟨w, W2, w1.heap.size, Aa, ca, la, ⟨some ⟨gl, od, none⟩, cl - i', drs⟩, ⟨some ⟨gl, 0, none⟩, cl, trs⟩⟩ : Cx) true true false true false false true g1 g2 a6 c6 W.heap.size a12 c12 a13 c13 T V) hn ?_
              clear hn hN
              generalize W.heap.size = g3'
              rintro V hV
              exact k1_5_11_18 g1 g2 g3' T V ⟨_, _, _, _, _, _, hV⟩
          · rintro g1 g2 g3 W ⟨a6, c6, a12, c12, a13, c13, T, hN⟩
            refine anyL_two 6 18 rfl rfl (by kernel_rfl) (fun K hK => ?_) (fun K hK => ?_)
            · obtain ⟨a6', c6', V, hrun, hn⟩ := Nd.op6 hN hc
              try dsimp only at hrun
              refine append_run_step rfl (.tmp 98) (.tmp 102) 26 rfl rfl rfl hrun ?_
              refine hK.out _ _ (fun _ => hn.geo hG.out hAw) ?_
              clear hK K hrun hN
              try simp only [Act.put, List.setIfInBounds_toArray, List.set_cons_zero, List.set_cons_succ]
              exact k1_5_6_11 g1 g2 a6' c6' g3 V ⟨_, _, _, _, _, hn⟩
            · have hn := Nd.op18 hN
              go_simp
              refine hK.out _ _ (fun _ => hn.geo hG.out hAw) ?_
              clear hK K
              try simp only [Act.put, List.setIfInBounds_toArray, List.set_cons_zero, List.set_cons_succ]
              refine fresh_anyC (fun V => Nd (⟨w, W2, w1.heap.size, Aa, ca, la, ⟨some ⟨gl, od, none⟩, cl - i', drs⟩, ⟨some ⟨gl, 0, none⟩, cl, trs⟩⟩ : Cx) true true false true false false true g1 g2 a6 c6 g3 a12 c12 a13 c13 W.heap.size V) hn ?_
              clear hn hN
              generalize W.heap.size = T'
              rintro V hV
              exact k1_5_11_18 g1 g2 g3 T' V ⟨_, _, _, _, _, _, hV⟩
          · rintro g1 g2 a6 c6 W ⟨g3, a12, c12, a13, c13, T, hN⟩
            refine anyL_two 11 18 rfl rfl (by kernel_rfl) (fun K hK => ?_) (fun K hK => ?_)
            · have hn := Nd.op11 hN
              dsimp only at hn
              rw [htl] at hn
              go_simp
              refine hK.out _ _ (fun _ => hn.geo hG.out hAw) ?_
              clear hK K
              try simp only [Act.put, List.setIfInBounds_toArray, List.set_cons_zero, List.set_cons_succ]
              refine fresh_anyC (fun V => Nd (⟨w, W2, w1.heap.size, Aa, ca, la, ⟨some ⟨gl, od, none⟩, cl - i', drs⟩, ⟨some ⟨gl, 0, none⟩, cl, trs⟩⟩ : Cx) true true true true false false false g1 g2 a6 c6 W.heap.size a12 c12 a13 c13 T V) hn ?_
              clear hn hN
              generalize W.heap.size = g3'
              rintro V hV
              exact k1_5_6_11 g1 g2 a6 c6 g3' V ⟨_, _, _, _, _, hV⟩
            · have hn := Nd.op18 hN
              go_simp
              refine hK.out _ _ (fun _ => hn.geo hG.out hAw) ?_
              clear hK K
              try simp only [Act.put, List.setIfInBounds_toArray, List.set_cons_zero, List.set_cons_succ]
              refine fresh_anyC (fun V => Nd (⟨w, W2, w1.heap.size, Aa, ca, la, ⟨some ⟨gl, od, none⟩, cl - i', drs⟩, ⟨some ⟨gl, 0, none⟩, cl, trs⟩⟩ : Cx) true true true false false false true g1 g2 a6 c6 g3 a12 c12 a13 c13 W.heap.size V) hn ?_
              clear hn hN
              generalize W.heap.size = T'
              rintro V hV
              exact k1_5_6_18 g1 g2 a6 c6 T' V ⟨_, _, _, _, _, hV⟩
          · rintro g1 g2 g3 T W ⟨a6, c6, a12, c12, a13, c13, hN⟩
            refine anyL_one 6 rfl (by kernel_rfl) (fun K hK => ?_)
            obtain ⟨a6', c6', V, hrun, hn⟩ := Nd.op6 hN hc
            try dsimp only at hrun
            refine append_run_step rfl (.tmp 98) (.tmp 102) 26 rfl rfl rfl hrun ?_
            refine hK.out _ _ (fun _ => hn.geo hG.out hAw) ?_
            clear hK K hrun hN
            try simp only [Act.put, List.setIfInBounds_toArray, List.set_cons_zero, List.set_cons_succ]
            exact k1_5_6_11_18 g1 g2 a6' c6' g3 T V ⟨_, _, _, _, hn⟩
          · rintro g1 g2 a6 c6 T W ⟨g3, a12, c12, a13, c13, hN⟩
            refine anyL_one 11 rfl (by kernel_rfl) (fun K hK => ?_)
            have hn := Nd.op11 hN
            dsimp only at hn
            rw [htl] at hn
            go_simp
            refine hK.out _ _ (fun _ => hn.geo hG.out hAw) ?_
            clear hK K
            try simp only [Act.put, List.setIfInBounds_toArray, List.set_cons_zero, List.set_cons_succ]
            refine fresh_anyC (fun V => Nd (⟨w, W2, w1.heap.size, Aa, ca, la, ⟨some ⟨gl, od, none⟩, cl - i', drs⟩, ⟨some ⟨gl, 0, none⟩, cl, trs⟩⟩ : Cx) true true true true false false true g1 g2 a6 c6 W.heap.size a12 c12 a13 c13 T V) hn ?_
            clear hn hN
            generalize W.heap.size = g3'
            rintro V hV
            exact k1_5_6_11_18 g1 g2 a6 c6 g3' T V ⟨_, _, _, _, hV⟩
          · rintro g1 g2 a6 c6 g3 W ⟨a12, c12, a13, c13, T, hN⟩
            refine anyL_two 12 18 rfl rfl (by kernel_rfl) (fun K hK => ?_) (fun K hK => ?_)
            · obtain ⟨a12', c12', V, hrun, hn⟩ := Nd.op12 hN hc
              try dsimp only at hrun
              refine append_run_step rfl (.tmp 104) (.tmp 108) 26 rfl rfl rfl hrun ?_
              refine hK.out _ _ (fun _ => hn.geo hG.out hAw) ?_
              clear hK K hrun hN
              try simp only [Act.put, List.setIfInBounds_toArray, List.set_cons_zero, List.set_cons_succ]
              exact k1_5_6_11_12 g1 g2 a6 c6 g3 a12' c12' V ⟨_, _, _, hn⟩
            · have hn := Nd.op18 hN
              go_simp
              refine hK.out _ _ (fun _ => hn.geo hG.out hAw) ?_
              clear hK K
              try simp only [Act.put, List.setIfInBounds_toArray, List.set_cons_zero, List.set_cons_succ]
              refine fresh_anyC (fun V => Nd (⟨w, W2, w1.heap.size, Aa, ca, la, ⟨some ⟨gl, od, none⟩, cl - i', drs⟩, ⟨some ⟨gl, 0, none⟩, cl, trs⟩⟩ : Cx) true true true true false false true g1 g2 a6 c6 g3 a12 c12 a13 c13 W.heap.size V) hn ?_
              clear hn hN
              generalize W.heap.size = T'
              rintro V hV
              exact k1_5_6_11_18 g1 g2 a6 c6 g3 T' V ⟨_, _, _, _, hV⟩
          · rintro g1 g2 a6 c6 g3 T W ⟨a12, c12, a13, c13, hN⟩
            refine anyL_one 12 rfl (by kernel_rfl) (fun K hK => ?_)
            obtain ⟨a12', c12', V, hrun, hn⟩ := Nd.op12 hN hc
            try dsimp only at hrun
            refine append_run_step rfl (.tmp 104) (.tmp 108) 26 rfl rfl rfl hrun ?_
            refine hK.out _ _ (fun _ => hn.geo hG.out hAw) ?_
            clear hK K hrun hN
            try simp only [Act.put, List.setIfInBounds_toArray, List.set_cons_zero, List.set_cons_succ]
            exact k1_5_6_11_12_18 g1 g2 a6 c6 g3 a12' c12' T V ⟨_, _, hn⟩
          · rintro g1 g2 a6 c6 g3 a12 c12 W ⟨a13, c13, T, hN⟩
            refine anyL_two 13 18 rfl rfl (by kernel_rfl) (fun K hK => ?_) (fun K hK => ?_)
            · obtain ⟨a13', c13', V, hrun, hn⟩ := Nd.op13 hN hc
              try dsimp only at hrun
              refine append_run_step rfl (.tmp 103) (.tmp 109) 26 rfl rfl rfl hrun ?_
              refine hK.out _ _ (fun _ => hn.geo hG.out hAw) ?_
              clear hK K hrun hN
              try simp only [Act.put, List.setIfInBounds_toArray, List.set_cons_zero, List.set_cons_succ]
              exact k1_5_6_11_12_13 g1 g2 a6 c6 g3 a12 c12 a13' c13' V ⟨_, hn⟩
            · have hn := Nd.op18 hN
              go_simp
              refine hK.out _ _ (fun _ => hn.geo hG.out hAw) ?_
              clear hK K
              try simp only [Act.put, List.setIfInBounds_toArray, List.set_cons_zero, List.set_cons_succ]
              refine fresh_anyC (fun V => Nd (⟨w, W2, w1.heap.size, Aa, ca, la, ⟨some ⟨gl, od, none⟩, cl - i', drs⟩, ⟨some ⟨gl, 0, none⟩, cl, trs⟩⟩ : Cx) true true true true true false true g1 g2 a6 c6 g3 a12 c12 a13 c13 W.heap.size V) hn ?_
              clear hn hN
              generalize W.heap.size = T'
              rintro V hV
              exact k1_5_6_11_12_18 g1 g2 a6 c6 g3 a12 c12 T' V ⟨_, _, hV⟩
          · rintro g1 g2 a6 c6 g3 a12 c12 T W ⟨a13, c13, hN⟩
            refine anyL_one 13 rfl (by kernel_rfl) (fun K hK => ?_)
            obtain ⟨a13', c13', V, hrun, hn⟩ := Nd.op13 hN hc
            try dsimp only at hrun
            refine append_run_step rfl (.tmp 103) (.tmp 109) 26 rfl rfl rfl hrun ?_
            refine hK.out _ _ (fun _ => hn.geo hG.out hAw) ?_
            clear hK K hrun hN
            try simp only [Act.put, List.setIfInBounds_toArray, List.set_cons_zero, List.set_cons_succ]
            exact k1_5_6_11_12_13_18 g1 g2 a6 c6 g3 a12 c12 a13' c13' T V hn
          · rintro g1 g2 a6 c6 g3 a12 c12 a13 c13 W ⟨T, hN⟩
            refine anyL_two 14 18 rfl rfl (by kernel_rfl) (fun K hK => ?_) (fun K hK => ?_)
            · go_simp
              refine (hrd.out W _ _ (Nd.lists hN hls.out)).mono ?_
              rintro e' V ⟨E1, e1, E2, e2, rfl, hJ, hb⟩
              have hn := Nd.alloc hN hb
              refine hK.out _ _ (fun _ => hn.geo hG.out hAw) ?_
              clear hK K
              have hSV := hn.geo hG.out hAw
              refine anyL_take 15 (v := ?_) rfl (by kernel_rfl) (fun _ _ _ h => h) (Or.inl ⟨by rfl, ?_⟩) hSV ?_
              rotate_left
              focus (intro W hW; go_simp; try with_reducible rfl)
              simp only [Act.put, List.setIfInBounds_toArray, List.set_cons_zero, List.set_cons_succ]
              refine anyL_take 16 (v := ?_) rfl (by kernel_rfl) (fun _ _ _ h => h) (Or.inl ⟨by rfl, ?_⟩) hSV ?_
              rotate_left
              focus (intro W hW; go_simp; try with_reducible rfl)
              simp only [Act.put, List.setIfInBounds_toArray, List.set_cons_zero, List.set_cons_succ]
              refine anyL_take 17 (v := ?_) rfl (by kernel_rfl) (fun _ _ _ h => h) (Or.inl ⟨by rfl, ?_⟩) hSV ?_
              rotate_left
              focus (intro W hW; go_simp; try with_reducible rfl)
              simp only [Act.put, List.setIfInBounds_toArray, List.set_cons_zero, List.set_cons_succ]
              clear hSV
              refine anyL_one 18 rfl (by kernel_rfl) (fun K hK => ?_)
              have hb2 : Below V.heap.size V (V.alloc (.cells #[.int .i64 0, .slice none 0 0, .slice none 0 0, .int .i64 0, .int .i64 0] 33)) := (Below.refl _ _).alloc (Nat.le_refl _) _
              have hn2 := Nd.op18 hn
              have hJ2 := (hJ.mono hN.sz).below hb2
              have hoff := own_off hJ
              go_simp
              refine hK.out _ _ (fun _ => hn2.geo hG.out hAw) ?_
              clear hK K
              try simp only [Act.put, List.setIfInBounds_toArray, List.set_cons_zero, List.set_cons_succ]
              refine fresh_anyC (fun V' => Nd (⟨w, W2, w1.heap.size, Aa, ca, la, ⟨some ⟨gl, od, none⟩, cl - i', drs⟩, ⟨some ⟨gl, 0, none⟩, cl, trs⟩⟩ : Cx) true true true true true true true g1 g2 a6 c6 g3 a12 c12 a13 c13 V.heap.size V' ∧ BkO V' W2.heap.size E1 e1 E2 e2 ⟨q9, zs, ms, sl, cu⟩ ∧ (E1 ≠ some ⟨V.heap.size, 0, none⟩ ∧ E2 ≠ some ⟨V.heap.size, 0, none⟩)) ⟨hn2, hJ2, hoff⟩ ?_
              clear hn hn2 hJ2 hoff hJ hb hb2
              generalize V.heap.size = T'
              rintro V' ⟨hV1, hV2, hV3⟩
              exact kE E1 e1 E2 e2 g1 g2 a6 c6 g3 a12 c12 a13 c13 T' V' ⟨hV1, hV2, hV3⟩
            · have hn := Nd.op18 hN
              go_simp
              refine hK.out _ _ (fun _ => hn.geo hG.out hAw) ?_
              clear hK K
              try simp only [Act.put, List.setIfInBounds_toArray, List.set_cons_zero, List.set_cons_succ]
              refine fresh_anyC (fun V => Nd (⟨w, W2, w1.heap.size, Aa, ca, la, ⟨some ⟨gl, od, none⟩, cl - i', drs⟩, ⟨some ⟨gl, 0, none⟩, cl, trs⟩⟩ : Cx) true true true true true true true g1 g2 a6 c6 g3 a12 c12 a13 c13 W.heap.size V) hn ?_
              clear hn hN
              generalize W.heap.size = T'
              rintro V hV
              exact k1_5_6_11_12_13_18 g1 g2 a6 c6 g3 a12 c12 a13 c13 T' V hV
          · rintro g1 g2 a6 c6 g3 a12 c12 a13 c13 T W hN
            refine anyL_one 14 rfl (by kernel_rfl) (fun K hK => ?_)
            go_simp
            refine (hrd.out W _ _ (Nd.lists hN hls.out)).mono ?_
            rintro e' V ⟨E1, e1, E2, e2, rfl, hJ, hb⟩
            have hn := Nd.alloc hN hb
            refine hK.out _ _ (fun _ => hn.geo hG.out hAw) ?_
            clear hK K
            have hSV := hn.geo hG.out hAw
            refine anyL_take 15 (v := ?_) rfl (by kernel_rfl) (fun _ _ _ h => h) (Or.inl ⟨by rfl, ?_⟩) hSV ?_
            rotate_left
            focus (intro W hW; go_simp; try with_reducible rfl)
            simp only [Act.put, List.setIfInBounds_toArray, List.set_cons_zero, List.set_cons_succ]
            refine anyL_take 16 (v := ?_) rfl (by kernel_rfl) (fun _ _ _ h => h) (Or.inl ⟨by rfl, ?_⟩) hSV ?_
            rotate_left
            focus (intro W hW; go_simp; try with_reducible rfl)
            simp only [Act.put, List.setIfInBounds_toArray, List.set_cons_zero, List.set_cons_succ]
            refine anyL_take 17 (v := ?_) rfl (by kernel_rfl) (fun _ _ _ h => h) (Or.inl ⟨by rfl, ?_⟩) hSV ?_
            rotate_left
            focus (intro W hW; go_simp; try with_reducible rfl)
            simp only [Act.put, List.setIfInBounds_toArray, List.set_cons_zero, List.set_cons_succ]
            clear hSV
            have hoff := hJ.off (Nd.t_lt hN rfl)
            exact kE E1 e1 E2 e2 g1 g2 a6 c6 g3 a12 c12 a13 c13 T V ⟨hn, hJ.mono hN.sz, hoff⟩
          · rintro E1 e1 E2 e2 g1 g2 a6 c6 g3 a12 c12 a13 c13 T W ⟨hN, hJ, hoff⟩
            obtain ⟨hT, hTB⟩ := hN.p18 rfl
            have hTB' : W2.heap.size ≤ T := hTB
            have hbwT : w.heap.size ≤ T := by have h1 := hK2H.out.2.2.2.2.2.1.lt; have h2 := hK2H.out.2.2.2.2.2.1.o.bw.size; omega
            have hgr := grownBy_put W T (.int .i64 q9) (.slice E1 zs.length e1) (.slice E2 ms.length e2) (.int .i64 sl) (.int .i64 cu)
            have hP := hT.put ⟨q9, zs, ms, sl, cu⟩ (A1' := E1) (A2' := E2) (c1' := e1) (c2' := e2)
            have hJ5 := hJ.far hgr hoff.1 hoff.2
            have hb5 := ((((hN.bw.setCell hbwT (.int .i64 q9) (p := ⟨T, 0, none⟩)).setCell hbwT (.slice E1 zs.length e1) (p := ⟨T, 1, none⟩)).setCell hbwT (.slice E2 ms.length e2) (p := ⟨T, 2, none⟩)).setCell hbwT (.int .i64 sl) (p := ⟨T, 3, none⟩)).setCell hbwT (.int .i64 cu) (p := ⟨T, 4, none⟩)
            have hk5 : ∀ k, k < W2.heap.size → Aa ≠ some ⟨k, 0, none⟩ → (((((W.setCell ⟨T, 0, none⟩ (.int .i64 q9)).setCell ⟨T, 1, none⟩ (.slice E1 zs.length e1)).setCell ⟨T, 2, none⟩ (.slice E2 ms.length e2)).setCell ⟨T, 3, none⟩ (.int .i64 sl)).setCell ⟨T, 4, none⟩ (.int .i64 cu)).heap[k]? = W2.heap[k]? := fun k hk hn => by
              rw [hgr.block k (Nat.lt_of_lt_of_le hk hN.sz) (by simp; omega)]
              exact hN.bl k hk hn
            have hsz5 := Nat.le_trans hN.sz hgr.size
            dsimp only at hP
            have hG5 : GzAt (((((W.setCell ⟨T, 0, none⟩ (.int .i64 q9)).setCell ⟨T, 1, none⟩ (.slice E1 zs.length e1)).setCell ⟨T, 2, none⟩ (.slice E2 ms.length e2)).setCell ⟨T, 3, none⟩ (.int .i64 sl)).setCell ⟨T, 4, none⟩ (.int .i64 cu)) w.heap.size (m : Int) Z B O A := hG.out.of (hk5 _ (lt_of_cell hG.out.1) hAw) hsz5
            have hSW := hN.geo hG.out hAw
            obtain ⟨t0, t1, t2, t3, t4, tf⟩ := hT
            dsimp only [noB, List.length_nil] at t0 t1 t2 t3 t4
            have tf0 := tf 0
            have tf1 := tf 1
            have tf2 := tf 2
            have tf3 := tf 3
            have tf4 := tf 4
            refine anyL_one 19 rfl (by kernel_rfl) (fun K hK => ?_)
            go_simp
            refine hK.out _ _ (fun _ => hG5) ?_
            clear hK K
            try simp only [Act.put, List.setIfInBounds_toArray, List.set_cons_zero, List.set_cons_succ]
            refine fresh_anyC (fun V => BkAt V T E1 e1 E2 e2 ⟨q9, zs, ms, sl, cu⟩ ∧ BkO V W2.heap.size E1 e1 E2 e2 ⟨q9, zs, ms, sl, cu⟩ ∧ (∀ k, k < W2.heap.size → Aa ≠ some ⟨k, 0, none⟩ → V.heap[k]? = W2.heap[k]?) ∧ W2.heap.size ≤ V.heap.size ∧ Below w.heap.size w V ∧ GzAt V w.heap.size (m : Int) Z B O A) ⟨hP, hJ5, hk5, hsz5, hb5, hG5⟩ ?_
            clear hP hJ5 hk5 hsz5 hb5 hG5 hgr t0 t1 t2 t3 t4 tf tf0 tf1 tf2 tf3 tf4 hJ hoff hN hSW
            rintro V ⟨hT, hJ, hkV, hsV, hbV, hGV⟩
            refine anyL_take 20 (v := ?_) rfl (by kernel_rfl) (fun _ _ _ h => h) (Or.inl ⟨by rfl, ?_⟩) hGV ?_
            rotate_left
            focus (intro W hW; go_simp; try with_reducible rfl)
            simp only [Act.put, List.setIfInBounds_toArray, List.set_cons_zero, List.set_cons_succ]
            refine anyC_done (by kernel_rfl) ?_ _
            obtain ⟨n1, n2, n3, n4, -, n6, n7⟩ := hK2H.out
            have hY2 : Y < W2.heap.size := by omega
            have hBU : BkAt V U U1 d1 U2 d2 ⟨q9, zs, ms, sl, cu⟩ := n1.of (hkV U n7 hUA)
            have hBY : BkAt V Y A3 c3 A4 c4 ⟨q, zs, ms, sl, cu⟩ := n3.of (hkV Y hY2 hYA)
            have hIU : BkIn V U1 d1 U2 d2 ⟨q9, zs, ms, sl, cu⟩ := n2.old hsV (fun k off h => hkV k (by have := hU12 k off h; omega) (hAk.out k (by have := hU12 k off h; omega)))
            have hIY : BkIn V A3 c3 A4 c4 ⟨q9, zs, ms, sl, cu⟩ := (n4.old hsV (fun k off h => hkV k (by have := hA34 k off h; omega) (hAk.out k (by have := hA34 k off h; omega)))).same rfl rfl
            have hwY : w.heap.size ≤ Y := by have h1 := n6.lt; omega
            have hqw : IntKind.i64.wrap (q + (rs.length : Int)) = q9 := by rw [hq9H.out]; exact IntWalk.i64_in _ (by omega)
            have hg1 := grownBy_one V Y 0 (.int .i64 q9)
            have hEY : ∀ g off, E1 = some ⟨g, off, none⟩ ∨ E2 = some ⟨g, off, none⟩ → W2.heap.size ≤ g := fun g off h => (own_in hJ.z hJ.m g off h).1
            have hf : ∀ {A1 A2 : Option Addr} {c1 c2 : Nat} {b : Bo}, BkIn V A1 c1 A2 c2 b → (∀ g off, A1 = some ⟨g, off, none⟩ ∨ A2 = some ⟨g, off, none⟩ → g ≠ Y ∧ g < V.heap.size) → BkIn (V.setCell ⟨Y, 0, none⟩ (.int .i64 q9)) A1 c1 A2 c2 b :=
              fun h hn => h.old hg1.size (fun k off h2 => hg1.block k (hn k off h2).2 (fun e => (hn k off h2).1 (by injection e)))
            have hY9 := hBY.set0 q9
            have hQ := Lib.hid (show (fun V => BkAt V T E1 e1 E2 e2 ⟨q9, zs, ms, sl, cu⟩ ∧ BkIn V E1 e1 E2 e2 ⟨q9, zs, ms, sl, cu⟩ ∧ BkAt V Y A3 c3 A4 c4 ⟨q9, zs, ms, sl, cu⟩ ∧ BkIn V A3 c3 A4 c4 ⟨q9, zs, ms, sl, cu⟩ ∧ BkAt V U U1 d1 U2 d2 ⟨q9, zs, ms, sl, cu⟩ ∧ BkIn V U1 d1 U2 d2 ⟨q9, zs, ms, sl, cu⟩ ∧ Below w.heap.size w V) (V.setCell ⟨Y, 0, none⟩ (.int .i64 q9)) from
              ⟨hT.far hg1 (by simp; omega), hf hJ.in_ (fun g off h => ⟨by have := hEY g off h; omega, (own_in hJ.z hJ.m g off h).2⟩), hY9, hf hIY (fun g off h => by have := hA34 g off h; omega), hBU.far hg1 (by simp; omega), hf hIU (fun g off h => by have := hU12 g off h; omega), hbV.setCell hwY _⟩)
            obtain ⟨y0, y1, y2, y3, y4, yf⟩ := hBY
            dsimp only at y0 y1 y2 y3 y4
            have yf0 := yf 0
            clear n1 n2 n3 n4 n6 hBU hIU hIY hg1 hEY hf hY9 hT hJ hkV hsV hbV hGV hK2H hG hAk hN0 hrd hls hc hq9H hrsH hnxH
            go_upto_region 22 with fail
            refine fresh_world (fun V => BkAt V T E1 e1 E2 e2 ⟨q9, zs, ms, sl, cu⟩ ∧ BkIn V E1 e1 E2 e2 ⟨q9, zs, ms, sl, cu⟩ ∧ BkAt V Y A3 c3 A4 c4 ⟨q9, zs, ms, sl, cu⟩ ∧ BkIn V A3 c3 A4 c4 ⟨q9, zs, ms, sl, cu⟩ ∧ BkAt V U U1 d1 U2 d2 ⟨q9, zs, ms, sl, cu⟩ ∧ BkIn V U1 d1 U2 d2 ⟨q9, zs, ms, sl, cu⟩ ∧ Below w.heap.size w V) hQ.out ?_
            clear hQ y0 y1 y2 y3 y4 yf yf0
            rintro V2 ⟨hT, hIT, hBY, hIY, hBU, hIU, hb2⟩
            have hs1 := Lib.hid (same10 V2 E1 e1 E2 e2 A3 c3 A4 c4 ⟨q9, zs, ms, sl, cu⟩ hIT hIY)
            have hs2 := Lib.hid (fun W (hb : Below V2.heap.size V2 W) => same10 W U1 d1 U2 d2 A3 c3 A4 c4 ⟨q9, zs, ms, sl, cu⟩ (hIU.below hb) (hIY.below hb))
            have hBYH := Lib.hid hBY
            have hBUH := Lib.hid hBU
            have hbH := Lib.hid hb2
            dsimp only at hs1 hs2
            obtain ⟨t0, t1, t2, t3, t4, tf⟩ := hT
            obtain ⟨y0, y1, y2, y3, y4, yf⟩ := hBY
            dsimp only at t0 t1 t2 t3 t4 y0 y1 y2 y3 y4
            clear hIT hIY hIU hBU hb2
            go_wp2_with fail
            (with_reducible refine hs1.out.mono ?_)
            rintro e V3 ⟨rfl, hb3⟩
            have hs3 := Lib.hid (hs2.out _ hb3)
            have hBY3 := hBYH.out.below hb3
            have hBU3 := hBUH.out.below hb3
            have hbw3 := Lib.hid (hbH.out.trans (hb3.mono hbH.out.size))
            clear hb3 hs1 hs2 hBYH hBUH hbH t0 t1 t2 t3 t4 tf y0 y1 y2 y3 y4 yf
            obtain ⟨t0, t1, t2, t3, t4, tf⟩ := hBU3
            obtain ⟨y0, y1, y2, y3, y4, yf⟩ := hBY3
            dsimp only at t0 t1 t2 t3 t4 y0 y1 y2 y3 y4
            go_wp2_with fail
            (with_reducible refine hs3.out.mono ?_)
            rintro e V4 ⟨rfl, hb4⟩
            have hfin := Lib.hid (hbw3.out.trans (hb4.mono hbw3.out.size))
            clear hb4 hbw3 hs3 t0 t1 t2 t3 t4 tf y0 y1 y2 y3 y4 yf
            go_wp2_with fail
            rw [hffH.out]
            exact bodyPost_ret (v := .bool true) (by simp [results, Try.results4, go_sem]) rfl ⟨rfl, hfin.out⟩
end Go.Proofs.Ytpmhfalhieinjaa
