/- BookFresh, walked. -/
import Derived.Test.YtpmhfalhieinjaaBkFshM
import Derived.BigQuiet
namespace Go.Proofs.Ytpmhfalhieinjaa
open Go.RowKit Rec Bk

set_option maxRecDepth 100000 in
set_option maxHeartbeats 4000000 in
theorem fresh_law (D Z B O A : Int) (A0 : Option Addr) (cap0 : Nat) (ms : List Int) (w : World) (hI : IntsIn w A0 ms) :
    Calls Try.prog 6 #[.agg #[.int .i64 D, .int .i64 Z, .int .i64 B, .int .i64 O, .int .i64 A], .slice A0 ms.length cap0] w fun e w' => e = .returned (.bool true) ∧ Below w.heap.size w w' := by
  have hst := Lib.hid (box_start w D Z B O A 23)
  have hIH := Lib.hid (fun W (hb : Below w.heap.size w W) => hI.below hb)
  have hgr := Lib.hid (fun W => gref_any D Z B O A W)
  have hrc := rdC D Z B O A
  clear hI
  go_enter Try.func6, Try.ntmps6
  obtain ⟨ff, hff⟩ : ∃ ff, ff = Try.f6 := ⟨_, rfl⟩
  rw [← hff]
  have hffH := Lib.hid hff
  clear hff
  go_upto_region 1 with fail
  refine fresh_world (fun W => GzAt W w.heap.size D Z B O A ∧ Below w.heap.size w W) hst.out ?_
  clear hst
  rintro W0 ⟨hg, hb⟩
  have hgH := Lib.hid hg
  have hbH := Lib.hid hb
  clear hg hb
  go_wp2_with fail
  refine (speaks10 _).mono ?_
  rintro e w1 ⟨rfl, hb1⟩
  have hg1 := hgH.out.below hb1
  have hbw1 := hbH.out.trans (hb1.mono hbH.out.size)
  have hl1 : w.heap.size < w1.heap.size := lt_of_cell hg1.1
  have h2 := Lib.hid (two_boxes w w1 D Z B O A hg1 hbw1 hl1 37)
  obtain ⟨x0, x1, x2, x3, x4⟩ := hg1
  clear hb1 hgH hbH hbw1
  go_upto_region 4 with fail
  refine fresh_world (fun W' => GzAt W' w.heap.size D Z B O A ∧ GzAt W' w1.heap.size D Z B O A ∧ Below w.heap.size w W' ∧ w.heap.size < w1.heap.size ∧ w1.heap.size < W'.heap.size) h2.out ?_
  clear h2 x0 x1 x2 x3 x4 hl1
  generalize w1.heap.size = X
  rintro W2 ⟨hg, hh, hb2, hX1, hX2⟩
  have hgH := Lib.hid hg
  have hhH := Lib.hid hh
  have hbH := Lib.hid hb2
  obtain ⟨x0, x1, x2, x3, x4⟩ := hg
  clear hh hb2
  cases hrc with
  | bad hgd =>
    rw [hgd] at hgr
    clear hgd hIH
    go_wp2_with fail
    refine (hgr.out _).mono ?_
    rintro e w3 ⟨rfl, hb3⟩
    have hfin := Lib.hid (hbH.out.trans (hb3.mono hbH.out.size))
    clear hb3 hgH hhH hbH x0 x1 x2 x3 x4
    go_wp2_with fail
    rw [hffH.out]
    exact bodyPost_ret (v := .bool true) (by simp [results, Try.results6, go_sem]) rfl ⟨rfl, hfin.out⟩
  | good n m hgd hD hn =>
    subst hD
    obtain ⟨q1, q2, q3, q4, _⟩ := goodB_iff.1 hgd
    have hgdH := Lib.hid hgd
    rw [hgd] at hgr
    have hnw := Lib.hid (fun W => new_anyB W (m : Int) Z B O A)
    have hne : newOf (m : Int) Z B O A = ⟨0, newZ n, newMs m, -1, 0⟩ := by
      unfold newOf
      rw [if_pos hgd]
      show newBk _ _ = newBk n m
      congr 1 <;> omega
    rw [hne] at hnw
    have hvl := Lib.hid (show ValB (m : Int) Z n m ⟨0, newZ n, newMs m, -1, 0⟩ from new_val (D := (m : Int)) hn rfl)
    clear hne hgd
    go_wp2_with fail
    refine (hgr.out _).mono ?_
    rintro e w3 ⟨rfl, hb3⟩
    have hg3 := Lib.hid (hgH.out.below hb3)
    have hh3 := Lib.hid (hhH.out.below hb3)
    have hbw3 := Lib.hid (hbH.out.trans (hb3.mono hbH.out.size))
    have hX3 : X < w3.heap.size := lt_of_cell hh3.out.1
    clear hgH hhH hbH hb3 x0 x1 x2 x3 x4 hX2
    obtain ⟨x0, x1, x2, x3, x4⟩ := hh3.out
    go_wp2_with fail
    refine (hnw.out _).mono ?_
    rintro e w4 ⟨A1, c1, A2, c2, rfl, hO, hb4⟩
    have hX4 : X < w4.heap.size := Nat.lt_of_lt_of_le hX3 hb4.size
    have hF := Lib.hid (frW_start (hg3.out.below hb4) (hh3.out.below hb4) (hbw3.out.trans (hb4.mono hbw3.out.size)) ⟨hX1, hX4⟩ hO.in_)
    clear hO hb4 hg3 hh3 hbw3 x0 x1 x2 x3 x4 hX3 hX4 hX1 hgr hnw
    go_upto_region 7 with fail
    refine fresh_world (fun W' => FrW w W' (m : Int) Z B O A X w4.heap.size A1 c1 A2 c2 ⟨0, newZ n, newMs m, -1, 0⟩) hF.out ?_
    clear hF
    generalize w4.heap.size = Y
    rintro W5 hF
    have hFH := Lib.hid hF
    clear hF
    go_wp2_with fail
    go_loopw [7] (fun i wr => ∃ (k : Nat) (A1 : Option Addr) (c1 : Nat) (A2 : Option Addr) (c2 : Nat) (zs : List Zo) (mm : List Int), k ≤ 30 ∧ k ≤ ms.length ∧ i = .int .i64 (k : Int) ∧ FrW w wr (m : Int) Z B O A X Y A1 c1 A2 c2 ⟨(k : Int), zs, mm, -1, 0⟩ ∧ ValB (m : Int) Z n m ⟨(k : Int), zs, mm, -1, 0⟩) (fun i _ => 30 - (intOf i).toNat)
    case atStart => exact ⟨0, A1, c1, A2, c2, newZ n, newMs m, by omega, Nat.zero_le _, rfl, hFH.out, hvl.out⟩
    case round =>
      clear hFH hvl
      obtain ⟨k, A1, c1, A2, c2, zs, mm, hk30, hkl, rfl, hF, hV⟩ := hrel
      have hFH := Lib.hid hF
      have hVH := Lib.hid hV
      have hzl := Lib.hid (show zs.length = n from hV.zl)
      have hml := Lib.hid (show mm.length = m from hV.ml)
      have hzb := hF.i.zl
      have hmb := hF.i.ml
      dsimp only at hzb hmb
      obtain ⟨b0, b1, b2, b3, b4, bf⟩ := hF.k
      dsimp only at b0 b1 b2 b3 b4
      obtain ⟨y0, y1, y2, y3, y4⟩ := hF.h
      obtain ⟨x0, x1, x2, x3, x4⟩ := hF.g
      clear hF hV
      by_cases hlt : k < ms.length ∧ k < 30
      case pos =>
        obtain ⟨h1, h2⟩ := hlt
        have g1 : (k : Int) < (ms.length : Int) := by omega
        have g2 : (k : Int) < 30 := by omega
        have hfr := Lib.hid (free_any wr A1 c1 A2 c2 ⟨(k : Int), zs, mm, -1, 0⟩ (m : Int) Z B O A hFH.out.i (by omega))
        dsimp only at hfr
        go_wp2_with fail
        (with_reducible refine hfr.out.mono ?_)
        rintro e w6 ⟨f, rfl, hf, hb6⟩
        obtain ⟨f1, f2, f3⟩ := free_in hVH.out hn hf
        have hF6 := Lib.hid (hFH.out.below hb6)
        have f3H := Lib.hid f3
        clear hf hb6 f3 hFH hfr b0 b1 b2 b3 b4 bf y0 y1 y2 y3 y4 x0 x1 x2 x3 x4
        go_wp2_with fail
        go_loopw [9] (fun i wr => ∃ (j : Nat), j ≤ zs.length ∧ i = .int .i64 (j : Int) ∧ FrW w wr (m : Int) Z B O A X Y A1 c1 A2 c2 ⟨(k : Int), zs, mm, -1, 0⟩) (fun i _ => zs.length - (intOf i).toNat)
        case atStart => exact ⟨0, Nat.zero_le _, rfl, hF6.out⟩
        case round =>
          clear hF6
          obtain ⟨j, hj, rfl, hF⟩ := hrel
          have hFH := Lib.hid hF
          obtain ⟨b0, b1, b2, b3, b4, bf⟩ := hF.k
          dsimp only at b0 b1 b2 b3 b4
          by_cases hlt : j < zs.length
          case pos =>
            obtain ⟨g, off, e, -, z0, -, -⟩ := zo_at hF.i.z hlt
            dsimp only at z0
            have hne : ¬ zs[j].p = f := f3H.out _ (List.getElem_mem hlt)
            have hj1 : (j : Int) < (zs.length : Int) := by omega
            have hkw : IntKind.i64.wrap ((j : Int) + 1) = (j : Int) + 1 := IntWalk.i64_in _ (by omega)
            subst e
            clear hF
            generalize zs[j].p = zp at z0 hne
            go_wp2_with fail
            go_roundw
            case rel => exact ⟨j + 1, by omega, by go_num, hFH.out⟩
            case measure => simp only [intOf]; omega
          case neg =>
            have hj1 : ¬ (j : Int) < (zs.length : Int) := by omega
            have g3 : ¬ f < 2 := by omega
            have g4 : ¬ Z ≤ f := by omega
            obtain ⟨bm, om, em, -, hmc⟩ := (hIH.out _ hFH.out.bw).at_ h1
            have hzn : 1 ≤ zs.length := by have := hzl.out; omega
            obtain ⟨t, i', ht, t1, t2, ht3, ht4, hi'⟩ := into_modB ms[k] zs.length hzn (by omega)
            obtain ⟨y0, y1, y2, y3, y4⟩ := hF.h
            obtain ⟨x0, x1, x2, x3, x4⟩ := hF.g
            have hnt := Lib.hid (fun W (hb : Below wr.heap.size wr W) => note_any W A1 c1 A2 c2 ⟨(k : Int), zs, mm, -1, 0⟩ ⟨3, (k : Int) + 1, (i' : Int), f, (k : Int), 0, ⟨#[]⟩⟩ (hF.i.below hb))
            rw [note_move hi' f k] at hnt
            dsimp only at hnt
            have hzn0 : ¬ (zs.length : Int) = 0 := by omega
            have hzn1 : ¬ zs.length = 0 := by omega
            have hw1 : IntKind.i64.wrap (t + (zs.length : Int)) = t + (zs.length : Int) := IntWalk.i64_in _ (by omega)
            have hw2 : IntKind.i64.wrap ((k : Int) + 1) = (k : Int) + 1 := IntWalk.i64_in _ (by omega)
            have hYl := hF.k.lt
            clear hF hj
            generalize ms[k] = mv at hmc ht
            subst em
            go_wp2_with fail
            go_quiet (fail)
            go_wp2_with fail
            (with_reducible refine (hnt.out _ (below_drewN (Below.refl _ _) _)).mono ?_)
            rintro e w7 ⟨B1, d1, B2, d2, rfl, hO, hb7⟩
            have hF7 := Lib.hid ((hFH.out.below (below_drewN (Below.refl _ _) _)).below hb7)
            have hP := Lib.hid (hF7.out.put hO hYl)
            have hV7 := Lib.hid (show ValB (m : Int) Z n m ⟨(k : Int) + 1, zs.set i' ⟨f, (k : Int), 0⟩, mm, -1, 0⟩ by
              rw [← note_move hi' f k]
              exact move_val hVH.out rfl ⟨by show (0 : Int) ≤ (i' : Int); omega, by have := hzl.out; show (i' : Int) < (n : Int); omega⟩ ⟨f1, f2⟩ f3H.out ⟨by show (0 : Int) ≤ 0; omega, by show (0 : Int) ≤ 2; omega⟩)
            obtain ⟨b0, b1, b2, b3, b4, bf⟩ := hF7.out.k
            dsimp only at hP
            rw [List.length_set] at hP
            clear hb7 hO hF7 hnt hFH y0 y1 y2 y3 y4 x0 x1 x2 x3 x4 hmc
            go_upto_region 9 with fail
            refine fresh_world (fun W' => FrW w W' (m : Int) Z B O A X Y B1 d1 B2 d2 ⟨(k : Int) + 1, zs.set i' ⟨f, (k : Int), 0⟩, mm, -1, 0⟩) hP.out ?_
            rintro W8 hF
            have hF8 := Lib.hid hF
            clear hP b0 b1 b2 b3 b4 bf hF
            go_wp2_with fail
            go_roundw
            case rel => exact ⟨k + 1, B1, d1, B2, d2, _, _, by omega, by omega, by go_num, hF8.out, hV7.out⟩
            case measure => simp only [intOf]; omega
      case neg =>
        obtain ⟨q9, hq2⟩ : ∃ q9, nextB ⟨(k : Int), zs, mm, -1, 0⟩ = ⟨q9, zs, mm, -1, 0⟩ := ⟨_, rfl⟩
        have hrx := records_any wr A1 c1 A2 c2 ⟨(k : Int), zs, mm, -1, 0⟩ hFH.out.i (by show 0 ≤ (k : Int) ∧ (k : Int) ≤ 4611686018427387904; omega)
        unfold RecPost at hrx
        have hrd := read_self Z B O A n m hgdH.out hn (by omega) hVH.out (by show 0 ≤ (k : Int) ∧ (k : Int) ≤ 2199023255552; omega) hzb hmb (by show (-1 : Int) ≤ 64; omega)
        rw [hq2] at hrx hrd
        generalize recsB ⟨(k : Int), zs, mm, -1, 0⟩ = rs at hrx hrd
        dsimp only at hrx
        have hrxH := Lib.hid hrx
        have hrdH := Lib.hid hrd
        clear hrx hrd hq2
        have hE : ¬ (k : Int) < (ms.length : Int) ∨ ((k : Int) < (ms.length : Int) ∧ ¬ (k : Int) < 30) := by omega
        clear hlt
        rcases hE with g1 | ⟨g1, g2⟩ <;>
        · go_wp2_with fail
          (with_reducible refine hrxH.out.mono ?_)
          rintro e w6 ⟨Al, cl, C1, d1, C2, d2, rfl, hR, hO, hb6⟩
          have hN6 := Lib.hid (boxed hO.in_ 33 (R := fun W => FrW w W (m : Int) Z B O A X Y A1 c1 A2 c2 ⟨(k : Int), zs, mm, -1, 0⟩ ∧ RecsAt W Al rs) ⟨hFH.out.below hb6, hR.recsAt⟩ (fun _ _ h hb => ⟨h.1.below hb, RecsAt.below h.2 hb⟩))
          dsimp only at hN6
          clear hb6 hO hR hFH b0 b1 b2 b3 b4 bf x0 x1 x2 x3 x4 y0 y1 y2 y3 y4 hrxH
          go_upto_region 21 with fail
          refine fresh_world (fun W' => BkAt W' w6.heap.size C1 d1 C2 d2 ⟨q9, zs, mm, -1, 0⟩ ∧ BkIn W' C1 d1 C2 d2 ⟨q9, zs, mm, -1, 0⟩ ∧ FrW w W' (m : Int) Z B O A X Y A1 c1 A2 c2 ⟨(k : Int), zs, mm, -1, 0⟩ ∧ RecsAt W' Al rs) hN6.out ?_
          clear hN6
          generalize w6.heap.size = U
          rintro W7 ⟨hB, -, hF, hR⟩
          have hBH := Lib.hid hB
          have hFH := Lib.hid hF
          have h1l := Lib.hid (one_list (cap := cl) hR 46)
          have hb1 := Lib.hid ((Below.refl W7.heap.size W7).alloc (Nat.le_refl _) (.cells #[.slice Al rs.length cl] 46))
          obtain ⟨y0, y1, y2, y3, y4⟩ := hF.h
          clear hB hF hR
          go_wp2_with fail
          (with_reducible refine (hrdH.out _ _ _ _ _ h1l.out).mono ?_)
          rintro e w8 ⟨E1, e1, E2, e2, rfl, hJ, hb8⟩
          have hN8 := Lib.hid (boxed hJ 33 (R := fun W => FrW w W (m : Int) Z B O A X Y A1 c1 A2 c2 ⟨(k : Int), zs, mm, -1, 0⟩ ∧ BkAt W U C1 d1 C2 d2 ⟨q9, zs, mm, -1, 0⟩) ⟨(hFH.out.below hb1.out).below hb8, (hBH.out.below hb1.out).below hb8⟩ (fun _ _ h hb => ⟨h.1.below hb, h.2.below hb⟩))
          dsimp only at hN8
          clear hb8 hJ hFH hBH y0 y1 y2 y3 y4 hrdH h1l hb1
          go_upto_region 22 with fail
          refine fresh_world (fun W' => BkAt W' w8.heap.size E1 e1 E2 e2 ⟨q9, zs, mm, -1, 0⟩ ∧ BkIn W' E1 e1 E2 e2 ⟨q9, zs, mm, -1, 0⟩ ∧ FrW w W' (m : Int) Z B O A X Y A1 c1 A2 c2 ⟨(k : Int), zs, mm, -1, 0⟩ ∧ BkAt W' U C1 d1 C2 d2 ⟨q9, zs, mm, -1, 0⟩) hN8.out ?_
          clear hN8
          generalize w8.heap.size = V
          rintro W9 ⟨hC, hJ, hF, hB⟩
          have hCJ := Lib.hid (⟨hC, hJ, hF⟩ : BkAt W9 V E1 e1 E2 e2 ⟨q9, zs, mm, -1, 0⟩ ∧ BkIn W9 E1 e1 E2 e2 ⟨q9, zs, mm, -1, 0⟩ ∧ FrW w W9 (m : Int) Z B O A X Y A1 c1 A2 c2 ⟨(k : Int), zs, mm, -1, 0⟩)
          obtain ⟨z0, z1, z2, z3, z4, zf⟩ := hC
          obtain ⟨u0, u1, u2, u3, u4, uf⟩ := hB
          obtain ⟨b0, b1, b2, b3, b4, bf⟩ := hF.k
          dsimp only at z0 z1 z2 z3 z4 u0 u1 u2 u3 u4 b0 b1 b2 b3 b4
          clear hJ hF
          go_wp2_with fail
          clear z0 z1 z2 z3 z4 zf u0 u1 u2 u3 u4 uf b0 b1 b2 b3 b4 bf
          go_loopw [15] (fun i wr => ∃ (j : Nat), j ≤ zs.length ∧ i = .int .i64 (j : Int) ∧ BkAt wr V E1 e1 E2 e2 ⟨q9, zs, mm, -1, 0⟩ ∧ BkIn wr E1 e1 E2 e2 ⟨q9, zs, mm, -1, 0⟩ ∧ FrW w wr (m : Int) Z B O A X Y A1 c1 A2 c2 ⟨(k : Int), zs, mm, -1, 0⟩) (fun i _ => zs.length - (intOf i).toNat)
          case atStart => exact ⟨0, Nat.zero_le _, rfl, hCJ.out⟩
          case round =>
            clear hCJ
            obtain ⟨j, hj, rfl, hN⟩ := hrel
            have hNH := Lib.hid hN
            obtain ⟨hC, hJ, hF⟩ := hN
            obtain ⟨z0, z1, z2, z3, z4, zf⟩ := hC
            obtain ⟨b0, b1, b2, b3, b4, bf⟩ := hF.k
            dsimp only at z0 z1 z2 z3 z4 b0 b1 b2 b3 b4
            by_cases hlt : j < zs.length
            case pos =>
              obtain ⟨g, off, e, -, s0, s1, s2⟩ := zo_at hF.i.z hlt
              obtain ⟨g', off', e', -, t0, t1, t2⟩ := zo_at hJ.z hlt
              dsimp only at s0 s1 s2 t0 t1 t2
              subst e
              subst e'
              have hj1 : (j : Int) < (zs.length : Int) := by omega
              have hkw : IntKind.i64.wrap ((j : Int) + 1) = (j : Int) + 1 := IntWalk.i64_in _ (by omega)
              have hne := fun W => (zo_eql W zs[j] zs[j]).2
              rw [eqZ_self] at hne
              clear hF hJ
              generalize zs[j] = z at s0 s1 s2 t0 t1 t2 hne
              go_wp2_with fail
              go_quiet (fail)
              go_wp2_with fail
              go_roundw
              case rel =>
                obtain ⟨n1, n2, n3⟩ := hNH.out
                have hd := below_drewN (Below.refl wr.heap.size wr)
                exact ⟨j + 1, by omega, by go_num, n1.below (hd _), n2.below (hd _), n3.below (hd _)⟩
              case measure => simp only [intOf]; omega
            case neg =>
              have hj1 : ¬ (j : Int) < (zs.length : Int) := by omega
              have hmm := hml.out
              have hmmH := Lib.hid hmm
              obtain ⟨x0, x1, x2, x3, x4⟩ := hF.g
              have hA0 : ∀ W, Calls Try.prog 17 #[.agg #[.int .i64 q9, .slice E1 zs.length e1, .slice E2 m e2, .int .i64 (-1), .int .i64 0], .int .i64 0, .int .i64 2] W fun e w' => e = .returned (.bool true) ∧ Below W.heap.size W w' := fun W => by
                have h := has_anyB W E1 e1 E2 e2 ⟨q9, zs, mm, -1, 0⟩ 0 2
                rw [show hasB ⟨q9, zs, mm, -1, 0⟩ 0 2 = true from decide_eq_true ⟨by omega, by show (0 : Int) < (mm.length : Int); omega, .inl (by show (0 : Int) ≠ -1; omega)⟩] at h
                dsimp only at h
                rw [hmm] at h
                exact h
              have hA1 : ∀ W, Calls Try.prog 17 #[.agg #[.int .i64 q9, .slice E1 zs.length e1, .slice E2 m e2, .int .i64 (-1), .int .i64 0], .int .i64 (-1), .int .i64 2] W fun e w' => e = .returned (.bool false) ∧ Below W.heap.size W w' := fun W => by
                have h := has_anyB W E1 e1 E2 e2 ⟨q9, zs, mm, -1, 0⟩ (-1) 2
                rw [show hasB ⟨q9, zs, mm, -1, 0⟩ (-1) 2 = false from decide_eq_false (fun h => by have := h.1; omega)] at h
                dsimp only at h
                rw [hmm] at h
                exact h
              have hA2 : ∀ W, Calls Try.prog 17 #[.agg #[.int .i64 q9, .slice E1 zs.length e1, .slice E2 m e2, .int .i64 (-1), .int .i64 0], .int .i64 (m : Int), .int .i64 2] W fun e w' => e = .returned (.bool false) ∧ Below W.heap.size W w' := fun W => by
                have h := has_anyB W E1 e1 E2 e2 ⟨q9, zs, mm, -1, 0⟩ (m : Int) 2
                rw [show hasB ⟨q9, zs, mm, -1, 0⟩ (m : Int) 2 = false from decide_eq_false (fun h => by have h2 : (m : Int) < (mm.length : Int) := h.2.1; omega)] at h
                dsimp only at h
                rw [hmm] at h
                exact h
              have hA0H := Lib.hid hA0
              have hA1H := Lib.hid hA1
              have hA2H := Lib.hid hA2
              rw [hmm] at z2
              have hbw := Lib.hid hF.bw
              have hCH := Lib.hid hNH.out.1
              have hGH := Lib.hid hF.g
              clear hF hJ hA0 hA1 hA2 hmm hNH hml
              go_wp2_with fail
              refine (hA0H.out _).mono ?_
              rintro e wa ⟨rfl, hba⟩
              have hC1 := hCH.out.below hba
              have hG1 := hGH.out.below hba
              have hbw1 := Lib.hid (hbw.out.trans (hba.mono hbw.out.size))
              clear hba hCH hGH hbw z0 z1 z2 z3 z4 zf x0 x1 x2 x3 x4 b0 b1 b2 b3 b4 bf
              obtain ⟨z0, z1, z2, z3, z4, zf⟩ := hC1
              have hCH := Lib.hid (⟨z0, z1, z2, z3, z4, zf⟩ : BkAt wa V E1 e1 E2 e2 ⟨q9, zs, mm, -1, 0⟩)
              have hGH := Lib.hid hG1
              obtain ⟨x0, x1, x2, x3, x4⟩ := hG1
              dsimp only at z0 z1 z2 z3 z4
              rw [hmmH.out] at z2
              go_wp2_with fail
              refine (hA1H.out _).mono ?_
              rintro e wb ⟨rfl, hba⟩
              have hC1 := hCH.out.below hba
              have hG1 := hGH.out.below hba
              have hbw2 := Lib.hid (hbw1.out.trans (hba.mono hbw1.out.size))
              clear hba hCH hGH hbw1 z0 z1 z2 z3 z4 zf x0 x1 x2 x3 x4
              obtain ⟨z0, z1, z2, z3, z4, zf⟩ := hC1
              obtain ⟨x0, x1, x2, x3, x4⟩ := hG1
              dsimp only at z0 z1 z2 z3 z4
              rw [hmmH.out] at z2
              go_wp2_with fail
              refine (hA2H.out _).mono ?_
              rintro e wc ⟨rfl, hba⟩
              have hfin := Lib.hid (hbw2.out.trans (hba.mono hbw2.out.size))
              clear hba hbw2 z0 z1 z2 z3 z4 zf x0 x1 x2 x3 x4
              go_wp2_with fail
              rw [hffH.out]
              exact bodyPost_ret (v := .bool true) (by simp [results, Try.results6, go_sem]) rfl ⟨rfl, hfin.out⟩
end Go.Proofs.Ytpmhfalhieinjaa
