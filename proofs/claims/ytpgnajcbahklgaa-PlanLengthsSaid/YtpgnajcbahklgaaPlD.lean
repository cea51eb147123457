/- What data of plan does: the steps of the blocks of a row's piece. -/
import Derived.Test.YtpgnajcbahklgaaPlW
import Derived.Test.YtpgnajcbahklgaaFreshC
namespace Go.Proofs.Ytpgnajcbahklgaa
open Go.RowKit Pl Tl

set_option maxRecDepth 100000 in
set_option maxHeartbeats 2000000 in
theorem data_any (wd z a c : Nat) (D Z B O A : Int) (hD : D = (wd : Int) + 1) (w : World) (hg : GoodP D Z B O A) (hz : (z : Int) ≤ Z - 4) (hr : a % wd + c ≤ wd) (hb : ((a : Int) + (c : Int)) ≤ (D - 1) * B) :
    Calls Try.prog 59 #[.agg #[.int .i64 D, .int .i64 Z, .int .i64 B, .int .i64 O, .int .i64 A], .int .i64 (z : Int), .agg #[.int .i64 ((a / wd : Nat) : Int), .int .i64 ((a % wd : Nat) : Int), .int .i64 (c : Int)]] w (DtPost w (dats wd z a c)) := by
  have hw : 0 < wd := by have := hg.1; omega
  have hmd := Nat.div_add_mod a wd
  have hpl := Lib.hid (fun i (hi : i < c) W => place_any D Z B O A (z : Int) ((a : Int) + (i : Int)) W)
  have hpv : ∀ i, i < c → plR D Z B O A (z : Int) ((a : Int) + (i : Int)) = (((a + i) / wd : Nat) : Int) ∧ plD D Z B O A (z : Int) ((a : Int) + (i : Int)) = sl wd z (a + i) := fun i hi => place_dat (b := a + i) hD hg hz (by omega)
  have hrow : ∀ i, i < c → (a + i) / wd = a / wd := fun i hi => (in_row hr hi).1
  have hpvH := Lib.hid hpv
  have hrowH := Lib.hid hrow
  have hab := capV_bd D Z B O A
  rw [capV_good hg] at hab
  have hac : a + c ≤ 3840 := by omega
  have hq := Nat.div_le_self a wd
  obtain ⟨q, hqe⟩ : ∃ q, a / wd = q := ⟨_, rfl⟩
  obtain ⟨r, hre⟩ : ∃ r, a % wd = r := ⟨_, rfl⟩
  rw [hre] at hr hmd
  rw [hqe] at hmd hq
  rw [hqe, hre]
  have hmul : (q : Int) * (D - 1) = ((wd * q : Nat) : Int) := by rw [hD, Int.natCast_mul, Int.mul_comm]; congr 1; omega
  have d1 : 3 ≤ D ∧ D ≤ 16 := ⟨hg.1, hg.2.1⟩
  have hpr := Lib.hid (fun W => pperRow_any D Z B O A W d1)
  obtain ⟨mq, hmq⟩ : ∃ mq : Nat, wd * q = mq := ⟨_, rfl⟩
  rw [hmq] at hmul hmd
  obtain ⟨i0, hi, hz0, hz1, hz2⟩ := info_parts infSt
  have hmk := fun W => run_make_m (P := Try.prog) 68 76 i0 (.agg #[.int .i64 0, .int .i64 0, .int .i64 0, .int .i64 0, .int .i64 0]) Try.underlying68 hi hz0 .i64 .i64 c c (Nat.le_refl _) (by rw [hz2]; omega) (by omega) W
  rw [hz1] at hmk
  have hmq2 : mq ≤ 3840 := by omega
  have hc2 : c ≤ 3840 := by omega
  have hr2 : r ≤ 3840 := by omega
  clear hi hz0 hz1 hz2 hpv hrow hg hb hD hab hz hq hmq hw
  go_enter Try.func59, Try.ntmps59
  go_upto_region 2 with fail
  clear hmk
  refine fresh_world (fun W => DtW w W D Z B O A (q : Int) (r : Int) (c : Int) (w.heap.size + 1) (w.heap.size + 2) c (List.replicate c st0)) ?_ ?_
  · have hb0 : Below w.heap.size w ((w.alloc (.cells #[.int .i64 D, .int .i64 Z, .int .i64 B, .int .i64 O, .int .i64 A] 37)).alloc (.cells #[.int .i64 (q : Int), .int .i64 (r : Int), .int .i64 (c : Int)] 117)) := ((Below.refl _ _).alloc (Nat.le_refl _) _).alloc (by simp) _
    have hs0 : ((w.alloc (.cells #[.int .i64 D, .int .i64 Z, .int .i64 B, .int .i64 O, .int .i64 A] 37)).alloc (.cells #[.int .i64 (q : Int), .int .i64 (r : Int), .int .i64 (c : Int)] 117)).heap.size = w.heap.size + 2 := by simp
    have hm := made_steps ((w.alloc (.cells #[.int .i64 D, .int .i64 Z, .int .i64 B, .int .i64 O, .int .i64 A] 37)).alloc (.cells #[.int .i64 (q : Int), .int .i64 (r : Int), .int .i64 (c : Int)] 117)) w.heap.size (by simp; omega) c (by omega)
    rw [hs0] at hm
    have hg0 := (GeoAt.new w D Z B O A 37).below ((Below.refl _ _).alloc (Nat.le_refl _) (.cells #[.int .i64 (q : Int), .int .i64 (r : Int), .int .i64 (c : Int)] 117))
    have c0 : ∀ j v, #[Value.int .i64 (q : Int), .int .i64 (r : Int), .int .i64 (c : Int)][j]? = some v → ((w.alloc (.cells #[.int .i64 D, .int .i64 Z, .int .i64 B, .int .i64 O, .int .i64 A] 37)).alloc (.cells #[.int .i64 (q : Int), .int .i64 (r : Int), .int .i64 (c : Int)] 117)).cell? ⟨w.heap.size + 1, j, none⟩ = some v := fun j v hv => by
      have := World.cell?_alloc_new (w.alloc (.cells #[.int .i64 D, .int .i64 Z, .int .i64 B, .int .i64 O, .int .i64 A] 37)) #[Value.int .i64 (q : Int), .int .i64 (r : Int), .int .i64 (c : Int)] 117 j
      rw [World.size_alloc] at this
      exact this.trans hv
    generalize ((w.alloc (.cells #[.int .i64 D, .int .i64 Z, .int .i64 B, .int .i64 O, .int .i64 A] 37)).alloc (.cells #[.int .i64 (q : Int), .int .i64 (r : Int), .int .i64 (c : Int)] 117)) = W2 at hm hg0 hs0 hb0 c0 ⊢
    have hA := (Below.refl W2.heap.size W2).alloc (Nat.le_refl _) (.cells (madeCells #[.int .i64 0, .int .i64 0, .int .i64 0, .int .i64 0, .int .i64 0] (c * 5)) 76)
    have k0 := c0 0 _ rfl
    have k1 := c0 1 _ rfl
    have k2 := c0 2 _ rfl
    exact ⟨hg0.below hA, (hA.cell (p := ⟨w.heap.size + 1, 0, none⟩) (lt_of_cell k0)).trans k0, (hA.cell (p := ⟨w.heap.size + 1, 1, none⟩) (lt_of_cell k1)).trans k1, (hA.cell (p := ⟨w.heap.size + 1, 2, none⟩) (lt_of_cell k2)).trans k2, hm, bmore hb0 hA, by omega, by omega⟩
  rintro W hW
  have hWH := Lib.hid hW
  clear hW
  obtain ⟨G, hGe⟩ : ∃ G, w.heap.size + 2 = G := ⟨_, rfl⟩
  rw [hGe] at hWH ⊢
  clear hGe
  go_wp2_with fail
  go_loopw [18] (fun i wr => ∃ (k : Nat) (l : List St), k ≤ c ∧ i = .int .i64 (k : Int) ∧ l.length = c ∧ Hid (∀ j (hj : j < l.length), j < k → l[j] = dat wd z (a + j)) ∧ Hid (DtW w wr D Z B O A (q : Int) (r : Int) (c : Int) (w.heap.size + 1) G c l)) (fun i _ => c - (intOf i).toNat)
  case atStart => exact ⟨0, _, Nat.zero_le _, rfl, by simp, Lib.hid (fun j hj h => by omega), hWH⟩
  case round =>
    clear hWH
    obtain ⟨k, l, hk, rfl, hlc, hall, hN⟩ := hrel
    by_cases hlt : k < c
    case pos =>
      have kc : (k : Int) < (c : Int) := by omega
      have hplk := Lib.hid (hpl.out k hlt)
      obtain ⟨pv1, pv2⟩ := hpvH.out k hlt
      rw [hrowH.out k hlt, hqe] at pv1
      have hf := Lib.hid (dats_fill (w := wd) (z := z) (a := a) (l := l) (i := k) hall.out)
      have hdat : dat wd z (a + k) = ⟨1, sl wd z (a + k), (q : Int), (a : Int) + (k : Int), 0⟩ := by unfold dat; rw [hrowH.out k hlt, hqe]; rfl
      rw [hdat] at hf
      have e1 : IntKind.i64.wrap ((mq : Nat) : Int) = (mq : Int) := IntWalk.i64_in _ (by omega)
      have e2 : IntKind.i64.wrap ((mq : Int) + (r : Int)) = (mq : Int) + (r : Int) := IntWalk.i64_in _ (by omega)
      have e3 : IntKind.i64.wrap ((mq : Int) + (r : Int) + (k : Int)) = (a : Int) + (k : Int) := by rw [IntWalk.i64_in _ (by omega)]; omega
      clear hall hdat
      have hBd := hN.out.below (Below.refl _ _).drew
      go_upto_region 5 with fail
      clear hN
      refine region_anyC (fun _ => true) (fun W => DtW w W D Z B O A (q : Int) (r : Int) (c : Int) (w.heap.size + 1) G c l) (by kernel_rfl) ?_
      refine anyL_take 0 (v := ?_) rfl (by kernel_rfl) (fun _ _ _ h => h) (Or.inl ⟨by rfl, ?_⟩) hBd ?_
      rotate_left
      focus (intro W hW; go_simp; try with_reducible rfl)
      simp only [Act.put, List.setIfInBounds_toArray, List.set_cons_zero, List.set_cons_succ]
      refine anyL_take 1 (v := ?_) rfl (by kernel_rfl) (fun _ _ _ h => h) (Or.inl ⟨by rfl, ?_⟩) hBd ?_
      rotate_left
      focus (intro W hW; have y0 := hW.p0; have y1 := hW.p1; obtain ⟨g0, g1, g2, g3, g4, _⟩ := hW.g; go_simp; try with_reducible rfl)
      simp only [Act.put, List.setIfInBounds_toArray, List.set_cons_zero, List.set_cons_succ]
      refine anyL_take 2 (v := ?_) rfl (by kernel_rfl) (fun _ _ _ h => h) (Or.inl ⟨by rfl, ?_⟩) hBd ?_
      rotate_left
      focus (intro W hW; have y0 := hW.p0; have y1 := hW.p1; obtain ⟨g0, g1, g2, g3, g4, _⟩ := hW.g; go_simp; try with_reducible rfl)
      simp only [Act.put, List.setIfInBounds_toArray, List.set_cons_zero, List.set_cons_succ]
      refine anyL_take 5 (v := ?_) rfl (by kernel_rfl) (fun _ _ _ h => h) (Or.inl ⟨by rfl, ?_⟩) hBd ?_
      rotate_left
      focus (intro W hW; go_simp; try with_reducible rfl)
      simp only [Act.put, List.setIfInBounds_toArray, List.set_cons_zero, List.set_cons_succ]
      refine anyL_take 6 (v := ?_) rfl (by kernel_rfl) (fun _ _ _ h => h) (Or.inl ⟨by rfl, ?_⟩) hBd ?_
      rotate_left
      focus (intro W hW; have y0 := hW.p0; have y1 := hW.p1; obtain ⟨g0, g1, g2, g3, g4, _⟩ := hW.g; go_simp; try with_reducible rfl)
      simp only [Act.put, List.setIfInBounds_toArray, List.set_cons_zero, List.set_cons_succ]
      refine anyL_take 8 (v := ?_) rfl (by kernel_rfl) (fun _ _ _ h => h) (Or.inl ⟨by rfl, ?_⟩) hBd ?_
      rotate_left
      focus (intro W hW; go_simp; try with_reducible rfl)
      simp only [Act.put, List.setIfInBounds_toArray, List.set_cons_zero, List.set_cons_succ]
      refine anyL_one 3 rfl (by kernel_rfl) (fun K hK => ?_)
      go_simp
      refine (hpr.out _).mono ?_
      rintro e' w3 ⟨rfl, hb3⟩
      have hB3 := hBd.below hb3
      refine hK.out _ _ (fun _ => hB3) ?_
      clear hK K
      try simp only [Act.put, List.setIfInBounds_toArray, List.set_cons_zero, List.set_cons_succ]
      refine anyL_take 4 (v := ?_) rfl (by kernel_rfl) (fun _ _ _ h => h) (Or.inl ⟨by rfl, ?_⟩) hB3 ?_
      rotate_left
      focus (intro W hW; go_simp; try with_reducible rfl)
      simp only [Act.put, List.setIfInBounds_toArray, List.set_cons_zero, List.set_cons_succ]
      refine anyL_take 7 (v := ?_) rfl (by kernel_rfl) (fun _ _ _ h => h) (Or.inl ⟨by rfl, ?_⟩) hB3 ?_
      rotate_left
      focus (intro W hW; go_simp; try with_reducible rfl)
      simp only [Act.put, List.setIfInBounds_toArray, List.set_cons_zero, List.set_cons_succ]
      refine anyL_take 9 (v := ?_) rfl (by kernel_rfl) (fun _ _ _ h => h) (Or.inl ⟨by rfl, ?_⟩) hB3 ?_
      rotate_left
      focus (intro W hW; go_simp; try with_reducible rfl)
      simp only [Act.put, List.setIfInBounds_toArray, List.set_cons_zero, List.set_cons_succ]
      refine anyL_one 10 rfl (by kernel_rfl) (fun K hK => ?_)
      go_simp
      refine hK.out _ _ (fun _ => hB3) ?_
      clear hK K
      try simp only [Act.put, List.setIfInBounds_toArray, List.set_cons_zero, List.set_cons_succ]
      refine anyC_done (by kernel_rfl) ?_ _
      clear hBd
      have hB3H := Lib.hid hB3
      obtain ⟨g0, g1, g2, g3, g4, _⟩ := hB3.g
      clear hB3
      go_upto_region 6 with fail
      go_wp2_with fail
      (with_reducible refine (hplk.out _).mono ?_)
      rintro e w4 ⟨rfl, hb4⟩
      rw [pv1, pv2]
      have hB4 := hB3H.out.below hb4
      clear hB3H hb4 g0 g1 g2 g3 g4 hb3
      obtain ⟨G', e', _, glt, _, hcs, hfr⟩ := hB4.r.at_ (i := k) (by omega)
      injection e' with e'
      injection e' with e'
      subst e'
      have s0 := hcs 0 (by decide)
      have s1 := hcs 1 (by decide)
      have s2 := hcs 2 (by decide)
      have s3 := hcs 3 (by decide)
      have s4 := hcs 4 (by decide)
      have q1 : stE.k = 5 := rfl
      rw [q1] at s0 s1 s2 s3 s4
      rw [Nat.add_zero] at s0
      change _ = some (Value.int .i64 _) at s0
      change _ = some (Value.int .i64 _) at s1
      change _ = some (Value.int .i64 _) at s2
      change _ = some (Value.int .i64 _) at s3
      change _ = some (Value.int .i64 _) at s4
      have hput := hB4.put (i := k) (by omega) ⟨1, sl wd z (a + k), (q : Int), (a : Int) + (k : Int), 0⟩
      rw [store_st] at hput
      have hputH := Lib.hid hput
      have kw : IntKind.i64.wrap ((k : Int) + 1) = (k : Int) + 1 := IntWalk.i64_in _ (by omega)
      clear hput hcs hB4
      go_wp2_with fail
      go_roundw
      case rel => exact ⟨k + 1, _, by omega, by go_num, by rw [List.length_set]; exact hlc, hf, hputH⟩
      case measure => simp [intOf]; omega
    case neg =>
      have e : k = c := by omega
      subst e
      have hl : l = dats wd z a k := dats_done hlc (fun j hj h => hall.out j hj h)
      have hlen : l.length = k := hlc
      have hF : DtPost w (dats wd z a k) (.returned (.slice (some ⟨G, 0, none⟩) k k)) wr := ⟨G, by rw [← hl, hlen], by have := hN.out.r; rw [← hl, hlen]; exact this, hN.out.bw⟩
      have hFH := Lib.hid hF
      clear hF hN hall hl
      go_wp2
      go_ret
      exact hFH.out
end Go.Proofs.Ytpgnajcbahklgaa
