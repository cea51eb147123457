/- What the law GeomOnce does. -/
import Derived.Test.YtflkkmiehioejabGeoNext
namespace Go.Proofs.Ytflkkmiehioejab
open Go.RowKit

/-- The place within its row of the block on drive j, where drive p has the parity. -/
def kN (p D j : Nat) : Nat := if p < j then j - p - 1 else j + D - 1 - p
/-- Which places have been seen, as bits. -/
def onceN (p D : Nat) : Nat → Nat
  | 0 => 0
  | i + 1 => if i = p then onceN p D i else onceN p D i ||| 2 ^ kN p D i
theorem kN_lt {p D j : Nat} (hp : p < D) (hj : j < D) (hne : j ≠ p) : kN p D j + 1 < D := by unfold kN; split <;> omega
theorem onceN_lt (p D : Nat) (hp : p < D) (h16 : D ≤ 16) : ∀ i, i ≤ D → onceN p D i < 65536
  | 0, _ => by show 0 < 65536; omega
  | i + 1, h => by
    have h1 := onceN_lt p D hp h16 i (by omega)
    show (if i = p then onceN p D i else onceN p D i ||| 2 ^ kN p D i) < 65536
    split
    · exact h1
    · rename_i hne
      have h2 : 2 ^ kN p D i < 2 ^ 16 := Nat.pow_lt_pow_right (by omega) (by have := kN_lt hp (show i < D by omega) hne; omega)
      exact Nat.or_lt_two_pow (n := 16) (by omega) h2
theorem onceN_all : ∀ D < 17, ∀ p < D, onceN p D D = 2 ^ (D - 1) - 1 := by decide +kernel
theorem once_end (p D : Nat) (hp : p < D) (h16 : D ≤ 16) : ∃ P : Nat, wrap64 (2 ^ (D - 1)) = (P : Int) ∧ ((onceN p D D : Nat) : Int) = (P : Int) - 1 ∧ 1 ≤ P ∧ P ≤ 65536 := by
  obtain ⟨h1, h2, h3⟩ := wrap_pow (D - 1) (by omega)
  refine ⟨2 ^ (D - 1), h1, ?_, h3, h2⟩
  rw [onceN_all D (by omega) p hp]; omega
theorem k_int {p D j : Nat} (hp : p < D) (hj : j < D) (_hne : j ≠ p) : ((j : Int) - (p : Int) - 1 + (D : Int)) % (D : Int) = ((kN p D j : Nat) : Int) ∧ ((p : Int) + 1 + ((kN p D j : Nat) : Int)) % (D : Int) = (j : Int) := by
  unfold kN
  split
  · rw [Int.add_emod_right, Int.emod_eq_of_lt (by omega) (by omega)]
    refine ⟨by omega, ?_⟩
    rw [show (p : Int) + 1 + ((j - p - 1 : Nat) : Int) = (j : Int) by omega, Int.emod_eq_of_lt (by omega) (by omega)]
  · rw [Int.emod_eq_of_lt (by omega) (by omega)]
    refine ⟨by omega, ?_⟩
    rw [show (p : Int) + 1 + ((j + D - 1 - p : Nat) : Int) = (j : Int) + (D : Int) by omega, Int.add_emod_right, Int.emod_eq_of_lt (by omega) (by omega)]

/-- What lies on drive j of a row: nothing, where that is the parity's; else a block, whose place that is. -/
theorem once_facts {dn : Nat} {Z B O A : Int} {zn rn : Nat} (hg : GoodP (dn : Int) Z B O A) (z2 : (zn : Int) ≤ Z - 4) (r2 : (rn : Int) ≤ B - 1) (j : Nat) (hj : j < dn) :
    ∃ p : Nat, p < dn ∧ p = (zn + rn) % dn ∧ parV (dn : Int) Z B O A (zn : Int) (rn : Int) = (p : Int) ∧
      ((j = p ∧ bkB (dn : Int) Z B O A (zn : Int) (rn : Int) (j : Int) = false ∧ bkV (dn : Int) Z B O A (zn : Int) (rn : Int) (j : Int) = 0) ∨
       (j ≠ p ∧ ∃ m : Int, 0 ≤ m ∧ m ≤ 4000 ∧ bkB (dn : Int) Z B O A (zn : Int) (rn : Int) (j : Int) = true ∧ bkV (dn : Int) Z B O A (zn : Int) (rn : Int) (j : Int) = m ∧
         plB (dn : Int) Z B O A (zn : Int) m = true ∧ plR (dn : Int) Z B O A (zn : Int) m = (rn : Int) ∧ plD (dn : Int) Z B O A (zn : Int) m = (j : Int) ∧ m / ((dn : Int) - 1) = (rn : Int) ∧ m % ((dn : Int) - 1) = ((kN p dn j : Nat) : Int))) := by
  have hgq := hg
  obtain ⟨g1, g2, g3, g4, g5, g6, _⟩ := hgq
  have hpv := parV_good hg (show (0 : Int) ≤ zn by omega) z2 (show (0 : Int) ≤ rn by omega) r2
  have hpm : ((zn : Int) + (rn : Int)) % (dn : Int) = (((zn + rn) % dn : Nat) : Int) := by
    rw [show (zn : Int) + (rn : Int) = ((zn + rn : Nat) : Int) by omega]; rfl
  rw [hpm] at hpv
  have hplt : (zn + rn) % dn < dn := Nat.mod_lt _ (by omega)
  refine ⟨(zn + rn) % dn, hplt, rfl, hpv, ?_⟩
  generalize (zn + rn) % dn = p at hpv hplt
  by_cases hjp : j = p
  · left
    subst hjp
    have e : bkB (dn : Int) Z B O A (zn : Int) (rn : Int) (j : Int) = false := by
      unfold bkB; rw [hpv, decide_eq_false (show ¬ ((j : Int) ≠ (j : Int)) from fun h => h rfl), Bool.and_false, Bool.false_and]
    exact ⟨rfl, e, by unfold bkV; rw [e, if_neg (by decide)]⟩
  · right
    obtain ⟨k1, k2⟩ := k_int hplt hj hjp
    have hk := kN_lt hplt hj hjp
    generalize kN p dn j = k at k1 k2 hk
    have e : bkB (dn : Int) Z B O A (zn : Int) (rn : Int) (j : Int) = true := by
      unfold bkB; rw [hpv, decide_eq_true (show (0 : Int) ≤ (p : Int) by omega), decide_eq_true (show (j : Int) ≠ (p : Int) by omega), Bool.true_and, Bool.true_and]
      exact betB_iff.2 ⟨by omega, by omega⟩
    have ev : bkV (dn : Int) Z B O A (zn : Int) (rn : Int) (j : Int) = (rn : Int) * ((dn : Int) - 1) + (k : Int) := by unfold bkV; rw [if_pos e, hpv, k1]
    have hmb := mul_bd (a := (rn : Int)) (b := (dn : Int) - 1) (m := 255) (n := 15) (by omega) (by omega) (by omega) (by omega)
    have hmu : (rn : Int) * ((dn : Int) - 1) ≤ (B - 1) * ((dn : Int) - 1) := Int.mul_le_mul_of_nonneg_right r2 (by omega)
    have hmx : (B - 1) * ((dn : Int) - 1) = ((dn : Int) - 1) * B - ((dn : Int) - 1) := by rw [Int.sub_mul, Int.one_mul, Int.mul_comm]
    have hdm := (Int.ediv_emod_unique (a := (rn : Int) * ((dn : Int) - 1) + (k : Int)) (b := (dn : Int) - 1) (r := (k : Int)) (q := (rn : Int)) (by omega)).2 ⟨by rw [Int.mul_comm ((dn : Int) - 1)]; omega, by omega, by omega⟩
    generalize (rn : Int) * ((dn : Int) - 1) = x at ev hmb hmu hdm
    obtain ⟨hx1, hx2⟩ := hmb
    have ep : plB (dn : Int) Z B O A (zn : Int) (x + (k : Int)) = true := plB_mk hg (by omega) z2 (by omega) (by omega)
    refine ⟨hjp, x + (k : Int), by omega, by omega, e, ev, ep, ?_, ?_, hdm.1, hdm.2⟩
    · unfold plR; rw [if_pos ep]; exact hdm.1
    · unfold plD; rw [if_pos ep, hdm.1, hdm.2, hpv, k2]

set_option maxRecDepth 100000 in
set_option maxHeartbeats 4000000 in
theorem once_law (D Z B O A zone row : Int) (w : World) :
    Calls Try.prog 4 #[.agg #[.int .i64 D, .int .i64 Z, .int .i64 B, .int .i64 O, .int .i64 A], .int .i64 zone, .int .i64 row] w fun e w' => e = .returned (.bool true) ∧ Below w.heap.size w w' := by
  have cg := fun W => good_any D Z B O A W
  by_cases hg : goodB D Z B O A = true
  · have hgp := goodB_iff.1 hg
    have hgq := hgp
    obtain ⟨g1, g2, g3, g4, g5, g6, _⟩ := hgq
    rw [hg] at cg
    have cgH := Lib.hid cg
    clear cg hg
    have cz := fun W => zones_any D Z B O A W
    rw [zonesV_good hgp] at cz
    obtain ⟨V, hV⟩ : ∃ V, Z - 3 = V := ⟨_, rfl⟩
    rw [hV] at cz
    have hVp : 0 < V := by omega
    have hVb : V ≤ 61 := by omega
    have t1 := tmod_bd (a := zone) hVp
    obtain ⟨t, ht⟩ : ∃ t, zone.tmod V = t := ⟨_, rfl⟩
    rw [ht] at t1
    obtain ⟨t1, t2⟩ := t1
    have z1 := Int.emod_nonneg (t + V) (show V ≠ 0 by omega)
    have z2 := Int.emod_lt_of_pos (t + V) hVp
    obtain ⟨zn, hzn⟩ : ∃ zn : Nat, (t + V) % V = (zn : Int) := Int.eq_ofNat_of_zero_le z1
    have ht2 : (t + V).tmod V = (zn : Int) := by rw [← hzn]; exact Int.tmod_eq_emod_of_nonneg (by omega)
    rw [hzn] at z1 z2
    have f1 : IntKind.i64.wrap t = t := wrap_small (by omega)
    have f2 : IntKind.i64.wrap (t + V) = t + V := wrap_small (by omega)
    have f3 : IntKind.i64.wrap (zn : Int) = (zn : Int) := wrap_small (by omega)
    have hV0 : ¬ V = 0 := by omega
    have r1 := tmod_bd (a := row) (m := B) (by omega)
    obtain ⟨u, hu⟩ : ∃ u, row.tmod B = u := ⟨_, rfl⟩
    rw [hu] at r1
    obtain ⟨r1, r2⟩ := r1
    have y1 := Int.emod_nonneg (u + B) (show B ≠ 0 by omega)
    have y2 := Int.emod_lt_of_pos (u + B) (show 0 < B by omega)
    obtain ⟨rn, hrn⟩ : ∃ rn : Nat, (u + B) % B = (rn : Int) := Int.eq_ofNat_of_zero_le y1
    have hu2 : (u + B).tmod B = (rn : Int) := by rw [← hrn]; exact Int.tmod_eq_emod_of_nonneg (by omega)
    rw [hrn] at y1 y2
    have f4 : IntKind.i64.wrap u = u := wrap_small (by omega)
    have f5 : IntKind.i64.wrap (u + B) = u + B := wrap_small (by omega)
    have f6 : IntKind.i64.wrap (rn : Int) = (rn : Int) := wrap_small (by omega)
    have hB0 : ¬ B = 0 := by omega
    have czH := Lib.hid cz
    have htH := Lib.hid ht
    have ht2H := Lib.hid ht2
    have huH := Lib.hid hu
    have hu2H := Lib.hid hu2
    have f1H := Lib.hid f1
    have f2H := Lib.hid f2
    have f3H := Lib.hid f3
    have f4H := Lib.hid f4
    have f5H := Lib.hid f5
    have f6H := Lib.hid f6
    have hVH := Lib.hid hV
    clear cz ht ht2 hzn hu hu2 hrn f1 f2 f3 f4 f5 f6 hV
    obtain ⟨dn, rfl⟩ := Int.eq_ofNat_of_zero_le (show 0 ≤ D by omega)
    have hgpH := Lib.hid hgp
    clear hgp
    have hN := GeoAt.new w (dn : Int) Z B O A 23
    have hB0 : Below w.heap.size w (w.alloc (.cells #[.int .i64 (dn : Int), .int .i64 Z, .int .i64 B, .int .i64 O, .int .i64 A] 23)) := (Below.refl _ _).alloc (Nat.le_refl _) _
    have hNH := Lib.hid hN
    have hBH := Lib.hid hB0
    clear hN hB0
    go_enter Try.func4, Try.ntmps4
    go_wp2_with fail
    refine (speaks4 _).mono ?_
    rintro e w1 ⟨rfl, hb1⟩
    have hG := hNH.out.below hb1
    have hB := bmore hBH.out hb1
    clear hNH hBH hb1
    have hTH := Lib.hid (Boxes.two hG hB 25)
    clear hB
    obtain ⟨h0, h1, h2, h3, h4, hlt⟩ := hG
    go_wp2_with fail
    (with_reducible refine (cgH.out _).mono ?_)
    rintro e w2 ⟨rfl, hb2⟩
    have hT := hTH.out.below hb2
    clear hTH hb2 h0 h1 h2 h3 h4 hlt
    have hTH := Lib.hid hT
    obtain ⟨h0, h1, h2, h3, h4, _⟩ := hT.1 w.heap.size (by simp)
    obtain ⟨k0, k1, k2, k3, k4, _⟩ := hT.1 w1.heap.size (by simp)
    clear hT
    have ht := htH.out
    have ht2 := ht2H.out
    have hu := huH.out
    have hu2 := hu2H.out
    have f1 := f1H.out
    have f2 := f2H.out
    have f3 := f3H.out
    have f4 := f4H.out
    have f5 := f5H.out
    have f6 := f6H.out
    go_wp2_with fail
    have hk : ∀ W, Below w2.heap.size w2 W → (W.cell? ⟨w1.heap.size, 0, none⟩ = some (.int .i64 (dn : Int)) ∧ W.cell? ⟨w1.heap.size, 1, none⟩ = some (.int .i64 Z) ∧ W.cell? ⟨w1.heap.size, 2, none⟩ = some (.int .i64 B) ∧ W.cell? ⟨w1.heap.size, 3, none⟩ = some (.int .i64 O) ∧ W.cell? ⟨w1.heap.size, 4, none⟩ = some (.int .i64 A) ∧ W.cell? ⟨w.heap.size, 0, none⟩ = some (.int .i64 (dn : Int)) ∧ W.cell? ⟨w.heap.size, 1, none⟩ = some (.int .i64 Z) ∧ W.cell? ⟨w.heap.size, 2, none⟩ = some (.int .i64 B) ∧ W.cell? ⟨w.heap.size, 3, none⟩ = some (.int .i64 O) ∧ W.cell? ⟨w.heap.size, 4, none⟩ = some (.int .i64 A)) := fun W hb => by
      have hT := hTH.out.below hb
      obtain ⟨h0, h1, h2, h3, h4, _⟩ := hT.1 w.heap.size (by simp)
      obtain ⟨k0, k1, k2, k3, k4, _⟩ := hT.1 w1.heap.size (by simp)
      exact ⟨k0, k1, k2, k3, k4, h0, h1, h2, h3, h4⟩
    have hkH := Lib.hid hk
    clear hk h0 h1 h2 h3 h4 k0 k1 k2 k3 k4
    go_region_held3 (fun W => W.cell? ⟨w1.heap.size, 0, none⟩ = some (.int .i64 (dn : Int)) ∧ W.cell? ⟨w1.heap.size, 1, none⟩ = some (.int .i64 Z) ∧ W.cell? ⟨w1.heap.size, 2, none⟩ = some (.int .i64 B) ∧ W.cell? ⟨w1.heap.size, 3, none⟩ = some (.int .i64 O) ∧ W.cell? ⟨w1.heap.size, 4, none⟩ = some (.int .i64 A) ∧ W.cell? ⟨w.heap.size, 0, none⟩ = some (.int .i64 (dn : Int)) ∧ W.cell? ⟨w.heap.size, 1, none⟩ = some (.int .i64 Z) ∧ W.cell? ⟨w.heap.size, 2, none⟩ = some (.int .i64 B) ∧ W.cell? ⟨w.heap.size, 3, none⟩ = some (.int .i64 O) ∧ W.cell? ⟨w.heap.size, 4, none⟩ = some (.int .i64 A))
      (first | exact hkH.out _ (Below.refl _ _).drew | exact hkH.out _ hq3' | exact hkH.out _ hq2' | exact hkH.out _ hq1')
      (first | (go_at_call 11; ((with_reducible refine (czH.out _).mono ?_); rintro e' v1 ⟨rfl, hq1⟩); have hq1' := ((Below.refl w2.heap.size w2).drew).trans (hq1.mono (by simp))) | (go_at_call 11; ((with_reducible refine (czH.out _).mono ?_); rintro e' v2 ⟨rfl, hq2⟩); have hq2' := bmore hq1' hq2) | (go_at_call 11; ((with_reducible refine (czH.out _).mono ?_); rintro e' v3 ⟨rfl, hq3⟩); have hq3' := bmore hq2' hq3))
    simp only [Exit.then]
    refine fresh_K (fun W => Boxes w W [w.heap.size, w1.heap.size] (dn : Int) Z B O A) (hTH.out.below hq3') ?_
    clear hkH hTH
    rintro w3 hT
    have hTH := Lib.hid hT
    obtain ⟨h0, h1, h2, h3, h4, _⟩ := hT.1 w.heap.size (by simp)
    obtain ⟨k0, k1, k2, k3, k4, _⟩ := hT.1 w1.heap.size (by simp)
    clear hT
    clear ht ht2 hu hu2 f1 f2 f3 f4 f5 f6
    have hVo := hVH.out
    have hzz : (zn : Int) ≤ Z - 4 := by omega
    clear hVo
    obtain ⟨p, hp, hpe, hpp, _⟩ := once_facts hgpH.out hzz (show (rn : Int) ≤ B - 1 by omega) 0 (by omega)
    go_wp2_with fail
    clear h0 h1 h2 h3 h4 k0 k1 k2 k3 k4
    have cp := fun W => parity_any (dn : Int) Z B O A (zn : Int) (rn : Int) W
    rw [hpp] at cp
    have cpH := Lib.hid cp
    have hpeH := Lib.hid hpe
    clear cp hpp hpe
    go_loopw [8, 9] (fun s i wr => ∃ j : Nat, j ≤ dn ∧ i = .int .i64 (j : Int) ∧ s = .int .i64 ((onceN p dn j : Nat) : Int) ∧ Boxes w wr [w.heap.size, w1.heap.size] (dn : Int) Z B O A) (fun _ i _ => dn - (intOf i).toNat)
    case atStart => exact ⟨0, by omega, rfl, rfl, hTH.out⟩
    case round =>
      clear hTH
      obtain ⟨j, hj, rfl, rfl, hT⟩ := hrel
      have hTH := Lib.hid hT
      obtain ⟨h0, h1, h2, h3, h4, _⟩ := hT.1 w.heap.size (by simp)
      obtain ⟨k0, k1, k2, k3, k4, _⟩ := hT.1 w1.heap.size (by simp)
      clear hT
      by_cases hlt : j < dn
      · obtain ⟨p', hp', hpe', hpp', hways⟩ := once_facts hgpH.out hzz (show (rn : Int) ≤ B - 1 by omega) j hlt
        obtain rfl : p = p' := hpeH.out.trans hpe'.symm
        have cb := fun W => back_any (dn : Int) Z B O A (zn : Int) (rn : Int) (j : Int) W
        have hsl := onceN_lt p dn hp (by omega) j hj
        rcases hways with ⟨rfl, e1, e2⟩ | ⟨hne, m, m1, m2, e1, e2, e3, e4, e5, e6, e7⟩
        · rw [e1, e2] at cb
          have hnext : onceN j dn (j + 1) = onceN j dn j := if_pos rfl
          have hnH := Lib.hid hnext
          have cbH := Lib.hid cb
          clear cb e1 e2 hnext hpe' hpp'
          generalize onceN j dn j = s at hnH hsl ⊢
          go_wp2_with fail
          (with_reducible refine (cbH.out _).mono ?_)
          rintro e w4 ⟨rfl, hb4⟩
          have hT := hTH.out.below hb4
          clear hTH hb4 h0 h1 h2 h3 h4 k0 k1 k2 k3 k4
          have hTH := Lib.hid hT
          obtain ⟨h0, h1, h2, h3, h4, _⟩ := hT.1 w.heap.size (by simp)
          obtain ⟨k0, k1, k2, k3, k4, _⟩ := hT.1 w1.heap.size (by simp)
          clear hT
          go_wp2_with fail
          (with_reducible refine (cpH.out _).mono ?_)
          rintro e w5 ⟨rfl, hb5⟩
          have hT := hTH.out.below hb5
          clear hTH hb5 h0 h1 h2 h3 h4 k0 k1 k2 k3 k4
          have hTH := Lib.hid hT
          obtain ⟨h0, h1, h2, h3, h4, _⟩ := hT.1 w.heap.size (by simp)
          obtain ⟨k0, k1, k2, k3, k4, _⟩ := hT.1 w1.heap.size (by simp)
          clear hT
          go_wp2
          go_roundw
          case rel => exact ⟨j + 1, by omega, by go_num, by rw [hnH.out], hTH.out⟩
          case measure => simp [intOf]; omega
        · rw [e1, e2] at cb
          have cl := fun W => place_any (dn : Int) Z B O A (zn : Int) m W
          rw [e3, e4, e5] at cl
          have hnext : onceN p dn (j + 1) = onceN p dn j ||| 2 ^ kN p dn j := if_neg hne
          have hk := kN_lt hp hlt hne
          have hjpf : ((j : Int) == (p : Int)) = false := by rw [beq_eq_false_iff_ne]; omega
          have hjpf2 : ¬ (j : Int) = (p : Int) := by omega
          generalize kN p dn j = k at hnext hk e7
          have e8 : m.tdiv ((dn : Int) - 1) = (rn : Int) := by rw [Int.tdiv_eq_ediv_of_nonneg m1]; exact e6
          have e9 : m.tmod ((dn : Int) - 1) = (k : Int) := by rw [Int.tmod_eq_emod_of_nonneg m1]; exact e7
          have hd10 : ¬ (dn : Int) - 1 = 0 := by omega
          have hnH := Lib.hid hnext
          have cbH := Lib.hid cb
          have clH := Lib.hid cl
          clear cb cl e1 e2 e3 e4 e5 hnext hpe' hpp'
          generalize onceN p dn j = s at hnH hsl ⊢
          have e6H := Lib.hid e6
          have e7H := Lib.hid e7
          have e8H := Lib.hid e8
          have e9H := Lib.hid e9
          clear e6 e7 e8 e9
          go_wp2_with fail
          (with_reducible refine (cbH.out _).mono ?_)
          rintro e w4 ⟨rfl, hb4⟩
          have hT := hTH.out.below hb4
          clear hTH hb4 h0 h1 h2 h3 h4 k0 k1 k2 k3 k4
          have hTH := Lib.hid hT
          obtain ⟨h0, h1, h2, h3, h4, _⟩ := hT.1 w.heap.size (by simp)
          obtain ⟨k0, k1, k2, k3, k4, _⟩ := hT.1 w1.heap.size (by simp)
          clear hT
          go_wp2_with fail
          (with_reducible refine (cpH.out _).mono ?_)
          rintro e w5 ⟨rfl, hb5⟩
          have hT := hTH.out.below hb5
          clear hTH hb5 h0 h1 h2 h3 h4 k0 k1 k2 k3 k4
          have hTH := Lib.hid hT
          obtain ⟨h0, h1, h2, h3, h4, _⟩ := hT.1 w.heap.size (by simp)
          obtain ⟨k0, k1, k2, k3, k4, _⟩ := hT.1 w1.heap.size (by simp)
          clear hT
          go_wp2_with fail
          (with_reducible refine (clH.out _).mono ?_)
          rintro e w6 ⟨rfl, hb6⟩
          have hT := hTH.out.below hb6
          clear hTH hb6 h0 h1 h2 h3 h4 k0 k1 k2 k3 k4
          have hTH := Lib.hid hT
          obtain ⟨h0, h1, h2, h3, h4, _⟩ := hT.1 w.heap.size (by simp)
          obtain ⟨k0, k1, k2, k3, k4, _⟩ := hT.1 w1.heap.size (by simp)
          clear hT
          have e6 := e6H.out
          have e7 := e7H.out
          have e8 := e8H.out
          have e9 := e9H.out
          go_wp2
          go_roundw
          case rel => exact ⟨j + 1, by omega, by go_num, by rw [hnH.out, or_pow s k hsl (by omega)], hTH.out⟩
          case measure => simp [intOf]; omega
      · obtain rfl : j = dn := by omega
        obtain ⟨P, e1, e2, e3, e4⟩ := once_end p j hp (by omega)
        have e5 : ((j : Int) - 1).toNat = j - 1 := by omega
        rw [e2]
        clear e2
        go_wp2
        go_ret
        exact ⟨by simp, hTH.out.2⟩
  · rw [Bool.not_eq_true] at hg
    rw [hg] at cg
    have cgH := Lib.hid cg
    clear cg hg
    have hN := GeoAt.new w D Z B O A 23
    have hB0 : Below w.heap.size w (w.alloc (.cells #[.int .i64 D, .int .i64 Z, .int .i64 B, .int .i64 O, .int .i64 A] 23)) := (Below.refl _ _).alloc (Nat.le_refl _) _
    have hNH := Lib.hid hN
    have hBH := Lib.hid hB0
    clear hN hB0
    go_enter Try.func4, Try.ntmps4
    go_wp2_with fail
    refine (speaks4 _).mono ?_
    rintro e w1 ⟨rfl, hb1⟩
    have hG := hNH.out.below hb1
    have hB := bmore hBH.out hb1
    clear hNH hBH hb1
    have hTH := Lib.hid (Boxes.two hG hB 25)
    clear hB
    obtain ⟨h0, h1, h2, h3, h4, hlt⟩ := hG
    go_wp2_with fail
    (with_reducible refine (cgH.out _).mono ?_)
    rintro e w2 ⟨rfl, hb2⟩
    have hT := hTH.out.below hb2
    clear hTH hb2 h0 h1 h2 h3 h4 hlt
    have hTH := Lib.hid hT
    obtain ⟨h0, h1, h2, h3, h4, _⟩ := hT.1 w.heap.size (by simp)
    obtain ⟨k0, k1, k2, k3, k4, _⟩ := hT.1 w1.heap.size (by simp)
    clear hT
    go_wp2
    go_ret
    exact ⟨rfl, hTH.out.2⟩
end Go.Proofs.Ytflkkmiehioejab
