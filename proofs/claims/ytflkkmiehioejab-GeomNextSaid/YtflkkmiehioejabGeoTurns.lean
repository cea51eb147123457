/- What the law GeomTurns does. -/
import Derived.Test.YtflkkmiehioejabGeoSizes
namespace Go.Proofs.Ytflkkmiehioejab
open Go.RowKit

theorem int_ofNat_bits (a : Nat) (ha : a < 9223372036854775808) : (BitVec.ofInt 64 (a : Int)).toNat = a := by
  rw [BitVec.ofInt_natCast, BitVec.toNat_ofNat]; exact Nat.mod_eq_of_lt (by omega)
theorem int_or_nat (a b : Nat) (ha : a < 9223372036854775808) (hb : b < 9223372036854775808) : bits .or .i64 (a : Int) (b : Int) = ((a ||| b : Nat) : Int) := by
  have hx : a ||| b < 2 ^ 63 := Nat.or_lt_two_pow (by omega) (by omega)
  show IntKind.i64.wrap ((BitVec.ofInt 64 (a : Int) ||| BitVec.ofInt 64 (b : Int)).toNat : Int) = _
  rw [BitVec.toNat_or, int_ofNat_bits a ha, int_ofNat_bits b hb, IntKind.wrap_i64]
  omega
theorem wrap_pow (p : Nat) (hp : p ≤ 16) : wrap64 (2 ^ p) = ((2 ^ p : Nat) : Int) ∧ 2 ^ p ≤ 65536 ∧ 1 ≤ 2 ^ p := by
  have h1 : 2 ^ p ≤ 2 ^ 16 := Nat.pow_le_pow_right (by omega) hp
  have h0 : 1 ≤ 2 ^ p := Nat.one_le_two_pow
  have h2 : ((2 : Int) ^ p) = ((2 ^ p : Nat) : Int) := by simp
  rw [h2]
  exact ⟨IntWalk.wrap64_in _ ⟨by omega, by omega⟩, h1, h0⟩
theorem or_pow (s p : Nat) (hs : s < 65536) (hp : p ≤ 16) : bits .or .i64 (s : Int) (wrap64 (2 ^ p)) = ((s ||| 2 ^ p : Nat) : Int) := by
  obtain ⟨h1, h2, _⟩ := wrap_pow p hp
  rw [h1, int_or_nat _ _ (by omega) (by omega)]
theorem shl_less (p : Nat) (hp : p ≤ 16) : wrap64 (2 ^ p) - 1 = ((2 ^ p - 1 : Nat) : Int) := by
  obtain ⟨h1, h2, h3⟩ := wrap_pow p hp
  rw [h1]; omega
/-- Which drives have had the parity, as bits. -/
def turnsN (s D : Nat) : Nat → Nat
  | 0 => 0
  | i + 1 => turnsN s D i ||| 2 ^ ((s + i) % D)
theorem turnsN_lt (s D : Nat) (hD : 0 < D) (h16 : D ≤ 16) : ∀ i, turnsN s D i < 65536
  | 0 => by show 0 < 65536; omega
  | i + 1 => by
    have h1 := turnsN_lt s D hD h16 i
    have h2 : 2 ^ ((s + i) % D) < 2 ^ 16 := Nat.pow_lt_pow_right (by omega) (Nat.lt_of_lt_of_le (Nat.mod_lt _ hD) h16)
    exact Nat.or_lt_two_pow (n := 16) (by omega) h2
theorem turnsN_mod (s D : Nat) : ∀ i, turnsN s D i = turnsN (s % D) D i
  | 0 => rfl
  | i + 1 => by
    show turnsN s D i ||| 2 ^ ((s + i) % D) = turnsN (s % D) D i ||| 2 ^ ((s % D + i) % D)
    rw [turnsN_mod s D i, Nat.add_mod s i, Nat.add_mod (s % D) i, Nat.mod_mod]
theorem turnsN_all : ∀ D < 17, ∀ s < D, turnsN s D D = 2 ^ D - 1 := by decide +kernel
theorem turnsN_end (s D : Nat) (hD : 0 < D) (h16 : D ≤ 16) : turnsN s D D = 2 ^ D - 1 := by
  rw [turnsN_mod]; exact turnsN_all D (by omega) _ (Nat.mod_lt _ hD)

theorem turns_end (s D : Nat) (hD : 0 < D) (h16 : D ≤ 16) : ∃ P : Nat, wrap64 (2 ^ D) = (P : Int) ∧ ((turnsN s D D : Nat) : Int) = (P : Int) - 1 ∧ 1 ≤ P ∧ P ≤ 65536 := by
  obtain ⟨h1, h2, h3⟩ := wrap_pow D h16
  refine ⟨2 ^ D, h1, ?_, h3, h2⟩
  rw [turnsN_end s D hD h16]; omega

theorem tmod_bd {a m : Int} (hm : 0 < m) : -m < a.tmod m ∧ a.tmod m < m := by
  have h1 := Int.tmod_lt_of_pos a hm
  have h2 := Int.tmod_lt_of_pos (-a) hm
  rw [Int.neg_tmod] at h2
  exact ⟨by omega, h1⟩

set_option maxRecDepth 100000 in
set_option maxHeartbeats 4000000 in
theorem turns_law (D Z B O A zone row : Int) (w : World) :
    Calls Try.prog 5 #[.agg #[.int .i64 D, .int .i64 Z, .int .i64 B, .int .i64 O, .int .i64 A], .int .i64 zone, .int .i64 row] w fun e w' => e = .returned (.bool true) ∧ Below w.heap.size w w' := by
  have cg := fun W => good_any D Z B O A W
  by_cases hg : goodB D Z B O A = true
  · have hgp := goodB_iff.1 hg
    have hgq := hgp
    obtain ⟨g1, g2, g3, g4, g5, g6, _⟩ := hgq
    rw [hg] at cg
    have cgH := Lib.hid cg
    clear cg hg
    by_cases hBD : B < D
    · clear hgp
      have hN := GeoAt.new w D Z B O A 23
      have hB0 : Below w.heap.size w (w.alloc (.cells #[.int .i64 D, .int .i64 Z, .int .i64 B, .int .i64 O, .int .i64 A] 23)) := (Below.refl _ _).alloc (Nat.le_refl _) _
      have hNH := Lib.hid hN
      have hBH := Lib.hid hB0
      clear hN hB0
      go_enter Try.func5, Try.ntmps5
      go_wp2_with fail
      refine (speaks4 _).mono ?_
      rintro e w1 ⟨rfl, hb1⟩
      have hG := hNH.out.below hb1
      have hB := bmore hBH.out hb1
      clear hNH hBH hb1
      have hTH := Lib.hid (Boxes.two hG hB 25)
      clear hB
      obtain ⟨h0, h1, h2, h3, h4, hlt⟩ := hG
      go_wp2_with fail
      (with_reducible refine (cgH.out _).mono ?_)
      rintro e w2 ⟨rfl, hb2⟩
      have hT := hTH.out.below hb2
      clear hTH hb2 h0 h1 h2 h3 h4 hlt
      have hTH := Lib.hid hT
      obtain ⟨h0, h1, h2, h3, h4, _⟩ := hT.1 w.heap.size (by simp)
      obtain ⟨k0, k1, k2, k3, k4, _⟩ := hT.1 w1.heap.size (by simp)
      clear hT
      go_wp2
      go_ret
      exact ⟨rfl, hTH.out.2⟩
    · have hBDb : decide (B < D) = false := decide_eq_false hBD
      have cz := fun W => zones_any D Z B O A W
      rw [zonesV_good hgp] at cz
      obtain ⟨V, hV⟩ : ∃ V, Z - 3 = V := ⟨_, rfl⟩
      rw [hV] at cz
      have hVp : 0 < V := by omega
      have t1 := tmod_bd (a := zone) hVp
      obtain ⟨t, ht⟩ : ∃ t, zone.tmod V = t := ⟨_, rfl⟩
      rw [ht] at t1
      obtain ⟨t1, t2⟩ := t1
      have z1 := Int.emod_nonneg (t + V) (show V ≠ 0 by omega)
      have z2 := Int.emod_lt_of_pos (t + V) hVp
      have ht2 : (t + V).tmod V = (t + V) % V := Int.tmod_eq_emod_of_nonneg (by omega)
      obtain ⟨zn, hzn⟩ : ∃ zn : Nat, (t + V) % V = (zn : Int) := Int.eq_ofNat_of_zero_le z1
      rw [hzn] at z1 z2 ht2
      have f1 : IntKind.i64.wrap t = t := wrap_small (by omega)
      have f2 : IntKind.i64.wrap (t + V) = t + V := wrap_small (by omega)
      have f3 : IntKind.i64.wrap (zn : Int) = (zn : Int) := wrap_small (by omega)
      have hV0 : ¬ V = 0 := by omega
      have czH := Lib.hid cz
      have htH := Lib.hid ht
      have ht2H := Lib.hid ht2
      have f1H := Lib.hid f1
      have f2H := Lib.hid f2
      have f3H := Lib.hid f3
      clear cz ht ht2 hzn f1 f2 f3
      obtain ⟨m, hm⟩ : ∃ m, B - D + 1 = m := ⟨_, rfl⟩
      have hmp : 0 < m := by omega
      have hmb : m ≤ 254 := by omega
      have hVb : V ≤ 61 := by omega
      have r1 := tmod_bd (a := row) hmp
      obtain ⟨u, hu⟩ : ∃ u, row.tmod m = u := ⟨_, rfl⟩
      rw [hu] at r1
      obtain ⟨r1, r2⟩ := r1
      have y1 := Int.emod_nonneg (u + m) (show m ≠ 0 by omega)
      have y2 := Int.emod_lt_of_pos (u + m) hmp
      obtain ⟨rn, hrn⟩ : ∃ rn : Nat, (u + m) % m = (rn : Int) := Int.eq_ofNat_of_zero_le y1
      have hu2 : (u + m).tmod m = (rn : Int) := by rw [← hrn]; exact Int.tmod_eq_emod_of_nonneg (by omega)
      rw [hrn] at y1 y2
      have hm0 : ¬ m = 0 := by omega
      have huH := Lib.hid hu
      have hu2H := Lib.hid hu2
      have hrnH := Lib.hid hrn
      have hmH := Lib.hid hm
      have hVH := Lib.hid hV
      clear hu hu2 hrn hm hV
      obtain ⟨dn, rfl⟩ := Int.eq_ofNat_of_zero_le (show 0 ≤ D by omega)
      have hN := GeoAt.new w (dn : Int) Z B O A 23
      have hB0 : Below w.heap.size w (w.alloc (.cells #[.int .i64 (dn : Int), .int .i64 Z, .int .i64 B, .int .i64 O, .int .i64 A] 23)) := (Below.refl _ _).alloc (Nat.le_refl _) _
      have hNH := Lib.hid hN
      have hBH := Lib.hid hB0
      clear hN hB0
      go_enter Try.func5, Try.ntmps5
      go_wp2_with fail
      refine (speaks4 _).mono ?_
      rintro e w1 ⟨rfl, hb1⟩
      have hG := hNH.out.below hb1
      have hB := bmore hBH.out hb1
      clear hNH hBH hb1
      have hTH := Lib.hid (Boxes.two hG hB 25)
      clear hB
      obtain ⟨h0, h1, h2, h3, h4, hlt⟩ := hG
      go_wp2_with fail
      (with_reducible refine (cgH.out _).mono ?_)
      rintro e w2 ⟨rfl, hb2⟩
      have hT := hTH.out.below hb2
      clear hTH hb2 h0 h1 h2 h3 h4 hlt
      have hTH := Lib.hid hT
      obtain ⟨h0, h1, h2, h3, h4, _⟩ := hT.1 w.heap.size (by simp)
      obtain ⟨k0, k1, k2, k3, k4, _⟩ := hT.1 w1.heap.size (by simp)
      clear hT
      have ht := htH.out
      have ht2 := ht2H.out
      have f1 := f1H.out
      have f2 := f2H.out
      have f3 := f3H.out
      go_wp2_with fail
      have hk : ∀ W, Below w2.heap.size w2 W → (W.cell? ⟨w1.heap.size, 0, none⟩ = some (.int .i64 (dn : Int)) ∧ W.cell? ⟨w1.heap.size, 1, none⟩ = some (.int .i64 Z) ∧ W.cell? ⟨w1.heap.size, 2, none⟩ = some (.int .i64 B) ∧ W.cell? ⟨w1.heap.size, 3, none⟩ = some (.int .i64 O) ∧ W.cell? ⟨w1.heap.size, 4, none⟩ = some (.int .i64 A) ∧ W.cell? ⟨w.heap.size, 0, none⟩ = some (.int .i64 (dn : Int)) ∧ W.cell? ⟨w.heap.size, 1, none⟩ = some (.int .i64 Z) ∧ W.cell? ⟨w.heap.size, 2, none⟩ = some (.int .i64 B) ∧ W.cell? ⟨w.heap.size, 3, none⟩ = some (.int .i64 O) ∧ W.cell? ⟨w.heap.size, 4, none⟩ = some (.int .i64 A)) := fun W hb => by
        have hT := hTH.out.below hb
        obtain ⟨h0, h1, h2, h3, h4, _⟩ := hT.1 w.heap.size (by simp)
        obtain ⟨k0, k1, k2, k3, k4, _⟩ := hT.1 w1.heap.size (by simp)
        exact ⟨k0, k1, k2, k3, k4, h0, h1, h2, h3, h4⟩
      have hkH := Lib.hid hk
      clear hk h0 h1 h2 h3 h4 k0 k1 k2 k3 k4
      go_region_held3 (fun W => W.cell? ⟨w1.heap.size, 0, none⟩ = some (.int .i64 (dn : Int)) ∧ W.cell? ⟨w1.heap.size, 1, none⟩ = some (.int .i64 Z) ∧ W.cell? ⟨w1.heap.size, 2, none⟩ = some (.int .i64 B) ∧ W.cell? ⟨w1.heap.size, 3, none⟩ = some (.int .i64 O) ∧ W.cell? ⟨w1.heap.size, 4, none⟩ = some (.int .i64 A) ∧ W.cell? ⟨w.heap.size, 0, none⟩ = some (.int .i64 (dn : Int)) ∧ W.cell? ⟨w.heap.size, 1, none⟩ = some (.int .i64 Z) ∧ W.cell? ⟨w.heap.size, 2, none⟩ = some (.int .i64 B) ∧ W.cell? ⟨w.heap.size, 3, none⟩ = some (.int .i64 O) ∧ W.cell? ⟨w.heap.size, 4, none⟩ = some (.int .i64 A))
        (first | exact hkH.out _ (Below.refl _ _).drew | exact hkH.out _ hq3' | exact hkH.out _ hq2' | exact hkH.out _ hq1')
        (first | (go_at_call 11; ((with_reducible refine (czH.out _).mono ?_); rintro e' v1 ⟨rfl, hq1⟩); have hq1' := ((Below.refl w2.heap.size w2).drew).trans (hq1.mono (by simp))) | (go_at_call 11; ((with_reducible refine (czH.out _).mono ?_); rintro e' v2 ⟨rfl, hq2⟩); have hq2' := bmore hq1' hq2) | (go_at_call 11; ((with_reducible refine (czH.out _).mono ?_); rintro e' v3 ⟨rfl, hq3⟩); have hq3' := bmore hq2' hq3))
      simp only [Exit.then]
      refine fresh_K (fun W => Boxes w W [w.heap.size, w1.heap.size] (dn : Int) Z B O A) (hTH.out.below hq3') ?_
      clear hkH hTH
      rintro w3 hT
      have hTH := Lib.hid hT
      obtain ⟨h0, h1, h2, h3, h4, _⟩ := hT.1 w.heap.size (by simp)
      obtain ⟨k0, k1, k2, k3, k4, _⟩ := hT.1 w1.heap.size (by simp)
      clear hT
      clear ht ht2 f1 f2 f3
      have hm := hmH.out
      have hu := huH.out
      have hu2 := hu2H.out
      have hrn := hrnH.out
      go_wp2_with fail
      clear hm hu hu2 hrn h0 h1 h2 h3 h4 k0 k1 k2 k3 k4
      go_loopw [9, 10] (fun s i wr => ∃ j : Nat, j ≤ dn ∧ i = .int .i64 (j : Int) ∧ s = .int .i64 ((turnsN (zn + rn) dn j : Nat) : Int) ∧ Boxes w wr [w.heap.size, w1.heap.size] (dn : Int) Z B O A) (fun _ i _ => dn - (intOf i).toNat)
      case atStart => exact ⟨0, by omega, rfl, rfl, hTH.out⟩
      case round =>
        clear hTH
        obtain ⟨j, hj, rfl, rfl, hT⟩ := hrel
        have hTH := Lib.hid hT
        obtain ⟨h0, h1, h2, h3, h4, _⟩ := hT.1 w.heap.size (by simp)
        obtain ⟨k0, k1, k2, k3, k4, _⟩ := hT.1 w1.heap.size (by simp)
        clear hT
        by_cases hlt : j < dn
        · have cp := fun W => parity_any (dn : Int) Z B O A (zn : Int) ((rn : Int) + (j : Int)) W
          have hmo := hmH.out
          have hVo := hVH.out
          rw [parV_good hgp (by omega) (by omega) (by omega) (by omega)] at cp
          have hpm : ((zn : Int) + ((rn : Int) + (j : Int))) % (dn : Int) = (((zn + rn + j) % dn : Nat) : Int) := by
            rw [show (zn : Int) + ((rn : Int) + (j : Int)) = ((zn + rn + j : Nat) : Int) by omega]; rfl
          rw [hpm] at cp
          have hp16 : (zn + rn + j) % dn < 16 := Nat.lt_of_lt_of_le (Nat.mod_lt _ (by omega)) (by omega)
          have hnext : turnsN (zn + rn) dn (j + 1) = turnsN (zn + rn) dn j ||| 2 ^ ((zn + rn + j) % dn) := rfl
          have hsl := turnsN_lt (zn + rn) dn (by omega) (by omega) j
          have hnH := Lib.hid hnext
          generalize (zn + rn + j) % dn = p at cp hp16 hnH
          generalize turnsN (zn + rn) dn j = s at hnH hsl ⊢
          have cpH := Lib.hid cp
          have hgpH := Lib.hid hgp
          clear hgp cp hpm hnext hmo hVo
          go_wp2_with fail
          (with_reducible refine (cpH.out _).mono ?_)
          rintro e w4 ⟨rfl, hb4⟩
          have hT := hTH.out.below hb4
          clear hTH hb4
          go_wp2
          go_roundw
          case rel => exact ⟨j + 1, by omega, by go_num, by rw [hnH.out, or_pow s p hsl (by omega)], hT⟩
          case measure => simp [intOf]; omega
        · obtain rfl : j = dn := by omega
          obtain ⟨P, e1, e2, e3, e4⟩ := turns_end (zn + rn) j (by omega) (by omega)
          rw [e2]
          clear e2 hgp
          have hs3 : ((P : Int) - 1 == (P : Int) - 1) = true := by rw [beq_iff_eq]
          go_wp2
          go_ret
          exact ⟨by simp, hTH.out.2⟩
  · rw [Bool.not_eq_true] at hg
    rw [hg] at cg
    have cgH := Lib.hid cg
    clear cg hg
    have hN := GeoAt.new w D Z B O A 23
    have hB0 : Below w.heap.size w (w.alloc (.cells #[.int .i64 D, .int .i64 Z, .int .i64 B, .int .i64 O, .int .i64 A] 23)) := (Below.refl _ _).alloc (Nat.le_refl _) _
    have hNH := Lib.hid hN
    have hBH := Lib.hid hB0
    clear hN hB0
    go_enter Try.func5, Try.ntmps5
    go_wp2_with fail
    refine (speaks4 _).mono ?_
    rintro e w1 ⟨rfl, hb1⟩
    have hG := hNH.out.below hb1
    have hB := bmore hBH.out hb1
    clear hNH hBH hb1
    have hTH := Lib.hid (Boxes.two hG hB 25)
    clear hB
    obtain ⟨h0, h1, h2, h3, h4, hlt⟩ := hG
    go_wp2_with fail
    (with_reducible refine (cgH.out _).mono ?_)
    rintro e w2 ⟨rfl, hb2⟩
    have hT := hTH.out.below hb2
    clear hTH hb2 h0 h1 h2 h3 h4 hlt
    have hTH := Lib.hid hT
    obtain ⟨h0, h1, h2, h3, h4, _⟩ := hT.1 w.heap.size (by simp)
    obtain ⟨k0, k1, k2, k3, k4, _⟩ := hT.1 w1.heap.size (by simp)
    clear hT
    go_wp2
    go_ret
    exact ⟨rfl, hTH.out.2⟩
end Go.Proofs.Ytflkkmiehioejab
