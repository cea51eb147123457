/- What the law TopSpread does. -/
import Derived.Test.YtflkkmiehioejabDoorTopPlaces
namespace Go.Proofs.YtflkkmiehioejabDoor
open Go.RowKit

theorem turn_add {p k D : Int} (hp : 0 ≤ p) (hpD : p < D) (hk : 0 ≤ k) (hkD : k ≤ D - 2) : (p + 1 + k) % D = if p + 1 + k < D then p + 1 + k else p + 1 + k - D := by
  split
  · exact Int.emod_eq_of_lt (by omega) (by omega)
  · rw [show p + 1 + k = (p + 1 + k - D) + D by omega, Int.add_emod_right, Int.emod_eq_of_lt (by omega) (by omega)]; omega
/-- Blocks of a zone: those of one drive lie in the order of their rows. -/
theorem spread {D Z B O A z a b : Int} (hg : GoodP D Z B O A) (z1 : 0 ≤ z) (z2 : z ≤ Z - 4) (a1 : 0 ≤ a) (a2 : a < (D - 1) * B) (b1 : 0 ≤ b) (b2 : b < (D - 1) * B) :
    ∃ r d s e q : Int, plR D Z B O A z a = r ∧ plD D Z B O A z a = d ∧ plB D Z B O A z a = true ∧ plR D Z B O A z b = s ∧ plD D Z B O A z b = e ∧ plB D Z B O A z b = true ∧ parV D Z B O A z r = q ∧ d ≠ q ∧
      (d = e → ((a < b ↔ r < s) ∧ (a = b ↔ r = s))) ∧ 0 ≤ r ∧ r ≤ 256 := by
  have hD := hg.1
  obtain ⟨ra1, ra2, ra3, ra4⟩ := row_bd hD a1 a2
  obtain ⟨rb1, rb2, rb3, rb4⟩ := row_bd hD b1 b2
  have ea := plB_mk hg z1 z2 a1 a2
  have eb := plB_mk hg z1 z2 b1 b2
  have da := Int.emod_add_mul_ediv a (D - 1)
  have db := Int.emod_add_mul_ediv b (D - 1)
  have p1 := Int.emod_nonneg (z + a / (D - 1)) (show D ≠ 0 by omega)
  have p2 := Int.emod_lt_of_pos (z + a / (D - 1)) (show 0 < D by omega)
  have q1 := Int.emod_nonneg (z + b / (D - 1)) (show D ≠ 0 by omega)
  have q2 := Int.emod_lt_of_pos (z + b / (D - 1)) (show 0 < D by omega)
  have hpa := parV_good hg z1 z2 ra1 ra2
  have hpb := parV_good hg z1 z2 rb1 rb2
  have hda : plD D Z B O A z a = ((z + a / (D - 1)) % D + 1 + a % (D - 1)) % D := by unfold plD; rw [if_pos ea, hpa]
  have hdb : plD D Z B O A z b = ((z + b / (D - 1)) % D + 1 + b % (D - 1)) % D := by unfold plD; rw [if_pos eb, hpb]
  rw [turn_add p1 p2 ra3 (by omega)] at hda
  rw [turn_add q1 q2 rb3 (by omega)] at hdb
  refine ⟨a / (D - 1), _, b / (D - 1), _, (z + a / (D - 1)) % D, by unfold plR; rw [if_pos ea], hda, ea, by unfold plR; rw [if_pos eb], hdb, eb, hpa, ?_, ?_, ra1, by have := hg.2.2.2.2.2.1; omega⟩
  · split <;> omega
  · intro h
    have hm1 : a / (D - 1) < b / (D - 1) → (D - 1) * (a / (D - 1)) + (D - 1) ≤ (D - 1) * (b / (D - 1)) := fun hlt => by
      have := Int.mul_le_mul_of_nonneg_left (show a / (D - 1) + 1 ≤ b / (D - 1) by omega) (show 0 ≤ D - 1 by omega)
      rw [Int.mul_add, Int.mul_one] at this; exact this
    have hm2 : b / (D - 1) < a / (D - 1) → (D - 1) * (b / (D - 1)) + (D - 1) ≤ (D - 1) * (a / (D - 1)) := fun hlt => by
      have := Int.mul_le_mul_of_nonneg_left (show b / (D - 1) + 1 ≤ a / (D - 1) by omega) (show 0 ≤ D - 1 by omega)
      rw [Int.mul_add, Int.mul_one] at this; exact this
    have heq : a / (D - 1) = b / (D - 1) → a = b := fun hr => by
      have hk : a % (D - 1) = b % (D - 1) := by
        rw [hr] at h
        generalize (z + b / (D - 1)) % D = p at h q1 q2
        split at h <;> split at h <;> omega
      rw [← da, ← db, hr, hk]
    constructor
    · constructor
      · intro hlt
        rcases Int.lt_trichotomy (a / (D - 1)) (b / (D - 1)) with h1 | h1 | h1
        · exact h1
        · have := heq h1; omega
        · have := hm2 h1; omega
      · intro hlt
        have := hm1 hlt; omega
    · exact ⟨fun h => by rw [h], heq⟩

/-- A boxed array of three. -/
def ArrIn (W : World) (b : Nat) (x0 x1 x2 : Int) : Prop := W.cell? ⟨b, 0, none⟩ = some (.int .i64 x0) ∧ W.cell? ⟨b, 1, none⟩ = some (.int .i64 x1) ∧ W.cell? ⟨b, 2, none⟩ = some (.int .i64 x2) ∧ b < W.heap.size
theorem ArrIn.new (W : World) (x0 x1 x2 : Int) (t : TypeId) : ArrIn (W.alloc (.cells #[.int .i64 x0, .int .i64 x1, .int .i64 x2] t)) W.heap.size x0 x1 x2 := by
  refine ⟨?_, ?_, ?_, by simp⟩ <;> go_simp
theorem ArrIn.below {W W' : World} {b : Nat} {x0 x1 x2 : Int} (h : ArrIn W b x0 x1 x2) (hb : Below W.heap.size W W') : ArrIn W' b x0 x1 x2 := by
  obtain ⟨h0, h1, h2, hlt⟩ := h
  have hc := (bcell hb).1
  exact ⟨(hc _ _ hlt).trans h0, (hc _ _ hlt).trans h1, (hc _ _ hlt).trans h2, Nat.lt_of_lt_of_le hlt hb.size⟩
theorem mod_in (x n : Int) (hn : 0 < n) (hb : n ≤ 1000000) : ∃ t y : Int, x.tmod n = t ∧ (t + n).tmod n = y ∧ 0 ≤ y ∧ y < n ∧ -1000000 ≤ t ∧ t ≤ 1000000 ∧ IntKind.i64.wrap t = t ∧ IntKind.i64.wrap (t + n) = t + n ∧ IntKind.i64.wrap y = y := by
  have h1 := Int.tmod_lt_of_pos x hn
  have h2 := Int.tmod_lt_of_pos (-x) hn
  rw [Int.neg_tmod] at h2
  have h3 : (x.tmod n + n).tmod n = (x.tmod n + n) % n := Int.tmod_eq_emod_of_nonneg (by omega)
  have h4 := Int.emod_nonneg (x.tmod n + n) (show n ≠ 0 by omega)
  have h5 := Int.emod_lt_of_pos (x.tmod n + n) hn
  exact ⟨_, _, rfl, h3, h4, h5, by omega, by omega, wrap_small (by omega), wrap_small (by omega), wrap_small (by omega)⟩

set_option maxRecDepth 100000 in
set_option maxHeartbeats 4000000 in
theorem spread_law (x0 x1 x2 y0 y1 y2 : Int) (w : World) (hT : Tab w) :
    Calls Tryd.prog 4 #[.agg #[.int .i64 x0, .int .i64 x1, .int .i64 x2], .agg #[.int .i64 y0, .int .i64 y1, .int .i64 y2]] w fun e w' => e = .returned (.bool true) ∧ Below w.heap.size w w' := by
  obtain ⟨D, Z, B, ⟨g1, g2, g3, g4, g5, g6⟩, hshape⟩ := shape_any x0 x1 x2
  have hg : GoodP D Z B 2 4 := ⟨by omega, by omega, by omega, by omega, by omega, by omega, by omega, by omega, by omega⟩
  have cz := fun W => zones_any D Z B 2 4 W
  have cc := fun W => cap_any D Z B 2 4 W
  rw [zonesV_good hg] at cz
  rw [capV_good hg] at cc
  have hC := mul_bd (a := D - 1) (b := B) (m := 15) (n := 256) (by omega) (by omega) (by omega) (by omega)
  have hC1 : 0 < (D - 1) * B := Int.mul_pos (by omega) (by omega)
  obtain ⟨zt, z, ez1, ez2, z1, z2, zt1, zt2, ez3, ez4, ez5⟩ := mod_in y0 (Z - 3) (by omega) (by omega)
  obtain ⟨at_, a, ea1, ea2, a1, a2, at1, at2, ea3, ea4, ea5⟩ := mod_in y1 ((D - 1) * B) hC1 (by omega)
  obtain ⟨bt, b, eb1, eb2, b1, b2, bt1, bt2, eb3, eb4, eb5⟩ := mod_in y2 ((D - 1) * B) hC1 (by omega)
  obtain ⟨r, d, s, e, q, hr, hd, hv, hs, he, hu, hq, hdq, hord, r1, r2⟩ := spread hg z1 (by omega) a1 a2 b1 b2
  have ca := fun W => place_any D Z B 2 4 z a W
  have cb := fun W => place_any D Z B 2 4 z b W
  have cp := fun W => parity_any D Z B 2 4 z r W
  rw [hr, hd, hv] at ca
  rw [hs, he, hu] at cb
  rw [hq] at cp
  obtain ⟨C, hCe⟩ : ∃ C, (D - 1) * B = C := ⟨_, rfl⟩
  rw [hCe] at cc hC hC1 ea1 ea2 ea4 a2 eb1 eb2 eb4 b2
  obtain ⟨V, hVe⟩ : ∃ V, Z - 3 = V := ⟨_, rfl⟩
  rw [hVe] at cz ez1 ez2 ez4 z2
  have hV0 : ¬ V = 0 := by omega
  have hC0 : ¬ C = 0 := by omega
  have hVb : V ≤ 61 := by omega
  obtain ⟨hC2, hC3⟩ := hC
  have cs := Lib.hid hshape
  have czH := Lib.hid cz
  have ccH := Lib.hid cc
  have caH := Lib.hid ca
  have cbH := Lib.hid cb
  have cpH := Lib.hid cp
  have ezH := Lib.hid (show _ ∧ _ ∧ _ ∧ _ ∧ _ from ⟨ez1, ez2, ez3, ez4, ez5⟩)
  have eaH := Lib.hid (show _ ∧ _ ∧ _ ∧ _ ∧ _ from ⟨ea1, ea2, ea3, ea4, ea5⟩)
  have ebH := Lib.hid (show _ ∧ _ ∧ _ ∧ _ ∧ _ from ⟨eb1, eb2, eb3, eb4, eb5⟩)
  have hordH := Lib.hid hord
  have hplaces := Lib.hid (fun W (hb : Below w.heap.size w W) => places_any W (hT.below hb))
  have hdqb : (d == q) = false := by rw [beq_eq_false_iff_ne]; exact hdq
  clear hshape cz cc ca cb cp ez1 ez2 ez3 ez4 ez5 ea1 ea2 ea3 ea4 ea5 eb1 eb2 eb3 eb4 eb5 hr hd hv hs he hu hq hord hCe hVe hg hT
  -- the two boxes
  have hA0 : ArrIn ((w.alloc (.cells #[.int .i64 x0, .int .i64 x1, .int .i64 x2] 22)).alloc (.cells #[.int .i64 y0, .int .i64 y1, .int .i64 y2] 22)) w.heap.size x0 x1 x2 := (ArrIn.new w x0 x1 x2 _).below ((Below.refl _ _).alloc (Nat.le_refl _) _)
  have hB0 : Below w.heap.size w ((w.alloc (.cells #[.int .i64 x0, .int .i64 x1, .int .i64 x2] 22)).alloc (.cells #[.int .i64 y0, .int .i64 y1, .int .i64 y2] 22)) := ((Below.refl _ _).alloc (Nat.le_refl _) _).alloc (by simp) _
  have hA0H := Lib.hid hA0
  have hB0H := Lib.hid hB0
  clear hA0 hB0
  go_enter Tryd.func4, Tryd.ntmps4
  go_wp2_with fail
  go_quiet (fail)
  go_wp2_with fail
  (with_reducible refine (hplaces.out _ (below_drewN hB0H.out nq)).mono ?_)
  rintro e w1 ⟨rfl, hb1⟩
  have hB1 := (below_drewN hB0H.out nq).trans (hb1.mono (below_drewN hB0H.out nq).size)
  have hA1 := (hA0H.out.below (below_drewN (Below.refl _ _) nq)).below hb1
  clear hb1 hA0H hB0H
  obtain ⟨a0, a1', a2', _⟩ := hA1
  go_wp2_with fail
  (with_reducible refine (cs.out _).mono ?_)
  rintro e w2 ⟨rfl, hb2⟩
  have hB2 := bmore hB1 hb2
  clear a0 a1' a2' hb2 hB1
  have hT : Boxes w (w2.alloc (.cells #[.int .i64 D, .int .i64 Z, .int .i64 B, .int .i64 2, .int .i64 4] 25)) [w2.heap.size] D Z B 2 4 := ⟨fun x hx => by rw [List.mem_singleton.1 hx]; exact GeoAt.new w2 D Z B 2 4 _, hB2.alloc hB2.size _⟩
  have hTH := Lib.hid hT
  clear hB2 hT
  obtain ⟨ez1, ez2, ez3, ez4, ez5⟩ := ezH.out
  go_wp2_with fail
  refine fresh_world (fun W => Boxes w W [w2.heap.size] D Z B 2 4) hTH.out ?_
  clear hTH
  intro w3 hT
  have hTH := Lib.hid hT
  obtain ⟨h0, h1, h2, h3, h4, _⟩ := hT.1 w2.heap.size (by simp)
  clear hT
  go_wp2_with fail
  have hk : ∀ W, Below w3.heap.size w3 W → (W.cell? ⟨w2.heap.size, 0, none⟩ = some (.int .i64 D) ∧ W.cell? ⟨w2.heap.size, 1, none⟩ = some (.int .i64 Z) ∧ W.cell? ⟨w2.heap.size, 2, none⟩ = some (.int .i64 B) ∧ W.cell? ⟨w2.heap.size, 3, none⟩ = some (.int .i64 2) ∧ W.cell? ⟨w2.heap.size, 4, none⟩ = some (.int .i64 4)) := fun W hb => by
    have hT := hTH.out.below hb
    obtain ⟨h0, h1, h2, h3, h4, _⟩ := hT.1 w2.heap.size (by simp)
    exact ⟨h0, h1, h2, h3, h4⟩
  have hkH := Lib.hid hk
  clear hk h0 h1 h2 h3 h4
  go_region_held3 (fun W => W.cell? ⟨w2.heap.size, 0, none⟩ = some (.int .i64 D) ∧ W.cell? ⟨w2.heap.size, 1, none⟩ = some (.int .i64 Z) ∧ W.cell? ⟨w2.heap.size, 2, none⟩ = some (.int .i64 B) ∧ W.cell? ⟨w2.heap.size, 3, none⟩ = some (.int .i64 2) ∧ W.cell? ⟨w2.heap.size, 4, none⟩ = some (.int .i64 4))
    (first | exact hkH.out _ (Below.refl _ _).drew | exact hkH.out _ hq3' | exact hkH.out _ hq2' | exact hkH.out _ hq1')
    (first | (go_at_call 7; ((with_reducible refine (czH.out _).mono ?_); rintro e' v1 ⟨rfl, hq1⟩); have hq1' := ((Below.refl w3.heap.size w3).drew).trans (hq1.mono (by simp))) | (go_at_call 7; ((with_reducible refine (czH.out _).mono ?_); rintro e' v2 ⟨rfl, hq2⟩); have hq2' := bmore hq1' hq2) | (go_at_call 7; ((with_reducible refine (czH.out _).mono ?_); rintro e' v3 ⟨rfl, hq3⟩); have hq3' := bmore hq2' hq3))
  simp only [Exit.then]
  refine fresh_K (fun W => Boxes w W [w2.heap.size] D Z B 2 4) (hTH.out.below hq3') ?_
  clear hkH hTH
  rintro w4 hT
  have hTH := Lib.hid hT
  obtain ⟨h0, h1, h2, h3, h4, _⟩ := hT.1 w2.heap.size (by simp)
  clear hT
  clear ez1 ez2 ez3 ez4 ez5
  go_wp2_with fail
  (with_reducible refine (ccH.out _).mono ?_)
  rintro e w5 ⟨rfl, hb5⟩
  have hT := hTH.out.below hb5
  clear hTH hb5 h0 h1 h2 h3 h4
  have hTH := Lib.hid hT
  obtain ⟨h0, h1, h2, h3, h4, _⟩ := hT.1 w2.heap.size (by simp)
  clear hT
  obtain ⟨ea1, ea2, ea3, ea4, ea5⟩ := eaH.out
  obtain ⟨eb1, eb2, eb3, eb4, eb5⟩ := ebH.out
  go_wp2_with fail
  go_quiet (fail)
  simp only [Exit.then]
  refine fresh_K (fun W => Boxes w W [w2.heap.size] D Z B 2 4) (hTH.out.below (below_drewN (Below.refl _ _) _)) ?_
  clear ea1 ea2 ea3 ea4 ea5 eb1 eb2 eb3 eb4 eb5 h0 h1 h2 h3 h4 hTH
  rintro w6 hT
  have hTH := Lib.hid hT
  obtain ⟨h0, h1, h2, h3, h4, _⟩ := hT.1 w2.heap.size (by simp)
  clear hT
  go_wp2_with fail
  (with_reducible refine (caH.out _).mono ?_)
  rintro e w7 ⟨rfl, hb7⟩
  have hT := hTH.out.below hb7
  clear hTH hb7 h0 h1 h2 h3 h4
  have hTH := Lib.hid hT
  obtain ⟨h0, h1, h2, h3, h4, _⟩ := hT.1 w2.heap.size (by simp)
  clear hT
  go_wp2_with fail
  (with_reducible refine (cbH.out _).mono ?_)
  rintro e w8 ⟨rfl, hb8⟩
  have hT := hTH.out.below hb8
  clear hTH hb8 h0 h1 h2 h3 h4
  have hTH := Lib.hid hT
  obtain ⟨h0, h1, h2, h3, h4, _⟩ := hT.1 w2.heap.size (by simp)
  clear hT
  by_cases hde : d = e
  · subst hde
    obtain ⟨o1, o2⟩ := hordH.out rfl
    by_cases hab : a = b
    · have hrs := o2.1 hab
      subst hab
      subst hrs
      clear o1 o2
      go_wp2_with fail
      (with_reducible refine (cpH.out _).mono ?_)
      rintro e w9 ⟨rfl, hb9⟩
      have hT := hTH.out.below hb9
      clear hTH hb9 h0 h1 h2 h3 h4
      have hTH := Lib.hid hT
      obtain ⟨h0, h1, h2, h3, h4, _⟩ := hT.1 w2.heap.size (by simp)
      clear hT
      go_wp2
      go_ret
      exact ⟨by first | (simp; done) | (simp; omega), hTH.out.2⟩
    · have hrs : ¬ r = s := fun h => hab (o2.2 h)
      have k1 : (a == b) = false := by rw [beq_eq_false_iff_ne]; exact hab
      have k2 : (r == s) = false := by rw [beq_eq_false_iff_ne]; exact hrs
      have k2' : (r != s) = true := by rw [bne, k2]; rfl
      by_cases hlt : a < b
      · have hlt2 := o1.1 hlt
        have k3 : decide (a < b) = true := decide_eq_true hlt
        have k4 : decide (r < s) = true := decide_eq_true hlt2
        clear o1 o2
        go_wp2_with fail
        (with_reducible refine (cpH.out _).mono ?_)
        rintro e w9 ⟨rfl, hb9⟩
        have hT := hTH.out.below hb9
        clear hTH hb9 h0 h1 h2 h3 h4
        have hTH := Lib.hid hT
        obtain ⟨h0, h1, h2, h3, h4, _⟩ := hT.1 w2.heap.size (by simp)
        clear hT
        go_wp2
        go_ret
        exact ⟨by first | (simp; done) | (simp; omega), hTH.out.2⟩
      · have hlt2 : ¬ r < s := fun h => hlt (o1.2 h)
        have k3 : decide (a < b) = false := decide_eq_false hlt
        have k4 : decide (r < s) = false := decide_eq_false hlt2
        clear o1 o2
        go_wp2_with fail
        (with_reducible refine (cpH.out _).mono ?_)
        rintro e w9 ⟨rfl, hb9⟩
        have hT := hTH.out.below hb9
        clear hTH hb9 h0 h1 h2 h3 h4
        have hTH := Lib.hid hT
        obtain ⟨h0, h1, h2, h3, h4, _⟩ := hT.1 w2.heap.size (by simp)
        clear hT
        go_wp2
        go_ret
        exact ⟨by first | (simp; done) | (simp; omega), hTH.out.2⟩
  · have k0 : (d == e) = false := by rw [beq_eq_false_iff_ne]; exact hde
    have k0' : (d != e) = true := by rw [bne, k0]; rfl
    by_cases hab : a = b
    · subst hab
      go_wp2_with fail
      (with_reducible refine (cpH.out _).mono ?_)
      rintro e w9 ⟨rfl, hb9⟩
      have hT := hTH.out.below hb9
      clear hTH hb9 h0 h1 h2 h3 h4
      have hTH := Lib.hid hT
      obtain ⟨h0, h1, h2, h3, h4, _⟩ := hT.1 w2.heap.size (by simp)
      clear hT
      go_wp2
      go_ret
      exact ⟨by first | (simp; done) | (simp; omega), hTH.out.2⟩
    · have k1 : (a == b) = false := by rw [beq_eq_false_iff_ne]; exact hab
      by_cases hrs : r = s
      · subst hrs
        go_wp2_with fail
        (with_reducible refine (cpH.out _).mono ?_)
        rintro e w9 ⟨rfl, hb9⟩
        have hT := hTH.out.below hb9
        clear hTH hb9 h0 h1 h2 h3 h4
        have hTH := Lib.hid hT
        obtain ⟨h0, h1, h2, h3, h4, _⟩ := hT.1 w2.heap.size (by simp)
        clear hT
        go_wp2
        go_ret
        exact ⟨by first | (simp; done) | (simp; omega), hTH.out.2⟩
      · have k2 : (r == s) = false := by rw [beq_eq_false_iff_ne]; exact hrs
        have k2' : (r != s) = true := by rw [bne, k2]; rfl
        go_wp2_with fail
        (with_reducible refine (cpH.out _).mono ?_)
        rintro e w9 ⟨rfl, hb9⟩
        have hT := hTH.out.below hb9
        clear hTH hb9 h0 h1 h2 h3 h4
        have hTH := Lib.hid hT
        obtain ⟨h0, h1, h2, h3, h4, _⟩ := hT.1 w2.heap.size (by simp)
        clear hT
        go_wp2
        go_ret
        exact ⟨by first | (simp; done) | (simp; omega), hTH.out.2⟩
end Go.Proofs.YtflkkmiehioejabDoor
