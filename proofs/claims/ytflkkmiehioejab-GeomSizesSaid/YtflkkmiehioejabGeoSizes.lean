/- What the law GeomSizes does. -/
import Derived.Test.YtflkkmiehioejabGeoSpeaks
import Derived.Test.YtflkkmiehioejabGeoRefGood
namespace Go.Proofs.Ytflkkmiehioejab
open Go.RowKit

/-- Boxes of one geometry, in a world that has only grown. -/
def Boxes (w W : World) (bs : List Nat) (D Z B O A : Int) : Prop := (∀ b ∈ bs, GeoAt W b D Z B O A) ∧ Below w.heap.size w W
theorem Boxes.below {w W W' : World} {bs : List Nat} {D Z B O A : Int} (h : Boxes w W bs D Z B O A) (hb : Below W.heap.size W W') : Boxes w W' bs D Z B O A :=
  ⟨fun b hx => (h.1 b hx).below hb, bmore h.2 hb⟩
theorem Boxes.one {w W : World} {b : Nat} {D Z B O A : Int} (h : GeoAt W b D Z B O A) (hb : Below w.heap.size w W) : Boxes w W [b] D Z B O A :=
  ⟨fun x hx => by rw [List.mem_singleton.1 hx]; exact h, hb⟩
theorem Boxes.more {w W : World} {bs : List Nat} {D Z B O A : Int} (h : Boxes w W bs D Z B O A) (t : TypeId) :
    Boxes w (W.alloc (.cells #[.int .i64 D, .int .i64 Z, .int .i64 B, .int .i64 O, .int .i64 A] t)) (W.heap.size :: bs) D Z B O A := by
  have hs := h.2.size
  refine ⟨fun x hx => ?_, h.2.alloc hs _⟩
  rcases List.mem_cons.1 hx with rfl | hx
  · exact GeoAt.new W D Z B O A t
  · exact (h.1 x hx).below ((Below.refl _ _).alloc (Nat.le_refl _) _)
theorem Boxes.two {w W : World} {b : Nat} {D Z B O A : Int} (h : GeoAt W b D Z B O A) (hb : Below w.heap.size w W) (t : TypeId) :
    Boxes w (W.alloc (.cells #[.int .i64 D, .int .i64 Z, .int .i64 B, .int .i64 O, .int .i64 A] t)) [b, W.heap.size] D Z B O A := by
  have h1 := (Boxes.one h hb).more t
  exact ⟨fun x hx => h1.1 x (by simp at hx ⊢; exact hx.symm), h1.2⟩
theorem Boxes.sub {w W : World} {bs cs : List Nat} {D Z B O A : Int} (h : Boxes w W bs D Z B O A) (hs : ∀ x ∈ cs, x ∈ bs) : Boxes w W cs D Z B O A := ⟨fun x hx => h.1 x (hs x hx), h.2⟩

set_option maxRecDepth 100000 in
set_option maxHeartbeats 4000000 in
theorem sizes_law (D Z B O A zone n : Int) (w : World) (hn : -9223372036854775808 ≤ n ∧ n ≤ 9223372036854775807) :
    Calls Try.prog 3 #[.agg #[.int .i64 D, .int .i64 Z, .int .i64 B, .int .i64 O, .int .i64 A], .int .i64 zone, .int .i64 n] w fun e w' => e = .returned (.bool true) ∧ Below w.heap.size w w' := by
  have cs := fun W => split_any D Z B O A n W
  have cg := fun W => refgood_any D Z B O A W
  have cz := fun W => zones_any D Z B O A W
  have cc := fun W => cap_any D Z B O A W
  have cp := fun W => parity_any D Z B O A zone n W
  by_cases hg : goodB D Z B O A = true
  · have hgp := goodB_iff.1 hg
    have hgq := hgp
    obtain ⟨g1, g2, g3, g4, g5, g6, _⟩ := hgq
    have ez := zonesV_good hgp
    have ec := capV_good hgp
    obtain ⟨pc, hpc⟩ : ∃ b, (exB D Z B O A zone && betB n 0 (B - 1)) = b := ⟨_, rfl⟩
    have hpc' : pc = true ↔ 0 ≤ zone ∧ zone < Z - 3 ∧ 0 ≤ n ∧ n < B := by
      rw [← hpc, Bool.and_eq_true, betB_iff]
      constructor
      · rintro ⟨h1, h2, h3⟩
        obtain ⟨_, z1, z2⟩ := exB_true h1
        exact ⟨z1, by omega, h2, by omega⟩
      · rintro ⟨h1, h2, h3, h4⟩
        exact ⟨exB_mk hgp h1 (by omega), h3, by omega⟩
    have hpv : parV D Z B O A zone n = if pc = true then (zone + n) % D else -1 := by unfold parV; rw [hpc]
    have hC := mul_bd (a := D - 1) (b := B) (m := 15) (n := 256) (by omega) (by omega) (by omega) (by omega)
    have hC1 : 0 < (D - 1) * B := Int.mul_pos (by omega) (by omega)
    rw [ez] at cz
    rw [ec] at cc
    unfold splB splZ splN splB at cs
    rw [ez, ec] at cs
    obtain ⟨C, hCe⟩ : ∃ C, (D - 1) * B = C := ⟨_, rfl⟩
    rw [hCe] at cc cs hC hC1
    obtain ⟨M, hM⟩ : ∃ M, (Z - 3) * C = M := ⟨_, rfl⟩
    have hMb := mul_bd (a := Z - 3) (b := C) (m := 61) (n := 3840) (by omega) (by omega) hC.1 hC.2
    rw [hM] at cs hMb
    rw [hpv] at cp
    rw [hg] at cg
    have w1e : IntKind.i64.wrap (Z - 3) = Z - 3 := wrap_small (by omega)
    have w2e : IntKind.i64.wrap (D - 1) = D - 1 := wrap_small (by omega)
    have w3e : IntKind.i64.wrap ((D - 1) * B) = C := by rw [hCe]; exact wrap_small (by omega)
    have w4e : wrap64 ((Z - 3) * C) = M := by rw [hM]; exact IntWalk.wrap64_in _ ⟨by omega, by omega⟩
    have w1H := Lib.hid w1e
    have w2H := Lib.hid w2e
    have w3H := Lib.hid w3e
    have w4H := Lib.hid w4e
    have hMH := Lib.hid hM
    have cgH := Lib.hid cg
    have czH := Lib.hid cz
    have ccH := Lib.hid cc
    have hpcH := Lib.hid hpc'
    obtain ⟨hC2, hC3⟩ := hC
    obtain ⟨hM1, hM2⟩ := hMb
    have hC0H := Lib.hid hCe
    clear cg cz cc w1e w2e w3e w4e hCe hM ez ec hpv hpc hpc' hg hgp
    obtain ⟨q, r, k, cs, hk⟩ : ∃ q r k, (∀ W, Calls Try.prog 9 #[.agg #[.int .i64 D, .int .i64 Z, .int .i64 B, .int .i64 O, .int .i64 A], .int .i64 n] W fun e w' => e = .returned (.tuple #[.int .i64 q, .int .i64 r, .bool k]) ∧ Below W.heap.size W w') ∧ ((k = true ∧ 0 ≤ n ∧ n < M ∧ n / C = q ∧ n % C = r) ∨ (k = false ∧ q = 0 ∧ r = 0 ∧ (n < 0 ∨ M ≤ n))) := by
      by_cases h : betB n 0 (M - 1) = true
      · have h1 := betB_iff.1 h
        rw [h, if_pos rfl, if_pos rfl] at cs
        exact ⟨_, _, _, cs, .inl ⟨rfl, by omega, by omega, rfl, rfl⟩⟩
      · have h1 : ¬ (0 ≤ n ∧ n ≤ M - 1) := fun hx => h (betB_iff.2 hx)
        rw [Bool.not_eq_true] at h
        rw [h, if_neg (by decide), if_neg (by decide)] at cs
        exact ⟨_, _, _, cs, .inr ⟨rfl, rfl, rfl, by omega⟩⟩
    have csH := Lib.hid cs
    have hkH := Lib.hid hk
    have cp1 : pc = true → ∀ W, Calls Try.prog 13 #[.agg #[.int .i64 D, .int .i64 Z, .int .i64 B, .int .i64 O, .int .i64 A], .int .i64 zone, .int .i64 n] W fun e w' => e = .returned (.int .i64 ((zone + n) % D)) ∧ Below W.heap.size W w' := fun h => by rw [if_pos h] at cp; exact cp
    have cp0 : pc = false → ∀ W, Calls Try.prog 13 #[.agg #[.int .i64 D, .int .i64 Z, .int .i64 B, .int .i64 O, .int .i64 A], .int .i64 zone, .int .i64 n] W fun e w' => e = .returned (.int .i64 (-1)) ∧ Below W.heap.size W w' := fun h => by rw [if_neg (by rw [h]; decide)] at cp; exact cp
    have cp1H := Lib.hid cp1
    have cp0H := Lib.hid cp0
    clear cs hk cp cp1 cp0
    have hN := GeoAt.new w D Z B O A 23
    have hB0 : Below w.heap.size w (w.alloc (.cells #[.int .i64 D, .int .i64 Z, .int .i64 B, .int .i64 O, .int .i64 A] 23)) := (Below.refl _ _).alloc (Nat.le_refl _) _
    have hNH := Lib.hid hN
    have hBH := Lib.hid hB0
    clear hN hB0
    go_enter Try.func3, Try.ntmps3
    go_wp2_with fail
    refine (speaks4 _).mono ?_
    rintro e w1 ⟨rfl, hb1⟩
    have hG := hNH.out.below hb1
    have hB := bmore hBH.out hb1
    clear hNH hBH hb1
    have hGH := Lib.hid hG
    have hBH := Lib.hid hB
    clear hB
    obtain ⟨h0, h1, h2, h3, h4, hlt⟩ := hG
    go_upto_region 3 with fail
    go_cut [7, 8] (fun s7 s8 wx => ∃ x y : Nat, s7 = .pointer (some ⟨x, 0, none⟩) ∧ s8 = .pointer (some ⟨y, 0, none⟩) ∧ Boxes w wx [w.heap.size, x, y] D Z B O A)
    case first =>
      go_region
      all_goals
        go_wp2_with fail
        go_meet
        first
          | exact ⟨_, _, rfl, rfl, (((Boxes.one hGH.out hBH.out).more _).more _).sub (by simp)⟩
          | exact ⟨_, _, rfl, rfl, ((((Boxes.one hGH.out hBH.out).more _).more _).below (Below.refl _ _).drew).sub (by simp)⟩
          | skip
    case rest =>
      clear h0 h1 h2 h3 h4 hlt hGH hBH
      obtain ⟨x, y, rfl, rfl, hT⟩ := hcut
      have hTH := Lib.hid hT
      obtain ⟨h0, h1, h2, h3, h4, _⟩ := hT.1 w.heap.size (by simp)
      obtain ⟨k0, k1, k2, k3, k4, _⟩ := hT.1 x (by simp)
      obtain ⟨j0, j1, j2, j3, j4, _⟩ := hT.1 y (by simp)
      clear hT
      go_wp2_with fail
      refine (csH.out _).mono ?_
      rintro e w2 ⟨rfl, hb2⟩
      have hT := hTH.out.below hb2
      clear hTH hb2 h0 h1 h2 h3 h4 k0 k1 k2 k3 k4 j0 j1 j2 j3 j4
      have hTH := Lib.hid hT
      obtain ⟨h0, h1, h2, h3, h4, _⟩ := hT.1 w.heap.size (by simp)
      obtain ⟨k0, k1, k2, k3, k4, _⟩ := hT.1 x (by simp)
      obtain ⟨j0, j1, j2, j3, j4, _⟩ := hT.1 y (by simp)
      clear hT
      go_wp2_with fail
      refine (cgH.out _).mono ?_
      rintro e w3 ⟨rfl, hb3⟩
      have hT := hTH.out.below hb3
      clear hTH hb3 h0 h1 h2 h3 h4 k0 k1 k2 k3 k4 j0 j1 j2 j3 j4
      have hTH := Lib.hid hT
      obtain ⟨h0, h1, h2, h3, h4, _⟩ := hT.1 w.heap.size (by simp)
      obtain ⟨k0, k1, k2, k3, k4, _⟩ := hT.1 x (by simp)
      obtain ⟨j0, j1, j2, j3, j4, _⟩ := hT.1 y (by simp)
      clear hT
      have w1e := w1H.out
      have w2e := w2H.out
      have w3e := w3H.out
      go_wp2_with fail
      go_quiet (fail)
      go_upto_region 9 with fail
      go_cut [81] (fun s81 wx => s81 = .bool pc ∧ Boxes w wx [w.heap.size, x, y] D Z B O A)
      case first =>
        clear w1e w2e w3e
        have hfin : ∀ b : Bool, (b = true ↔ 0 ≤ zone ∧ zone < Z - 3 ∧ 0 ≤ n ∧ n < B) → Value.bool b = .bool pc := fun b hb => by
          have : b = pc := by rw [Bool.eq_iff_iff, hb, hpcH.out]
          rw [this]
        have hfinH := Lib.hid hfin
        clear hfin
        by_cases a1 : zone < 0
        · go_wp2_with fail
          go_meet
          exact ⟨hfinH.out _ (by simp; omega), hTH.out.below (below_drewN (Below.refl _ _) _)⟩
        by_cases a2 : zone < Z - 3
        · by_cases a3 : n < 0
          · go_wp2_with fail
            go_meet
            exact ⟨hfinH.out _ (by simp; omega), hTH.out.below (below_drewN (Below.refl _ _) _)⟩
          by_cases a4 : n < B
          · go_wp2_with fail
            go_meet
            exact ⟨hfinH.out _ (by simp; omega), hTH.out.below (below_drewN (Below.refl _ _) _)⟩
          · go_wp2_with fail
            go_meet
            exact ⟨hfinH.out _ (by simp; omega), hTH.out.below (below_drewN (Below.refl _ _) _)⟩
        · go_wp2_with fail
          go_meet
          exact ⟨hfinH.out _ (by simp; omega), hTH.out.below (below_drewN (Below.refl _ _) _)⟩
      case rest =>
        clear h0 h1 h2 h3 h4 k0 k1 k2 k3 k4 j0 j1 j2 j3 j4 w1e w2e w3e hTH
        obtain ⟨rfl, hT⟩ := hcut
        have hTH := Lib.hid hT
        obtain ⟨h0, h1, h2, h3, h4, _⟩ := hT.1 w.heap.size (by simp)
        obtain ⟨k0, k1, k2, k3, k4, _⟩ := hT.1 x (by simp)
        obtain ⟨j0, j1, j2, j3, j4, _⟩ := hT.1 y (by simp)
        clear hT
        cases pc with
        | true =>
          obtain ⟨z1, z2, n1, n2⟩ := hpcH.out.1 rfl
          have hMB : n < M := by
            have h1 : B ≤ C := by have := Int.mul_le_mul_of_nonneg_right (show 1 ≤ D - 1 by omega) (show 0 ≤ B by omega); rw [← hC0H.out]; omega
            have h2 : C ≤ M := by have := Int.mul_le_mul_of_nonneg_right (show 1 ≤ Z - 3 by omega) hC2; rw [← hMH.out]; omega
            omega
          obtain ⟨rfl, _, _, rfl, rfl⟩ := hkH.out.resolve_right (by rintro ⟨_, _, _, h⟩; omega)
          have cpH := Lib.hid (cp1H.out rfl)
          have w4e := w4H.out
          go_wp2_with fail
          refine (czH.out _).mono ?_
          rintro e w5 ⟨rfl, hb5⟩
          have hT := hTH.out.below hb5
          clear hTH hb5 h0 h1 h2 h3 h4 k0 k1 k2 k3 k4 j0 j1 j2 j3 j4
          have hTH := Lib.hid hT
          obtain ⟨h0, h1, h2, h3, h4, _⟩ := hT.1 w.heap.size (by simp)
          obtain ⟨k0, k1, k2, k3, k4, _⟩ := hT.1 x (by simp)
          obtain ⟨j0, j1, j2, j3, j4, _⟩ := hT.1 y (by simp)
          clear hT
          go_wp2_with fail
          refine (ccH.out _).mono ?_
          rintro e w6 ⟨rfl, hb6⟩
          have hT := hTH.out.below hb6
          clear hTH hb6 h0 h1 h2 h3 h4 k0 k1 k2 k3 k4 j0 j1 j2 j3 j4
          have hTH := Lib.hid hT
          obtain ⟨h0, h1, h2, h3, h4, _⟩ := hT.1 w.heap.size (by simp)
          obtain ⟨k0, k1, k2, k3, k4, _⟩ := hT.1 x (by simp)
          obtain ⟨j0, j1, j2, j3, j4, _⟩ := hT.1 y (by simp)
          clear hT
          go_wp2_with fail
          refine (cpH.out _).mono ?_
          rintro e w7 ⟨rfl, hb7⟩
          have hT := hTH.out.below hb7
          clear hTH hb7 h0 h1 h2 h3 h4 k0 k1 k2 k3 k4 j0 j1 j2 j3 j4
          have hTH := Lib.hid hT
          obtain ⟨h0, h1, h2, h3, h4, _⟩ := hT.1 w.heap.size (by simp)
          obtain ⟨k0, k1, k2, k3, k4, _⟩ := hT.1 x (by simp)
          obtain ⟨j0, j1, j2, j3, j4, _⟩ := hT.1 y (by simp)
          clear hT
          go_wp2
          go_ret
          exact ⟨by simp, hTH.out.2⟩
        | false =>
          have cpH := Lib.hid (cp0H.out rfl)
          rcases hkH.out with ⟨rfl, n1, n2, rfl, rfl⟩ | ⟨rfl, rfl, rfl, hnn⟩
          · have w4e := w4H.out
            go_wp2_with fail
            refine (czH.out _).mono ?_
            rintro e w5 ⟨rfl, hb5⟩
            have hT := hTH.out.below hb5
            clear hTH hb5 h0 h1 h2 h3 h4 k0 k1 k2 k3 k4 j0 j1 j2 j3 j4
            have hTH := Lib.hid hT
            obtain ⟨h0, h1, h2, h3, h4, _⟩ := hT.1 w.heap.size (by simp)
            obtain ⟨k0, k1, k2, k3, k4, _⟩ := hT.1 x (by simp)
            obtain ⟨j0, j1, j2, j3, j4, _⟩ := hT.1 y (by simp)
            clear hT
            go_wp2_with fail
            refine (ccH.out _).mono ?_
            rintro e w6 ⟨rfl, hb6⟩
            have hT := hTH.out.below hb6
            clear hTH hb6 h0 h1 h2 h3 h4 k0 k1 k2 k3 k4 j0 j1 j2 j3 j4
            have hTH := Lib.hid hT
            obtain ⟨h0, h1, h2, h3, h4, _⟩ := hT.1 w.heap.size (by simp)
            obtain ⟨k0, k1, k2, k3, k4, _⟩ := hT.1 x (by simp)
            obtain ⟨j0, j1, j2, j3, j4, _⟩ := hT.1 y (by simp)
            clear hT
            go_wp2_with fail
            refine (cpH.out _).mono ?_
            rintro e w7 ⟨rfl, hb7⟩
            have hT := hTH.out.below hb7
            clear hTH hb7 h0 h1 h2 h3 h4 k0 k1 k2 k3 k4 j0 j1 j2 j3 j4
            have hTH := Lib.hid hT
            obtain ⟨h0, h1, h2, h3, h4, _⟩ := hT.1 w.heap.size (by simp)
            obtain ⟨k0, k1, k2, k3, k4, _⟩ := hT.1 x (by simp)
            obtain ⟨j0, j1, j2, j3, j4, _⟩ := hT.1 y (by simp)
            clear hT
            go_wp2
            go_ret
            exact ⟨by simp, hTH.out.2⟩
          · rcases hnn with hnn | hnn
            · have w4e := w4H.out
              go_wp2_with fail
              refine (czH.out _).mono ?_
              rintro e w5 ⟨rfl, hb5⟩
              have hT := hTH.out.below hb5
              clear hTH hb5 h0 h1 h2 h3 h4 k0 k1 k2 k3 k4 j0 j1 j2 j3 j4
              have hTH := Lib.hid hT
              obtain ⟨h0, h1, h2, h3, h4, _⟩ := hT.1 w.heap.size (by simp)
              obtain ⟨k0, k1, k2, k3, k4, _⟩ := hT.1 x (by simp)
              obtain ⟨j0, j1, j2, j3, j4, _⟩ := hT.1 y (by simp)
              clear hT
              go_wp2_with fail
              refine (ccH.out _).mono ?_
              rintro e w6 ⟨rfl, hb6⟩
              have hT := hTH.out.below hb6
              clear hTH hb6 h0 h1 h2 h3 h4 k0 k1 k2 k3 k4 j0 j1 j2 j3 j4
              have hTH := Lib.hid hT
              obtain ⟨h0, h1, h2, h3, h4, _⟩ := hT.1 w.heap.size (by simp)
              obtain ⟨k0, k1, k2, k3, k4, _⟩ := hT.1 x (by simp)
              obtain ⟨j0, j1, j2, j3, j4, _⟩ := hT.1 y (by simp)
              clear hT
              go_wp2_with fail
              refine (cpH.out _).mono ?_
              rintro e w7 ⟨rfl, hb7⟩
              have hT := hTH.out.below hb7
              clear hTH hb7 h0 h1 h2 h3 h4 k0 k1 k2 k3 k4 j0 j1 j2 j3 j4
              have hTH := Lib.hid hT
              obtain ⟨h0, h1, h2, h3, h4, _⟩ := hT.1 w.heap.size (by simp)
              obtain ⟨k0, k1, k2, k3, k4, _⟩ := hT.1 x (by simp)
              obtain ⟨j0, j1, j2, j3, j4, _⟩ := hT.1 y (by simp)
              clear hT
              go_wp2
              go_ret
              exact ⟨by simp, hTH.out.2⟩
            · have hnn0 : ¬ n < M := by omega
              have w4e := w4H.out
              go_wp2_with fail
              refine (czH.out _).mono ?_
              rintro e w5 ⟨rfl, hb5⟩
              have hT := hTH.out.below hb5
              clear hTH hb5 h0 h1 h2 h3 h4 k0 k1 k2 k3 k4 j0 j1 j2 j3 j4
              have hTH := Lib.hid hT
              obtain ⟨h0, h1, h2, h3, h4, _⟩ := hT.1 w.heap.size (by simp)
              obtain ⟨k0, k1, k2, k3, k4, _⟩ := hT.1 x (by simp)
              obtain ⟨j0, j1, j2, j3, j4, _⟩ := hT.1 y (by simp)
              clear hT
              go_wp2_with fail
              refine (ccH.out _).mono ?_
              rintro e w6 ⟨rfl, hb6⟩
              have hT := hTH.out.below hb6
              clear hTH hb6 h0 h1 h2 h3 h4 k0 k1 k2 k3 k4 j0 j1 j2 j3 j4
              have hTH := Lib.hid hT
              obtain ⟨h0, h1, h2, h3, h4, _⟩ := hT.1 w.heap.size (by simp)
              obtain ⟨k0, k1, k2, k3, k4, _⟩ := hT.1 x (by simp)
              obtain ⟨j0, j1, j2, j3, j4, _⟩ := hT.1 y (by simp)
              clear hT
              go_wp2_with fail
              refine (cpH.out _).mono ?_
              rintro e w7 ⟨rfl, hb7⟩
              have hT := hTH.out.below hb7
              clear hTH hb7 h0 h1 h2 h3 h4 k0 k1 k2 k3 k4 j0 j1 j2 j3 j4
              have hTH := Lib.hid hT
              obtain ⟨h0, h1, h2, h3, h4, _⟩ := hT.1 w.heap.size (by simp)
              obtain ⟨k0, k1, k2, k3, k4, _⟩ := hT.1 x (by simp)
              obtain ⟨j0, j1, j2, j3, j4, _⟩ := hT.1 y (by simp)
              clear hT
              go_wp2
              go_ret
              exact ⟨by simp, hTH.out.2⟩
  · rw [Bool.not_eq_true] at hg
    have e1 : zonesV D Z B O A = 0 := if_neg (by rw [hg]; decide)
    have e2 : capV D Z B O A = 0 := if_neg (by rw [hg]; decide)
    have e3 : splB D Z B O A n = false := by
      unfold splB; rw [e1]
      rcases h : betB n 0 (0 * capV D Z B O A - 1) with _ | _
      · rfl
      · have := betB_iff.1 h; rw [Int.zero_mul] at this; omega
    have e4 : splZ D Z B O A n = 0 := if_neg (by rw [e3]; decide)
    have e5 : splN D Z B O A n = 0 := if_neg (by rw [e3]; decide)
    have e6 : parV D Z B O A zone n = -1 := by
      rcases (parV_bd D Z B O A zone n).2 with h | h
      · exact h
      · rw [goodB_iff.2 h.1] at hg; cases hg
    rw [e3, e4, e5] at cs
    rw [hg] at cg
    rw [e1] at cz
    rw [e2] at cc
    rw [e6] at cp
    have csH := Lib.hid cs
    have cgH := Lib.hid cg
    have czH := Lib.hid cz
    have ccH := Lib.hid cc
    have cpH := Lib.hid cp
    clear cs cg cz cc cp e1 e2 e3 e4 e5 e6 hg hn
    have hN := GeoAt.new w D Z B O A 23
    have hB0 : Below w.heap.size w (w.alloc (.cells #[.int .i64 D, .int .i64 Z, .int .i64 B, .int .i64 O, .int .i64 A] 23)) := (Below.refl _ _).alloc (Nat.le_refl _) _
    have hNH := Lib.hid hN
    have hBH := Lib.hid hB0
    clear hN hB0
    go_enter Try.func3, Try.ntmps3
    go_wp2_with fail
    refine (speaks4 _).mono ?_
    rintro e w1 ⟨rfl, hb1⟩
    have hG := hNH.out.below hb1
    have hB := bmore hBH.out hb1
    clear hNH hBH hb1
    have hGH := Lib.hid hG
    have hBH := Lib.hid hB
    clear hB
    obtain ⟨h0, h1, h2, h3, h4, hlt⟩ := hG
    go_upto_region 3 with fail
    go_cut [7, 8] (fun s7 s8 wx => ∃ x y : Nat, s7 = .pointer (some ⟨x, 0, none⟩) ∧ s8 = .pointer (some ⟨y, 0, none⟩) ∧ Boxes w wx [w.heap.size, x, y] D Z B O A)
    case first =>
      go_region
      all_goals
        go_wp2_with fail
        go_meet
        first
          | exact ⟨_, _, rfl, rfl, (((Boxes.one hGH.out hBH.out).more _).more _).sub (by simp)⟩
          | exact ⟨_, _, rfl, rfl, ((((Boxes.one hGH.out hBH.out).more _).more _).below (Below.refl _ _).drew).sub (by simp)⟩
          | skip
    case rest =>
      clear h0 h1 h2 h3 h4 hlt hGH hBH
      obtain ⟨x, y, rfl, rfl, hT⟩ := hcut
      have hTH := Lib.hid hT
      obtain ⟨h0, h1, h2, h3, h4, _⟩ := hT.1 w.heap.size (by simp)
      obtain ⟨k0, k1, k2, k3, k4, _⟩ := hT.1 x (by simp)
      obtain ⟨j0, j1, j2, j3, j4, _⟩ := hT.1 y (by simp)
      clear hT
      go_wp2_with fail
      refine (csH.out _).mono ?_
      rintro e w2 ⟨rfl, hb2⟩
      have hT := hTH.out.below hb2
      clear hTH hb2 h0 h1 h2 h3 h4 k0 k1 k2 k3 k4 j0 j1 j2 j3 j4
      have hTH := Lib.hid hT
      obtain ⟨h0, h1, h2, h3, h4, _⟩ := hT.1 w.heap.size (by simp)
      obtain ⟨k0, k1, k2, k3, k4, _⟩ := hT.1 x (by simp)
      obtain ⟨j0, j1, j2, j3, j4, _⟩ := hT.1 y (by simp)
      clear hT
      go_wp2_with fail
      refine (cgH.out _).mono ?_
      rintro e w3 ⟨rfl, hb3⟩
      have hT := hTH.out.below hb3
      clear hTH hb3 h0 h1 h2 h3 h4 k0 k1 k2 k3 k4 j0 j1 j2 j3 j4
      have hTH := Lib.hid hT
      obtain ⟨h0, h1, h2, h3, h4, _⟩ := hT.1 w.heap.size (by simp)
      obtain ⟨k0, k1, k2, k3, k4, _⟩ := hT.1 x (by simp)
      obtain ⟨j0, j1, j2, j3, j4, _⟩ := hT.1 y (by simp)
      clear hT
      go_wp2_with fail
      refine (czH.out _).mono ?_
      rintro e w4 ⟨rfl, hb4⟩
      have hT := hTH.out.below hb4
      clear hTH hb4 h0 h1 h2 h3 h4 k0 k1 k2 k3 k4 j0 j1 j2 j3 j4
      have hTH := Lib.hid hT
      obtain ⟨h0, h1, h2, h3, h4, _⟩ := hT.1 w.heap.size (by simp)
      obtain ⟨k0, k1, k2, k3, k4, _⟩ := hT.1 x (by simp)
      obtain ⟨j0, j1, j2, j3, j4, _⟩ := hT.1 y (by simp)
      clear hT
      go_wp2_with fail
      refine (ccH.out _).mono ?_
      rintro e w5 ⟨rfl, hb5⟩
      have hT := hTH.out.below hb5
      clear hTH hb5 h0 h1 h2 h3 h4 k0 k1 k2 k3 k4 j0 j1 j2 j3 j4
      have hTH := Lib.hid hT
      obtain ⟨h0, h1, h2, h3, h4, _⟩ := hT.1 w.heap.size (by simp)
      obtain ⟨k0, k1, k2, k3, k4, _⟩ := hT.1 x (by simp)
      obtain ⟨j0, j1, j2, j3, j4, _⟩ := hT.1 y (by simp)
      clear hT
      go_wp2_with fail
      refine (cpH.out _).mono ?_
      rintro e w6 ⟨rfl, hb6⟩
      have hT := hTH.out.below hb6
      clear hTH hb6 h0 h1 h2 h3 h4 k0 k1 k2 k3 k4 j0 j1 j2 j3 j4
      have hTH := Lib.hid hT
      obtain ⟨h0, h1, h2, h3, h4, _⟩ := hT.1 w.heap.size (by simp)
      obtain ⟨k0, k1, k2, k3, k4, _⟩ := hT.1 x (by simp)
      obtain ⟨j0, j1, j2, j3, j4, _⟩ := hT.1 y (by simp)
      clear hT
      go_wp2
      go_ret
      exact ⟨rfl, hTH.out.2⟩
end Go.Proofs.Ytflkkmiehioejab
