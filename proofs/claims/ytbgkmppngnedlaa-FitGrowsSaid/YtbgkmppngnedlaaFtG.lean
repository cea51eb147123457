/- FitGrows: the walk. -/
import Derived.Test.YtbgkmppngnedlaaFtC
import Derived.Lib.MinMax
namespace Go.Proofs.Ytbgkmppngnedlaa
open Go.RowKit Go.Shelf

theorem ent_step (m : Nat) : ent m ≤ ent (m + 1) ∧ ent (m + 1) ≤ ent m + 1 := by unfold ent; omega
/-- Two geometries in boxes. -/
def FgB (w : World) (G H : Nat) (D Z zh B O A : Int) (V : World) : Prop := GeoAt V G D Z B O A ∧ GeoAt V H D zh B O A ∧ Below w.heap.size w V
theorem FgB.below {w : World} {G H : Nat} {D Z zh B O A : Int} {V V' : World} (h : FgB w G H D Z zh B O A V) (hb : Below V.heap.size V V') : FgB w G H D Z zh B O A V' := ⟨h.1.below hb, h.2.1.below hb, h.2.2.trans (hb.mono h.2.2.size)⟩
theorem szI_more {D Z B O A : Int} (h : agB D Z B O A = true) (h2 : agB D (Z + 1) B O A = true) : szI D Z B O A < szI D (Z + 1) B O A ∧ 0 < szI D Z B O A := by
  unfold szI
  rw [if_pos h, if_pos h2]
  obtain ⟨hg, _, hb⟩ := agB_iff.1 h
  unfold GoodP at hg
  have h1 : 2 * 20 ≤ (D - 1) * B := Int.mul_le_mul (by omega) (by omega) (by omega) (by omega)
  have h3 := capV_le (D := D) (B := B) (by omega) (by omega)
  have hE : 1 ≤ entI ((D - 1) * B - 8) := by
    unfold entI ent
    rw [if_neg (by omega)]
    omega
  generalize entI ((D - 1) * B - 8) = E at hE
  have e1 : E * (Z + 1 - 4) = E * (Z - 4) + E := by rw [show Z + 1 - 4 = (Z - 4) + 1 by omega, Int.mul_add, Int.mul_one]
  have e2 : 1 * 1 ≤ E * (Z - 4) := Int.mul_le_mul hE (by omega) (by omega) (by omega)
  omega
set_option maxRecDepth 100000 in
set_option maxHeartbeats 8000000 in
theorem fgrows_law (w : World) (D Z B O A b : Int) : Calls Try.prog 9 #[.agg #[.int .i64 D, .int .i64 Z, .int .i64 B, .int .i64 O, .int .i64 A], .int .i64 b] w fun e w' => e = .returned (.bool true) ∧ Below w.heap.size w w' := by
  have hsp := Lib.hid (fun W => speaks21 W)
  have hag := Lib.hid (fun W => ag17_any D Z B O A W)
  have hszg := Lib.hid (fun W => size_any D Z B O A W)
  have hS0 := geo_new w D Z B O A 42
  have mb : bits .and .i64 b 524287 = b % 524288 := and_mask2 b 19 524287 rfl (by decide)
  obtain ⟨m, hm⟩ : ∃ m : Nat, b % 524288 = (m : Int) := ⟨(b % 524288).toNat, by omega⟩
  have hml : m < 524288 := by omega
  rw [hm] at mb
  have hmw : IntKind.i64.wrap ((m : Int) + 1) = ((m + 1 : Nat) : Int) := by rw [Int.natCast_add]; exact IntWalk.i64_in _ (by omega)
  have he1 := Lib.hid (fun W => entries_any W (m : Int))
  have he2 := Lib.hid (fun W => entries_any W ((m + 1 : Nat) : Int))
  rw [show entI (m : Int) = (ent m : Int) by unfold entI; rw [if_neg (by omega), Int.toNat_natCast]] at he1
  rw [show entI ((m + 1 : Nat) : Int) = (ent (m + 1) : Int) by unfold entI; rw [if_neg (by omega), Int.toNat_natCast]] at he2
  have hst := ent_step m
  have hel := ent_le m
  obtain ⟨m1, hm1⟩ : ∃ m1, m + 1 = m1 := ⟨_, rfl⟩
  rw [hm1] at hmw he2 hst
  generalize ent m = p at he1 hst hel
  generalize ent m1 = q at he2 hst
  have hpw : IntKind.i64.wrap ((p : Int) + 1) = ((p + 1 : Nat) : Int) := by rw [Int.natCast_add]; exact IntWalk.i64_in _ (by omega)
  obtain ⟨p1, hp1⟩ : ∃ p1, p + 1 = p1 := ⟨_, rfl⟩
  rw [hp1] at hpw
  have c1 : decide (q < p) = false := by simp; omega
  have c2 : decide (p1 < q) = false := by simp; omega
  obtain ⟨zm, hzm⟩ : ∃ zm, max Z 0 = zm := ⟨_, rfl⟩
  obtain ⟨zn, hzn⟩ : ∃ zn, min zm 100 = zn := ⟨_, rfl⟩
  obtain ⟨zh, hzh⟩ : ∃ zh, zn + 1 = zh := ⟨_, rfl⟩
  have hzw : IntKind.i64.wrap (zn + 1) = zh := by rw [hzh]; exact IntWalk.i64_in _ (by omega)
  have hzhe : Hid (5 ≤ Z → Z ≤ 64 → zh = Z + 1) := Lib.hid (by omega)
  have hszh := Lib.hid (fun W => size_any D zh B O A W)
  have hagh := Lib.hid (fun W => ag17_any D zh B O A W)
  clear hm hml hst hel hm1 hp1 hzh
  go_enter Try.func9, Try.ntmps9
  go_wp2_with fail
  (with_reducible refine (hsp.out _).mono ?_)
  rintro e w1 ⟨rfl, hb1⟩
  have hS1 := Lib.hid (And.intro (hS0.out.1.below hb1) (hS0.out.2.trans (hb1.mono hS0.out.2.size)))
  clear hb1 hsp hS0
  go_wp2_with fail
  (with_reducible refine (he1.out _).mono ?_)
  rintro e w2 ⟨rfl, hb2⟩
  have hS2 := Lib.hid (And.intro (hS1.out.1.below hb2) (hS1.out.2.trans (hb2.mono hS1.out.2.size)))
  clear hb2 he1 hS1
  go_wp2_with fail
  (with_reducible refine (he2.out _).mono ?_)
  rintro e w3 ⟨rfl, hb3⟩
  have hS3 := Lib.hid (And.intro (hS2.out.1.below hb3) (hS2.out.2.trans (hb3.mono hS2.out.2.size)))
  clear hb3 he2 hS2
  obtain ⟨⟨g0, g1, g2, g3, g4, -⟩, -⟩ := hS3.out
  go_upto_region 8 with fail
  clear g0 g1 g2 g3 g4
  have hal := (Below.refl w3.heap.size w3).alloc (Nat.le_refl _) (.cells #[.int .i64 D, .int .i64 Z, .int .i64 B, .int .i64 O, .int .i64 A] 48)
  have hS4 := Lib.hid (And.intro (GeoAt.new w3 D Z B O A 48) (hS3.out.2.trans (hal.mono hS3.out.2.size)))
  clear hal hS3
  generalize w3.heap.size = G at hS4 ⊢
  refine fresh_world (fun V => GeoAt V G D Z B O A ∧ Below w.heap.size w V) hS4.out ?_
  clear hS4
  rintro W4 ⟨hG4, hB4⟩
  have hG4H := Lib.hid (And.intro hG4 hB4)
  obtain ⟨g0, g1, g2, g3, g4, -⟩ := hG4
  clear hB4
  go_upto_region 10 with fail
  clear g0 g1 g2 g3 g4
  have hal := (Below.refl W4.heap.size W4).alloc (Nat.le_refl _) (.cells #[.int .i64 D, .int .i64 zh, .int .i64 B, .int .i64 O, .int .i64 A] 48)
  have hS5 : Hid (FgB w G W4.heap.size D Z zh B O A (W4.alloc (.cells #[.int .i64 D, .int .i64 zh, .int .i64 B, .int .i64 O, .int .i64 A] 48))) := Lib.hid ⟨hG4H.out.1.below hal, GeoAt.new W4 D zh B O A 48, hG4H.out.2.trans (hal.mono hG4H.out.2.size)⟩
  clear hal hG4H
  generalize W4.heap.size = H at hS5 ⊢
  refine fresh_world (FgB w G H D Z zh B O A) hS5.out ?_
  clear hS5
  rintro W5 hS5
  have hS5H := Lib.hid hS5
  obtain ⟨⟨g0, g1, g2, g3, g4, -⟩, ⟨k0, k1, k2, k3, k4, -⟩, -⟩ := hS5
  cases h1 : agB D Z B O A with
  | false =>
    rw [h1] at hag
    clear h1
    go_wp2_with fail
    (with_reducible refine (hag.out _).mono ?_)
    rintro e w6 ⟨rfl, hb6⟩
    have hS6 := Lib.hid (hS5H.out.below hb6)
    clear hb6
    go_wp2_with fail
    go_ret
    exact ⟨rfl, hS6.out.2.2⟩
  | true =>
    rw [h1] at hag
    have h1H := Lib.hid h1
    clear h1
    go_wp2_with fail
    (with_reducible refine (hag.out _).mono ?_)
    rintro e w6 ⟨rfl, hb6⟩
    have hS6 := Lib.hid (hS5H.out.below hb6)
    clear hb6 hS5H g0 g1 g2 g3 g4 k0 k1 k2 k3 k4
    obtain ⟨⟨g0, g1, g2, g3, g4, -⟩, ⟨k0, k1, k2, k3, k4, -⟩, -⟩ := hS6.out
    cases h2 : agB D zh B O A with
    | false =>
      rw [h2] at hagh
      clear h2
      go_wp2_with fail
      (with_reducible refine (hagh.out _).mono ?_)
      rintro e w7 ⟨rfl, hb7⟩
      have hS7 := Lib.hid (hS6.out.below hb7)
      clear hb7
      go_wp2_with fail
      go_ret
      exact ⟨rfl, hS7.out.2.2⟩
    | true =>
        rw [h2] at hagh
        have hzz : zh = Z + 1 := by
          have := (agB_iff.1 h1H.out).1
          unfold GoodP at this
          exact hzhe.out (by omega) (by omega)
        have hmore := szI_more h1H.out (hzz ▸ h2)
        rw [← hzz] at hmore
        generalize szI D Z B O A = s1 at hszg hmore
        generalize szI D zh B O A = s2 at hszh hmore
        have d1 : decide (s2 > s1) = true := decide_eq_true hmore.1
        have d2 : decide (s1 > 0) = true := decide_eq_true hmore.2
        clear h2 hzz hmore
        go_wp2_with fail
        (with_reducible refine (hagh.out _).mono ?_)
        rintro e w7 ⟨rfl, hb7⟩
        have hS7 := Lib.hid ((hS6.out.below hb7).below (Below.refl _ _).drew)
        clear hb7 hS6 g0 g1 g2 g3 g4 k0 k1 k2 k3 k4 hag hagh
        go_upto_region 12 with fail
        have hS := hS7.out
        clear hS7
        refine region_anyC (fun _ => true) (FgB w G H D Z zh B O A) (by kernel_rfl) ?_
        refine anyL_take 0 (v := ?_) rfl (by kernel_rfl) (fun _ _ _ h => h) (Or.inl ⟨by rfl, ?_⟩) hS ?_
        rotate_left
        focus (intro W hW; obtain ⟨-, ⟨y0, y1, y2, y3, y4, -⟩, -⟩ := hW; go_simp; try with_reducible rfl)
        simp only [Act.put, List.setIfInBounds_toArray, List.set_cons_zero, List.set_cons_succ]
        refine anyL_take 2 (v := ?_) rfl (by kernel_rfl) (fun _ _ _ h => h) (Or.inl ⟨by rfl, ?_⟩) hS ?_
        rotate_left
        focus (intro W hW; obtain ⟨⟨y0, y1, y2, y3, y4, -⟩, -, -⟩ := hW; go_simp; try with_reducible rfl)
        simp only [Act.put, List.setIfInBounds_toArray, List.set_cons_zero, List.set_cons_succ]
        refine anyL_one 1 rfl (by kernel_rfl) (fun K hK => ?_)
        go_simp
        refine (hszh.out _).mono ?_
        rintro e' w21 ⟨rfl, hb⟩
        have hS' := FgB.below hS hb
        clear hS hb
        have hS := hS'
        clear hS'
        dsimp only
        refine hK.out _ _ (fun _ => hS) ?_
        clear hK K
        try simp only [Act.put, List.setIfInBounds_toArray, List.set_cons_zero, List.set_cons_succ]
        refine anyL_one 3 rfl (by kernel_rfl) (fun K hK => ?_)
        go_simp
        refine (hszg.out _).mono ?_
        rintro e' w22 ⟨rfl, hb⟩
        have hS' := FgB.below hS hb
        clear hS hb
        have hS := hS'
        clear hS'
        dsimp only
        refine hK.out _ _ (fun _ => hS) ?_
        clear hK K
        try simp only [Act.put, List.setIfInBounds_toArray, List.set_cons_zero, List.set_cons_succ]
        refine anyL_take 4 (v := ?_) rfl (by kernel_rfl) (fun _ _ _ h => h) (Or.inl ⟨by rfl, ?_⟩) hS ?_
        rotate_left
        focus (intro W hW; go_simp; try with_reducible rfl)
        simp only [Act.put, List.setIfInBounds_toArray, List.set_cons_zero, List.set_cons_succ]
        refine anyL_take 5 (v := ?_) rfl (by kernel_rfl) (fun _ _ _ h => h) (Or.inl ⟨by rfl, ?_⟩) hS ?_
        rotate_left
        focus (intro W hW; go_simp; try with_reducible rfl)
        simp only [Act.put, List.setIfInBounds_toArray, List.set_cons_zero, List.set_cons_succ]
        refine anyL_take 6 (v := ?_) rfl (by kernel_rfl) (fun _ _ _ h => h) (Or.inl ⟨by rfl, ?_⟩) hS ?_
        rotate_left
        focus (intro W hW; obtain ⟨⟨y0, y1, y2, y3, y4, -⟩, -, -⟩ := hW; go_simp; try with_reducible rfl)
        simp only [Act.put, List.setIfInBounds_toArray, List.set_cons_zero, List.set_cons_succ]
        refine anyL_one 7 rfl (by kernel_rfl) (fun K hK => ?_)
        go_simp
        refine (hszg.out _).mono ?_
        rintro e' w23 ⟨rfl, hb⟩
        have hS' := FgB.below hS hb
        clear hS hb
        have hS := hS'
        clear hS'
        dsimp only
        refine hK.out _ _ (fun _ => hS) ?_
        clear hK K
        try simp only [Act.put, List.setIfInBounds_toArray, List.set_cons_zero, List.set_cons_succ]
        refine anyL_take 8 (v := ?_) rfl (by kernel_rfl) (fun _ _ _ h => h) (Or.inl ⟨by rfl, ?_⟩) hS ?_
        rotate_left
        focus (intro W hW; go_simp; try with_reducible rfl)
        simp only [Act.put, List.setIfInBounds_toArray, List.set_cons_zero, List.set_cons_succ]
        refine anyL_take 9 (v := ?_) rfl (by kernel_rfl) (fun _ _ _ h => h) (Or.inl ⟨by rfl, ?_⟩) hS ?_
        rotate_left
        focus (intro W hW; go_simp; try with_reducible rfl)
        simp only [Act.put, List.setIfInBounds_toArray, List.set_cons_zero, List.set_cons_succ]
        refine anyL_one 10 rfl (by kernel_rfl) (fun K hK => ?_)
        go_simp
        refine hK.out _ _ (fun _ => hS) ?_
        clear hK K
        try simp only [Act.put, List.setIfInBounds_toArray, List.set_cons_zero, List.set_cons_succ]
        refine anyC_done (by kernel_rfl) ?_ _
        have hBf := Lib.hid hS.2.2
        clear hS
        go_wp2_with fail
        go_ret
        exact ⟨rfl, hBf.out⟩
end Go.Proofs.Ytbgkmppngnedlaa
