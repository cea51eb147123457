/- What the law TopApart does: more than 80 deeds. -/
import Derived.Test.YtncbkegflkjlfaaDoorApMk
namespace Go.Proofs.YtncbkegflkjlfaaDoor
open Go.RowKit Zon Drv

set_option maxRecDepth 100000 in
set_option maxHeartbeats 40000000 in
theorem apart_long (A A2 : Option Addr) (cap cap2 : Nat) (cs : List Cm) (ks : List Int) (w : World) (hT : Tab w) (hI : CmdsIn w A cs) (hl : cs.length ≤ maxLen) (hJ : IntsIn w A2 ks) (hJl : ks.length ≤ 17592186044416) (hJn : A2 = none → cap2 = 0) (hJk : ∀ x ∈ ks, Rng x) (h80l : 80 < cs.length) :
    Calls Tryd.prog 3 #[.slice A cs.length cap, .slice A2 ks.length cap2] w fun e w' => e = .returned (.bool true) ∧ Below w.heap.size w w' := by
  unfold maxLen at hl
  have hIH := Lib.hid hI
  have hJH := Lib.hid hJ
  have hJkH := Lib.hid hJk
  have hJnH := Lib.hid hJn
  clear hI hJ hJk hJn
  have hsp := Lib.hid (spins_any w hT)
  clear hT
  obtain ⟨i0, hi, hz0, hz1, hz2⟩ := info_parts infoDP3
  have hmk0 := fun W => run_make_m (P := Tryd.prog) 33 34 i0 (.pointer none) Tryd.underlying33 hi hz0 .i64 .i64 3 3 (Nat.le_refl _) (by rw [hz2]; omega) (by omega) W
  rw [hz1] at hmk0
  have hmk : ∀ W : World, (Instr.makeSlice 33 (.int .i64 3) (.int .i64 3)).run Tryd.prog W = .ok (.slice (some ⟨W.heap.size, 0, none⟩) 3 3) (W.alloc (.cells (madeCells #[.pointer none] 3) 34)) := hmk0
  clear hi hz0 hz1 hz2 hmk0
  have h0 := Lib.hid (fun W => rnew_any 3 6 16 2 4 3 W (by decide) (by decide) (by decide))
  unfold RNew at h0
  go_enter Tryd.func3, Tryd.ntmps3
  go_wp2_with fail
  refine hsp.out.mono ?_
  rintro e w1 ⟨rfl, hB1⟩
  clear hsp
  go_wp2_with fail
  refine (shape_twelve _).mono ?_
  rintro e w2 ⟨rfl, hb2⟩
  have hB2 := hB1.trans (hb2.mono hB1.size)
  clear hB1 hb2
  go_wp2_with fail
  refine fresh_world_C (fun W => Below w.heap.size w W ∧ GeoAt W w2.heap.size 3 6 16 2 4) ⟨hB2.alloc hB2.size _, GeoAt.new w2 3 6 16 2 4 _⟩ ?_
  rintro wb ⟨hBb, hG⟩
  generalize w2.heap.size = gb at hG ⊢
  have hgl := lt_of_cell hG.1
  have hGH := Lib.hid hG
  have hBH := Lib.hid hBb
  clear hG hB2 hBb
  refine (h0.out _).mono ?_
  rintro e w4 ⟨K, r, d, rfl, hR⟩
  have hM := Mk.new hR 34
  clear h0 hR
  go_wp2_with fail
  clear hmk
  generalize w4.heap.size = qa at hM ⊢
  have hMH := Lib.hid hM
  clear hM
  go_loopw [9] (fun i wr => ∃ (k : Nat) (d : Nat → Nat), k ≤ 3 ∧ i = .int .i64 (k : Int) ∧ Mk wb wr (fun x => K x ∨ x = qa) r qa k d) (fun i _ => 3 - (intOf i).toNat)
  case atStart => exact ⟨0, d, by omega, rfl, hMH.out⟩
  case round =>
    clear hMH
    obtain ⟨k, d, hk, rfl, hM⟩ := hrel
    by_cases hlt : k < 3
    · obtain ⟨y0, y1, y2, y3, y4, _⟩ := hGH.out.below hM.rig.fam.b
      have hnw := Lib.hid (fam_new wr 6 16 2 4 hM.rig.fam (show newOk 6 16 2 4 = true by decide))
      have hMH := Lib.hid hM
      clear hM
      go_wp2_with fail
      refine hnw.out.mono ?_
      rintro e w5 ⟨x, rfl, hF, hb5⟩
      obtain ⟨p1, p2, hM5⟩ := hMH.out.next hlt hF hb5
      have hM5H := Lib.hid hM5
      clear hF hb5 hM5 y0 y1 y2 y3 y4 hnw
      go_wp2_with fail
      go_roundw
      case rel => exact ⟨k + 1, _, by omega, by go_num, hM5H.out⟩
      case measure => simp [intOf]; omega
    · have hk3 : k = 3 := by omega
      have hA : Ev wb wr r qa d 0 := by
        subst hk3
        exact ⟨_, _, 0, hM.ap, fun _ _ => rfl, Int.le_refl _, Int.le_refl _⟩
      clear hk3 hk
      have hAH := Lib.hid hA
      clear hM hA
      go_wp2_with fail
      obtain ⟨wo, rfl⟩ : ∃ wo, wo = wr := ⟨_, rfl⟩
      go_loopw [10] (fun i wr => ∃ k : Nat, k ≤ cs.length ∧ k ≤ 80 ∧ i = .int .i64 (k : Int) ∧ Ev wb wr r qa d k) (fun i _ => cs.length - (intOf i).toNat)
      case atStart => exact ⟨0, by omega, by omega, rfl, hAH.out⟩
      case round =>
        clear hAH
        obtain ⟨kk, hk, hk2, rfl, K2, D, cnt, hA, htw, hc1, hc2⟩ := hrel
        have htwH := Lib.hid htw
        clear htw
        by_cases hrun : kk < cs.length ∧ kk < 80
        · obtain ⟨hlt, hlt2⟩ := hrun
          obtain ⟨b, off, rfl, hltb, a0, a1, a2, a3⟩ := hIH.out.at_ hlt
          generalize cs[kk] = c at a0 a1 a2 a3
          obtain ⟨ck, cz, ca, cn⟩ := c
          simp only at a0 a1 a2 a3
          have ha0 := a0
          have hbw := hBH.out.trans (hA.b.mono hBH.out.size)
          have a0 := (hbw.cell (p := ⟨b, off + kk * 4, none⟩) hltb).trans a0
          have a1 := (hbw.cell (p := ⟨b, off + kk * 4 + 1, none⟩) hltb).trans a1
          have a2 := (hbw.cell (p := ⟨b, off + kk * 4 + 2, none⟩) hltb).trans a2
          have a3 := (hbw.cell (p := ⟨b, off + kk * 4 + 3, none⟩) hltb).trans a3
          obtain ⟨mj, hmj, hmj0⟩ := mask_nat2 cz 2 3 rfl (by omega)
          obtain ⟨mz, hmz, hmz0⟩ := mask_nat2 ca 2 3 rfl (by omega)
          obtain ⟨mn, hmn, hmn0⟩ := mask_nat2 cn 2 3 rfl (by omega)
          have hmj1 : bits .and .i64 cz 3 = (mj : Int) := hmj0
          have hmz1 : bits .and .i64 ca 3 = (mz : Int) := hmz0
          have hmn1 : bits .and .i64 cn 3 = (mn : Int) := hmn0
          have hmn2 : mn < 4 := hmn
          have hj3 : (mj : Int) % 3 = ((mj % 3 : Nat) : Int) := by omega
          have hj4 : (mj : Int).tmod 3 = ((mj % 3 : Nat) : Int) := by rw [Int.tmod_eq_emod_of_nonneg (by omega)]; exact hj3
          have hj : mj % 3 < 3 := Nat.mod_lt _ (by decide)
          generalize mj % 3 = j at hj3 hj4 hj
          have hltb2 : b < wr.heap.size := lt_of_cell a0
          have hjI : (j : Int) < 3 := by omega
          have h80 : decide ((kk : Int) < 80) = true := decide_eq_true (by omega)
          have hAH := Lib.hid hA
          clear hA hmj0 hmz0 hmn0 hmj hmz hmn hbw
          go_wp2_with fail
          go_region
          have hXr : wr.heap.size ≠ r := by have := hAH.out.rig.lt; omega
          have hXge : wb.heap.size ≤ wr.heap.size := hAH.out.b.size
          refine fresh_K (fun W => Ap wb W (fun x => K2 x ∨ x = wr.heap.size) r qa d D cnt ∧ Bx wb W wr.heap.size 2 (mz : Int) 0 (1 + (mn : Int)) ∧ ∀ j, W.frozen? ⟨wr.heap.size, j, none⟩ = false) ⟨hAH.out.keep (((Below.refl _ _).alloc (Nat.le_refl _) _).drew) (fun x hx => hx.imp id fun e => Nat.le_of_eq e.symm) (fun x hx => hx.elim (fun h => Nat.lt_of_lt_of_le (hAH.out.rig.fam.kb x h) (by simp [World.drew])) (fun e => by rw [e]; simp [World.drew])) (fun _ => .inl), ⟨by go_simp, by go_simp, by go_simp, by go_simp⟩, fun j => (World.frozen?_alloc_mark wr _ _ 0 0 j).trans (by simp)⟩ ?_
          rintro W5 ⟨hA5, hX5, hfX⟩
          generalize wr.heap.size = X at hA5 hX5 hXr hXge hfX ⊢
          clear hAH a0 a1 a2 a3 hltb2 hmj1 hmz1 hmn1 hj3 hj4
          have a0 := ((hBH.out.trans (hA5.b.mono hBH.out.size)).cell (p := ⟨b, off + kk * 4, none⟩) hltb).trans ha0
          obtain ⟨t7, jw, hv1, hv2, hv3, hv4, hv5, hu6⟩ := into_mod ck 7 (by omega) (by omega)
          have hu1 : ck.tmod 7 = t7 := hv1
          have hu2 : -7 < t7 := hv2
          have hu3 : t7 < 7 := hv3
          have hu4 : (t7 + 7) % 7 = (jw : Int) := hv4
          have hu5 : (t7 + 7).tmod 7 = (jw : Int) := hv5
          clear hv1 hv2 hv3 hv4 hv5
          have hA5H := Lib.hid hA5
          have hX5H := Lib.hid hX5
          obtain ⟨b0, b1, b2, b3⟩ := hX5
          clear hA5
          by_cases h4 : jw = 4
          · have e4 : (jw : Int) = 4 := by omega
            have f0 := hfX 0
            have f1 := hfX 1
            have f2 := hfX 2
            have f3 := hfX 3
            obtain ⟨hA6', hX6'⟩ := hA5H.out.box (.inr rfl) hXr hXge hX5H.out 3 (mz : Int) 0 0
            have hB6 := Lib.hid (And.intro hA6' hX6')
            clear hfX hA6' hX6'
            go_wp2_with fail
            refine fresh_world_C (fun W => Ap wb W (fun x => K2 x ∨ x = X) r qa d D cnt ∧ Bx wb W X 3 (mz : Int) 0 0) hB6.out ?_
            rintro W6 ⟨hA6, hX6⟩
            clear f0 f1 f2 f3 hB6 b0 b1 b2 b3 a0 hu1 hu2 hu3 hu4 hu5
            have h1 := ap_do j 3 (mz : Int) 0 0 (⟨#[]⟩ : ByteArray) hA6 hj (by decide) (by decide) (by decide) ⟨hc1, by omega⟩
            have h2 := fun W K3 (h : Ap wb W K3 r qa d (upd D j (doD (D j) 3 (mz : Int) 0 0 (⟨#[]⟩ : ByteArray).data.toList).2) (cnt + 1)) => al_twin j 3 (mz : Int) 0 0 (⟨#[]⟩ : ByteArray) _ h (htwH.out j hj) hj (by decide) (by decide)
            generalize doD (D j) 3 (mz : Int) 0 0 (⟨#[]⟩ : ByteArray).data.toList = R at h1 h2
            obtain ⟨⟨out, at', ev⟩, E⟩ := R
            dsimp only at h1 h2
            generalize (⟨out.toArray⟩ : ByteArray) = O at h1 h2
            have h1H := Lib.hid h1
            have h2H := Lib.hid h2
            have hX6H := Lib.hid hX6
            clear h1 h2 hA6 hX6
            refine h1H.out.mono ?_
            rintro e w7 ⟨K7, hK7, rfl, hA7, hs7⟩
            have hkx : KR (fun x => K2 x ∨ x = X) r X := ⟨.inr rfl, hXr⟩
            have hX7 : Bx wb w7 X 3 (mz : Int) 0 0 := ⟨hs7.cell hX6H.out.x0 hkx, hs7.cell hX6H.out.x1 hkx, hs7.cell hX6H.out.x2 hkx, hs7.cell hX6H.out.x3 hkx⟩
            have hq7 := hA7.qa.2.2 j hj
            have hq8 := hA7.qa.1
            have hKX := hK7 _ (.inr rfl)
            have hal := Lib.hid (h2H.out w7.drew K7 (hA7.grow (Below.refl _ _).drew))
            have hf := Lib.hid (fun W (hW : SameK w7 W K7) => (⟨hW.cell hq7 hq8, hW.cell hX7.x0 hKX, hW.cell hX7.x1 hKX, hW.cell hX7.x2 hKX, hW.cell hX7.x3 hKX⟩ : W.cell? ⟨qa, j, none⟩ = some (.pointer (some ⟨d (3 + j), 0, none⟩)) ∧ W.cell? ⟨X, 0, none⟩ = some (.int .i64 3) ∧ W.cell? ⟨X, 1, none⟩ = some (.int .i64 (mz : Int)) ∧ W.cell? ⟨X, 2, none⟩ = some (.int .i64 0) ∧ W.cell? ⟨X, 3, none⟩ = some (.int .i64 0)))
            clear hs7 hX6H h1H h2H hA7 hX7 hq7 hX5H hA5H
            go_wp2_with fail
            refine region_anyC (fun _ => true) (fun W => SameK w7 W K7) (by kernel_rfl) ?_
            have hS : SameK w7 w7.drew K7 := ⟨Nat.le_refl _, fun _ _ _ => rfl⟩
            refine anyL_take 0 (v := ?_) rfl (by kernel_rfl) (fun _ _ _ h => h) (Or.inl ⟨by rfl, ?_⟩) hS ?_
            rotate_left
            focus (intro W hW; go_simp; try with_reducible rfl)
            simp only [Act.put, List.setIfInBounds_toArray, List.set_cons_zero, List.set_cons_succ]
            refine anyL_take 1 (v := ?_) rfl (by kernel_rfl) (fun _ _ _ h => h) (Or.inl ⟨by rfl, ?_⟩) hS ?_
            rotate_left
            focus (intro W hW; go_simp; try with_reducible rfl)
            simp only [Act.put, List.setIfInBounds_toArray, List.set_cons_zero, List.set_cons_succ]
            refine anyL_take 2 (v := ?_) rfl (by kernel_rfl) (fun _ _ _ h => h) (Or.inl ⟨by rfl, ?_⟩) hS ?_
            rotate_left
            focus (intro W hW; go_simp; try with_reducible rfl)
            simp only [Act.put, List.setIfInBounds_toArray, List.set_cons_zero, List.set_cons_succ]
            refine anyL_take 3 (v := ?_) rfl (by kernel_rfl) (fun _ _ _ h => h) (Or.inl ⟨by rfl, ?_⟩) hS ?_
            rotate_left
            focus (intro W hW; obtain ⟨f0, f1, f2, f3, f4⟩ := hf.out W hW; go_simp; try with_reducible rfl)
            simp only [Act.put, List.setIfInBounds_toArray, List.set_cons_zero, List.set_cons_succ]
            refine anyL_take 4 (v := ?_) rfl (by kernel_rfl) (fun _ _ _ h => h) (Or.inl ⟨by rfl, ?_⟩) hS ?_
            rotate_left
            focus (intro W hW; obtain ⟨f0, f1, f2, f3, f4⟩ := hf.out W hW; go_simp; try with_reducible rfl)
            simp only [Act.put, List.setIfInBounds_toArray, List.set_cons_zero, List.set_cons_succ]
            refine anyL_take 5 (v := ?_) rfl (by kernel_rfl) (fun _ _ _ h => h) (Or.inl ⟨by rfl, ?_⟩) hS ?_
            rotate_left
            focus (intro W hW; go_simp; try with_reducible rfl)
            simp only [Act.put, List.setIfInBounds_toArray, List.set_cons_zero, List.set_cons_succ]
            refine anyL_one 6 rfl (by kernel_rfl) (fun K hK => ?_)
            go_simp
            refine (hal.out).mono ?_
            rintro e' w9 ⟨rfl, hA9, hs9⟩
            have hS9 := hS.trans hs9
            dsimp only
            refine hK.out _ _ (fun _ => hS9) ?_
            clear hK K
            try simp only [Act.put, List.setIfInBounds_toArray, List.set_cons_zero, List.set_cons_succ]
            refine anyL_take 7 (v := ?_) rfl (by kernel_rfl) (fun _ _ _ h => h) (Or.inl ⟨by rfl, ?_⟩) hS9 ?_
            rotate_left
            focus (intro W hW; go_simp; try with_reducible rfl)
            simp only [Act.put, List.setIfInBounds_toArray, List.set_cons_zero, List.set_cons_succ]
            refine anyL_take 8 (v := ?_) rfl (by kernel_rfl) (fun _ _ _ h => h) (Or.inl ⟨by rfl, ?_⟩) hS9 ?_
            rotate_left
            focus (intro W hW; go_simp; try with_reducible rfl)
            simp only [Act.put, List.setIfInBounds_toArray, List.set_cons_zero, List.set_cons_succ]
            refine anyL_take 9 (v := ?_) rfl (by kernel_rfl) (fun _ _ _ h => h) (Or.inl ⟨by rfl, ?_⟩) hS9 ?_
            rotate_left
            focus (intro W hW; go_simp; try with_reducible rfl)
            simp only [Act.put, List.setIfInBounds_toArray, List.set_cons_zero, List.set_cons_succ]
            refine anyL_take 10 (v := ?_) rfl (by kernel_rfl) (fun _ _ _ h => h) (Or.inl ⟨by rfl, ?_⟩) hS9 ?_
            rotate_left
            focus (intro W hW; go_simp; try with_reducible rfl)
            simp only [Act.put, List.setIfInBounds_toArray, List.set_cons_zero, List.set_cons_succ]
            refine anyL_take 11 (v := ?_) rfl (by kernel_rfl) (fun _ _ _ h => h) (Or.inl ⟨by rfl, ?_⟩) hS9 ?_
            rotate_left
            focus (intro W hW; go_simp; try with_reducible rfl)
            simp only [Act.put, List.setIfInBounds_toArray, List.set_cons_zero, List.set_cons_succ]
            refine anyL_take 12 (v := ?_) rfl (by kernel_rfl) (fun _ _ _ h => h) (Or.inl ⟨by rfl, ?_⟩) hS9 ?_
            rotate_left
            focus (intro W hW; go_simp; try with_reducible rfl)
            simp only [Act.put, List.setIfInBounds_toArray, List.set_cons_zero, List.set_cons_succ]
            refine anyL_take 13 (v := ?_) rfl (by kernel_rfl) (fun _ _ _ h => h) (Or.inl ⟨by rfl, ?_⟩) hS9 ?_
            rotate_left
            focus (intro W hW; go_simp; try with_reducible rfl)
            simp only [Act.put, List.setIfInBounds_toArray, List.set_cons_zero, List.set_cons_succ]
            refine anyC_done (by kernel_rfl) ?_ _
            clear hal hf hS hS9 hs9
            go_wp2_with fail
            go_roundw
            case rel => exact ⟨kk + 1, by omega, by omega, by go_num, K7, _, cnt + 1, hA9, twin_upd htwH.out hj E, by omega, by omega⟩
            case measure => simp [intOf]; omega
          · by_cases h5 : jw = 5
            · have e5 : (jw : Int) = 5 := by omega
              have hq5 := hA5H.out.qa.2.2 j hj
              have hq6 := hA5H.out.qa.1
              have hq7 := hA5H.out.qa.2.1
              have hf := Lib.hid (fun W (hW : SameK W5 W (KR (fun x => K2 x ∨ x = X) r)) => hW.cell hq5 ⟨hq6, hq7⟩)
              have h1 := Lib.hid (ap_flush j (hA5H.out.grow (Below.refl _ _).drew) hj ⟨hc1, by omega⟩)
              clear hq5 hfX
              go_wp2_with fail
              clear b0 b1 b2 b3 a0 hu1 hu2 hu3 hu4 hu5
              refine region_anyC (fun _ => true) (fun W => SameK W5 W (KR (fun x => K2 x ∨ x = X) r)) (by kernel_rfl) ?_
              have hS : SameK W5 W5.drew (KR (fun x => K2 x ∨ x = X) r) := ⟨Nat.le_refl _, fun _ _ _ => rfl⟩
              refine anyL_take 0 (v := ?_) rfl (by kernel_rfl) (fun _ _ _ h => h) (Or.inl ⟨by rfl, ?_⟩) hS ?_
              rotate_left
              focus (intro W hW; go_simp; try with_reducible rfl)
              simp only [Act.put, List.setIfInBounds_toArray, List.set_cons_zero, List.set_cons_succ]
              refine anyL_take 1 (v := ?_) rfl (by kernel_rfl) (fun _ _ _ h => h) (Or.inl ⟨by rfl, ?_⟩) hS ?_
              rotate_left
              focus (intro W hW; go_simp; try with_reducible rfl)
              simp only [Act.put, List.setIfInBounds_toArray, List.set_cons_zero, List.set_cons_succ]
              refine anyL_take 3 (v := ?_) rfl (by kernel_rfl) (fun _ _ _ h => h) (Or.inl ⟨by rfl, ?_⟩) hS ?_
              rotate_left
              focus (intro W hW; go_simp; try with_reducible rfl)
              simp only [Act.put, List.setIfInBounds_toArray, List.set_cons_zero, List.set_cons_succ]
              refine anyL_take 4 (v := ?_) rfl (by kernel_rfl) (fun _ _ _ h => h) (Or.inl ⟨by rfl, ?_⟩) hS ?_
              rotate_left
              focus (intro W hW; go_simp; try with_reducible rfl)
              simp only [Act.put, List.setIfInBounds_toArray, List.set_cons_zero, List.set_cons_succ]
              refine anyL_take 5 (v := ?_) rfl (by kernel_rfl) (fun _ _ _ h => h) (Or.inl ⟨by rfl, ?_⟩) hS ?_
              rotate_left
              focus (intro W hW; go_simp; try with_reducible rfl)
              simp only [Act.put, List.setIfInBounds_toArray, List.set_cons_zero, List.set_cons_succ]
              refine anyL_take 6 (v := ?_) rfl (by kernel_rfl) (fun _ _ _ h => h) (Or.inl ⟨by rfl, ?_⟩) hS ?_
              rotate_left
              focus (intro W hW; have f0 := hf.out W hW; go_simp; try with_reducible rfl)
              simp only [Act.put, List.setIfInBounds_toArray, List.set_cons_zero, List.set_cons_succ]
              refine anyL_one 2 rfl (by kernel_rfl) (fun K hK => ?_)
              go_simp
              refine (h1.out).mono ?_
              rintro e' w7 ⟨rfl, hA7, hs7⟩
              have hS7 := hS.trans hs7
              dsimp only
              refine hK.out _ _ (fun _ => hS7) ?_
              clear hK K
              try simp only [Act.put, List.setIfInBounds_toArray, List.set_cons_zero, List.set_cons_succ]
              refine anyL_one 7 rfl (by kernel_rfl) (fun K hK => ?_)
              go_simp
              refine (al_ftwin j _ hA7 (htwH.out j hj) hj).mono ?_
              rintro e' w9 ⟨rfl, hA9, hs9⟩
              have hS9 := hS7.trans (hs9.kr r)
              dsimp only
              refine hK.out _ _ (fun _ => hS9) ?_
              clear hK K
              try simp only [Act.put, List.setIfInBounds_toArray, List.set_cons_zero, List.set_cons_succ]
              refine anyL_take 8 (v := ?_) rfl (by kernel_rfl) (fun _ _ _ h => h) (Or.inl ⟨by rfl, ?_⟩) hS9 ?_
              rotate_left
              focus (intro W hW; go_simp; try with_reducible rfl)
              simp only [Act.put, List.setIfInBounds_toArray, List.set_cons_zero, List.set_cons_succ]
              refine anyC_done (by kernel_rfl) ?_ _
              clear h1 hf hS hS7 hS9 hs7 hs9 hA7
              go_wp2_with fail
              go_roundw
              case rel => exact ⟨kk + 1, by omega, by omega, by go_num, _, _, cnt + 1, hA9, twin_upd htwH.out hj _, by omega, by omega⟩
              case measure => simp [intOf]; omega
            · by_cases h6 : jw = 6
              · have e6 : (jw : Int) = 6 := by omega
                have f0 := hfX 0
                have f1 := hfX 1
                have f2 := hfX 2
                have f3 := hfX 3
                obtain ⟨hA6', hX6'⟩ := hA5H.out.box (.inr rfl) hXr hXge hX5H.out 4 (mz : Int) 0 0
                have hB6 := Lib.hid (And.intro hA6' hX6')
                clear hfX hA6' hX6'
                go_wp2_with fail
                refine fresh_world_C (fun W => Ap wb W (fun x => K2 x ∨ x = X) r qa d D cnt ∧ Bx wb W X 4 (mz : Int) 0 0) hB6.out ?_
                rintro W6 ⟨hA6, hX6⟩
                clear f0 f1 f2 f3 hB6 b0 b1 b2 b3 a0 hu1 hu2 hu3 hu4 hu5
                have h1 := ap_do j 4 (mz : Int) 0 0 (⟨#[]⟩ : ByteArray) hA6 hj (by decide) (by decide) (by decide) ⟨hc1, by omega⟩
                have h2 := fun W K3 (h : Ap wb W K3 r qa d (upd D j (doD (D j) 4 (mz : Int) 0 0 (⟨#[]⟩ : ByteArray).data.toList).2) (cnt + 1)) => al_twin j 4 (mz : Int) 0 0 (⟨#[]⟩ : ByteArray) _ h (htwH.out j hj) hj (by decide) (by decide)
                generalize doD (D j) 4 (mz : Int) 0 0 (⟨#[]⟩ : ByteArray).data.toList = R at h1 h2
                obtain ⟨⟨out, at', ev⟩, E⟩ := R
                dsimp only at h1 h2
                generalize (⟨out.toArray⟩ : ByteArray) = O at h1 h2
                have h1H := Lib.hid h1
                have h2H := Lib.hid h2
                have hX6H := Lib.hid hX6
                clear h1 h2 hA6 hX6
                refine h1H.out.mono ?_
                rintro e w7 ⟨K7, hK7, rfl, hA7, hs7⟩
                have hkx : KR (fun x => K2 x ∨ x = X) r X := ⟨.inr rfl, hXr⟩
                have hX7 : Bx wb w7 X 4 (mz : Int) 0 0 := ⟨hs7.cell hX6H.out.x0 hkx, hs7.cell hX6H.out.x1 hkx, hs7.cell hX6H.out.x2 hkx, hs7.cell hX6H.out.x3 hkx⟩
                have hq7 := hA7.qa.2.2 j hj
                have hq8 := hA7.qa.1
                have hKX := hK7 _ (.inr rfl)
                have hal := Lib.hid (h2H.out w7.drew K7 (hA7.grow (Below.refl _ _).drew))
                have hf := Lib.hid (fun W (hW : SameK w7 W K7) => (⟨hW.cell hq7 hq8, hW.cell hX7.x0 hKX, hW.cell hX7.x1 hKX, hW.cell hX7.x2 hKX, hW.cell hX7.x3 hKX⟩ : W.cell? ⟨qa, j, none⟩ = some (.pointer (some ⟨d (3 + j), 0, none⟩)) ∧ W.cell? ⟨X, 0, none⟩ = some (.int .i64 4) ∧ W.cell? ⟨X, 1, none⟩ = some (.int .i64 (mz : Int)) ∧ W.cell? ⟨X, 2, none⟩ = some (.int .i64 0) ∧ W.cell? ⟨X, 3, none⟩ = some (.int .i64 0)))
                clear hs7 hX6H h1H h2H hA7 hX7 hq7 hX5H hA5H
                go_wp2_with fail
                refine region_anyC (fun _ => true) (fun W => SameK w7 W K7) (by kernel_rfl) ?_
                have hS : SameK w7 w7.drew K7 := ⟨Nat.le_refl _, fun _ _ _ => rfl⟩
                refine anyL_take 0 (v := ?_) rfl (by kernel_rfl) (fun _ _ _ h => h) (Or.inl ⟨by rfl, ?_⟩) hS ?_
                rotate_left
                focus (intro W hW; go_simp; try with_reducible rfl)
                simp only [Act.put, List.setIfInBounds_toArray, List.set_cons_zero, List.set_cons_succ]
                refine anyL_take 1 (v := ?_) rfl (by kernel_rfl) (fun _ _ _ h => h) (Or.inl ⟨by rfl, ?_⟩) hS ?_
                rotate_left
                focus (intro W hW; go_simp; try with_reducible rfl)
                simp only [Act.put, List.setIfInBounds_toArray, List.set_cons_zero, List.set_cons_succ]
                refine anyL_take 2 (v := ?_) rfl (by kernel_rfl) (fun _ _ _ h => h) (Or.inl ⟨by rfl, ?_⟩) hS ?_
                rotate_left
                focus (intro W hW; go_simp; try with_reducible rfl)
                simp only [Act.put, List.setIfInBounds_toArray, List.set_cons_zero, List.set_cons_succ]
                refine anyL_take 3 (v := ?_) rfl (by kernel_rfl) (fun _ _ _ h => h) (Or.inl ⟨by rfl, ?_⟩) hS ?_
                rotate_left
                focus (intro W hW; obtain ⟨f0, f1, f2, f3, f4⟩ := hf.out W hW; go_simp; try with_reducible rfl)
                simp only [Act.put, List.setIfInBounds_toArray, List.set_cons_zero, List.set_cons_succ]
                refine anyL_take 4 (v := ?_) rfl (by kernel_rfl) (fun _ _ _ h => h) (Or.inl ⟨by rfl, ?_⟩) hS ?_
                rotate_left
                focus (intro W hW; obtain ⟨f0, f1, f2, f3, f4⟩ := hf.out W hW; go_simp; try with_reducible rfl)
                simp only [Act.put, List.setIfInBounds_toArray, List.set_cons_zero, List.set_cons_succ]
                refine anyL_take 5 (v := ?_) rfl (by kernel_rfl) (fun _ _ _ h => h) (Or.inl ⟨by rfl, ?_⟩) hS ?_
                rotate_left
                focus (intro W hW; go_simp; try with_reducible rfl)
                simp only [Act.put, List.setIfInBounds_toArray, List.set_cons_zero, List.set_cons_succ]
                refine anyL_one 6 rfl (by kernel_rfl) (fun K hK => ?_)
                go_simp
                refine (hal.out).mono ?_
                rintro e' w9 ⟨rfl, hA9, hs9⟩
                have hS9 := hS.trans hs9
                dsimp only
                refine hK.out _ _ (fun _ => hS9) ?_
                clear hK K
                try simp only [Act.put, List.setIfInBounds_toArray, List.set_cons_zero, List.set_cons_succ]
                refine anyL_take 7 (v := ?_) rfl (by kernel_rfl) (fun _ _ _ h => h) (Or.inl ⟨by rfl, ?_⟩) hS9 ?_
                rotate_left
                focus (intro W hW; go_simp; try with_reducible rfl)
                simp only [Act.put, List.setIfInBounds_toArray, List.set_cons_zero, List.set_cons_succ]
                refine anyL_take 8 (v := ?_) rfl (by kernel_rfl) (fun _ _ _ h => h) (Or.inl ⟨by rfl, ?_⟩) hS9 ?_
                rotate_left
                focus (intro W hW; go_simp; try with_reducible rfl)
                simp only [Act.put, List.setIfInBounds_toArray, List.set_cons_zero, List.set_cons_succ]
                refine anyL_take 9 (v := ?_) rfl (by kernel_rfl) (fun _ _ _ h => h) (Or.inl ⟨by rfl, ?_⟩) hS9 ?_
                rotate_left
                focus (intro W hW; go_simp; try with_reducible rfl)
                simp only [Act.put, List.setIfInBounds_toArray, List.set_cons_zero, List.set_cons_succ]
                refine anyL_take 10 (v := ?_) rfl (by kernel_rfl) (fun _ _ _ h => h) (Or.inl ⟨by rfl, ?_⟩) hS9 ?_
                rotate_left
                focus (intro W hW; go_simp; try with_reducible rfl)
                simp only [Act.put, List.setIfInBounds_toArray, List.set_cons_zero, List.set_cons_succ]
                refine anyL_take 11 (v := ?_) rfl (by kernel_rfl) (fun _ _ _ h => h) (Or.inl ⟨by rfl, ?_⟩) hS9 ?_
                rotate_left
                focus (intro W hW; go_simp; try with_reducible rfl)
                simp only [Act.put, List.setIfInBounds_toArray, List.set_cons_zero, List.set_cons_succ]
                refine anyL_take 12 (v := ?_) rfl (by kernel_rfl) (fun _ _ _ h => h) (Or.inl ⟨by rfl, ?_⟩) hS9 ?_
                rotate_left
                focus (intro W hW; go_simp; try with_reducible rfl)
                simp only [Act.put, List.setIfInBounds_toArray, List.set_cons_zero, List.set_cons_succ]
                refine anyL_take 13 (v := ?_) rfl (by kernel_rfl) (fun _ _ _ h => h) (Or.inl ⟨by rfl, ?_⟩) hS9 ?_
                rotate_left
                focus (intro W hW; go_simp; try with_reducible rfl)
                simp only [Act.put, List.setIfInBounds_toArray, List.set_cons_zero, List.set_cons_succ]
                refine anyC_done (by kernel_rfl) ?_ _
                clear hal hf hS hS9 hs9
                go_wp2_with fail
                go_roundw
                case rel => exact ⟨kk + 1, by omega, by omega, by go_num, K7, _, cnt + 1, hA9, twin_upd htwH.out hj E, by omega, by omega⟩
                case measure => simp [intOf]; omega
              · have e4 : ¬ (jw : Int) = 4 := by omega
                have e5 : ¬ (jw : Int) = 5 := by omega
                have e6 : ¬ (jw : Int) = 6 := by omega
                have d4 : decide ((jw : Int) = 4) = false := decide_eq_false e4
                have d5 : decide ((jw : Int) = 5) = false := decide_eq_false e5
                have d6 : decide ((jw : Int) = 6) = false := decide_eq_false e6
                have g4 : ((jw : Int) == 4) = false := by simpa using e4
                have g5 : ((jw : Int) == 5) = false := by simpa using e5
                have g6 : ((jw : Int) == 6) = false := by simpa using e6
                clear hfX
                go_wp2_with fail
                clear a0 hu1 hu2 hu3 hu4 hu5
                obtain ⟨w5, rfl⟩ : ∃ w5, w5 = W5 := ⟨_, rfl⟩
                have hbx := Lib.hid (fun W (hb : Below w5.heap.size w5 W) => (⟨(hb.cell (p := ⟨X, 0, none⟩) (lt_of_cell b0)).trans b0, (hb.cell (p := ⟨X, 1, none⟩) (lt_of_cell b0)).trans b1, (hb.cell (p := ⟨X, 2, none⟩) (lt_of_cell b0)).trans b2, (hb.cell (p := ⟨X, 3, none⟩) (lt_of_cell b0)).trans b3⟩ : Bx wb W X 2 (mz : Int) 0 (1 + (mn : Int))))
                clear b0 b1 b2 b3

                go_loopw [13, 14] (fun s' i' W => ∃ (m : Nat) (S : ByteArray), m ≤ 1 + mn ∧ i' = .int .i64 (m : Int) ∧ s' = .string S ∧ S.size ≤ 64 * m ∧ Below w5.heap.size w5 W) (fun _ i' _ => 1 + mn - (intOf i').toNat)
                case atStart => exact ⟨0, ⟨#[]⟩, by omega, rfl, rfl, Nat.le_refl _, Below.refl _ _⟩
                case round =>
                  obtain ⟨m, S, hm, rfl, rfl, hSs, hb⟩ := hrel
                  have hX6 := hbx.out _ hb
                  have hx3 := hX6.x3
                  by_cases hltm : m < 1 + mn
                  · have hltm2 : (m : Int) < 1 + (mn : Int) := by omega
                    have hcn := Lib.hid (fun W => content_any (kk : Int) (m : Int) W)
                    unfold SomeText at hcn
                    clear hX6
                    go_wp2_with fail
                    refine (hcn.out _).mono ?_
                    rintro e w6 ⟨Y, hY, rfl, hb6⟩
                    have hcat : ¬ 9223372036854775807 < S.size + Y.size := by omega
                    have hsz : (S ++ Y).size ≤ 64 * (m + 1) := by rw [ByteArray.size_append]; omega
                    have hYH := Lib.hid hY
                    clear hY hx3 hcn
                    go_wp2_with fail
                    go_roundw
                    case rel => exact ⟨m + 1, _, by omega, by go_num, rfl, hsz, hb.trans (hb6.mono hb.size)⟩
                    case measure => simp [intOf]; omega
                  · have hltm2 : ¬ (m : Int) < 1 + (mn : Int) := by omega
                    have hA6 := hA5H.out.grow hb
                    have hSb : S.size ≤ 9223372036854775807 := by omega
                    obtain ⟨x0, x1, x2, x3⟩ := hX6
                    go_wp2_with fail
                    clear x0 x1 x2 x3 hx3
                    have hX6 := hbx.out _ hb
                    have h1 := ap_do j 2 (mz : Int) 0 (1 + (mn : Int)) S hA6 hj (by decide) (by decide) hSb ⟨hc1, by omega⟩
                    have h2 := fun W K3 (h : Ap wb W K3 r qa d (upd D j (doD (D j) 2 (mz : Int) 0 (1 + (mn : Int)) S.data.toList).2) (cnt + 1)) => al_twin j 2 (mz : Int) 0 (1 + (mn : Int)) S _ h (htwH.out j hj) hj (by decide) hSb
                    generalize doD (D j) 2 (mz : Int) 0 (1 + (mn : Int)) S.data.toList = R at h1 h2
                    obtain ⟨⟨out, at', ev⟩, E⟩ := R
                    dsimp only at h1 h2
                    generalize (⟨out.toArray⟩ : ByteArray) = O at h1 h2
                    have h1H := Lib.hid h1
                    have h2H := Lib.hid h2
                    have hX6H := Lib.hid hX6
                    clear h1 h2 hA6 hX6
                    refine h1H.out.mono ?_
                    rintro e w7 ⟨K7, hK7, rfl, hA7, hs7⟩
                    have hkx : KR (fun x => K2 x ∨ x = X) r X := ⟨.inr rfl, hXr⟩
                    have hX7 : Bx wb w7 X 2 (mz : Int) 0 (1 + (mn : Int)) := ⟨hs7.cell hX6H.out.x0 hkx, hs7.cell hX6H.out.x1 hkx, hs7.cell hX6H.out.x2 hkx, hs7.cell hX6H.out.x3 hkx⟩
                    have hq7 := hA7.qa.2.2 j hj
                    have hq8 := hA7.qa.1
                    have hKX := hK7 _ (.inr rfl)
                    have hal := Lib.hid (h2H.out w7.drew K7 (hA7.grow (Below.refl _ _).drew))
                    have hf := Lib.hid (fun W (hW : SameK w7 W K7) => (⟨hW.cell hq7 hq8, hW.cell hX7.x0 hKX, hW.cell hX7.x1 hKX, hW.cell hX7.x2 hKX, hW.cell hX7.x3 hKX⟩ : W.cell? ⟨qa, j, none⟩ = some (.pointer (some ⟨d (3 + j), 0, none⟩)) ∧ W.cell? ⟨X, 0, none⟩ = some (.int .i64 2) ∧ W.cell? ⟨X, 1, none⟩ = some (.int .i64 (mz : Int)) ∧ W.cell? ⟨X, 2, none⟩ = some (.int .i64 0) ∧ W.cell? ⟨X, 3, none⟩ = some (.int .i64 (1 + (mn : Int)))))
                    clear hs7 hX6H h1H h2H hA7 hX7 hq7 hX5H hA5H
                    go_wp2_with fail
                    refine region_anyC (fun _ => true) (fun W => SameK w7 W K7) (by kernel_rfl) ?_
                    have hS : SameK w7 w7.drew K7 := ⟨Nat.le_refl _, fun _ _ _ => rfl⟩
                    refine anyL_take 0 (v := ?_) rfl (by kernel_rfl) (fun _ _ _ h => h) (Or.inl ⟨by rfl, ?_⟩) hS ?_
                    rotate_left
                    focus (intro W hW; go_simp; try with_reducible rfl)
                    simp only [Act.put, List.setIfInBounds_toArray, List.set_cons_zero, List.set_cons_succ]
                    refine anyL_take 1 (v := ?_) rfl (by kernel_rfl) (fun _ _ _ h => h) (Or.inl ⟨by rfl, ?_⟩) hS ?_
                    rotate_left
                    focus (intro W hW; go_simp; try with_reducible rfl)
                    simp only [Act.put, List.setIfInBounds_toArray, List.set_cons_zero, List.set_cons_succ]
                    refine anyL_take 2 (v := ?_) rfl (by kernel_rfl) (fun _ _ _ h => h) (Or.inl ⟨by rfl, ?_⟩) hS ?_
                    rotate_left
                    focus (intro W hW; go_simp; try with_reducible rfl)
                    simp only [Act.put, List.setIfInBounds_toArray, List.set_cons_zero, List.set_cons_succ]
                    refine anyL_take 3 (v := ?_) rfl (by kernel_rfl) (fun _ _ _ h => h) (Or.inl ⟨by rfl, ?_⟩) hS ?_
                    rotate_left
                    focus (intro W hW; obtain ⟨f0, f1, f2, f3, f4⟩ := hf.out W hW; go_simp; try with_reducible rfl)
                    simp only [Act.put, List.setIfInBounds_toArray, List.set_cons_zero, List.set_cons_succ]
                    refine anyL_take 4 (v := ?_) rfl (by kernel_rfl) (fun _ _ _ h => h) (Or.inl ⟨by rfl, ?_⟩) hS ?_
                    rotate_left
                    focus (intro W hW; obtain ⟨f0, f1, f2, f3, f4⟩ := hf.out W hW; go_simp; try with_reducible rfl)
                    simp only [Act.put, List.setIfInBounds_toArray, List.set_cons_zero, List.set_cons_succ]
                    refine anyL_take 5 (v := ?_) rfl (by kernel_rfl) (fun _ _ _ h => h) (Or.inl ⟨by rfl, ?_⟩) hS ?_
                    rotate_left
                    focus (intro W hW; go_simp; try with_reducible rfl)
                    simp only [Act.put, List.setIfInBounds_toArray, List.set_cons_zero, List.set_cons_succ]
                    refine anyL_one 6 rfl (by kernel_rfl) (fun K hK => ?_)
                    go_simp
                    refine (hal.out).mono ?_
                    rintro e' w9 ⟨rfl, hA9, hs9⟩
                    have hS9 := hS.trans hs9
                    dsimp only
                    refine hK.out _ _ (fun _ => hS9) ?_
                    clear hK K
                    try simp only [Act.put, List.setIfInBounds_toArray, List.set_cons_zero, List.set_cons_succ]
                    refine anyL_take 7 (v := ?_) rfl (by kernel_rfl) (fun _ _ _ h => h) (Or.inl ⟨by rfl, ?_⟩) hS9 ?_
                    rotate_left
                    focus (intro W hW; go_simp; try with_reducible rfl)
                    simp only [Act.put, List.setIfInBounds_toArray, List.set_cons_zero, List.set_cons_succ]
                    refine anyL_take 8 (v := ?_) rfl (by kernel_rfl) (fun _ _ _ h => h) (Or.inl ⟨by rfl, ?_⟩) hS9 ?_
                    rotate_left
                    focus (intro W hW; go_simp; try with_reducible rfl)
                    simp only [Act.put, List.setIfInBounds_toArray, List.set_cons_zero, List.set_cons_succ]
                    refine anyL_take 9 (v := ?_) rfl (by kernel_rfl) (fun _ _ _ h => h) (Or.inl ⟨by rfl, ?_⟩) hS9 ?_
                    rotate_left
                    focus (intro W hW; go_simp; try with_reducible rfl)
                    simp only [Act.put, List.setIfInBounds_toArray, List.set_cons_zero, List.set_cons_succ]
                    refine anyL_take 10 (v := ?_) rfl (by kernel_rfl) (fun _ _ _ h => h) (Or.inl ⟨by rfl, ?_⟩) hS9 ?_
                    rotate_left
                    focus (intro W hW; go_simp; try with_reducible rfl)
                    simp only [Act.put, List.setIfInBounds_toArray, List.set_cons_zero, List.set_cons_succ]
                    refine anyL_take 11 (v := ?_) rfl (by kernel_rfl) (fun _ _ _ h => h) (Or.inl ⟨by rfl, ?_⟩) hS9 ?_
                    rotate_left
                    focus (intro W hW; go_simp; try with_reducible rfl)
                    simp only [Act.put, List.setIfInBounds_toArray, List.set_cons_zero, List.set_cons_succ]
                    refine anyL_take 12 (v := ?_) rfl (by kernel_rfl) (fun _ _ _ h => h) (Or.inl ⟨by rfl, ?_⟩) hS9 ?_
                    rotate_left
                    focus (intro W hW; go_simp; try with_reducible rfl)
                    simp only [Act.put, List.setIfInBounds_toArray, List.set_cons_zero, List.set_cons_succ]
                    refine anyL_take 13 (v := ?_) rfl (by kernel_rfl) (fun _ _ _ h => h) (Or.inl ⟨by rfl, ?_⟩) hS9 ?_
                    rotate_left
                    focus (intro W hW; go_simp; try with_reducible rfl)
                    simp only [Act.put, List.setIfInBounds_toArray, List.set_cons_zero, List.set_cons_succ]
                    refine anyC_done (by kernel_rfl) ?_ _
                    clear hal hf hS hS9 hs9
                    go_wp2_with fail
                    go_roundw
                    case rel => exact ⟨kk + 1, by omega, by omega, by go_num, K7, _, cnt + 1, hA9, twin_upd htwH.out hj E, by omega, by omega⟩
                    case measure => simp [intOf]; omega
        · obtain ⟨Ac, capc, wc, hrun, hIc, hbc, hAc, hcc⟩ := copy_ints_cap wr A2 cap2 ks (hJH.out.below (hBH.out.trans (hA.b.mono hBH.out.size))) hJnH.out hJl
          have hAk := hA.keep hbc (K' := fun x => K2 x ∨ (wr.heap.size ≤ x ∧ x < wc.heap.size)) (fun x hx => hx.imp id And.left) (fun x hx => hx.elim (fun h => Nat.lt_of_lt_of_le (hA.rig.fam.kb x h) hbc.size) And.right) (fun _ => .inl)
          have h1 := Lib.hid (ap_crash Ac capc ks hAk hIc (fun h0 b off e => .inr (.inr ⟨hAc h0 b off e, by
            rcases hIc with h | ⟨b', off', e', hlt', _⟩
            · exact absurd h h0
            · rw [e] at e'; injection e' with e'; injection e' with e1 _; omega⟩)) hcc hJl hJkH.out)
          have hokH := Lib.hid (fun i (hi : i < 3) => (hA.ok i (by omega)).1)
          have hrunH := Lib.hid hrun
          clear hrun hIc hbc hAc hcc hAk hA hIH
          have hlt : decide (kk < cs.length) = true := decide_eq_true (by omega)
          have hlt2 : decide ((kk : Int) < 80) = false := decide_eq_false (by omega)
          go_wp2_with (at_builtin; refine append_run_wp rfl _ _ _ rfl rfl rfl hrunH.out ?_)
          refine h1.out.mono ?_
          rintro e w6 ⟨rfl, hA6, _⟩
          have hL := Lo.start hA6 htwH.out
          have hLH := Lib.hid hL
          clear hA6 hL hrunH h1 htwH
          go_wp2_with fail
          obtain ⟨wq, rfl⟩ : ∃ wq, wq = wr := ⟨_, rfl⟩
          go_loopw [21] (fun i wr => ∃ k : Nat, k ≤ 3 ∧ i = .int .i64 (k : Int) ∧ Lo wb wr r qa d D ks k) (fun i _ => 3 - (intOf i).toNat)
          case atStart => exact ⟨0, by omega, rfl, hLH.out⟩
          case round =>
            clear hLH
            obtain ⟨w4, rfl⟩ : ∃ w4, w4 = wr := ⟨_, rfl⟩
            obtain ⟨k5, hk5, rfl, K5, D5, cnt5, hA5, hD5, hE5⟩ := hrel
            have hA5H := Lib.hid hA5
            have hD5H := Lib.hid hD5
            have hE5H := Lib.hid hE5
            clear hA5 hD5 hE5
            by_cases hlt5 : k5 < 3
            · have hb0 := Lib.hid (hBH.out.trans (hA5H.out.b.mono hBH.out.size))
              have h174 : decide ((k5 : Int) < 3) = true := decide_eq_true (by omega)
              go_wp2_with fail
              go_loopw [22, 23] (fun v i W => ∃ j : Nat, j ≤ ks.length ∧ i = .int .i64 (j : Int) ∧ W.ownsRow w4.heap.size 3 1 v (ivl ((rotL ks k5).take j)).length (ivl ((rotL ks k5).take j)) ∧ Below w4.heap.size w4 W) (fun _ i _ => ks.length - (intOf i).toNat)
              case atStart => exact ⟨0, by omega, rfl, World.ownsRow_nil _ _ _ _, Below.refl _ _⟩
              case round =>
                obtain ⟨j5, hj5, rfl, hown, hbw⟩ := hrel
                by_cases hltj : j5 < ks.length
                · have hp : (k5 + j5) % ks.length < ks.length := Nat.mod_lt _ (by omega)
                  have hst := rotL_step (i := k5) hltj hp
                  have hJw := hJH.out.below (hb0.out.trans (hbw.mono hb0.out.size))
                  obtain ⟨b2, off2, rfl, hb2l, hc2⟩ := hJw.at_ hp
                  have hpz : ((k5 : Int) + (j5 : Int)) % (ks.length : Int) = (((k5 + j5) % ks.length : Nat) : Int) := by rw [Int.natCast_emod, Int.natCast_add]
                  have hpt : ((k5 : Int) + (j5 : Int)).tmod (ks.length : Int) = (((k5 + j5) % ks.length : Nat) : Int) := by rw [Int.tmod_eq_emod_of_nonneg (by omega)]; exact hpz
                  generalize ks[(k5 + j5) % ks.length] = x5 at hst hc2
                  generalize (k5 + j5) % ks.length = p5 at hp hpz hpt hc2
                  have hba : Below wr.heap.size wr (wr.alloc (.cells #[.int .i64 x5] 3)) := (Below.refl _ _).alloc (Nat.le_refl _) _
                  obtain ⟨v9, w9, hrun9, hown9, hgr9, _⟩ := int_append (wr.alloc (.cells #[.int .i64 x5] 3)) w4.heap.size 23 _ _ (hown.alloc _) wr.heap.size x5 (by go_simp) (by rw [ivl_len, List.length_take, rotL_len]; omega) (Nat.le_trans hbw.size hba.size)
                  rw [← hst] at hown9
                  have hb9 : Below w4.heap.size w4 w9 := (hbw.trans (hba.mono hbw.size)).grown hgr9 (Nat.le_trans hbw.size hba.size) (fun q hq => (hown.lt q hq).1)
                  have hrun9H := Lib.hid hrun9
                  have hown9H := Lib.hid hown9
                  have hb9H := Lib.hid hb9
                  clear hrun9 hown9 hgr9 hb9 hst hba hown hbw hJw
                  go_wp2_with (at_builtin; refine append_run_wp rfl (.tmp 183) (.tmp 193) 23 rfl rfl rfl hrun9H.out ?_)
                  go_roundw
                  case rel => exact ⟨j5 + 1, by omega, by go_num, hown9H.out, hb9H.out⟩
                  case measure => simp [intOf]; omega
                · have hj5e : j5 = ks.length := by omega
                  have hfull : (rotL ks k5).take j5 = rotL ks k5 := List.take_of_length_le (by rw [rotL_len]; omega)
                  rw [hfull] at hown
                  obtain ⟨A3, cap3, rfl, hI3, hA3⟩ := own_ints (zs := rotL ks k5) (by rw [← ivl_len]; exact hown)
                  have hAk := hA5H.out.keep hbw (K' := fun x => K5 x ∨ (w4.heap.size ≤ x ∧ x < wr.heap.size)) (fun x hx => hx.imp id And.left) (fun x hx => hx.elim (fun h => Nat.lt_of_lt_of_le (hA5H.out.rig.fam.kb x h) hbw.size) And.right) (fun _ => .inl)
                  have hqc := hAk.qa.2.2 k5 hlt5
                  have h1 := Lib.hid (al_lose (3 + k5) A3 cap3 (rotL ks k5) hAk (by omega) hI3 (fun h0 b off e => .inr (.inr (hown.lt b (hA3 h0 b off e)))) (fun x hx => hJkH.out x (rotL_mem hx)) (by rw [rotL_len]; unfold maxLen; omega))
                  have hltj2 : ¬ (j5 : Int) < (ks.length : Int) := by omega
                  clear hown hI3 hA3 hAk hfull hbw hj5e
                  go_wp2_with fail
                  refine h1.out.mono ?_
                  rintro e w6 ⟨rfl, hA6, _⟩
                  have hL6 := Lib.hid (Lo.next hlt5 hA6 hD5H.out hE5H.out)
                  clear h1 hA6 hA5H hD5H hE5H hqc
                  go_wp2_with fail
                  go_loopw [24] (fun i W => ∃ z : Nat, z ≤ 6 ∧ i = .int .i64 (z : Int) ∧ Lo wb W r qa d D ks (k5 + 1)) (fun i _ => 6 - (intOf i).toNat)
                  case atStart => exact ⟨0, by omega, rfl, hL6.out⟩
                  case round =>
                    clear hL6
                    obtain ⟨z, hz, rfl, K7, D7, cnt7, hA7, hD7, hE7⟩ := hrel
                    obtain ⟨y0, y1, y2, y3, y4, _⟩ := hGH.out.below hA7.b
                    clear y0 y2 y3 y4
                    have hD7H := Lib.hid hD7
                    have hE7H := Lib.hid hE7
                    have hA7H := Lib.hid hA7
                    clear hD7 hE7 hA7
                    by_cases hltz : z < 6
                    · have e1 := hD7H.out k5 hlt5
                      have e2 := hE7H.out k5 hlt5
                      rw [if_pos (Nat.lt_succ_self k5)] at e2
                      have hll := lasts_lost (hokH.out k5 hlt5) (rotL ks k5) z
                      generalize loseD (D k5) (rotL ks k5) = E at e1 e2 hll
                      have hz1 := fun W (h : Ap wb W K7 r qa d D7 cnt7) => ap_zone k5 z h hlt5
                      have hz2 := fun W (h : Ap wb W K7 r qa d D7 cnt7) => al_zone (3 + k5) z h (by omega)
                      have hz3 := fun W K (h : Ap wb W K r qa d D7 cnt7) => al_lasts (3 + k5) z h (by omega)
                      rw [e1] at hz1
                      rw [e2] at hz2 hz3
                      rw [hll] at hz3
                      clear hll
                      have h5 := fun W K yl (h : Ap wb W K r qa d D7 cnt7) => ap_read k5 z 0 yl ⟨#[]⟩ h hlt5 (by decide) (by decide)
                      have h6 := fun W K yl (h : Ap wb W K r qa d D7 cnt7) => al_read (3 + k5) z 0 yl ⟨#[]⟩ h (by omega) (by decide) (by decide)
                      rw [e1] at h5
                      rw [e2] at h6
                      generalize (getM E.m z).s = ys at hz1 hz2
                      generalize (getM E.m z).l = yl at hz1 hz2 hz3
                      generalize hasB E.m z = yq at hz1 hz2
                      have h5' := fun W K => h5 W K yl
                      have h6' := fun W K => h6 W K yl
                      clear h5 h6 e1 e2
                      generalize doD E 7 z 0 yl (⟨#[]⟩ : ByteArray).data.toList = R at h5' h6'
                      obtain ⟨⟨out, at', ev⟩, E'⟩ := R
                      dsimp only at h5' h6'
                      generalize (⟨out.toArray⟩ : ByteArray) = O at h5' h6'
                      have hz1H := Lib.hid hz1
                      have hz2H := Lib.hid hz2
                      have hz3H := Lib.hid hz3
                      have h5H := Lib.hid h5'
                      have h6H := Lib.hid h6'
                      clear hz1 hz2 hz3 h5' h6'
                      have hzq := fun W => (zone_eql W ys yl ys yl).2
                      simp only [beq_self_eq_true, Bool.and_self, Bool.not_true] at hzq
                      go_wp2_with fail
                      refine (hz1H.out _ hA7H.out).mono ?_
                      rintro e w8 ⟨rfl, hb8⟩
                      have hA8 := hA7H.out.grow hb8
                      have hq8 := hA8.qa.2.2 k5 hlt5
                      have hql := lt_of_cell hq8
                      have hXr : w8.heap.size ≠ r := by have := hA8.rig.lt; omega
                      have hba : Below w8.heap.size w8 (w8.alloc (.cells #[.int .i64 ys, .int .i64 yl] 50)) := (Below.refl _ _).alloc (Nat.le_refl _) _
                      have hc2 := Lib.hid (hz2H.out _ (hA8.grow hba))
                      have hA8k := hA8.keep hba (K' := fun x => K7 x ∨ x = w8.heap.size) (fun x hx => hx.imp id fun e => Nat.le_of_eq e.symm) (fun x hx => hx.elim (fun h => Nat.lt_of_lt_of_le (hA8.rig.fam.kb x h) hba.size) (fun e => by rw [e]; simp)) (fun _ => .inl)
                      have hX8 : Zn2 (w8.alloc (.cells #[.int .i64 ys, .int .i64 yl] 50)) w8.heap.size ys yl := by constructor <;> go_simp
                      have hA8kH := Lib.hid hA8k
                      have hX8H := Lib.hid hX8
                      clear hA8 hba hb8 y1 hA8k hX8
                      go_wp2_with fail
                      refine hc2.out.mono ?_
                      rintro e w9 ⟨rfl, hb9⟩
                      have hA9 := hA8kH.out.grow hb9
                      have x0 := (hb9.cell (p := ⟨w8.heap.size, 0, none⟩) (lt_of_cell hX8H.out.1)).trans hX8H.out.1
                      have x1 := (hb9.cell (p := ⟨w8.heap.size, 1, none⟩) (lt_of_cell hX8H.out.1)).trans hX8H.out.2
                      have hba : Below w9.heap.size w9 (w9.alloc (.cells #[.int .i64 ys, .int .i64 yl] 50)) := (Below.refl _ _).alloc (Nat.le_refl _) _
                      clear hq8 hql hc2 hb9 hA8kH hX8H
                      go_wp2_with fail
                      refine fresh_world (fun W => Ap wb W (fun x => K7 x ∨ x = w8.heap.size) r qa d D7 cnt7 ∧ Zn2 W w8.heap.size ys yl ∧ Zn2 W w9.heap.size ys yl) ⟨hA9.grow hba, ⟨(hba.cell (p := ⟨w8.heap.size, 0, none⟩) (lt_of_cell x0)).trans x0, (hba.cell (p := ⟨w8.heap.size, 1, none⟩) (lt_of_cell x0)).trans x1⟩, by constructor <;> go_simp⟩ ?_
                      rintro w10 ⟨hA10, ⟨x0', x1'⟩, z0, z1⟩
                      clear hba hA9 x0 x1
                      generalize w8.heap.size = X1 at hA10 x0' x1' hXr ⊢
                      generalize w9.heap.size = X2 at z0 z1 ⊢
                      have hq10 := hA10.qa.2.2 k5 hlt5
                      have hf := Lib.hid (fun W (hb : Below w10.heap.size w10 W) => (⟨(hb.cell (p := ⟨X1, 0, none⟩) (lt_of_cell x0')).trans x0', (hb.cell (p := ⟨X1, 1, none⟩) (lt_of_cell x0')).trans x1', (hb.cell (p := ⟨X2, 0, none⟩) (lt_of_cell z0)).trans z0, (hb.cell (p := ⟨X2, 1, none⟩) (lt_of_cell z0)).trans z1, (hb.cell (p := ⟨qa, k5, none⟩) (lt_of_cell hq10)).trans hq10⟩ : W.cell? ⟨X1, 0, none⟩ = some (.int .i64 ys) ∧ W.cell? ⟨X1, 1, none⟩ = some (.int .i64 yl) ∧ W.cell? ⟨X2, 0, none⟩ = some (.int .i64 ys) ∧ W.cell? ⟨X2, 1, none⟩ = some (.int .i64 yl) ∧ W.cell? ⟨qa, k5, none⟩ = some (.pointer (some ⟨d (3 + k5), 0, none⟩))))
                      have hA10H := Lib.hid hA10
                      clear hA10 x0' x1' z0 z1 hq10
                      have hkI : (k5 : Int) < 3 := by omega
                      refine region_anyC (fun _ => true) (fun W => Below w10.heap.size w10 W) (by kernel_rfl) ?_
                      have hS : Below w10.heap.size w10 w10.drew := (Below.refl _ _).drew
                      refine anyL_take 0 (v := ?_) rfl (by kernel_rfl) (fun _ _ _ h => h) (Or.inl ⟨by rfl, ?_⟩) hS ?_
                      rotate_left
                      focus (intro W hW; obtain ⟨f0, f1, f2, f3, f4⟩ := hf.out W hW; go_simp; try with_reducible rfl)
                      simp only [Act.put, List.setIfInBounds_toArray, List.set_cons_zero, List.set_cons_succ]
                      refine anyL_take 1 (v := ?_) rfl (by kernel_rfl) (fun _ _ _ h => h) (Or.inl ⟨by rfl, ?_⟩) hS ?_
                      rotate_left
                      focus (intro W hW; obtain ⟨f0, f1, f2, f3, f4⟩ := hf.out W hW; go_simp; try with_reducible rfl)
                      simp only [Act.put, List.setIfInBounds_toArray, List.set_cons_zero, List.set_cons_succ]
                      refine anyL_take 2 (v := ?_) rfl (by kernel_rfl) (fun _ _ _ h => h) (Or.inl ⟨by rfl, ?_⟩) hS ?_
                      rotate_left
                      focus (intro W hW; go_simp; try with_reducible rfl)
                      simp only [Act.put, List.setIfInBounds_toArray, List.set_cons_zero, List.set_cons_succ]
                      refine anyL_take 3 (v := ?_) rfl (by kernel_rfl) (fun _ _ _ h => h) (Or.inl ⟨by rfl, ?_⟩) hS ?_
                      rotate_left
                      focus (intro W hW; go_simp; try with_reducible rfl)
                      simp only [Act.put, List.setIfInBounds_toArray, List.set_cons_zero, List.set_cons_succ]
                      refine anyL_take 4 (v := ?_) rfl (by kernel_rfl) (fun _ _ _ h => h) (Or.inl ⟨by rfl, ?_⟩) hS ?_
                      rotate_left
                      focus (intro W hW; go_simp; try with_reducible rfl)
                      simp only [Act.put, List.setIfInBounds_toArray, List.set_cons_zero, List.set_cons_succ]
                      refine anyL_take 5 (v := ?_) rfl (by kernel_rfl) (fun _ _ _ h => h) (Or.inl ⟨by rfl, ?_⟩) hS ?_
                      rotate_left
                      focus (intro W hW; obtain ⟨f0, f1, f2, f3, f4⟩ := hf.out W hW; go_simp; try with_reducible rfl)
                      simp only [Act.put, List.setIfInBounds_toArray, List.set_cons_zero, List.set_cons_succ]
                      refine anyL_take 6 (v := ?_) rfl (by kernel_rfl) (fun _ _ _ h => h) (Or.inl ⟨by rfl, ?_⟩) hS ?_
                      rotate_left
                      focus (intro W hW; go_simp; try with_reducible rfl)
                      simp only [Act.put, List.setIfInBounds_toArray, List.set_cons_zero, List.set_cons_succ]
                      refine anyL_take 7 (v := ?_) rfl (by kernel_rfl) (fun _ _ _ h => h) (Or.inl ⟨by rfl, ?_⟩) hS ?_
                      rotate_left
                      focus (intro W hW; go_simp; try with_reducible rfl)
                      simp only [Act.put, List.setIfInBounds_toArray, List.set_cons_zero, List.set_cons_succ]
                      refine anyL_take 8 (v := ?_) rfl (by kernel_rfl) (fun _ _ _ h => h) (Or.inl ⟨by rfl, ?_⟩) hS ?_
                      rotate_left
                      focus (intro W hW; go_simp; try with_reducible rfl)
                      simp only [Act.put, List.setIfInBounds_toArray, List.set_cons_zero, List.set_cons_succ]
                      refine anyL_take 9 (v := ?_) rfl (by kernel_rfl) (fun _ _ _ h => h) (Or.inl ⟨by rfl, ?_⟩) hS ?_
                      rotate_left
                      focus (intro W hW; obtain ⟨f0, f1, f2, f3, f4⟩ := hf.out W hW; go_simp; try with_reducible rfl)
                      simp only [Act.put, List.setIfInBounds_toArray, List.set_cons_zero, List.set_cons_succ]
                      refine anyL_take 10 (v := ?_) rfl (by kernel_rfl) (fun _ _ _ h => h) (Or.inl ⟨by rfl, ?_⟩) hS ?_
                      rotate_left
                      focus (intro W hW; go_simp; try with_reducible rfl)
                      simp only [Act.put, List.setIfInBounds_toArray, List.set_cons_zero, List.set_cons_succ]
                      refine anyL_one 11 rfl (by kernel_rfl) (fun K hK => ?_)
                      go_simp
                      refine (hz3H.out _ _ (hA10H.out.grow hS)).mono ?_
                      rintro e' w11 ⟨rfl, rfl⟩
                      dsimp only
                      refine hK.out _ _ (fun _ => hS) ?_
                      clear hK K
                      try simp only [Act.put, List.setIfInBounds_toArray, List.set_cons_zero, List.set_cons_succ]
                      refine anyL_take 12 (v := ?_) rfl (by kernel_rfl) (fun _ _ _ h => h) (Or.inl ⟨by rfl, ?_⟩) hS ?_
                      rotate_left
                      focus (intro W hW; go_simp; try with_reducible rfl)
                      simp only [Act.put, List.setIfInBounds_toArray, List.set_cons_zero, List.set_cons_succ]
                      refine anyL_take 13 (v := ?_) rfl (by kernel_rfl) (fun _ _ _ h => h) (Or.inl ⟨by rfl, ?_⟩) hS ?_
                      rotate_left
                      focus (intro W hW; go_simp; try with_reducible rfl)
                      simp only [Act.put, List.setIfInBounds_toArray, List.set_cons_zero, List.set_cons_succ]
                      refine anyC_done (by kernel_rfl) ?_ _
                      have hA11 := hA10H.out.grow hS
                      obtain ⟨f0, f1, f2, f3, f4⟩ := hf.out _ hS
                      generalize w10.drew = w11 at *
                      have hA11H := Lib.hid hA11
                      clear hA11 hA10H hf hS hzq
                      by_cases h0 : yl = 0
                      · clear h5H h6H hz1H hz2H hz3H
                        go_wp2_with fail
                        go_roundw
                        case rel => exact ⟨z + 1, by omega, by go_num, _, D7, cnt7, hA11H.out, hD7H.out, hE7H.out⟩
                        case measure => simp [intOf]; omega
                      · have h0b : (yl == 0) = false := by simp [h0]
                        have h5c := Lib.hid (h5H.out w11 _ hA11H.out)
                        go_wp2_with fail
                        refine h5c.out.mono ?_
                        rintro e w12 ⟨K12, hK12, rfl, hA12, hs12⟩
                        have hx1 := hs12.cell f1 ⟨.inr rfl, hXr⟩
                        have hX1k := hK12 X1 (.inr rfl)
                        have hq12 := hA12.qa.2.2 k5 hlt5
                        have hqk := hA12.qa.1
                        have hg := Lib.hid (fun W (hW : SameK w12 W K12) => (⟨hW.cell hx1 hX1k, hW.cell hq12 hqk⟩ : W.cell? ⟨X1, 1, none⟩ = some (.int .i64 yl) ∧ W.cell? ⟨qa, k5, none⟩ = some (.pointer (some ⟨d (3 + k5), 0, none⟩))))
                        have hal := Lib.hid (h6H.out w12.drew K12 (hA12.grow (Below.refl _ _).drew))
                        clear f0 f1 f2 f3 f4 h5c hs12 hx1 hq12 hA12 h5H h6H hz1H hz2H hz3H hA11H
                        go_wp2_with fail
                        refine region_anyC (fun _ => true) (fun W => SameK w12 W K12) (by kernel_rfl) ?_
                        have hS : SameK w12 w12.drew K12 := ⟨Nat.le_refl _, fun _ _ _ => rfl⟩
                        refine anyL_take 0 (v := ?_) rfl (by kernel_rfl) (fun _ _ _ h => h) (Or.inl ⟨by rfl, ?_⟩) hS ?_
                        rotate_left
                        focus (intro W hW; go_simp; try with_reducible rfl)
                        simp only [Act.put, List.setIfInBounds_toArray, List.set_cons_zero, List.set_cons_succ]
                        refine anyL_take 1 (v := ?_) rfl (by kernel_rfl) (fun _ _ _ h => h) (Or.inl ⟨by rfl, ?_⟩) hS ?_
                        rotate_left
                        focus (intro W hW; go_simp; try with_reducible rfl)
                        simp only [Act.put, List.setIfInBounds_toArray, List.set_cons_zero, List.set_cons_succ]
                        refine anyL_take 2 (v := ?_) rfl (by kernel_rfl) (fun _ _ _ h => h) (Or.inl ⟨by rfl, ?_⟩) hS ?_
                        rotate_left
                        focus (intro W hW; go_simp; try with_reducible rfl)
                        simp only [Act.put, List.setIfInBounds_toArray, List.set_cons_zero, List.set_cons_succ]
                        refine anyL_take 3 (v := ?_) rfl (by kernel_rfl) (fun _ _ _ h => h) (Or.inl ⟨by rfl, ?_⟩) hS ?_
                        rotate_left
                        focus (intro W hW; obtain ⟨g0, g1⟩ := hg.out W hW; go_simp; try with_reducible rfl)
                        simp only [Act.put, List.setIfInBounds_toArray, List.set_cons_zero, List.set_cons_succ]
                        refine anyL_take 4 (v := ?_) rfl (by kernel_rfl) (fun _ _ _ h => h) (Or.inl ⟨by rfl, ?_⟩) hS ?_
                        rotate_left
                        focus (intro W hW; go_simp; try with_reducible rfl)
                        simp only [Act.put, List.setIfInBounds_toArray, List.set_cons_zero, List.set_cons_succ]
                        refine anyL_take 5 (v := ?_) rfl (by kernel_rfl) (fun _ _ _ h => h) (Or.inl ⟨by rfl, ?_⟩) hS ?_
                        rotate_left
                        focus (intro W hW; go_simp; try with_reducible rfl)
                        simp only [Act.put, List.setIfInBounds_toArray, List.set_cons_zero, List.set_cons_succ]
                        refine anyL_take 6 (v := ?_) rfl (by kernel_rfl) (fun _ _ _ h => h) (Or.inl ⟨by rfl, ?_⟩) hS ?_
                        rotate_left
                        focus (intro W hW; obtain ⟨g0, g1⟩ := hg.out W hW; go_simp; try with_reducible rfl)
                        simp only [Act.put, List.setIfInBounds_toArray, List.set_cons_zero, List.set_cons_succ]
                        refine anyL_take 7 (v := ?_) rfl (by kernel_rfl) (fun _ _ _ h => h) (Or.inl ⟨by rfl, ?_⟩) hS ?_
                        rotate_left
                        focus (intro W hW; go_simp; try with_reducible rfl)
                        simp only [Act.put, List.setIfInBounds_toArray, List.set_cons_zero, List.set_cons_succ]
                        refine anyL_one 8 rfl (by kernel_rfl) (fun K hK => ?_)
                        go_simp
                        refine (hal.out).mono ?_
                        rintro e' w13 ⟨rfl, hA13, hs13⟩
                        have hS13 := hS.trans hs13
                        dsimp only
                        refine hK.out _ _ (fun _ => hS13) ?_
                        clear hK K
                        try simp only [Act.put, List.setIfInBounds_toArray, List.set_cons_zero, List.set_cons_succ]
                        refine anyL_take 9 (v := ?_) rfl (by kernel_rfl) (fun _ _ _ h => h) (Or.inl ⟨by rfl, ?_⟩) hS13 ?_
                        rotate_left
                        focus (intro W hW; go_simp; try with_reducible rfl)
                        simp only [Act.put, List.setIfInBounds_toArray, List.set_cons_zero, List.set_cons_succ]
                        refine anyL_take 10 (v := ?_) rfl (by kernel_rfl) (fun _ _ _ h => h) (Or.inl ⟨by rfl, ?_⟩) hS13 ?_
                        rotate_left
                        focus (intro W hW; go_simp; try with_reducible rfl)
                        simp only [Act.put, List.setIfInBounds_toArray, List.set_cons_zero, List.set_cons_succ]
                        refine anyL_take 11 (v := ?_) rfl (by kernel_rfl) (fun _ _ _ h => h) (Or.inl ⟨by rfl, ?_⟩) hS13 ?_
                        rotate_left
                        focus (intro W hW; go_simp; try with_reducible rfl)
                        simp only [Act.put, List.setIfInBounds_toArray, List.set_cons_zero, List.set_cons_succ]
                        refine anyL_take 12 (v := ?_) rfl (by kernel_rfl) (fun _ _ _ h => h) (Or.inl ⟨by rfl, ?_⟩) hS13 ?_
                        rotate_left
                        focus (intro W hW; go_simp; try with_reducible rfl)
                        simp only [Act.put, List.setIfInBounds_toArray, List.set_cons_zero, List.set_cons_succ]
                        refine anyL_take 13 (v := ?_) rfl (by kernel_rfl) (fun _ _ _ h => h) (Or.inl ⟨by rfl, ?_⟩) hS13 ?_
                        rotate_left
                        focus (intro W hW; go_simp; try with_reducible rfl)
                        simp only [Act.put, List.setIfInBounds_toArray, List.set_cons_zero, List.set_cons_succ]
                        refine anyL_take 14 (v := ?_) rfl (by kernel_rfl) (fun _ _ _ h => h) (Or.inl ⟨by rfl, ?_⟩) hS13 ?_
                        rotate_left
                        focus (intro W hW; go_simp; try with_reducible rfl)
                        simp only [Act.put, List.setIfInBounds_toArray, List.set_cons_zero, List.set_cons_succ]
                        refine anyL_take 15 (v := ?_) rfl (by kernel_rfl) (fun _ _ _ h => h) (Or.inl ⟨by rfl, ?_⟩) hS13 ?_
                        rotate_left
                        focus (intro W hW; go_simp; try with_reducible rfl)
                        simp only [Act.put, List.setIfInBounds_toArray, List.set_cons_zero, List.set_cons_succ]
                        refine anyC_done (by kernel_rfl) ?_ _
                        clear hal hg hS hS13 hs13
                        go_wp2_with fail
                        go_roundw
                        case rel => exact ⟨z + 1, by omega, by go_num, _, D7, cnt7, hA13, hD7H.out, hE7H.out⟩
                        case measure => simp [intOf]; omega
                    · go_wp2_with fail
                      go_roundw
                      case rel => exact ⟨k5 + 1, by omega, by go_num, _, D7, cnt7, hA7H.out, hD7H.out, hE7H.out⟩
                      case measure => simp [intOf]; omega
            · have hbf := Lib.hid (hBH.out.trans (hA5H.out.b.mono hBH.out.size))
              clear hA5H hD5H hE5H
              go_wp2_with fail
              go_ret
              exact ⟨rfl, hbf.out⟩
end Go.Proofs.YtncbkegflkjlfaaDoor
