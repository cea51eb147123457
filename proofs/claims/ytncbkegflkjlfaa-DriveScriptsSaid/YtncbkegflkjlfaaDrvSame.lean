/- A drive and the document's are the same. -/
import Derived.Test.YtncbkegflkjlfaaRfTwo
namespace Go.Proofs.Ytncbkegflkjlfaa
open Go.RowKit Zon Drv

theorem getM_out7 {m : Mc} {x : Int} (h : hasB m x = false) : getM m x = ⟨0, 0⟩ := by unfold getM; rw [if_neg (by rw [h]; simp)]
theorem getM_in7 {m : Mc} {i : Nat} (h : i < m.zs.length) : getM m (i : Int) = zAt m.zs i ∧ hasB m (i : Int) = true := by
  have h1 : hasB m (i : Int) = true := Zon.hasB_iff.2 ⟨by omega, by omega⟩
  exact ⟨by unfold getM; rw [if_pos h1]; simp, h1⟩
set_option maxRecDepth 100000 in
set_option maxHeartbeats 4000000 in
theorem dsame_any {w0 : World} {K : Nat → Prop} (w : World) (d d2 : Nat) (D : Dr) (h : Two w0 w K d d2 D D) (hok : D.Ok) :
    Calls Try.prog 23 #[.pointer (some ⟨d, 0, none⟩), .pointer (some ⟨d2, 0, none⟩)] w fun e w' => e = .returned (.bool true) ∧ Below w.heap.size w w' := by
  obtain ⟨⟨F, G, h1, ⟨B, hL, _⟩, _⟩, _⟩ := h
  have hzo := Lib.hid (fun x W (hb : Below w.heap.size w W) => dzone_any W F d D x (h1.below hb))
  have hla := Lib.hid (fun x W (hb : Below w.heap.size w W) => lasts_any W F d D x (h1.below hb))
  have hde := Lib.hid (fun W (hb : Below w.heap.size w W) => ddead_any W F d D (h1.below hb))
  have hn := Lib.hid hok.cl
  have hn2 := Lib.hid hok.ll
  have hz2 : D.cs.length ≤ 64 := hok.few
  obtain ⟨⟨capz, q0⟩, _, _, _, _, hzl, hza⟩ := hL.m
  have hf := Lib.hid (fun W (hb : Below w.heap.size w W) => (⟨(hb.cell (p := ⟨d2, 0, none⟩) hL.dlt).trans hL.c0, (hb.cell (p := ⟨d2, 1, none⟩) hL.dlt).trans hL.c1, (hb.cell (p := ⟨d2, 2, none⟩) hL.dlt).trans hL.c2, (hb.cell (p := ⟨d2, 3, none⟩) hL.dlt).trans hL.c3, (hb.cell (p := ⟨B.g, 0, none⟩) hL.m.gl).trans q0⟩ : W.cell? ⟨d2, 0, none⟩ = some (.pointer (some ⟨B.g, 0, none⟩)) ∧ W.cell? ⟨d2, 1, none⟩ = some (.slice (some ⟨B.c, 0, none⟩) D.cs.length D.cs.length) ∧ W.cell? ⟨d2, 2, none⟩ = some (.slice (some ⟨B.l, 0, none⟩) D.ls.length D.ls.length) ∧ W.cell? ⟨d2, 3, none⟩ = some (.bool D.dead) ∧ W.cell? ⟨B.g, 0, none⟩ = some (.slice (some ⟨B.z, 0, none⟩) D.m.zs.length capz)))
  have hzc := Lib.hid (fun W (hb : Below w.heap.size w W) i (hi : i < D.m.zs.length) => (⟨(hb.cell (p := ⟨B.z, i * 2, none⟩) hzl).trans (hza i hi).1, (hb.cell (p := ⟨B.z, i * 2 + 1, none⟩) hzl).trans (hza i hi).2.1⟩ : W.cell? ⟨B.z, i * 2, none⟩ = some (.int .i64 D.m.zs[i].s) ∧ W.cell? ⟨B.z, i * 2 + 1, none⟩ = some (.int .i64 D.m.zs[i].l)))
  have hlc := Lib.hid (fun W (hb : Below w.heap.size w W) i (hi : i < D.ls.length) => (hb.cell (p := ⟨B.l, i, none⟩) hL.ll).trans (hL.lrow i hi).1)
  rw [hn.out, hn2.out] at hf
  have hz3 : D.m.zs.length ≤ 64 := by rw [← hn.out]; exact hz2
  clear h1 hL hok hza hzl q0 hz2
  go_enter Try.func23, Try.ntmps23
  go_wp2_with fail
  go_loopw [5] (fun i wr => ∃ j : Nat, j ≤ D.m.zs.length + 2 ∧ i = .int .i64 ((j : Int) - 1) ∧ Below w.heap.size w wr) (fun i _ => (D.m.zs.length + 1 - intOf i).toNat)
  case atStart => exact ⟨0, by omega, rfl, Below.refl _ _⟩
  case round =>
    obtain ⟨j, hj, rfl, hB⟩ := hrel
    have hs := hB.size
    obtain ⟨f0, f1, f2, f3, f4⟩ := hf.out _ hB
    by_cases hend : j = D.m.zs.length + 2
    · subst hend
      clear hzo hla hzc hlc
      go_wp2_with fail
      clear f0 f1 f2 f3 f4
      refine region_anyC (fun _ => true) (fun W => Below w.heap.size w W) (by kernel_rfl) ?_
      have hS : Below w.heap.size w wr.drew := hB.drew
      generalize D.dead = b at hde hf
      refine anyL_take 0 (v := ?_) rfl (by kernel_rfl) (fun _ _ _ h => h) (Or.inl ⟨by rfl, ?_⟩) hS ?_
      rotate_left
      focus (intro W hW; go_simp; try with_reducible rfl)
      simp only [Act.put, List.setIfInBounds_toArray, List.set_cons_zero, List.set_cons_succ]
      refine anyL_take 2 (v := ?_) rfl (by kernel_rfl) (fun _ _ _ h => h) (Or.inl ⟨by rfl, ?_⟩) hS ?_
      rotate_left
      focus (intro W hW; go_simp; try with_reducible rfl)
      simp only [Act.put, List.setIfInBounds_toArray, List.set_cons_zero, List.set_cons_succ]
      refine anyL_take 3 (v := ?_) rfl (by kernel_rfl) (fun _ _ _ h => h) (Or.inl ⟨by rfl, ?_⟩) hS ?_
      rotate_left
      focus (intro W hW; go_simp; try with_reducible rfl)
      simp only [Act.put, List.setIfInBounds_toArray, List.set_cons_zero, List.set_cons_succ]
      refine anyL_take 4 (v := ?_) rfl (by kernel_rfl) (fun _ _ _ h => h) (Or.inl ⟨by rfl, ?_⟩) hS ?_
      rotate_left
      focus (intro W hW; go_simp; try with_reducible rfl)
      simp only [Act.put, List.setIfInBounds_toArray, List.set_cons_zero, List.set_cons_succ]
      refine anyL_take 5 (v := ?_) rfl (by kernel_rfl) (fun _ _ _ h => h) (Or.inl ⟨by rfl, ?_⟩) hS ?_
      rotate_left
      focus (intro W hW; obtain ⟨f0, f1, f2, f3, f4⟩ := hf.out W hW; go_simp; try with_reducible rfl)
      simp only [Act.put, List.setIfInBounds_toArray, List.set_cons_zero, List.set_cons_succ]
      refine anyL_one 1 rfl (by kernel_rfl) (fun K hK => ?_)
      go_simp
      refine (hde.out _ hS).mono ?_
      rintro e' w7 ⟨rfl, rfl⟩
      dsimp only
      refine hK.out _ _ (fun _ => hS) ?_
      clear hK K
      try simp only [Act.put, List.setIfInBounds_toArray, List.set_cons_zero, List.set_cons_succ]
      refine anyL_take 6 (v := ?_) rfl (by kernel_rfl) (fun _ _ _ h => h) (Or.inl ⟨by rfl, ?_⟩) hS ?_
      rotate_left
      focus (intro W hW; go_simp; try with_reducible rfl)
      simp only [Act.put, List.setIfInBounds_toArray, List.set_cons_zero, List.set_cons_succ]
      refine anyL_take 7 (v := ?_) rfl (by kernel_rfl) (fun _ _ _ h => h) (Or.inl ⟨by rfl, ?_⟩) hS ?_
      rotate_left
      focus (intro W hW; go_simp; try with_reducible rfl)
      simp only [Act.put, List.setIfInBounds_toArray, List.set_cons_zero, List.set_cons_succ]
      refine anyC_done (by kernel_rfl) ?_ _
      go_wp2
      go_ret
      exact ⟨by simp, hS⟩
    · by_cases h0 : j = 0
      · subst h0
        have hg := hzo.out (-1)
        have hl := hla.out (-1)
        rw [getM_out7 (decide_eq_false (by omega)), show hasB D.m (-1) = false from decide_eq_false (by omega)] at hg
        rw [show lastsD D (-1) = 0 from if_neg (by omega)] at hl
        have hgH := Lib.hid hg
        have hlH := Lib.hid hl
        clear hg hl hend hla hzo
        go_wp2_with (first | (go_at_call 24; refine (hgH.out _ hB).mono ?_; rintro e w1 ⟨rfl, hb1⟩; have hB1 := hB.trans (hb1.mono hs); have hs1 := hB1.size) | (go_at_call 25; refine (hlH.out _ (hB1.alloc hs1 _)).mono ?_; rintro e w2 ⟨rfl, rfl⟩))
        go_roundw
        case rel => exact ⟨1, by omega, rfl, hB1.alloc hs1 _⟩
        case measure => (simp [intOf]; try omega)
      · obtain ⟨i, rfl⟩ : ∃ i, j = i + 1 := ⟨j - 1, by omega⟩
        have hji : (((i + 1 : Nat) : Int) - 1) = (i : Int) := by omega
        rw [hji]
        by_cases hi : i < D.m.zs.length
        · have hg := hzo.out (i : Int)
          have hl := hla.out (i : Int)
          rw [(getM_in7 hi).1, (getM_in7 hi).2] at hg
          rw [show lastsD D (i : Int) = (D.l i : Int) by unfold lastsD; rw [if_pos ⟨by omega, by rw [hn2.out]; omega⟩, Int.toNat_natCast]] at hl
          have hzi := fun W hb => hzc.out W hb i hi
          have hli := fun W hb => hlc.out W hb i (by rw [hn2.out]; exact hi)
          rw [← zAt_get hi] at hzi
          generalize zAt D.m.zs i = y at hg hzi
          generalize D.l i = yl at hl hli
          have hgH := Lib.hid hg
          have hlH := Lib.hid hl
          have hziH := Lib.hid hzi
          have hliH := Lib.hid hli
          have hil : ((i : Int) == (D.m.zs.length : Int)) = false := by simp; omega
          have hi0 : decide ((i : Int) < 0) = false := decide_eq_false (by omega)
          clear hg hl hzi hli hji hend h0 hzc hlc hla hzo hde
          go_wp2_with (go_at_call 24; refine (hgH.out _ hB).mono ?_; rintro e w1 ⟨rfl, hb1⟩; have hB1 := hB.trans (hb1.mono hs); have hs1 := hB1.size; obtain ⟨g0, g1, g2, g3, g4⟩ := hf.out _ hB1; have hd1 := lt_of_cell g0)
          refine fresh_world (fun W => Below w.heap.size w W ∧ Zn2 W w1.heap.size y.s y.l) ⟨hB1.alloc hs1 _, by constructor <;> go_simp⟩ ?_
          rintro W6 ⟨hB6, x0, x1⟩
          have hx := Lib.hid (fun W (hb : Below W6.heap.size W6 W) => (⟨(hb.cell (p := ⟨w1.heap.size, 0, none⟩) (lt_of_cell x0)).trans x0, (hb.cell (p := ⟨w1.heap.size, 1, none⟩) (lt_of_cell x0)).trans x1⟩ : W.cell? ⟨w1.heap.size, 0, none⟩ = some (.int .i64 y.s) ∧ W.cell? ⟨w1.heap.size, 1, none⟩ = some (.int .i64 y.l)))
          have hBW := Lib.hid (fun W (hb : Below W6.heap.size W6 W) => hB6.trans (hb.mono hB6.size))
          clear f0 f1 f2 f3 f4 g0 g1 g2 g3 g4 x0 x1 hb1 hgH
          have hiz : i < D.m.zs.length := hi
          refine region_anyC (fun _ => true) (fun W => Below W6.heap.size W6 W) (by kernel_rfl) ?_
          have hS : Below W6.heap.size W6 W6.drew := (Below.refl _ _).drew
          refine anyL_take 0 (v := ?_) rfl (by kernel_rfl) (fun _ _ _ h => h) (Or.inl ⟨by rfl, ?_⟩) hS ?_
          rotate_left
          focus (intro W hW; go_simp; try with_reducible rfl)
          simp only [Act.put, List.setIfInBounds_toArray, List.set_cons_zero, List.set_cons_succ]
          refine anyL_take 1 (v := ?_) rfl (by kernel_rfl) (fun _ _ _ h => h) (Or.inl ⟨by rfl, ?_⟩) hS ?_
          rotate_left
          focus (intro W hW; go_simp; try with_reducible rfl)
          simp only [Act.put, List.setIfInBounds_toArray, List.set_cons_zero, List.set_cons_succ]
          refine anyL_take 2 (v := ?_) rfl (by kernel_rfl) (fun _ _ _ h => h) (Or.inl ⟨by rfl, ?_⟩) hS ?_
          rotate_left
          focus (intro W hW; go_simp; try with_reducible rfl)
          simp only [Act.put, List.setIfInBounds_toArray, List.set_cons_zero, List.set_cons_succ]
          refine anyL_take 3 (v := ?_) rfl (by kernel_rfl) (fun _ _ _ h => h) (Or.inl ⟨by rfl, ?_⟩) hS ?_
          rotate_left
          focus (intro W hW; go_simp; try with_reducible rfl)
          simp only [Act.put, List.setIfInBounds_toArray, List.set_cons_zero, List.set_cons_succ]
          refine anyL_take 4 (v := ?_) rfl (by kernel_rfl) (fun _ _ _ h => h) (Or.inl ⟨by rfl, ?_⟩) hS ?_
          rotate_left
          focus (intro W hW; obtain ⟨x0, x1⟩ := hx.out W hW; go_simp; try with_reducible rfl)
          simp only [Act.put, List.setIfInBounds_toArray, List.set_cons_zero, List.set_cons_succ]
          refine anyL_take 5 (v := ?_) rfl (by kernel_rfl) (fun _ _ _ h => h) (Or.inl ⟨by rfl, ?_⟩) hS ?_
          rotate_left
          focus (intro W hW; go_simp; try with_reducible rfl)
          simp only [Act.put, List.setIfInBounds_toArray, List.set_cons_zero, List.set_cons_succ]
          refine anyL_take 6 (v := ?_) rfl (by kernel_rfl) (fun _ _ _ h => h) (Or.inl ⟨by rfl, ?_⟩) hS ?_
          rotate_left
          focus (intro W hW; go_simp; try with_reducible rfl)
          simp only [Act.put, List.setIfInBounds_toArray, List.set_cons_zero, List.set_cons_succ]
          refine anyL_take 7 (v := ?_) rfl (by kernel_rfl) (fun _ _ _ h => h) (Or.inl ⟨by rfl, ?_⟩) hS ?_
          rotate_left
          focus (intro W hW; go_simp; try with_reducible rfl)
          simp only [Act.put, List.setIfInBounds_toArray, List.set_cons_zero, List.set_cons_succ]
          refine anyL_take 8 (v := ?_) rfl (by kernel_rfl) (fun _ _ _ h => h) (Or.inl ⟨by rfl, ?_⟩) hS ?_
          rotate_left
          focus (intro W hW; obtain ⟨f0, f1, f2, f3, f4⟩ := hf.out W (hBW.out W hW); go_simp; try with_reducible rfl)
          simp only [Act.put, List.setIfInBounds_toArray, List.set_cons_zero, List.set_cons_succ]
          refine anyL_take 9 (v := ?_) rfl (by kernel_rfl) (fun _ _ _ h => h) (Or.inl ⟨by rfl, ?_⟩) hS ?_
          rotate_left
          focus (intro W hW; go_simp; try with_reducible rfl)
          simp only [Act.put, List.setIfInBounds_toArray, List.set_cons_zero, List.set_cons_succ]
          refine anyL_take 10 (v := ?_) rfl (by kernel_rfl) (fun _ _ _ h => h) (Or.inl ⟨by rfl, ?_⟩) hS ?_
          rotate_left
          focus (intro W hW; go_simp; try with_reducible rfl)
          simp only [Act.put, List.setIfInBounds_toArray, List.set_cons_zero, List.set_cons_succ]
          refine anyL_take 11 (v := ?_) rfl (by kernel_rfl) (fun _ _ _ h => h) (Or.inl ⟨by rfl, ?_⟩) hS ?_
          rotate_left
          focus (intro W hW; obtain ⟨f0, f1, f2, f3, f4⟩ := hf.out W (hBW.out W hW); go_simp; try with_reducible rfl)
          simp only [Act.put, List.setIfInBounds_toArray, List.set_cons_zero, List.set_cons_succ]
          refine anyL_take 12 (v := ?_) rfl (by kernel_rfl) (fun _ _ _ h => h) (Or.inl ⟨by rfl, ?_⟩) hS ?_
          rotate_left
          focus (intro W hW; go_simp; try with_reducible rfl)
          simp only [Act.put, List.setIfInBounds_toArray, List.set_cons_zero, List.set_cons_succ]
          refine anyL_take 13 (v := ?_) rfl (by kernel_rfl) (fun _ _ _ h => h) (Or.inl ⟨by rfl, ?_⟩) hS ?_
          rotate_left
          focus (intro W hW; go_simp; try with_reducible rfl)
          simp only [Act.put, List.setIfInBounds_toArray, List.set_cons_zero, List.set_cons_succ]
          refine anyL_take 14 (v := ?_) rfl (by kernel_rfl) (fun _ _ _ h => h) (Or.inl ⟨by rfl, ?_⟩) hS ?_
          rotate_left
          focus (intro W hW; go_simp; try with_reducible rfl)
          simp only [Act.put, List.setIfInBounds_toArray, List.set_cons_zero, List.set_cons_succ]
          refine anyL_take 15 (v := ?_) rfl (by kernel_rfl) (fun _ _ _ h => h) (Or.inl ⟨by rfl, ?_⟩) hS ?_
          rotate_left
          focus (intro W hW; obtain ⟨k1, k2⟩ := hziH.out W (hBW.out W hW); go_simp; try with_reducible rfl)
          simp only [Act.put, List.setIfInBounds_toArray, List.set_cons_zero, List.set_cons_succ]
          refine anyL_take 16 (v := ?_) rfl (by kernel_rfl) (fun _ _ _ h => h) (Or.inl ⟨by rfl, ?_⟩) hS ?_
          rotate_left
          focus (intro W hW; go_simp; try with_reducible rfl)
          simp only [Act.put, List.setIfInBounds_toArray, List.set_cons_zero, List.set_cons_succ]
          refine anyL_take 17 (v := ?_) rfl (by kernel_rfl) (fun _ _ _ h => h) (Or.inl ⟨by rfl, ?_⟩) hS ?_
          rotate_left
          focus (intro W hW; go_simp; try with_reducible rfl)
          simp only [Act.put, List.setIfInBounds_toArray, List.set_cons_zero, List.set_cons_succ]
          refine anyL_take 18 (v := ?_) rfl (by kernel_rfl) (fun _ _ _ h => h) (Or.inl ⟨by rfl, ?_⟩) hS ?_
          rotate_left
          focus (intro W hW; go_simp; try with_reducible rfl)
          simp only [Act.put, List.setIfInBounds_toArray, List.set_cons_zero, List.set_cons_succ]
          refine anyL_take 19 (v := ?_) rfl (by kernel_rfl) (fun _ _ _ h => h) (Or.inl ⟨by rfl, ?_⟩) hS ?_
          rotate_left
          focus (intro W hW; go_simp; try with_reducible rfl)
          simp only [Act.put, List.setIfInBounds_toArray, List.set_cons_zero, List.set_cons_succ]
          refine anyL_take 20 (v := ?_) rfl (by kernel_rfl) (fun _ _ _ h => h) (Or.inl ⟨by rfl, ?_⟩) hS ?_
          rotate_left
          focus (intro W hW; obtain ⟨x0, x1⟩ := hx.out W hW; go_simp; try with_reducible rfl)
          simp only [Act.put, List.setIfInBounds_toArray, List.set_cons_zero, List.set_cons_succ]
          refine anyL_take 21 (v := ?_) rfl (by kernel_rfl) (fun _ _ _ h => h) (Or.inl ⟨by rfl, ?_⟩) hS ?_
          rotate_left
          focus (intro W hW; go_simp; try with_reducible rfl)
          simp only [Act.put, List.setIfInBounds_toArray, List.set_cons_zero, List.set_cons_succ]
          refine anyL_take 22 (v := ?_) rfl (by kernel_rfl) (fun _ _ _ h => h) (Or.inl ⟨by rfl, ?_⟩) hS ?_
          rotate_left
          focus (intro W hW; go_simp; try with_reducible rfl)
          simp only [Act.put, List.setIfInBounds_toArray, List.set_cons_zero, List.set_cons_succ]
          refine anyL_take 23 (v := ?_) rfl (by kernel_rfl) (fun _ _ _ h => h) (Or.inl ⟨by rfl, ?_⟩) hS ?_
          rotate_left
          focus (intro W hW; go_simp; try with_reducible rfl)
          simp only [Act.put, List.setIfInBounds_toArray, List.set_cons_zero, List.set_cons_succ]
          refine anyL_take 24 (v := ?_) rfl (by kernel_rfl) (fun _ _ _ h => h) (Or.inl ⟨by rfl, ?_⟩) hS ?_
          rotate_left
          focus (intro W hW; obtain ⟨f0, f1, f2, f3, f4⟩ := hf.out W (hBW.out W hW); go_simp; try with_reducible rfl)
          simp only [Act.put, List.setIfInBounds_toArray, List.set_cons_zero, List.set_cons_succ]
          refine anyL_take 25 (v := ?_) rfl (by kernel_rfl) (fun _ _ _ h => h) (Or.inl ⟨by rfl, ?_⟩) hS ?_
          rotate_left
          focus (intro W hW; go_simp; try with_reducible rfl)
          simp only [Act.put, List.setIfInBounds_toArray, List.set_cons_zero, List.set_cons_succ]
          refine anyL_take 26 (v := ?_) rfl (by kernel_rfl) (fun _ _ _ h => h) (Or.inl ⟨by rfl, ?_⟩) hS ?_
          rotate_left
          focus (intro W hW; go_simp; try with_reducible rfl)
          simp only [Act.put, List.setIfInBounds_toArray, List.set_cons_zero, List.set_cons_succ]
          refine anyL_take 27 (v := ?_) rfl (by kernel_rfl) (fun _ _ _ h => h) (Or.inl ⟨by rfl, ?_⟩) hS ?_
          rotate_left
          focus (intro W hW; obtain ⟨f0, f1, f2, f3, f4⟩ := hf.out W (hBW.out W hW); go_simp; try with_reducible rfl)
          simp only [Act.put, List.setIfInBounds_toArray, List.set_cons_zero, List.set_cons_succ]
          refine anyL_take 28 (v := ?_) rfl (by kernel_rfl) (fun _ _ _ h => h) (Or.inl ⟨by rfl, ?_⟩) hS ?_
          rotate_left
          focus (intro W hW; go_simp; try with_reducible rfl)
          simp only [Act.put, List.setIfInBounds_toArray, List.set_cons_zero, List.set_cons_succ]
          refine anyL_take 29 (v := ?_) rfl (by kernel_rfl) (fun _ _ _ h => h) (Or.inl ⟨by rfl, ?_⟩) hS ?_
          rotate_left
          focus (intro W hW; go_simp; try with_reducible rfl)
          simp only [Act.put, List.setIfInBounds_toArray, List.set_cons_zero, List.set_cons_succ]
          refine anyL_take 30 (v := ?_) rfl (by kernel_rfl) (fun _ _ _ h => h) (Or.inl ⟨by rfl, ?_⟩) hS ?_
          rotate_left
          focus (intro W hW; go_simp; try with_reducible rfl)
          simp only [Act.put, List.setIfInBounds_toArray, List.set_cons_zero, List.set_cons_succ]
          refine anyL_take 31 (v := ?_) rfl (by kernel_rfl) (fun _ _ _ h => h) (Or.inl ⟨by rfl, ?_⟩) hS ?_
          rotate_left
          focus (intro W hW; obtain ⟨k1, k2⟩ := hziH.out W (hBW.out W hW); go_simp; try with_reducible rfl)
          simp only [Act.put, List.setIfInBounds_toArray, List.set_cons_zero, List.set_cons_succ]
          refine anyL_take 32 (v := ?_) rfl (by kernel_rfl) (fun _ _ _ h => h) (Or.inl ⟨by rfl, ?_⟩) hS ?_
          rotate_left
          focus (intro W hW; go_simp; try with_reducible rfl)
          simp only [Act.put, List.setIfInBounds_toArray, List.set_cons_zero, List.set_cons_succ]
          refine anyL_take 33 (v := ?_) rfl (by kernel_rfl) (fun _ _ _ h => h) (Or.inl ⟨by rfl, ?_⟩) hS ?_
          rotate_left
          focus (intro W hW; go_simp; try with_reducible rfl)
          simp only [Act.put, List.setIfInBounds_toArray, List.set_cons_zero, List.set_cons_succ]
          refine anyL_take 34 (v := ?_) rfl (by kernel_rfl) (fun _ _ _ h => h) (Or.inl ⟨by rfl, ?_⟩) hS ?_
          rotate_left
          focus (intro W hW; go_simp; try with_reducible rfl)
          simp only [Act.put, List.setIfInBounds_toArray, List.set_cons_zero, List.set_cons_succ]
          refine anyL_take 35 (v := ?_) rfl (by kernel_rfl) (fun _ _ _ h => h) (Or.inl ⟨by rfl, ?_⟩) hS ?_
          rotate_left
          focus (intro W hW; go_simp; try with_reducible rfl)
          simp only [Act.put, List.setIfInBounds_toArray, List.set_cons_zero, List.set_cons_succ]
          refine anyL_take 36 (v := ?_) rfl (by kernel_rfl) (fun _ _ _ h => h) (Or.inl ⟨by rfl, ?_⟩) hS ?_
          rotate_left
          focus (intro W hW; go_simp; try with_reducible rfl)
          simp only [Act.put, List.setIfInBounds_toArray, List.set_cons_zero, List.set_cons_succ]
          refine anyL_take 38 (v := ?_) rfl (by kernel_rfl) (fun _ _ _ h => h) (Or.inl ⟨by rfl, ?_⟩) hS ?_
          rotate_left
          focus (intro W hW; go_simp; try with_reducible rfl)
          simp only [Act.put, List.setIfInBounds_toArray, List.set_cons_zero, List.set_cons_succ]
          refine anyL_take 39 (v := ?_) rfl (by kernel_rfl) (fun _ _ _ h => h) (Or.inl ⟨by rfl, ?_⟩) hS ?_
          rotate_left
          focus (intro W hW; go_simp; try with_reducible rfl)
          simp only [Act.put, List.setIfInBounds_toArray, List.set_cons_zero, List.set_cons_succ]
          refine anyL_take 40 (v := ?_) rfl (by kernel_rfl) (fun _ _ _ h => h) (Or.inl ⟨by rfl, ?_⟩) hS ?_
          rotate_left
          focus (intro W hW; go_simp; try with_reducible rfl)
          simp only [Act.put, List.setIfInBounds_toArray, List.set_cons_zero, List.set_cons_succ]
          refine anyL_take 41 (v := ?_) rfl (by kernel_rfl) (fun _ _ _ h => h) (Or.inl ⟨by rfl, ?_⟩) hS ?_
          rotate_left
          focus (intro W hW; obtain ⟨f0, f1, f2, f3, f4⟩ := hf.out W (hBW.out W hW); go_simp; try with_reducible rfl)
          simp only [Act.put, List.setIfInBounds_toArray, List.set_cons_zero, List.set_cons_succ]
          refine anyL_take 42 (v := ?_) rfl (by kernel_rfl) (fun _ _ _ h => h) (Or.inl ⟨by rfl, ?_⟩) hS ?_
          rotate_left
          focus (intro W hW; go_simp; try with_reducible rfl)
          simp only [Act.put, List.setIfInBounds_toArray, List.set_cons_zero, List.set_cons_succ]
          refine anyL_take 43 (v := ?_) rfl (by kernel_rfl) (fun _ _ _ h => h) (Or.inl ⟨by rfl, ?_⟩) hS ?_
          rotate_left
          focus (intro W hW; go_simp; try with_reducible rfl)
          simp only [Act.put, List.setIfInBounds_toArray, List.set_cons_zero, List.set_cons_succ]
          refine anyL_take 44 (v := ?_) rfl (by kernel_rfl) (fun _ _ _ h => h) (Or.inl ⟨by rfl, ?_⟩) hS ?_
          rotate_left
          focus (intro W hW; have k3 := hliH.out W (hBW.out W hW); go_simp; try with_reducible rfl)
          simp only [Act.put, List.setIfInBounds_toArray, List.set_cons_zero, List.set_cons_succ]
          refine anyL_one 37 rfl (by kernel_rfl) (fun K hK => ?_)
          go_simp
          refine (hlH.out _ (hBW.out _ hS)).mono ?_
          rintro e' w7 ⟨rfl, rfl⟩
          dsimp only
          refine hK.out _ _ (fun _ => hS) ?_
          clear hK K
          try simp only [Act.put, List.setIfInBounds_toArray, List.set_cons_zero, List.set_cons_succ]
          refine anyL_take 45 (v := ?_) rfl (by kernel_rfl) (fun _ _ _ h => h) (Or.inl ⟨by rfl, ?_⟩) hS ?_
          rotate_left
          focus (intro W hW; go_simp; try with_reducible rfl)
          simp only [Act.put, List.setIfInBounds_toArray, List.set_cons_zero, List.set_cons_succ]
          refine anyL_take 46 (v := ?_) rfl (by kernel_rfl) (fun _ _ _ h => h) (Or.inl ⟨by rfl, ?_⟩) hS ?_
          rotate_left
          focus (intro W hW; go_simp; try with_reducible rfl)
          simp only [Act.put, List.setIfInBounds_toArray, List.set_cons_zero, List.set_cons_succ]
          refine anyC_done (by kernel_rfl) ?_ _
          go_wp2
          go_roundw
          case rel => exact ⟨i + 1 + 1, by omega, by go_num, hBW.out _ hS⟩
          case measure => simp [intOf]; omega
        · obtain rfl : i = D.m.zs.length := by omega
          have hg := hzo.out (D.m.zs.length : Int)
          have hl := hla.out (D.m.zs.length : Int)
          rw [getM_out7 (decide_eq_false (by omega)), show hasB D.m (D.m.zs.length : Int) = false from decide_eq_false (by omega)] at hg
          rw [show lastsD D (D.m.zs.length : Int) = 0 from if_neg (by rw [hn2.out]; omega)] at hl
          have hgH := Lib.hid hg
          have hlH := Lib.hid hl
          clear hg hl hend hla hzo hji
          go_wp2_with (first | (go_at_call 24; refine (hgH.out _ hB).mono ?_; rintro e w1 ⟨rfl, hb1⟩; have hB1 := hB.trans (hb1.mono hs); have hs1 := hB1.size; obtain ⟨g0, g1, g2, g3, g4⟩ := hf.out _ hB1; have hd1 := lt_of_cell g0) | (go_at_call 25; refine (hlH.out _ (hB1.alloc hs1 _)).mono ?_; rintro e w2 ⟨rfl, rfl⟩))
          go_roundw
          case rel => exact ⟨D.m.zs.length + 2, by omega, by (first | go_num | (congr 1; omega)), hB1.alloc hs1 _⟩
          case measure => (simp [intOf]; try omega)
end Go.Proofs.Ytncbkegflkjlfaa
