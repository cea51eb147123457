/- What Append of a log's does. -/
import Derived.Test.YtpmhfalhieinjaaGreatDoorMlgA
namespace Go.Proofs.YtpmhfalhieinjaaGreatDoor
open Go.RowKit Zon Drv Rec Crc

section
variable {w W : World} {K : Nat → Prop} {r n N : Nat} {d : Nat → Nat} {G : Rg} {c : Int} {p : Nat} {L : Lg}
set_option maxRecDepth 100000 in
set_option maxHeartbeats 2000000 in
theorem mappend_any (x : Rc) (h : LS w W K r n N d G p L) (hok : RgOk n G c) (hc : c ≤ 4611686018427380000) (hT : Tab w) (hi : L.i < n) (hb : 0 ≤ G.s.bl ∧ G.s.bl ≤ 1000000) (hu : 0 ≤ L.u ∧ L.u ≤ 1000000) :
    Calls Tryz.prog 12 #[.pointer (some ⟨p, 0, none⟩), .agg #[.int .i64 x.k, .int .i64 x.s, .int .i64 x.a, .int .i64 x.b, .int .i64 x.c, .int .i64 x.d, .string x.body]] W fun e w' =>
      e = .returned (.int .i64 (apP n G L x).1) ∧ LPost w W K r n N d p (apP n G L x).2.1 (apP n G L x).2.2 w' := by
  obtain ⟨W1, hW1⟩ : ∃ W1, W1 = (W.alloc (.cells #[.int .i64 x.k, .int .i64 x.s, .int .i64 x.a, .int .i64 x.b, .int .i64 x.c, .int .i64 x.d, .string x.body] 38)).alloc (.cells #[.int .i64 x.k, .int .i64 x.s, .int .i64 x.a, .int .i64 x.b, .int .i64 x.c, .int .i64 x.d, .string x.body] 38) := ⟨_, rfl⟩
  have hb0 : Below W.heap.size W W1 := by rw [hW1]; exact ((Below.refl _ _).alloc (Nat.le_refl _) _).alloc (by simp) _
  have hx1 : RcAt W1 (W.heap.size + 1) x := by
    have h := RcAt.new (W.alloc (.cells #[.int .i64 x.k, .int .i64 x.s, .int .i64 x.a, .int .i64 x.b, .int .i64 x.c, .int .i64 x.d, .string x.body] 38)) x 38
    rw [World.size_alloc, ← hW1] at h
    exact h
  have hrecs : RecsIn W1 (some ⟨W.heap.size + 1, 0, none⟩) [x] := by
    refine .inr ⟨_, rfl, hx1.lt, fun i hi j hj => ?_⟩
    have hi1 : i < 1 := hi
    obtain rfl : i = 0 := by omega
    obtain ⟨c0, c1, c2, c3, c4, c5, c6⟩ := hx1
    match j, hj with
    | 0, _ => exact c0
    | 1, _ => exact c1
    | 2, _ => exact c2
    | 3, _ => exact c3
    | 4, _ => exact c4
    | 5, _ => exact c5
    | 6, _ => exact c6
  have hTW1 : Tab W1 := hT.below (h.R.fam.b.trans (hb0.mono h.R.fam.b.size))
  have hen := Lib.hid (encoded_any (some ⟨W.heap.size + 1, 0, none⟩) 1 [x] W1 hTW1 hrecs (by simp))
  have hS1 := Lib.hid (h.grown hb0)
  have hB1 := Lib.hid hb0
  clear hT hTW1 hrecs hx1 h hb0
  unfold apP
  by_cases h0 : okM x = true
  · have hgd := (okM_good h0).1
    have hnb := nBlocks_pos hgd.1
    have he1 : ([x] : List Rc).all okM = true := by simp [h0]
    rw [if_pos he1] at hen
    have hte : (⟨(catL [x]).toArray⟩ : ByteArray) = encS x := by rw [encS_good hgd]; simp [catL]
    rw [hte] at hen
    have hsz := encS_size hgd
    have hbo := Lib.hid (fun W => blocks_m (encS x) (by rw [hsz]; omega) W)
    rw [hsz, show 64 * nBlocks x.k / 64 = nBlocks x.k by omega] at hbo
    simp only [if_pos h0]
    by_cases hlf : leftP G.s.bl L < (nBlocks x.k : Int)
    · have hl1 : decide (leftP G.s.bl L < (nBlocks x.k : Int)) = true := decide_eq_true hlf
      simp only [if_pos hlf]
      have hle := Lib.hid (fun V (hV : LS w V K r n N d G p L) => left_any hV.l hV.R hb hu)
      generalize leftP G.s.bl L = lf at hle hl1
      generalize nBlocks x.k = nb at hbo hl1
      clear hlf hsz hte he1 h0 hgd hnb hok hb hu
      generalize encS x = T at hen hbo
      go_enter Tryz.func12, Tryz.ntmps12
      go_wp2_with fail
      rw [← hW1]
      clear hW1
      refine hen.out.mono ?_
      rintro e W2 ⟨rfl, hb2⟩
      have hS2 := Lib.hid (hS1.out.grown hb2)
      have hB2 := Lib.hid (hB1.out.trans (hb2.mono hB1.out.size))
      clear hb2 hS1 hB1 hen
      go_wp2_with fail
      refine (hbo.out _).mono ?_
      rintro e W3 ⟨rfl, rfl⟩
      go_wp2_with fail
      refine (hle.out _ hS2.out).mono ?_
      rintro e W3 ⟨rfl, hb3⟩
      have hfin := Lib.hid ((hS2.out.none_ hb3).back hB2.out)
      clear hb3 hS2 hB2
      go_wp2_with fail
      go_ret
      exact ⟨rfl, hfin.out⟩
    · have hl1 : decide (leftP G.s.bl L < (nBlocks x.k : Int)) = false := decide_eq_false hlf
      have hl0 : ¬ leftP G.s.bl L < (nBlocks x.k : Int) := hlf
      simp only [if_neg hlf]
      have hle := Lib.hid (fun V (hV : LS w V K r n N d G p L) => left_any hV.l hV.R hb hu)
      have hwr := Lib.hid (fun V (hV : LS w V K r n N d G p L) => mwrite_any L.i (L.z : Int) (encS x) hV.R hok (by omega) hi (by rw [hsz]; omega))
      have hwu : IntKind.i64.wrap (L.u + (nBlocks x.k : Int)) = L.u + (nBlocks x.k : Int) := IntWalk.i64_in _ (by omega)
      generalize leftP G.s.bl L = lf at hle hl1 hl0
      generalize nBlocks x.k = nb at hbo hl1 hl0 hwu ⊢
      clear hlf hsz hte he1 h0 hgd hnb hok hb hu
      generalize encS x = T at hen hbo hwr ⊢
      generalize wrP n G L.i (L.z : Int) T = R at hwr ⊢
      obtain ⟨e1, G1⟩ := R
      dsimp only at hwr ⊢
      obtain ⟨zi, hzi⟩ : ∃ zi : Int, zi = (L.z : Int) := ⟨_, rfl⟩
      obtain ⟨ii, hii⟩ : ∃ ii : Int, ii = (L.i : Int) := ⟨_, rfl⟩
      rw [← hzi, ← hii] at hwr
      have hcell := Lib.hid (fun V K2 G2 (hV : LS w V K2 r n N d G2 p L) => (⟨hV.l.c0, by rw [hii]; exact hV.l.c1, by rw [hzi]; exact hV.l.c2⟩ : V.cell? ⟨p, 0, none⟩ = some (.pointer (some ⟨r, 0, none⟩)) ∧ V.cell? ⟨p, 1, none⟩ = some (.int .i64 ii) ∧ V.cell? ⟨p, 2, none⟩ = some (.int .i64 zi)))
      clear hzi hii
      by_cases he : e1 = 0
      · subst he
        simp only [ne_eq, not_true_eq_false, if_false]
        go_enter Tryz.func12, Tryz.ntmps12
        go_wp2_with fail
        rw [← hW1]
        clear hW1
        refine hen.out.mono ?_
        rintro e W2 ⟨rfl, hb2⟩
        have hS2' := Lib.hid (hS1.out.grown hb2)
        have hB2 := Lib.hid (hB1.out.trans (hb2.mono hB1.out.size))
        clear hb2 hS1 hB1 hen
        go_wp2_with fail
        refine (hbo.out _).mono ?_
        rintro e W3 ⟨rfl, rfl⟩
        go_wp2_with fail
        refine (hle.out _ hS2'.out).mono ?_
        rintro e W3 ⟨rfl, hb3⟩
        have hS3 := Lib.hid (hS2'.out.grown hb3)
        have hB3 := Lib.hid (hB2.out.trans (hb3.mono hB2.out.size))
        have hS3d := Lib.hid (hS3.out.grown ((Below.refl W3.heap.size W3).drew))
        clear hb3 hS2' hB2 hle hbo
        go_upto_region 9 with fail
        refine region_anyC (fun _ => true) (fun V => V.cell? ⟨p, 0, none⟩ = some (.pointer (some ⟨r, 0, none⟩)) ∧ V.cell? ⟨p, 1, none⟩ = some (.int .i64 ii) ∧ V.cell? ⟨p, 2, none⟩ = some (.int .i64 zi)) (by kernel_rfl) ?_
        have hS : (fun V => V.cell? ⟨p, 0, none⟩ = some (.pointer (some ⟨r, 0, none⟩)) ∧ V.cell? ⟨p, 1, none⟩ = some (.int .i64 ii) ∧ V.cell? ⟨p, 2, none⟩ = some (.int .i64 zi)) W3.drew := hcell.out _ _ _ hS3d.out
        refine anyL_take 0 (v := ?_) rfl (by kernel_rfl) (fun _ _ _ h => h) (Or.inl ⟨by rfl, ?_⟩) hS ?_
        rotate_left
        focus (intro W hW; go_simp; try with_reducible rfl)
        simp only [Act.put, List.setIfInBounds_toArray, List.set_cons_zero, List.set_cons_succ]
        refine anyL_take 1 (v := ?_) rfl (by kernel_rfl) (fun _ _ _ h => h) (Or.inl ⟨by rfl, ?_⟩) hS ?_
        rotate_left
        focus (intro W hW; go_simp; try with_reducible rfl)
        simp only [Act.put, List.setIfInBounds_toArray, List.set_cons_zero, List.set_cons_succ]
        refine anyL_take 2 (v := ?_) rfl (by kernel_rfl) (fun _ _ _ h => h) (Or.inl ⟨by rfl, ?_⟩) hS ?_
        rotate_left
        focus (intro W hW; go_simp; try with_reducible rfl)
        simp only [Act.put, List.setIfInBounds_toArray, List.set_cons_zero, List.set_cons_succ]
        refine anyL_take 3 (v := ?_) rfl (by kernel_rfl) (fun _ _ _ h => h) (Or.inl ⟨by rfl, ?_⟩) hS ?_
        rotate_left
        focus (intro W hW; obtain ⟨b0, b1, b2⟩ := hW; go_simp; try with_reducible rfl)
        simp only [Act.put, List.setIfInBounds_toArray, List.set_cons_zero, List.set_cons_succ]
        refine anyL_take 4 (v := ?_) rfl (by kernel_rfl) (fun _ _ _ h => h) (Or.inl ⟨by rfl, ?_⟩) hS ?_
        rotate_left
        focus (intro W hW; go_simp; try with_reducible rfl)
        simp only [Act.put, List.setIfInBounds_toArray, List.set_cons_zero, List.set_cons_succ]
        refine anyL_take 5 (v := ?_) rfl (by kernel_rfl) (fun _ _ _ h => h) (Or.inl ⟨by rfl, ?_⟩) hS ?_
        rotate_left
        focus (intro W hW; go_simp; try with_reducible rfl)
        simp only [Act.put, List.setIfInBounds_toArray, List.set_cons_zero, List.set_cons_succ]
        refine anyL_take 6 (v := ?_) rfl (by kernel_rfl) (fun _ _ _ h => h) (Or.inl ⟨by rfl, ?_⟩) hS ?_
        rotate_left
        focus (intro W hW; go_simp; try with_reducible rfl)
        simp only [Act.put, List.setIfInBounds_toArray, List.set_cons_zero, List.set_cons_succ]
        refine anyL_take 7 (v := ?_) rfl (by kernel_rfl) (fun _ _ _ h => h) (Or.inl ⟨by rfl, ?_⟩) hS ?_
        rotate_left
        focus (intro W hW; obtain ⟨b0, b1, b2⟩ := hW; go_simp; try with_reducible rfl)
        simp only [Act.put, List.setIfInBounds_toArray, List.set_cons_zero, List.set_cons_succ]
        refine anyL_take 8 (v := ?_) rfl (by kernel_rfl) (fun _ _ _ h => h) (Or.inl ⟨by rfl, ?_⟩) hS ?_
        rotate_left
        focus (intro W hW; go_simp; try with_reducible rfl)
        simp only [Act.put, List.setIfInBounds_toArray, List.set_cons_zero, List.set_cons_succ]
        refine anyL_one 9 rfl (by kernel_rfl) (fun K hK => ?_)
        go_simp
        refine (hwr.out _ hS3d.out).mono ?_
        rintro e' wd ⟨rfl, hP⟩
        have hS2 : (fun V => V.cell? ⟨p, 0, none⟩ = some (.pointer (some ⟨r, 0, none⟩)) ∧ V.cell? ⟨p, 1, none⟩ = some (.int .i64 ii) ∧ V.cell? ⟨p, 2, none⟩ = some (.int .i64 zi)) wd := by
          obtain ⟨K4, _, hS4, _⟩ := hS3d.out.of_rig hP
          exact hcell.out _ _ _ hS4
        refine hK.out _ _ (fun _ => hS2) ?_
        clear hK K
        try simp only [Act.put, List.setIfInBounds_toArray, List.set_cons_zero, List.set_cons_succ]
        refine anyL_take 10 (v := ?_) rfl (by kernel_rfl) (fun _ _ _ h => h) (Or.inl ⟨by rfl, ?_⟩) hS2 ?_
        rotate_left
        focus (intro W hW; go_simp; try with_reducible rfl)
        simp only [Act.put, List.setIfInBounds_toArray, List.set_cons_zero, List.set_cons_succ]
        refine anyC_done (by kernel_rfl) ?_ _
        clear hwr hS3
        have hP4 := hS3d.out.of_rig hP
        have hb3d := Lib.hid ((Below.refl W3.heap.size W3).drew)
        obtain ⟨K4, k4, hS4, hs4⟩ := hP4
        have hl4 := hS4.l
        have hfin := Lib.hid (((LPost.trans k4 hs4 (hS4.set 4 _ (hl4.put4 (L.u + (nb : Int))))).back hb3d.out).back hB3.out)
        obtain ⟨q0, q1, q2, q3, q4, q5, qf, -⟩ := hl4
        have qf4 := qf 4
        clear hS hS2 hP hS3d hS4 hs4 k4 hb3d hB3 hcell q0 q1 q2 q3 q5 qf
        go_wp2_with fail
        go_ret
        exact ⟨rfl, hfin.out⟩
      · have heb : (e1 != 0) = true := by simp [he]
        simp only [ne_eq, he, not_false_eq_true, if_true]
        clear he hwu
        go_enter Tryz.func12, Tryz.ntmps12
        go_wp2_with fail
        rw [← hW1]
        clear hW1
        refine hen.out.mono ?_
        rintro e W2 ⟨rfl, hb2⟩
        have hS2' := Lib.hid (hS1.out.grown hb2)
        have hB2 := Lib.hid (hB1.out.trans (hb2.mono hB1.out.size))
        clear hb2 hS1 hB1 hen
        go_wp2_with fail
        refine (hbo.out _).mono ?_
        rintro e W3 ⟨rfl, rfl⟩
        go_wp2_with fail
        refine (hle.out _ hS2'.out).mono ?_
        rintro e W3 ⟨rfl, hb3⟩
        have hS3 := Lib.hid (hS2'.out.grown hb3)
        have hB3 := Lib.hid (hB2.out.trans (hb3.mono hB2.out.size))
        have hS3d := Lib.hid (hS3.out.grown ((Below.refl W3.heap.size W3).drew))
        clear hb3 hS2' hB2 hle hbo
        go_upto_region 9 with fail
        refine region_anyC (fun _ => true) (fun V => V.cell? ⟨p, 0, none⟩ = some (.pointer (some ⟨r, 0, none⟩)) ∧ V.cell? ⟨p, 1, none⟩ = some (.int .i64 ii) ∧ V.cell? ⟨p, 2, none⟩ = some (.int .i64 zi)) (by kernel_rfl) ?_
        have hS : (fun V => V.cell? ⟨p, 0, none⟩ = some (.pointer (some ⟨r, 0, none⟩)) ∧ V.cell? ⟨p, 1, none⟩ = some (.int .i64 ii) ∧ V.cell? ⟨p, 2, none⟩ = some (.int .i64 zi)) W3.drew := hcell.out _ _ _ hS3d.out
        refine anyL_take 0 (v := ?_) rfl (by kernel_rfl) (fun _ _ _ h => h) (Or.inl ⟨by rfl, ?_⟩) hS ?_
        rotate_left
        focus (intro W hW; go_simp; try with_reducible rfl)
        simp only [Act.put, List.setIfInBounds_toArray, List.set_cons_zero, List.set_cons_succ]
        refine anyL_take 1 (v := ?_) rfl (by kernel_rfl) (fun _ _ _ h => h) (Or.inl ⟨by rfl, ?_⟩) hS ?_
        rotate_left
        focus (intro W hW; go_simp; try with_reducible rfl)
        simp only [Act.put, List.setIfInBounds_toArray, List.set_cons_zero, List.set_cons_succ]
        refine anyL_take 2 (v := ?_) rfl (by kernel_rfl) (fun _ _ _ h => h) (Or.inl ⟨by rfl, ?_⟩) hS ?_
        rotate_left
        focus (intro W hW; go_simp; try with_reducible rfl)
        simp only [Act.put, List.setIfInBounds_toArray, List.set_cons_zero, List.set_cons_succ]
        refine anyL_take 3 (v := ?_) rfl (by kernel_rfl) (fun _ _ _ h => h) (Or.inl ⟨by rfl, ?_⟩) hS ?_
        rotate_left
        focus (intro W hW; obtain ⟨b0, b1, b2⟩ := hW; go_simp; try with_reducible rfl)
        simp only [Act.put, List.setIfInBounds_toArray, List.set_cons_zero, List.set_cons_succ]
        refine anyL_take 4 (v := ?_) rfl (by kernel_rfl) (fun _ _ _ h => h) (Or.inl ⟨by rfl, ?_⟩) hS ?_
        rotate_left
        focus (intro W hW; go_simp; try with_reducible rfl)
        simp only [Act.put, List.setIfInBounds_toArray, List.set_cons_zero, List.set_cons_succ]
        refine anyL_take 5 (v := ?_) rfl (by kernel_rfl) (fun _ _ _ h => h) (Or.inl ⟨by rfl, ?_⟩) hS ?_
        rotate_left
        focus (intro W hW; go_simp; try with_reducible rfl)
        simp only [Act.put, List.setIfInBounds_toArray, List.set_cons_zero, List.set_cons_succ]
        refine anyL_take 6 (v := ?_) rfl (by kernel_rfl) (fun _ _ _ h => h) (Or.inl ⟨by rfl, ?_⟩) hS ?_
        rotate_left
        focus (intro W hW; go_simp; try with_reducible rfl)
        simp only [Act.put, List.setIfInBounds_toArray, List.set_cons_zero, List.set_cons_succ]
        refine anyL_take 7 (v := ?_) rfl (by kernel_rfl) (fun _ _ _ h => h) (Or.inl ⟨by rfl, ?_⟩) hS ?_
        rotate_left
        focus (intro W hW; obtain ⟨b0, b1, b2⟩ := hW; go_simp; try with_reducible rfl)
        simp only [Act.put, List.setIfInBounds_toArray, List.set_cons_zero, List.set_cons_succ]
        refine anyL_take 8 (v := ?_) rfl (by kernel_rfl) (fun _ _ _ h => h) (Or.inl ⟨by rfl, ?_⟩) hS ?_
        rotate_left
        focus (intro W hW; go_simp; try with_reducible rfl)
        simp only [Act.put, List.setIfInBounds_toArray, List.set_cons_zero, List.set_cons_succ]
        refine anyL_one 9 rfl (by kernel_rfl) (fun K hK => ?_)
        go_simp
        refine (hwr.out _ hS3d.out).mono ?_
        rintro e' wd ⟨rfl, hP⟩
        have hS2 : (fun V => V.cell? ⟨p, 0, none⟩ = some (.pointer (some ⟨r, 0, none⟩)) ∧ V.cell? ⟨p, 1, none⟩ = some (.int .i64 ii) ∧ V.cell? ⟨p, 2, none⟩ = some (.int .i64 zi)) wd := by
          obtain ⟨K4, _, hS4, _⟩ := hS3d.out.of_rig hP
          exact hcell.out _ _ _ hS4
        refine hK.out _ _ (fun _ => hS2) ?_
        clear hK K
        try simp only [Act.put, List.setIfInBounds_toArray, List.set_cons_zero, List.set_cons_succ]
        refine anyL_take 10 (v := ?_) rfl (by kernel_rfl) (fun _ _ _ h => h) (Or.inl ⟨by rfl, ?_⟩) hS2 ?_
        rotate_left
        focus (intro W hW; go_simp; try with_reducible rfl)
        simp only [Act.put, List.setIfInBounds_toArray, List.set_cons_zero, List.set_cons_succ]
        refine anyC_done (by kernel_rfl) ?_ _
        clear hwr hS3
        have hb3d := Lib.hid ((Below.refl W3.heap.size W3).drew)
        have hfin := Lib.hid (((hS3d.out.of_rig hP).back hb3d.out).back hB3.out)
        clear hS hS2 hP hS3d hb3d hB3 hcell
        go_wp2_with fail
        go_ret
        exact ⟨rfl, hfin.out⟩
  · have he1 : ¬ ([x] : List Rc).all okM = true := by simp [h0]
    rw [if_neg he1] at hen
    simp only [if_neg h0]
    clear he1 h0 hok hb hu
    go_enter Tryz.func12, Tryz.ntmps12
    go_wp2_with fail
    rw [← hW1]
    clear hW1
    refine hen.out.mono ?_
    rintro e W2 ⟨rfl, hb2⟩
    have hfin := Lib.hid ((hS1.out.none_ hb2).back hB1.out)
    clear hb2 hS1 hB1 hen
    go_wp2_with fail
    go_ret
    exact ⟨rfl, hfin.out⟩
end
end Go.Proofs.YtpmhfalhieinjaaGreatDoor
