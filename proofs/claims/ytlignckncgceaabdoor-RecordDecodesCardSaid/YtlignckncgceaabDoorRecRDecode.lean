/- What the reference's Decode does. -/
import Derived.Test.YtlignckncgceaabDoorRecRDecP
import Derived.Test.YtlignckncgceaabDoorRecRefE
import Derived.Test.YtlignckncgceaabDoorHeldMany
import Derived.Test.YtlignckncgceaabDoorRecApL
namespace Go.Proofs.YtlignckncgceaabDoor
open Go.RowKit Rec Crc Num

theorem refnum_any (s : ByteArray) (w : World) (hs : s.size ≤ maxLen) :
    Calls Tryd.prog 32 #[.string s] w fun e w' => e = .returned (.int .i64 (getN s)) ∧ w = w' := by
  have h := Lib.hid (fun W => refget_any s W hs)
  clear hs
  go_enter Tryd.func32, Tryd.ntmps32
  go_wp2_with (go_at_call 45; with_reducible refine (h.out _).mono ?_; rintro e w1 ⟨rfl, rfl⟩)
  go_ret
  exact ⟨rfl, rfl⟩

/-- The answer for a text of a block or more, whose record is known. -/
def rans (s : ByteArray) (R : Rc) : Rc × Int × Int :=
  if R.k = 4 ∧ s.size < 128 then (zeroR, 0, 10) else
    if encS R = ByteArray.empty then (zeroR, 0, 10) else if s.extract 0 21 ≠ (encS R).extract 0 21 then (zeroR, 0, 10) else if s.extract 25 64 ≠ (encS R).extract 25 64 then (zeroR, 0, 10) else
      if s.extract 21 25 ≠ (encS R).extract 21 25 then (zeroR, 0, 11) else (R, if R.k = 4 then 2 else 1, 0)
theorem dec_rans {s : ByteArray} (h1 : ¬ s = ⟨#[]⟩) (h2 : ¬ s.size < 64) : dec s = rans s (rrec s) := by
  rw [← rdec_dec]
  unfold rdec
  rw [if_neg h1, if_neg h2]
  rfl

set_option maxRecDepth 100000 in
set_option maxHeartbeats 16000000 in
theorem refdecode_any (s : ByteArray) (w : World) (hs : s.size ≤ maxLen) :
    Calls Tryd.prog 15 #[.string s] w fun e w' => e = .returned (.tuple #[.agg #[.int .i64 (dec s).1.k, .int .i64 (dec s).1.s, .int .i64 (dec s).1.a, .int .i64 (dec s).1.b, .int .i64 (dec s).1.c, .int .i64 (dec s).1.d, .string (dec s).1.body], .int .i64 (dec s).2.1, .int .i64 (dec s).2.2]) ∧ Below w.heap.size w w' := by
  have hBH := Lib.hid (show Below w.heap.size w (w.alloc (.cells #[.int .i64 0, .int .i64 0, .int .i64 0, .int .i64 0, .int .i64 0, .int .i64 0, .string ⟨#[]⟩] 31)) from (Below.refl _ _).alloc (Nat.le_refl _) _)
  have hPH := Lib.hid (show RcW (w.alloc (.cells #[.int .i64 0, .int .i64 0, .int .i64 0, .int .i64 0, .int .i64 0, .int .i64 0, .string ⟨#[]⟩] 31)) w.heap.size zeroR from RcW.new w zeroR 31)
  by_cases he : s = ⟨#[]⟩
  case pos =>
    have hd : dec s = (zeroR, 0, 13) := by rw [← rdec_dec]; unfold rdec; rw [if_pos he]
    rw [hd, he]
    clear hd he hs hPH
    go_enter Tryd.func15, Tryd.ntmps15
    go_wp2_with fail
    refine bodyPost_ret (v := .tuple #[.agg #[.int .i64 0, .int .i64 0, .int .i64 0, .int .i64 0, .int .i64 0, .int .i64 0, .string ⟨#[]⟩], .int .i64 0, .int .i64 13]) (by simp [results, Tryd.results15, go_sem]) rfl ⟨rfl, ?_⟩
    exact hBH.out
  obtain ⟨he1, he2⟩ := not_empty_of (full_of he)
  by_cases h64 : s.size < 64
  case pos =>
    have hd : dec s = (zeroR, 0, 10) := by rw [← rdec_dec]; unfold rdec; rw [if_neg he, if_pos h64]
    rw [hd]
    have h64' : (s.size : Int) < 64 := by omega
    clear hd he h64 hs hPH
    go_enter Tryd.func15, Tryd.ntmps15
    go_wp2_with fail
    refine bodyPost_ret (v := .tuple #[.agg #[.int .i64 0, .int .i64 0, .int .i64 0, .int .i64 0, .int .i64 0, .int .i64 0, .string ⟨#[]⟩], .int .i64 0, .int .i64 10]) (by simp [results, Tryd.results15, go_sem]) rfl ⟨rfl, ?_⟩
    exact hBH.out
  obtain ⟨ans, hans⟩ : ∃ a, a = rans s (rrec s) := ⟨_, rfl⟩
  rw [dec_rans he h64, ← hans]
  clear he
  have h64' : ¬ (s.size : Int) < 64 := by omega
  have h64b : 64 ≤ s.size := by omega
  have b3 : 3 ≤ s.size := by omega
  have bi3 : (3 : Int) ≤ (s.size : Int) := by omega
  have b9 : 9 ≤ s.size := by omega
  have bi9 : (9 : Int) ≤ (s.size : Int) := by omega
  have b11 : 11 ≤ s.size := by omega
  have bi11 : (11 : Int) ≤ (s.size : Int) := by omega
  have b13 : 13 ≤ s.size := by omega
  have bi13 : (13 : Int) ≤ (s.size : Int) := by omega
  have b19 : 19 ≤ s.size := by omega
  have bi19 : (19 : Int) ≤ (s.size : Int) := by omega
  have b21 : 21 ≤ s.size := by omega
  have bi21 : (21 : Int) ≤ (s.size : Int) := by omega
  have b25 : 25 ≤ s.size := by omega
  have bi25 : (25 : Int) ≤ (s.size : Int) := by omega
  have bi64 : (64 : Int) ≤ (s.size : Int) := by omega
  have f0 := Lib.hid (fun W => refnum_any (s.extract 2 3) W (by rw [ByteArray.size_extract]; unfold maxLen at hs ⊢; omega))
  have f1 := Lib.hid (fun W => refnum_any (s.extract 3 9) W (by rw [ByteArray.size_extract]; unfold maxLen at hs ⊢; omega))
  have f2 := Lib.hid (fun W => refnum_any (s.extract 9 11) W (by rw [ByteArray.size_extract]; unfold maxLen at hs ⊢; omega))
  have f3 := Lib.hid (fun W => refnum_any (s.extract 11 13) W (by rw [ByteArray.size_extract]; unfold maxLen at hs ⊢; omega))
  have f4 := Lib.hid (fun W => refnum_any (s.extract 13 19) W (by rw [ByteArray.size_extract]; unfold maxLen at hs ⊢; omega))
  have f5 := Lib.hid (fun W => refnum_any (s.extract 19 21) W (by rw [ByteArray.size_extract]; unfold maxLen at hs ⊢; omega))
  have hnr : numsR s 6 = ⟨getN (s.extract 2 3), getN (s.extract 3 9), getN (s.extract 9 11), getN (s.extract 11 13), getN (s.extract 13 19), getN (s.extract 19 21), ⟨#[]⟩⟩ := rfl
  unfold rrec rbody at hans
  rw [hnr] at hans
  clear hnr hs h64
  generalize getN (s.extract 2 3) = n0 at f0 hans
  generalize getN (s.extract 3 9) = n1 at f1 hans
  generalize getN (s.extract 9 11) = n2 at f2 hans
  generalize getN (s.extract 11 13) = n3 at f3 hans
  generalize getN (s.extract 13 19) = n4 at f4 hans
  generalize getN (s.extract 19 21) = n5 at f5 hans
  dsimp only at hans
  have hansH := Lib.hid hans
  clear hans
  go_enter Tryd.func15, Tryd.ntmps15
  go_upto_region 5 with fail
  go_cut [5] (fun s5 wx => ∃ B : Nat, s5 = .pointer (some ⟨B, 0, none⟩) ∧ B ≠ w.heap.size ∧ w.heap.size ≤ B ∧ RcW wx B ⟨n0, n1, n2, n3, n4, n5, ⟨#[]⟩⟩ ∧ RcW wx w.heap.size zeroR ∧ Below w.heap.size w wx)
  case first =>
    generalize hW1e : w.alloc (.cells #[.int .i64 0, .int .i64 0, .int .i64 0, .int .i64 0, .int .i64 0, .int .i64 0, .string ⟨#[]⟩] 31) = W1 at hBH hPH ⊢
    have hW1s : w.heap.size < W1.heap.size := by rw [← hW1e]; simp
    clear hW1e
    refine region_anyC (fun _ => true) (fun W => Below W1.heap.size W1 W) (by kernel_rfl) ?_
    have hS5 : Below W1.heap.size W1 W1.drew := (Below.refl _ _).drew
    refine anyL_take 0 (v := ?_) rfl (by kernel_rfl) (fun _ _ _ h => h) (Or.inl ⟨by rfl, ?_⟩) hS5 ?_
    rotate_left
    focus (intro W hW; go_simp; try with_reducible rfl)
    simp only [Act.put, List.setIfInBounds_toArray, List.set_cons_zero, List.set_cons_succ]
    refine anyL_take 1 (v := ?_) rfl (by kernel_rfl) (fun _ _ _ h => h) (Or.inl ⟨by rfl, ?_⟩) hS5 ?_
    rotate_left
    focus (intro W hW; go_simp; try with_reducible rfl)
    simp only [Act.put, List.setIfInBounds_toArray, List.set_cons_zero, List.set_cons_succ]
    refine anyL_take 3 (v := ?_) rfl (by kernel_rfl) (fun _ _ _ h => h) (Or.inl ⟨by rfl, ?_⟩) hS5 ?_
    rotate_left
    focus (intro W hW; go_simp; try with_reducible rfl)
    simp only [Act.put, List.setIfInBounds_toArray, List.set_cons_zero, List.set_cons_succ]
    refine anyL_take 4 (v := ?_) rfl (by kernel_rfl) (fun _ _ _ h => h) (Or.inl ⟨by rfl, ?_⟩) hS5 ?_
    rotate_left
    focus (intro W hW; go_simp; try with_reducible rfl)
    simp only [Act.put, List.setIfInBounds_toArray, List.set_cons_zero, List.set_cons_succ]
    refine anyL_take 6 (v := ?_) rfl (by kernel_rfl) (fun _ _ _ h => h) (Or.inl ⟨by rfl, ?_⟩) hS5 ?_
    rotate_left
    focus (intro W hW; go_simp; try with_reducible rfl)
    simp only [Act.put, List.setIfInBounds_toArray, List.set_cons_zero, List.set_cons_succ]
    refine anyL_take 7 (v := ?_) rfl (by kernel_rfl) (fun _ _ _ h => h) (Or.inl ⟨by rfl, ?_⟩) hS5 ?_
    rotate_left
    focus (intro W hW; go_simp; try with_reducible rfl)
    simp only [Act.put, List.setIfInBounds_toArray, List.set_cons_zero, List.set_cons_succ]
    refine anyL_take 9 (v := ?_) rfl (by kernel_rfl) (fun _ _ _ h => h) (Or.inl ⟨by rfl, ?_⟩) hS5 ?_
    rotate_left
    focus (intro W hW; go_simp; try with_reducible rfl)
    simp only [Act.put, List.setIfInBounds_toArray, List.set_cons_zero, List.set_cons_succ]
    refine anyL_take 10 (v := ?_) rfl (by kernel_rfl) (fun _ _ _ h => h) (Or.inl ⟨by rfl, ?_⟩) hS5 ?_
    rotate_left
    focus (intro W hW; go_simp; try with_reducible rfl)
    simp only [Act.put, List.setIfInBounds_toArray, List.set_cons_zero, List.set_cons_succ]
    refine anyL_take 12 (v := ?_) rfl (by kernel_rfl) (fun _ _ _ h => h) (Or.inl ⟨by rfl, ?_⟩) hS5 ?_
    rotate_left
    focus (intro W hW; go_simp; try with_reducible rfl)
    simp only [Act.put, List.setIfInBounds_toArray, List.set_cons_zero, List.set_cons_succ]
    refine anyL_take 13 (v := ?_) rfl (by kernel_rfl) (fun _ _ _ h => h) (Or.inl ⟨by rfl, ?_⟩) hS5 ?_
    rotate_left
    focus (intro W hW; go_simp; try with_reducible rfl)
    simp only [Act.put, List.setIfInBounds_toArray, List.set_cons_zero, List.set_cons_succ]
    refine anyL_take 15 (v := ?_) rfl (by kernel_rfl) (fun _ _ _ h => h) (Or.inl ⟨by rfl, ?_⟩) hS5 ?_
    rotate_left
    focus (intro W hW; go_simp; try with_reducible rfl)
    simp only [Act.put, List.setIfInBounds_toArray, List.set_cons_zero, List.set_cons_succ]
    refine anyL_take 16 (v := ?_) rfl (by kernel_rfl) (fun _ _ _ h => h) (Or.inl ⟨by rfl, ?_⟩) hS5 ?_
    rotate_left
    focus (intro W hW; go_simp; try with_reducible rfl)
    simp only [Act.put, List.setIfInBounds_toArray, List.set_cons_zero, List.set_cons_succ]
    refine fresh_anyC (fun W => Below W1.heap.size W1 W) hS5 ?_
    clear hS5
    rintro U0 hS
    refine anyL_two 2 19 rfl rfl (by kernel_rfl) (fun K hK => ?_) (fun K hK => ?_)
    · go_simp
      refine (f0.out _).mono ?_
      rintro e' v ⟨rfl, rfl⟩
      refine hK.out _ _ (fun _ => hS) ?_
      clear hK K
      try simp only [Act.put, List.setIfInBounds_toArray, List.set_cons_zero, List.set_cons_succ]
      refine anyL_two 5 19 rfl rfl (by kernel_rfl) (fun K hK => ?_) (fun K hK => ?_)
      · go_simp
        refine (f1.out _).mono ?_
        rintro e' v ⟨rfl, rfl⟩
        refine hK.out _ _ (fun _ => hS) ?_
        clear hK K
        try simp only [Act.put, List.setIfInBounds_toArray, List.set_cons_zero, List.set_cons_succ]
        refine anyL_two 8 19 rfl rfl (by kernel_rfl) (fun K hK => ?_) (fun K hK => ?_)
        · go_simp
          refine (f2.out _).mono ?_
          rintro e' v ⟨rfl, rfl⟩
          refine hK.out _ _ (fun _ => hS) ?_
          clear hK K
          try simp only [Act.put, List.setIfInBounds_toArray, List.set_cons_zero, List.set_cons_succ]
          refine anyL_two 11 19 rfl rfl (by kernel_rfl) (fun K hK => ?_) (fun K hK => ?_)
          · go_simp
            refine (f3.out _).mono ?_
            rintro e' v ⟨rfl, rfl⟩
            refine hK.out _ _ (fun _ => hS) ?_
            clear hK K
            try simp only [Act.put, List.setIfInBounds_toArray, List.set_cons_zero, List.set_cons_succ]
            refine anyL_two 14 19 rfl rfl (by kernel_rfl) (fun K hK => ?_) (fun K hK => ?_)
            · go_simp
              refine (f4.out _).mono ?_
              rintro e' v ⟨rfl, rfl⟩
              refine hK.out _ _ (fun _ => hS) ?_
              clear hK K
              try simp only [Act.put, List.setIfInBounds_toArray, List.set_cons_zero, List.set_cons_succ]
              refine anyL_two 17 19 rfl rfl (by kernel_rfl) (fun K hK => ?_) (fun K hK => ?_)
              · go_simp
                refine (f5.out _).mono ?_
                rintro e' v ⟨rfl, rfl⟩
                refine hK.out _ _ (fun _ => hS) ?_
                clear hK K
                try simp only [Act.put, List.setIfInBounds_toArray, List.set_cons_zero, List.set_cons_succ]
                refine anyL_take 18 (v := ?_) rfl (by kernel_rfl) (fun _ _ _ h => h) (Or.inl ⟨by rfl, ?_⟩) hS ?_
                rotate_left
                focus (intro W hW; go_simp; try with_reducible rfl)
                simp only [Act.put, List.setIfInBounds_toArray, List.set_cons_zero, List.set_cons_succ]
                refine anyL_one 19 rfl (by kernel_rfl) (fun K hK => ?_)
                go_simp
                refine hK.out _ _ (fun _ => hS.alloc hS.size _) ?_
                clear hK K
                try simp only [Act.put, List.setIfInBounds_toArray, List.set_cons_zero, List.set_cons_succ]
                have g5 := hS.size
                have a5 := RcW.new U0 zeroR 31
                refine fresh_anyC (fun W => Below W1.heap.size W1 W ∧ RcW W (U0).heap.size zeroR) ⟨hS.alloc hS.size _, a5⟩ ?_
                clear a5 hS
                generalize (U0).heap.size = B5 at g5 ⊢
                rintro U1 ⟨hS, h5⟩
                obtain ⟨d0, d1, d2, d3, d4, d5, d6⟩ := h5.at_
                have z0 := h5.fr 0; have z1 := h5.fr 1; have z2 := h5.fr 2; have z3 := h5.fr 3; have z4 := h5.fr 4; have z5 := h5.fr 5; have z6 := h5.fr 6
                refine anyL_one 20 rfl (by kernel_rfl) (fun K hK => ?_)
                go_simp
                refine hK.out _ _ (fun _ => below_setAll hS g5 ⟨n0, n1, n2, n3, n4, n5, ⟨#[]⟩⟩) ?_
                clear hK K
                try simp only [Act.put, List.setIfInBounds_toArray, List.set_cons_zero, List.set_cons_succ]
                refine anyC_done (by kernel_rfl) ?_ _
                clear d0 d1 d2 d3 d4 d5 d6 z0 z1 z2 z3 z4 z5 z6
                refine fresh_cut (fun W => RcW W B5 ⟨n0, n1, n2, n3, n4, n5, ⟨#[]⟩⟩ ∧ RcW W w.heap.size zeroR ∧ Below w.heap.size w W) ⟨h5.all ⟨n0, n1, n2, n3, n4, n5, ⟨#[]⟩⟩, (hPH.out.below hS).farAll (Nat.ne_of_gt (Nat.lt_of_lt_of_le hW1s g5)) ⟨n0, n1, n2, n3, n4, n5, ⟨#[]⟩⟩, hBH.out.trans ((below_setAll hS g5 ⟨n0, n1, n2, n3, n4, n5, ⟨#[]⟩⟩).mono (Nat.le_of_lt hW1s))⟩ ?_
                have gB : B5 ≠ w.heap.size ∧ w.heap.size ≤ B5 := by omega
                clear h5 hS
                rintro U6 ⟨h5, h6, h7⟩
                go_wp2_with fail
                go_meet
                exact ⟨B5, rfl, gB.1, gB.2, h5, h6, h7⟩
              · go_simp
                refine hK.out _ _ (fun _ => hS.alloc hS.size _) ?_
                clear hK K
                try simp only [Act.put, List.setIfInBounds_toArray, List.set_cons_zero, List.set_cons_succ]
                have g5 := hS.size
                have a5 := RcW.new U0 zeroR 31
                refine fresh_anyC (fun W => Below W1.heap.size W1 W ∧ RcW W (U0).heap.size zeroR) ⟨hS.alloc hS.size _, a5⟩ ?_
                clear a5 hS
                generalize (U0).heap.size = B5 at g5 ⊢
                rintro U1 ⟨hS, h5⟩
                refine anyL_one 17 rfl (by kernel_rfl) (fun K hK => ?_)
                go_simp
                refine (f5.out _).mono ?_
                rintro e' v ⟨rfl, rfl⟩
                refine hK.out _ _ (fun _ => hS) ?_
                clear hK K
                try simp only [Act.put, List.setIfInBounds_toArray, List.set_cons_zero, List.set_cons_succ]
                refine anyL_take 18 (v := ?_) rfl (by kernel_rfl) (fun _ _ _ h => h) (Or.inl ⟨by rfl, ?_⟩) hS ?_
                rotate_left
                focus (intro W hW; go_simp; try with_reducible rfl)
                simp only [Act.put, List.setIfInBounds_toArray, List.set_cons_zero, List.set_cons_succ]
                obtain ⟨d0, d1, d2, d3, d4, d5, d6⟩ := h5.at_
                have z0 := h5.fr 0; have z1 := h5.fr 1; have z2 := h5.fr 2; have z3 := h5.fr 3; have z4 := h5.fr 4; have z5 := h5.fr 5; have z6 := h5.fr 6
                refine anyL_one 20 rfl (by kernel_rfl) (fun K hK => ?_)
                go_simp
                refine hK.out _ _ (fun _ => below_setAll hS g5 ⟨n0, n1, n2, n3, n4, n5, ⟨#[]⟩⟩) ?_
                clear hK K
                try simp only [Act.put, List.setIfInBounds_toArray, List.set_cons_zero, List.set_cons_succ]
                refine anyC_done (by kernel_rfl) ?_ _
                clear d0 d1 d2 d3 d4 d5 d6 z0 z1 z2 z3 z4 z5 z6
                refine fresh_cut (fun W => RcW W B5 ⟨n0, n1, n2, n3, n4, n5, ⟨#[]⟩⟩ ∧ RcW W w.heap.size zeroR ∧ Below w.heap.size w W) ⟨h5.all ⟨n0, n1, n2, n3, n4, n5, ⟨#[]⟩⟩, (hPH.out.below hS).farAll (Nat.ne_of_gt (Nat.lt_of_lt_of_le hW1s g5)) ⟨n0, n1, n2, n3, n4, n5, ⟨#[]⟩⟩, hBH.out.trans ((below_setAll hS g5 ⟨n0, n1, n2, n3, n4, n5, ⟨#[]⟩⟩).mono (Nat.le_of_lt hW1s))⟩ ?_
                have gB : B5 ≠ w.heap.size ∧ w.heap.size ≤ B5 := by omega
                clear h5 hS
                rintro U6 ⟨h5, h6, h7⟩
                go_wp2_with fail
                go_meet
                exact ⟨B5, rfl, gB.1, gB.2, h5, h6, h7⟩
            · go_simp
              refine hK.out _ _ (fun _ => hS.alloc hS.size _) ?_
              clear hK K
              try simp only [Act.put, List.setIfInBounds_toArray, List.set_cons_zero, List.set_cons_succ]
              have g5 := hS.size
              have a5 := RcW.new U0 zeroR 31
              refine fresh_anyC (fun W => Below W1.heap.size W1 W ∧ RcW W (U0).heap.size zeroR) ⟨hS.alloc hS.size _, a5⟩ ?_
              clear a5 hS
              generalize (U0).heap.size = B5 at g5 ⊢
              rintro U1 ⟨hS, h5⟩
              refine anyL_one 14 rfl (by kernel_rfl) (fun K hK => ?_)
              go_simp
              refine (f4.out _).mono ?_
              rintro e' v ⟨rfl, rfl⟩
              refine hK.out _ _ (fun _ => hS) ?_
              clear hK K
              try simp only [Act.put, List.setIfInBounds_toArray, List.set_cons_zero, List.set_cons_succ]
              refine anyL_one 17 rfl (by kernel_rfl) (fun K hK => ?_)
              go_simp
              refine (f5.out _).mono ?_
              rintro e' v ⟨rfl, rfl⟩
              refine hK.out _ _ (fun _ => hS) ?_
              clear hK K
              try simp only [Act.put, List.setIfInBounds_toArray, List.set_cons_zero, List.set_cons_succ]
              refine anyL_take 18 (v := ?_) rfl (by kernel_rfl) (fun _ _ _ h => h) (Or.inl ⟨by rfl, ?_⟩) hS ?_
              rotate_left
              focus (intro W hW; go_simp; try with_reducible rfl)
              simp only [Act.put, List.setIfInBounds_toArray, List.set_cons_zero, List.set_cons_succ]
              obtain ⟨d0, d1, d2, d3, d4, d5, d6⟩ := h5.at_
              have z0 := h5.fr 0; have z1 := h5.fr 1; have z2 := h5.fr 2; have z3 := h5.fr 3; have z4 := h5.fr 4; have z5 := h5.fr 5; have z6 := h5.fr 6
              refine anyL_one 20 rfl (by kernel_rfl) (fun K hK => ?_)
              go_simp
              refine hK.out _ _ (fun _ => below_setAll hS g5 ⟨n0, n1, n2, n3, n4, n5, ⟨#[]⟩⟩) ?_
              clear hK K
              try simp only [Act.put, List.setIfInBounds_toArray, List.set_cons_zero, List.set_cons_succ]
              refine anyC_done (by kernel_rfl) ?_ _
              clear d0 d1 d2 d3 d4 d5 d6 z0 z1 z2 z3 z4 z5 z6
              refine fresh_cut (fun W => RcW W B5 ⟨n0, n1, n2, n3, n4, n5, ⟨#[]⟩⟩ ∧ RcW W w.heap.size zeroR ∧ Below w.heap.size w W) ⟨h5.all ⟨n0, n1, n2, n3, n4, n5, ⟨#[]⟩⟩, (hPH.out.below hS).farAll (Nat.ne_of_gt (Nat.lt_of_lt_of_le hW1s g5)) ⟨n0, n1, n2, n3, n4, n5, ⟨#[]⟩⟩, hBH.out.trans ((below_setAll hS g5 ⟨n0, n1, n2, n3, n4, n5, ⟨#[]⟩⟩).mono (Nat.le_of_lt hW1s))⟩ ?_
              have gB : B5 ≠ w.heap.size ∧ w.heap.size ≤ B5 := by omega
              clear h5 hS
              rintro U6 ⟨h5, h6, h7⟩
              go_wp2_with fail
              go_meet
              exact ⟨B5, rfl, gB.1, gB.2, h5, h6, h7⟩
          · go_simp
            refine hK.out _ _ (fun _ => hS.alloc hS.size _) ?_
            clear hK K
            try simp only [Act.put, List.setIfInBounds_toArray, List.set_cons_zero, List.set_cons_succ]
            have g5 := hS.size
            have a5 := RcW.new U0 zeroR 31
            refine fresh_anyC (fun W => Below W1.heap.size W1 W ∧ RcW W (U0).heap.size zeroR) ⟨hS.alloc hS.size _, a5⟩ ?_
            clear a5 hS
            generalize (U0).heap.size = B5 at g5 ⊢
            rintro U1 ⟨hS, h5⟩
            refine anyL_one 11 rfl (by kernel_rfl) (fun K hK => ?_)
            go_simp
            refine (f3.out _).mono ?_
            rintro e' v ⟨rfl, rfl⟩
            refine hK.out _ _ (fun _ => hS) ?_
            clear hK K
            try simp only [Act.put, List.setIfInBounds_toArray, List.set_cons_zero, List.set_cons_succ]
            refine anyL_one 14 rfl (by kernel_rfl) (fun K hK => ?_)
            go_simp
            refine (f4.out _).mono ?_
            rintro e' v ⟨rfl, rfl⟩
            refine hK.out _ _ (fun _ => hS) ?_
            clear hK K
            try simp only [Act.put, List.setIfInBounds_toArray, List.set_cons_zero, List.set_cons_succ]
            refine anyL_one 17 rfl (by kernel_rfl) (fun K hK => ?_)
            go_simp
            refine (f5.out _).mono ?_
            rintro e' v ⟨rfl, rfl⟩
            refine hK.out _ _ (fun _ => hS) ?_
            clear hK K
            try simp only [Act.put, List.setIfInBounds_toArray, List.set_cons_zero, List.set_cons_succ]
            refine anyL_take 18 (v := ?_) rfl (by kernel_rfl) (fun _ _ _ h => h) (Or.inl ⟨by rfl, ?_⟩) hS ?_
            rotate_left
            focus (intro W hW; go_simp; try with_reducible rfl)
            simp only [Act.put, List.setIfInBounds_toArray, List.set_cons_zero, List.set_cons_succ]
            obtain ⟨d0, d1, d2, d3, d4, d5, d6⟩ := h5.at_
            have z0 := h5.fr 0; have z1 := h5.fr 1; have z2 := h5.fr 2; have z3 := h5.fr 3; have z4 := h5.fr 4; have z5 := h5.fr 5; have z6 := h5.fr 6
            refine anyL_one 20 rfl (by kernel_rfl) (fun K hK => ?_)
            go_simp
            refine hK.out _ _ (fun _ => below_setAll hS g5 ⟨n0, n1, n2, n3, n4, n5, ⟨#[]⟩⟩) ?_
            clear hK K
            try simp only [Act.put, List.setIfInBounds_toArray, List.set_cons_zero, List.set_cons_succ]
            refine anyC_done (by kernel_rfl) ?_ _
            clear d0 d1 d2 d3 d4 d5 d6 z0 z1 z2 z3 z4 z5 z6
            refine fresh_cut (fun W => RcW W B5 ⟨n0, n1, n2, n3, n4, n5, ⟨#[]⟩⟩ ∧ RcW W w.heap.size zeroR ∧ Below w.heap.size w W) ⟨h5.all ⟨n0, n1, n2, n3, n4, n5, ⟨#[]⟩⟩, (hPH.out.below hS).farAll (Nat.ne_of_gt (Nat.lt_of_lt_of_le hW1s g5)) ⟨n0, n1, n2, n3, n4, n5, ⟨#[]⟩⟩, hBH.out.trans ((below_setAll hS g5 ⟨n0, n1, n2, n3, n4, n5, ⟨#[]⟩⟩).mono (Nat.le_of_lt hW1s))⟩ ?_
            have gB : B5 ≠ w.heap.size ∧ w.heap.size ≤ B5 := by omega
            clear h5 hS
            rintro U6 ⟨h5, h6, h7⟩
            go_wp2_with fail
            go_meet
            exact ⟨B5, rfl, gB.1, gB.2, h5, h6, h7⟩
        · go_simp
          refine hK.out _ _ (fun _ => hS.alloc hS.size _) ?_
          clear hK K
          try simp only [Act.put, List.setIfInBounds_toArray, List.set_cons_zero, List.set_cons_succ]
          have g5 := hS.size
          have a5 := RcW.new U0 zeroR 31
          refine fresh_anyC (fun W => Below W1.heap.size W1 W ∧ RcW W (U0).heap.size zeroR) ⟨hS.alloc hS.size _, a5⟩ ?_
          clear a5 hS
          generalize (U0).heap.size = B5 at g5 ⊢
          rintro U1 ⟨hS, h5⟩
          refine anyL_one 8 rfl (by kernel_rfl) (fun K hK => ?_)
          go_simp
          refine (f2.out _).mono ?_
          rintro e' v ⟨rfl, rfl⟩
          refine hK.out _ _ (fun _ => hS) ?_
          clear hK K
          try simp only [Act.put, List.setIfInBounds_toArray, List.set_cons_zero, List.set_cons_succ]
          refine anyL_one 11 rfl (by kernel_rfl) (fun K hK => ?_)
          go_simp
          refine (f3.out _).mono ?_
          rintro e' v ⟨rfl, rfl⟩
          refine hK.out _ _ (fun _ => hS) ?_
          clear hK K
          try simp only [Act.put, List.setIfInBounds_toArray, List.set_cons_zero, List.set_cons_succ]
          refine anyL_one 14 rfl (by kernel_rfl) (fun K hK => ?_)
          go_simp
          refine (f4.out _).mono ?_
          rintro e' v ⟨rfl, rfl⟩
          refine hK.out _ _ (fun _ => hS) ?_
          clear hK K
          try simp only [Act.put, List.setIfInBounds_toArray, List.set_cons_zero, List.set_cons_succ]
          refine anyL_one 17 rfl (by kernel_rfl) (fun K hK => ?_)
          go_simp
          refine (f5.out _).mono ?_
          rintro e' v ⟨rfl, rfl⟩
          refine hK.out _ _ (fun _ => hS) ?_
          clear hK K
          try simp only [Act.put, List.setIfInBounds_toArray, List.set_cons_zero, List.set_cons_succ]
          refine anyL_take 18 (v := ?_) rfl (by kernel_rfl) (fun _ _ _ h => h) (Or.inl ⟨by rfl, ?_⟩) hS ?_
          rotate_left
          focus (intro W hW; go_simp; try with_reducible rfl)
          simp only [Act.put, List.setIfInBounds_toArray, List.set_cons_zero, List.set_cons_succ]
          obtain ⟨d0, d1, d2, d3, d4, d5, d6⟩ := h5.at_
          have z0 := h5.fr 0; have z1 := h5.fr 1; have z2 := h5.fr 2; have z3 := h5.fr 3; have z4 := h5.fr 4; have z5 := h5.fr 5; have z6 := h5.fr 6
          refine anyL_one 20 rfl (by kernel_rfl) (fun K hK => ?_)
          go_simp
          refine hK.out _ _ (fun _ => below_setAll hS g5 ⟨n0, n1, n2, n3, n4, n5, ⟨#[]⟩⟩) ?_
          clear hK K
          try simp only [Act.put, List.setIfInBounds_toArray, List.set_cons_zero, List.set_cons_succ]
          refine anyC_done (by kernel_rfl) ?_ _
          clear d0 d1 d2 d3 d4 d5 d6 z0 z1 z2 z3 z4 z5 z6
          refine fresh_cut (fun W => RcW W B5 ⟨n0, n1, n2, n3, n4, n5, ⟨#[]⟩⟩ ∧ RcW W w.heap.size zeroR ∧ Below w.heap.size w W) ⟨h5.all ⟨n0, n1, n2, n3, n4, n5, ⟨#[]⟩⟩, (hPH.out.below hS).farAll (Nat.ne_of_gt (Nat.lt_of_lt_of_le hW1s g5)) ⟨n0, n1, n2, n3, n4, n5, ⟨#[]⟩⟩, hBH.out.trans ((below_setAll hS g5 ⟨n0, n1, n2, n3, n4, n5, ⟨#[]⟩⟩).mono (Nat.le_of_lt hW1s))⟩ ?_
          have gB : B5 ≠ w.heap.size ∧ w.heap.size ≤ B5 := by omega
          clear h5 hS
          rintro U6 ⟨h5, h6, h7⟩
          go_wp2_with fail
          go_meet
          exact ⟨B5, rfl, gB.1, gB.2, h5, h6, h7⟩
      · go_simp
        refine hK.out _ _ (fun _ => hS.alloc hS.size _) ?_
        clear hK K
        try simp only [Act.put, List.setIfInBounds_toArray, List.set_cons_zero, List.set_cons_succ]
        have g5 := hS.size
        have a5 := RcW.new U0 zeroR 31
        refine fresh_anyC (fun W => Below W1.heap.size W1 W ∧ RcW W (U0).heap.size zeroR) ⟨hS.alloc hS.size _, a5⟩ ?_
        clear a5 hS
        generalize (U0).heap.size = B5 at g5 ⊢
        rintro U1 ⟨hS, h5⟩
        refine anyL_one 5 rfl (by kernel_rfl) (fun K hK => ?_)
        go_simp
        refine (f1.out _).mono ?_
        rintro e' v ⟨rfl, rfl⟩
        refine hK.out _ _ (fun _ => hS) ?_
        clear hK K
        try simp only [Act.put, List.setIfInBounds_toArray, List.set_cons_zero, List.set_cons_succ]
        refine anyL_one 8 rfl (by kernel_rfl) (fun K hK => ?_)
        go_simp
        refine (f2.out _).mono ?_
        rintro e' v ⟨rfl, rfl⟩
        refine hK.out _ _ (fun _ => hS) ?_
        clear hK K
        try simp only [Act.put, List.setIfInBounds_toArray, List.set_cons_zero, List.set_cons_succ]
        refine anyL_one 11 rfl (by kernel_rfl) (fun K hK => ?_)
        go_simp
        refine (f3.out _).mono ?_
        rintro e' v ⟨rfl, rfl⟩
        refine hK.out _ _ (fun _ => hS) ?_
        clear hK K
        try simp only [Act.put, List.setIfInBounds_toArray, List.set_cons_zero, List.set_cons_succ]
        refine anyL_one 14 rfl (by kernel_rfl) (fun K hK => ?_)
        go_simp
        refine (f4.out _).mono ?_
        rintro e' v ⟨rfl, rfl⟩
        refine hK.out _ _ (fun _ => hS) ?_
        clear hK K
        try simp only [Act.put, List.setIfInBounds_toArray, List.set_cons_zero, List.set_cons_succ]
        refine anyL_one 17 rfl (by kernel_rfl) (fun K hK => ?_)
        go_simp
        refine (f5.out _).mono ?_
        rintro e' v ⟨rfl, rfl⟩
        refine hK.out _ _ (fun _ => hS) ?_
        clear hK K
        try simp only [Act.put, List.setIfInBounds_toArray, List.set_cons_zero, List.set_cons_succ]
        refine anyL_take 18 (v := ?_) rfl (by kernel_rfl) (fun _ _ _ h => h) (Or.inl ⟨by rfl, ?_⟩) hS ?_
        rotate_left
        focus (intro W hW; go_simp; try with_reducible rfl)
        simp only [Act.put, List.setIfInBounds_toArray, List.set_cons_zero, List.set_cons_succ]
        obtain ⟨d0, d1, d2, d3, d4, d5, d6⟩ := h5.at_
        have z0 := h5.fr 0; have z1 := h5.fr 1; have z2 := h5.fr 2; have z3 := h5.fr 3; have z4 := h5.fr 4; have z5 := h5.fr 5; have z6 := h5.fr 6
        refine anyL_one 20 rfl (by kernel_rfl) (fun K hK => ?_)
        go_simp
        refine hK.out _ _ (fun _ => below_setAll hS g5 ⟨n0, n1, n2, n3, n4, n5, ⟨#[]⟩⟩) ?_
        clear hK K
        try simp only [Act.put, List.setIfInBounds_toArray, List.set_cons_zero, List.set_cons_succ]
        refine anyC_done (by kernel_rfl) ?_ _
        clear d0 d1 d2 d3 d4 d5 d6 z0 z1 z2 z3 z4 z5 z6
        refine fresh_cut (fun W => RcW W B5 ⟨n0, n1, n2, n3, n4, n5, ⟨#[]⟩⟩ ∧ RcW W w.heap.size zeroR ∧ Below w.heap.size w W) ⟨h5.all ⟨n0, n1, n2, n3, n4, n5, ⟨#[]⟩⟩, (hPH.out.below hS).farAll (Nat.ne_of_gt (Nat.lt_of_lt_of_le hW1s g5)) ⟨n0, n1, n2, n3, n4, n5, ⟨#[]⟩⟩, hBH.out.trans ((below_setAll hS g5 ⟨n0, n1, n2, n3, n4, n5, ⟨#[]⟩⟩).mono (Nat.le_of_lt hW1s))⟩ ?_
        have gB : B5 ≠ w.heap.size ∧ w.heap.size ≤ B5 := by omega
        clear h5 hS
        rintro U6 ⟨h5, h6, h7⟩
        go_wp2_with fail
        go_meet
        exact ⟨B5, rfl, gB.1, gB.2, h5, h6, h7⟩
    · go_simp
      refine hK.out _ _ (fun _ => hS.alloc hS.size _) ?_
      clear hK K
      try simp only [Act.put, List.setIfInBounds_toArray, List.set_cons_zero, List.set_cons_succ]
      have g5 := hS.size
      have a5 := RcW.new U0 zeroR 31
      refine fresh_anyC (fun W => Below W1.heap.size W1 W ∧ RcW W (U0).heap.size zeroR) ⟨hS.alloc hS.size _, a5⟩ ?_
      clear a5 hS
      generalize (U0).heap.size = B5 at g5 ⊢
      rintro U1 ⟨hS, h5⟩
      refine anyL_one 2 rfl (by kernel_rfl) (fun K hK => ?_)
      go_simp
      refine (f0.out _).mono ?_
      rintro e' v ⟨rfl, rfl⟩
      refine hK.out _ _ (fun _ => hS) ?_
      clear hK K
      try simp only [Act.put, List.setIfInBounds_toArray, List.set_cons_zero, List.set_cons_succ]
      refine anyL_one 5 rfl (by kernel_rfl) (fun K hK => ?_)
      go_simp
      refine (f1.out _).mono ?_
      rintro e' v ⟨rfl, rfl⟩
      refine hK.out _ _ (fun _ => hS) ?_
      clear hK K
      try simp only [Act.put, List.setIfInBounds_toArray, List.set_cons_zero, List.set_cons_succ]
      refine anyL_one 8 rfl (by kernel_rfl) (fun K hK => ?_)
      go_simp
      refine (f2.out _).mono ?_
      rintro e' v ⟨rfl, rfl⟩
      refine hK.out _ _ (fun _ => hS) ?_
      clear hK K
      try simp only [Act.put, List.setIfInBounds_toArray, List.set_cons_zero, List.set_cons_succ]
      refine anyL_one 11 rfl (by kernel_rfl) (fun K hK => ?_)
      go_simp
      refine (f3.out _).mono ?_
      rintro e' v ⟨rfl, rfl⟩
      refine hK.out _ _ (fun _ => hS) ?_
      clear hK K
      try simp only [Act.put, List.setIfInBounds_toArray, List.set_cons_zero, List.set_cons_succ]
      refine anyL_one 14 rfl (by kernel_rfl) (fun K hK => ?_)
      go_simp
      refine (f4.out _).mono ?_
      rintro e' v ⟨rfl, rfl⟩
      refine hK.out _ _ (fun _ => hS) ?_
      clear hK K
      try simp only [Act.put, List.setIfInBounds_toArray, List.set_cons_zero, List.set_cons_succ]
      refine anyL_one 17 rfl (by kernel_rfl) (fun K hK => ?_)
      go_simp
      refine (f5.out _).mono ?_
      rintro e' v ⟨rfl, rfl⟩
      refine hK.out _ _ (fun _ => hS) ?_
      clear hK K
      try simp only [Act.put, List.setIfInBounds_toArray, List.set_cons_zero, List.set_cons_succ]
      refine anyL_take 18 (v := ?_) rfl (by kernel_rfl) (fun _ _ _ h => h) (Or.inl ⟨by rfl, ?_⟩) hS ?_
      rotate_left
      focus (intro W hW; go_simp; try with_reducible rfl)
      simp only [Act.put, List.setIfInBounds_toArray, List.set_cons_zero, List.set_cons_succ]
      obtain ⟨d0, d1, d2, d3, d4, d5, d6⟩ := h5.at_
      have z0 := h5.fr 0; have z1 := h5.fr 1; have z2 := h5.fr 2; have z3 := h5.fr 3; have z4 := h5.fr 4; have z5 := h5.fr 5; have z6 := h5.fr 6
      refine anyL_one 20 rfl (by kernel_rfl) (fun K hK => ?_)
      go_simp
      refine hK.out _ _ (fun _ => below_setAll hS g5 ⟨n0, n1, n2, n3, n4, n5, ⟨#[]⟩⟩) ?_
      clear hK K
      try simp only [Act.put, List.setIfInBounds_toArray, List.set_cons_zero, List.set_cons_succ]
      refine anyC_done (by kernel_rfl) ?_ _
      clear d0 d1 d2 d3 d4 d5 d6 z0 z1 z2 z3 z4 z5 z6
      refine fresh_cut (fun W => RcW W B5 ⟨n0, n1, n2, n3, n4, n5, ⟨#[]⟩⟩ ∧ RcW W w.heap.size zeroR ∧ Below w.heap.size w W) ⟨h5.all ⟨n0, n1, n2, n3, n4, n5, ⟨#[]⟩⟩, (hPH.out.below hS).farAll (Nat.ne_of_gt (Nat.lt_of_lt_of_le hW1s g5)) ⟨n0, n1, n2, n3, n4, n5, ⟨#[]⟩⟩, hBH.out.trans ((below_setAll hS g5 ⟨n0, n1, n2, n3, n4, n5, ⟨#[]⟩⟩).mono (Nat.le_of_lt hW1s))⟩ ?_
      have gB : B5 ≠ w.heap.size ∧ w.heap.size ≤ B5 := by omega
      clear h5 hS
      rintro U6 ⟨h5, h6, h7⟩
      go_wp2_with fail
      go_meet
      exact ⟨B5, rfl, gB.1, gB.2, h5, h6, h7⟩
  case rest =>
    clear hBH hPH f0 f1 f2 f3 f4 f5
    obtain ⟨B, rfl, hBne, hBge, hR, hZ, hB⟩ := hcut
    have hneH := Lib.hid (And.intro hBne hBge)
    clear hBne hBge
    have hRH := Lib.hid hR
    have hZH := Lib.hid hZ
    have hBH := Lib.hid hB
    clear hR hZ hB
    by_cases h4 : n0 = 4
    case neg =>
      have hans0 := hansH.out
      rw [if_neg h4] at hans0
      have h4' : (n0 == 4) = false := beq_eq_false_iff_ne.2 h4
      clear hansH
      have hun : ans = if encS ⟨n0, n1, n2, n3, n4, n5, ⟨#[]⟩⟩ = ByteArray.empty then (zeroR, 0, 10) else if s.extract 0 21 ≠ (encS ⟨n0, n1, n2, n3, n4, n5, ⟨#[]⟩⟩).extract 0 21 then (zeroR, 0, 10) else if s.extract 25 64 ≠ (encS ⟨n0, n1, n2, n3, n4, n5, ⟨#[]⟩⟩).extract 25 64 then (zeroR, 0, 10) else if s.extract 21 25 ≠ (encS ⟨n0, n1, n2, n3, n4, n5, ⟨#[]⟩⟩).extract 21 25 then (zeroR, 0, 11) else (⟨n0, n1, n2, n3, n4, n5, ⟨#[]⟩⟩, 1, 0) := by
        rw [hans0]
        unfold rans
        dsimp only
        rw [if_neg (fun h => h4 h.1), if_neg h4]
      clear hans0
      have href := Lib.hid (fun W => refencode_any ⟨n0, n1, n2, n3, n4, n5, ⟨#[]⟩⟩ W)
      dsimp only at href
      have hsz := fun h : Rec.Good ⟨n0, n1, n2, n3, n4, n5, ⟨#[]⟩⟩ => encS_size h
      have hsz64 : encS ⟨n0, n1, n2, n3, n4, n5, ⟨#[]⟩⟩ ≠ ByteArray.empty → 64 ≤ (encS ⟨n0, n1, n2, n3, n4, n5, ⟨#[]⟩⟩).size := fun h => by
        by_cases hg : Rec.Good ⟨n0, n1, n2, n3, n4, n5, ⟨#[]⟩⟩
        · have h1 := encS_size hg; have := nBlocks_pos hg.1; omega
        · exact absurd (encS_bad hg) h
      clear hsz
      obtain ⟨c0, c1, c2, c3, c4, c5, c6⟩ := hRH.out.at_
      dsimp only at c0 c1 c2 c3 c4 c5 c6
      by_cases e1 : encS ⟨n0, n1, n2, n3, n4, n5, ⟨#[]⟩⟩ = ByteArray.empty
      case pos =>
        rw [if_pos e1] at hun
        have hfin := Lib.hid hun
        rw [e1] at href
        clear hun e1 hsz64
        go_wp2_with (go_at_call 12; with_reducible refine (href.out _).mono ?_; rintro e w4 ⟨rfl, hb4⟩)
        have hR4 := Lib.hid (hRH.out.below hb4)
        have hZ4 := Lib.hid (hZH.out.below hb4)
        have hB4 := Lib.hid (hBH.out.trans (hb4.mono hBH.out.size))
        clear hRH hZH hBH hb4 c0 c1 c2 c3 c4 c5 c6 href
        go_quiet (fail)
        refine fresh_K (fun W => RcW W B ⟨n0, n1, n2, n3, n4, n5, ⟨#[]⟩⟩ ∧ RcW W w.heap.size zeroR ∧ Below w.heap.size w W) ⟨hR4.out.below (below_drewN (Below.refl _ _) _), hZ4.out.below (below_drewN (Below.refl _ _) _), below_drewN hB4.out _⟩ ?_
        clear hR4 hZ4 hB4
        rintro W5 ⟨hR, hZ, hB⟩
        have hRH := Lib.hid hR
        have hZH := Lib.hid hZ
        have hBH := Lib.hid hB
        clear hR hZ hB
        obtain ⟨d0, d1, d2, d3, d4, d5, d6⟩ := hZH.out.at_
        have z0 := hZH.out.fr 0; have z1 := hZH.out.fr 1; have z2 := hZH.out.fr 2; have z3 := hZH.out.fr 3; have z4 := hZH.out.fr 4; have z5 := hZH.out.fr 5; have z6 := hZH.out.fr 6
        go_wp2_with fail
        refine fresh_post (fun W => RcAt W w.heap.size zeroR ∧ Below w.heap.size w W) ⟨(hZH.out.all zeroR).at_, below_setAll hBH.out (Nat.le_refl _) zeroR⟩ ?_
        clear d0 d1 d2 d3 d4 d5 d6 z0 z1 z2 z3 z4 z5 z6 hZH hBH hRH
        rintro W9 ⟨⟨d0, d1, d2, d3, d4, d5, d6⟩, hB9⟩
        refine bodyPost_ret (v := .tuple #[.agg #[.int .i64 0, .int .i64 0, .int .i64 0, .int .i64 0, .int .i64 0, .int .i64 0, .string ⟨#[]⟩], .int .i64 0, .int .i64 10]) (by simp [results, Tryd.results15, go_sem, d0, d1, d2, d3, d4, d5, d6, zeroR]) rfl ⟨?_, hB9⟩
        rw [hfin.out]
        rfl
      rw [if_neg e1] at hun
      obtain ⟨ne1, ne2⟩ := not_empty_of (full_of e1)
      have l64 := hsz64 e1
      clear e1 hsz64
      generalize encS ⟨n0, n1, n2, n3, n4, n5, ⟨#[]⟩⟩ = wt at hun href ne1 ne2 l64
      have v21 : 21 ≤ wt.size := by omega
      have vi21 : (21 : Int) ≤ (wt.size : Int) := by omega
      have v25 : 25 ≤ wt.size := by omega
      have vi25 : (25 : Int) ≤ (wt.size : Int) := by omega
      have vi64 : (64 : Int) ≤ (wt.size : Int) := by omega
      by_cases e2 : s.extract 0 21 = wt.extract 0 21
      case neg =>
        rw [if_pos e2] at hun
        have hfin := Lib.hid hun
        have e2f : ((s.extract 0 21).toList == (wt.extract 0 21).toList) = false := beq_eq_false_iff_ne.2 (fun e => e2 (by rw [ByteArray.toList_eq, ByteArray.toList_eq] at e; exact ByteArray.ext (Array.ext' e)))
        clear hun e2
        go_wp2_with (go_at_call 12; with_reducible refine (href.out _).mono ?_; rintro e w4 ⟨rfl, hb4⟩)
        have hR4 := Lib.hid (hRH.out.below hb4)
        have hZ4 := Lib.hid (hZH.out.below hb4)
        have hB4 := Lib.hid (hBH.out.trans (hb4.mono hBH.out.size))
        clear hRH hZH hBH hb4 c0 c1 c2 c3 c4 c5 c6 href
        go_quiet (fail)
        refine fresh_K (fun W => RcW W B ⟨n0, n1, n2, n3, n4, n5, ⟨#[]⟩⟩ ∧ RcW W w.heap.size zeroR ∧ Below w.heap.size w W) ⟨hR4.out.below (below_drewN (Below.refl _ _) _), hZ4.out.below (below_drewN (Below.refl _ _) _), below_drewN hB4.out _⟩ ?_
        clear hR4 hZ4 hB4
        rintro W5 ⟨hR, hZ, hB⟩
        have hRH := Lib.hid hR
        have hZH := Lib.hid hZ
        have hBH := Lib.hid hB
        clear hR hZ hB
        obtain ⟨d0, d1, d2, d3, d4, d5, d6⟩ := hZH.out.at_
        have z0 := hZH.out.fr 0; have z1 := hZH.out.fr 1; have z2 := hZH.out.fr 2; have z3 := hZH.out.fr 3; have z4 := hZH.out.fr 4; have z5 := hZH.out.fr 5; have z6 := hZH.out.fr 6
        go_wp2_with fail
        refine fresh_post (fun W => RcAt W w.heap.size zeroR ∧ Below w.heap.size w W) ⟨(hZH.out.all zeroR).at_, below_setAll hBH.out (Nat.le_refl _) zeroR⟩ ?_
        clear d0 d1 d2 d3 d4 d5 d6 z0 z1 z2 z3 z4 z5 z6 hZH hBH hRH
        rintro W9 ⟨⟨d0, d1, d2, d3, d4, d5, d6⟩, hB9⟩
        refine bodyPost_ret (v := .tuple #[.agg #[.int .i64 0, .int .i64 0, .int .i64 0, .int .i64 0, .int .i64 0, .int .i64 0, .string ⟨#[]⟩], .int .i64 0, .int .i64 10]) (by simp [results, Tryd.results15, go_sem, d0, d1, d2, d3, d4, d5, d6, zeroR]) rfl ⟨?_, hB9⟩
        rw [hfin.out]
        rfl
      rw [if_neg (fun h => h e2)] at hun
      have e2f : ((s.extract 0 21).toList == (wt.extract 0 21).toList) = true := by rw [e2]; simp
      clear e2
      by_cases e3 : s.extract 25 64 = wt.extract 25 64
      case neg =>
        rw [if_pos e3] at hun
        have hfin := Lib.hid hun
        have e3f : ((s.extract 25 64).toList == (wt.extract 25 64).toList) = false := beq_eq_false_iff_ne.2 (fun e => e3 (by rw [ByteArray.toList_eq, ByteArray.toList_eq] at e; exact ByteArray.ext (Array.ext' e)))
        clear hun e3
        go_wp2_with (go_at_call 12; with_reducible refine (href.out _).mono ?_; rintro e w4 ⟨rfl, hb4⟩)
        have hR4 := Lib.hid (hRH.out.below hb4)
        have hZ4 := Lib.hid (hZH.out.below hb4)
        have hB4 := Lib.hid (hBH.out.trans (hb4.mono hBH.out.size))
        clear hRH hZH hBH hb4 c0 c1 c2 c3 c4 c5 c6 href
        go_quiet (fail)
        refine fresh_K (fun W => RcW W B ⟨n0, n1, n2, n3, n4, n5, ⟨#[]⟩⟩ ∧ RcW W w.heap.size zeroR ∧ Below w.heap.size w W) ⟨hR4.out.below (below_drewN (Below.refl _ _) _), hZ4.out.below (below_drewN (Below.refl _ _) _), below_drewN hB4.out _⟩ ?_
        clear hR4 hZ4 hB4
        rintro W5 ⟨hR, hZ, hB⟩
        have hRH := Lib.hid hR
        have hZH := Lib.hid hZ
        have hBH := Lib.hid hB
        clear hR hZ hB
        obtain ⟨d0, d1, d2, d3, d4, d5, d6⟩ := hZH.out.at_
        have z0 := hZH.out.fr 0; have z1 := hZH.out.fr 1; have z2 := hZH.out.fr 2; have z3 := hZH.out.fr 3; have z4 := hZH.out.fr 4; have z5 := hZH.out.fr 5; have z6 := hZH.out.fr 6
        go_wp2_with fail
        refine fresh_post (fun W => RcAt W w.heap.size zeroR ∧ Below w.heap.size w W) ⟨(hZH.out.all zeroR).at_, below_setAll hBH.out (Nat.le_refl _) zeroR⟩ ?_
        clear d0 d1 d2 d3 d4 d5 d6 z0 z1 z2 z3 z4 z5 z6 hZH hBH hRH
        rintro W9 ⟨⟨d0, d1, d2, d3, d4, d5, d6⟩, hB9⟩
        refine bodyPost_ret (v := .tuple #[.agg #[.int .i64 0, .int .i64 0, .int .i64 0, .int .i64 0, .int .i64 0, .int .i64 0, .string ⟨#[]⟩], .int .i64 0, .int .i64 10]) (by simp [results, Tryd.results15, go_sem, d0, d1, d2, d3, d4, d5, d6, zeroR]) rfl ⟨?_, hB9⟩
        rw [hfin.out]
        rfl
      rw [if_neg (fun h => h e3)] at hun
      have e3f : ((s.extract 25 64).toList == (wt.extract 25 64).toList) = true := by rw [e3]; simp
      clear e3
      by_cases e4 : s.extract 21 25 = wt.extract 21 25
      case neg =>
        rw [if_pos e4] at hun
        have hfin := Lib.hid hun
        have e4f : ((s.extract 21 25).toList == (wt.extract 21 25).toList) = false := beq_eq_false_iff_ne.2 (fun e => e4 (by rw [ByteArray.toList_eq, ByteArray.toList_eq] at e; exact ByteArray.ext (Array.ext' e)))
        clear hun e4
        go_wp2_with (go_at_call 12; with_reducible refine (href.out _).mono ?_; rintro e w4 ⟨rfl, hb4⟩)
        have hR4 := Lib.hid (hRH.out.below hb4)
        have hZ4 := Lib.hid (hZH.out.below hb4)
        have hB4 := Lib.hid (hBH.out.trans (hb4.mono hBH.out.size))
        clear hRH hZH hBH hb4 c0 c1 c2 c3 c4 c5 c6 href
        go_quiet (fail)
        refine fresh_K (fun W => RcW W B ⟨n0, n1, n2, n3, n4, n5, ⟨#[]⟩⟩ ∧ RcW W w.heap.size zeroR ∧ Below w.heap.size w W) ⟨hR4.out.below (below_drewN (Below.refl _ _) _), hZ4.out.below (below_drewN (Below.refl _ _) _), below_drewN hB4.out _⟩ ?_
        clear hR4 hZ4 hB4
        rintro W5 ⟨hR, hZ, hB⟩
        have hRH := Lib.hid hR
        have hZH := Lib.hid hZ
        have hBH := Lib.hid hB
        clear hR hZ hB
        obtain ⟨d0, d1, d2, d3, d4, d5, d6⟩ := hZH.out.at_
        have z0 := hZH.out.fr 0; have z1 := hZH.out.fr 1; have z2 := hZH.out.fr 2; have z3 := hZH.out.fr 3; have z4 := hZH.out.fr 4; have z5 := hZH.out.fr 5; have z6 := hZH.out.fr 6
        go_wp2_with fail
        go_quiet (fail)
        refine fresh_K (fun W => RcW W w.heap.size zeroR ∧ Below w.heap.size w W) ⟨hZH.out.below (below_drewN (Below.refl _ _) _), below_drewN hBH.out _⟩ ?_
        clear hRH hZH hBH d0 d1 d2 d3 d4 d5 d6 z0 z1 z2 z3 z4 z5 z6
        rintro W6 ⟨hZ, hB⟩
        have hZH := Lib.hid hZ
        have hBH := Lib.hid hB
        clear hZ hB
        obtain ⟨d0, d1, d2, d3, d4, d5, d6⟩ := hZH.out.at_
        have z0 := hZH.out.fr 0; have z1 := hZH.out.fr 1; have z2 := hZH.out.fr 2; have z3 := hZH.out.fr 3; have z4 := hZH.out.fr 4; have z5 := hZH.out.fr 5; have z6 := hZH.out.fr 6
        go_wp2_with fail
        refine fresh_post (fun W => RcAt W w.heap.size zeroR ∧ Below w.heap.size w W) ⟨(hZH.out.all zeroR).at_, below_setAll hBH.out (Nat.le_refl _) zeroR⟩ ?_
        clear d0 d1 d2 d3 d4 d5 d6 z0 z1 z2 z3 z4 z5 z6 hZH hBH
        rintro W9 ⟨⟨d0, d1, d2, d3, d4, d5, d6⟩, hB9⟩
        refine bodyPost_ret (v := .tuple #[.agg #[.int .i64 0, .int .i64 0, .int .i64 0, .int .i64 0, .int .i64 0, .int .i64 0, .string ⟨#[]⟩], .int .i64 0, .int .i64 11]) (by simp [results, Tryd.results15, go_sem, d0, d1, d2, d3, d4, d5, d6, zeroR]) rfl ⟨?_, hB9⟩
        rw [hfin.out]
        rfl
      rw [if_neg (fun h => h e4)] at hun
      have e4f : ((s.extract 21 25).toList == (wt.extract 21 25).toList) = true := by rw [e4]; simp
      clear e4
      have hfin := Lib.hid hun
      clear hun
      go_wp2_with (go_at_call 12; with_reducible refine (href.out _).mono ?_; rintro e w4 ⟨rfl, hb4⟩)
      have hR4 := Lib.hid (hRH.out.below hb4)
      have hZ4 := Lib.hid (hZH.out.below hb4)
      have hB4 := Lib.hid (hBH.out.trans (hb4.mono hBH.out.size))
      clear hRH hZH hBH hb4 c0 c1 c2 c3 c4 c5 c6 href
      go_quiet (fail)
      refine fresh_K (fun W => RcW W B ⟨n0, n1, n2, n3, n4, n5, ⟨#[]⟩⟩ ∧ RcW W w.heap.size zeroR ∧ Below w.heap.size w W) ⟨hR4.out.below (below_drewN (Below.refl _ _) _), hZ4.out.below (below_drewN (Below.refl _ _) _), below_drewN hB4.out _⟩ ?_
      clear hR4 hZ4 hB4
      rintro W5 ⟨hR, hZ, hB⟩
      have hRH := Lib.hid hR
      have hZH := Lib.hid hZ
      have hBH := Lib.hid hB
      clear hR hZ hB
      obtain ⟨d0, d1, d2, d3, d4, d5, d6⟩ := hZH.out.at_
      have z0 := hZH.out.fr 0; have z1 := hZH.out.fr 1; have z2 := hZH.out.fr 2; have z3 := hZH.out.fr 3; have z4 := hZH.out.fr 4; have z5 := hZH.out.fr 5; have z6 := hZH.out.fr 6
      go_wp2_with fail
      go_quiet (fail)
      refine fresh_K (fun W => RcW W B ⟨n0, n1, n2, n3, n4, n5, ⟨#[]⟩⟩ ∧ RcW W w.heap.size zeroR ∧ Below w.heap.size w W) ⟨hRH.out.below (below_drewN (Below.refl _ _) _), hZH.out.below (below_drewN (Below.refl _ _) _), below_drewN hBH.out _⟩ ?_
      clear hRH hZH hBH d0 d1 d2 d3 d4 d5 d6 z0 z1 z2 z3 z4 z5 z6
      rintro W6 ⟨hR, hZ, hB⟩
      have hRH := Lib.hid hR
      have hZH := Lib.hid hZ
      have hBH := Lib.hid hB
      clear hR hZ hB
      obtain ⟨d0, d1, d2, d3, d4, d5, d6⟩ := hZH.out.at_
      have z0 := hZH.out.fr 0; have z1 := hZH.out.fr 1; have z2 := hZH.out.fr 2; have z3 := hZH.out.fr 3; have z4 := hZH.out.fr 4; have z5 := hZH.out.fr 5; have z6 := hZH.out.fr 6
      obtain ⟨c0, c1, c2, c3, c4, c5, c6⟩ := hRH.out.at_
      dsimp only at c0 c1 c2 c3 c4 c5 c6
      go_wp2_with fail
      refine fresh_post (fun W => RcAt W w.heap.size (⟨n0, n1, n2, n3, n4, n5, ⟨#[]⟩⟩ : Rc) ∧ Below w.heap.size w W) ⟨(hZH.out.all (⟨n0, n1, n2, n3, n4, n5, ⟨#[]⟩⟩ : Rc)).at_, below_setAll hBH.out (Nat.le_refl _) (⟨n0, n1, n2, n3, n4, n5, ⟨#[]⟩⟩ : Rc)⟩ ?_
      clear c0 c1 c2 c3 c4 c5 c6 d0 d1 d2 d3 d4 d5 d6 z0 z1 z2 z3 z4 z5 z6 hZH hBH hRH
      rintro W9 ⟨⟨d0, d1, d2, d3, d4, d5, d6⟩, hB9⟩
      refine bodyPost_ret (v := .tuple #[.agg #[.int .i64 (n0), .int .i64 n1, .int .i64 n2, .int .i64 n3, .int .i64 n4, .int .i64 n5, .string (⟨#[]⟩)], .int .i64 1, .int .i64 0]) (by simp [results, Tryd.results15, go_sem, d0, d1, d2, d3, d4, d5, d6]) rfl ⟨?_, hB9⟩
      rw [hfin.out]
    subst h4
    have hans0 := hansH.out
    rw [if_pos rfl] at hans0
    clear hansH
    by_cases h128 : s.size < 128
    case pos =>
      have hfin := Lib.hid (show ans = (zeroR, 0, 10) by rw [hans0]; unfold rans; rw [if_pos ⟨rfl, h128⟩])
      have h128' : (s.size : Int) < 128 := by omega
      clear hans0
      obtain ⟨c0, c1, c2, c3, c4, c5, c6⟩ := hRH.out.at_
      dsimp only at c0 c1 c2 c3 c4 c5 c6
      obtain ⟨d0, d1, d2, d3, d4, d5, d6⟩ := hZH.out.at_
      have z0 := hZH.out.fr 0; have z1 := hZH.out.fr 1; have z2 := hZH.out.fr 2; have z3 := hZH.out.fr 3; have z4 := hZH.out.fr 4; have z5 := hZH.out.fr 5; have z6 := hZH.out.fr 6
      go_wp2_with fail
      refine fresh_post (fun W => RcAt W w.heap.size zeroR ∧ Below w.heap.size w W) ⟨(hZH.out.all zeroR).at_, below_setAll hBH.out (Nat.le_refl _) zeroR⟩ ?_
      clear c0 c1 c2 c3 c4 c5 c6 d0 d1 d2 d3 d4 d5 d6 z0 z1 z2 z3 z4 z5 z6 hZH hBH hRH
      rintro W9 ⟨⟨d0, d1, d2, d3, d4, d5, d6⟩, hB9⟩
      refine bodyPost_ret (v := .tuple #[.agg #[.int .i64 0, .int .i64 0, .int .i64 0, .int .i64 0, .int .i64 0, .int .i64 0, .string ⟨#[]⟩], .int .i64 0, .int .i64 10]) (by simp [results, Tryd.results15, go_sem, d0, d1, d2, d3, d4, d5, d6, zeroR]) rfl ⟨?_, hB9⟩
      rw [hfin.out]
      rfl
    have h128' : ¬ (s.size : Int) < 128 := by omega
    have h128b : 128 ≤ s.size := by omega
    have h128c : (128 : Int) ≤ (s.size : Int) := by omega
    go_upto_region 6 with fail
    obtain ⟨c0, c1, c2, c3, c4, c5, c6⟩ := hRH.out.at_
    dsimp only at c0 c1 c2 c3 c4 c5 c6
    have z6 := hRH.out.fr 6
    go_upto_region 12 with fail
    refine fresh_world (fun W => RcW W B (⟨4, n1, n2, n3, n4, n5, s.extract 64 128⟩ : Rc) ∧ RcW W w.heap.size zeroR ∧ Below w.heap.size w W) ⟨hRH.out.put6 _, hZH.out.far hneH.out.1 6 _, hBH.out.setCell hneH.out.2 _⟩ ?_
    clear hRH hZH hBH c0 c1 c2 c3 c4 c5 c6 z6
    rintro W3 ⟨hR, hZ, hB⟩
    have hRH := Lib.hid hR
    have hZH := Lib.hid hZ
    have hBH := Lib.hid hB
    clear hR hZ hB
    have hun : ans = if encS ⟨4, n1, n2, n3, n4, n5, s.extract 64 128⟩ = ByteArray.empty then (zeroR, 0, 10) else if s.extract 0 21 ≠ (encS ⟨4, n1, n2, n3, n4, n5, s.extract 64 128⟩).extract 0 21 then (zeroR, 0, 10) else if s.extract 25 64 ≠ (encS ⟨4, n1, n2, n3, n4, n5, s.extract 64 128⟩).extract 25 64 then (zeroR, 0, 10) else if s.extract 21 25 ≠ (encS ⟨4, n1, n2, n3, n4, n5, s.extract 64 128⟩).extract 21 25 then (zeroR, 0, 11) else (⟨4, n1, n2, n3, n4, n5, s.extract 64 128⟩, 2, 0) := by
      rw [hans0]
      unfold rans
      dsimp only
      rw [if_neg (fun h => h128' (by have := h.2; omega)), if_pos rfl]
    clear hans0
    have href := Lib.hid (fun W => refencode_any ⟨4, n1, n2, n3, n4, n5, s.extract 64 128⟩ W)
    dsimp only at href
    have hsz := fun h : Rec.Good ⟨4, n1, n2, n3, n4, n5, s.extract 64 128⟩ => encS_size h
    have hsz64 : encS ⟨4, n1, n2, n3, n4, n5, s.extract 64 128⟩ ≠ ByteArray.empty → 64 ≤ (encS ⟨4, n1, n2, n3, n4, n5, s.extract 64 128⟩).size := fun h => by
      by_cases hg : Rec.Good ⟨4, n1, n2, n3, n4, n5, s.extract 64 128⟩
      · have h1 := encS_size hg; have := nBlocks_pos hg.1; omega
      · exact absurd (encS_bad hg) h
    clear hsz
    obtain ⟨c0, c1, c2, c3, c4, c5, c6⟩ := hRH.out.at_
    dsimp only at c0 c1 c2 c3 c4 c5 c6
    by_cases e1 : encS ⟨4, n1, n2, n3, n4, n5, s.extract 64 128⟩ = ByteArray.empty
    case pos =>
      rw [if_pos e1] at hun
      have hfin := Lib.hid hun
      rw [e1] at href
      clear hun e1 hsz64
      go_wp2_with (go_at_call 12; with_reducible refine (href.out _).mono ?_; rintro e w4 ⟨rfl, hb4⟩)
      have hR4 := Lib.hid (hRH.out.below hb4)
      have hZ4 := Lib.hid (hZH.out.below hb4)
      have hB4 := Lib.hid (hBH.out.trans (hb4.mono hBH.out.size))
      clear hRH hZH hBH hb4 c0 c1 c2 c3 c4 c5 c6 href
      go_quiet (fail)
      refine fresh_K (fun W => RcW W B ⟨4, n1, n2, n3, n4, n5, s.extract 64 128⟩ ∧ RcW W w.heap.size zeroR ∧ Below w.heap.size w W) ⟨hR4.out.below (below_drewN (Below.refl _ _) _), hZ4.out.below (below_drewN (Below.refl _ _) _), below_drewN hB4.out _⟩ ?_
      clear hR4 hZ4 hB4
      rintro W5 ⟨hR, hZ, hB⟩
      have hRH := Lib.hid hR
      have hZH := Lib.hid hZ
      have hBH := Lib.hid hB
      clear hR hZ hB
      obtain ⟨d0, d1, d2, d3, d4, d5, d6⟩ := hZH.out.at_
      have z0 := hZH.out.fr 0; have z1 := hZH.out.fr 1; have z2 := hZH.out.fr 2; have z3 := hZH.out.fr 3; have z4 := hZH.out.fr 4; have z5 := hZH.out.fr 5; have z6 := hZH.out.fr 6
      go_wp2_with fail
      refine fresh_post (fun W => RcAt W w.heap.size zeroR ∧ Below w.heap.size w W) ⟨(hZH.out.all zeroR).at_, below_setAll hBH.out (Nat.le_refl _) zeroR⟩ ?_
      clear d0 d1 d2 d3 d4 d5 d6 z0 z1 z2 z3 z4 z5 z6 hZH hBH hRH
      rintro W9 ⟨⟨d0, d1, d2, d3, d4, d5, d6⟩, hB9⟩
      refine bodyPost_ret (v := .tuple #[.agg #[.int .i64 0, .int .i64 0, .int .i64 0, .int .i64 0, .int .i64 0, .int .i64 0, .string ⟨#[]⟩], .int .i64 0, .int .i64 10]) (by simp [results, Tryd.results15, go_sem, d0, d1, d2, d3, d4, d5, d6, zeroR]) rfl ⟨?_, hB9⟩
      rw [hfin.out]
      rfl
    rw [if_neg e1] at hun
    obtain ⟨ne1, ne2⟩ := not_empty_of (full_of e1)
    have l64 := hsz64 e1
    clear e1 hsz64
    generalize encS ⟨4, n1, n2, n3, n4, n5, s.extract 64 128⟩ = wt at hun href ne1 ne2 l64
    have v21 : 21 ≤ wt.size := by omega
    have vi21 : (21 : Int) ≤ (wt.size : Int) := by omega
    have v25 : 25 ≤ wt.size := by omega
    have vi25 : (25 : Int) ≤ (wt.size : Int) := by omega
    have vi64 : (64 : Int) ≤ (wt.size : Int) := by omega
    by_cases e2 : s.extract 0 21 = wt.extract 0 21
    case neg =>
      rw [if_pos e2] at hun
      have hfin := Lib.hid hun
      have e2f : ((s.extract 0 21).toList == (wt.extract 0 21).toList) = false := beq_eq_false_iff_ne.2 (fun e => e2 (by rw [ByteArray.toList_eq, ByteArray.toList_eq] at e; exact ByteArray.ext (Array.ext' e)))
      clear hun e2
      go_wp2_with (go_at_call 12; with_reducible refine (href.out _).mono ?_; rintro e w4 ⟨rfl, hb4⟩)
      have hR4 := Lib.hid (hRH.out.below hb4)
      have hZ4 := Lib.hid (hZH.out.below hb4)
      have hB4 := Lib.hid (hBH.out.trans (hb4.mono hBH.out.size))
      clear hRH hZH hBH hb4 c0 c1 c2 c3 c4 c5 c6 href
      go_quiet (fail)
      refine fresh_K (fun W => RcW W B ⟨4, n1, n2, n3, n4, n5, s.extract 64 128⟩ ∧ RcW W w.heap.size zeroR ∧ Below w.heap.size w W) ⟨hR4.out.below (below_drewN (Below.refl _ _) _), hZ4.out.below (below_drewN (Below.refl _ _) _), below_drewN hB4.out _⟩ ?_
      clear hR4 hZ4 hB4
      rintro W5 ⟨hR, hZ, hB⟩
      have hRH := Lib.hid hR
      have hZH := Lib.hid hZ
      have hBH := Lib.hid hB
      clear hR hZ hB
      obtain ⟨d0, d1, d2, d3, d4, d5, d6⟩ := hZH.out.at_
      have z0 := hZH.out.fr 0; have z1 := hZH.out.fr 1; have z2 := hZH.out.fr 2; have z3 := hZH.out.fr 3; have z4 := hZH.out.fr 4; have z5 := hZH.out.fr 5; have z6 := hZH.out.fr 6
      go_wp2_with fail
      refine fresh_post (fun W => RcAt W w.heap.size zeroR ∧ Below w.heap.size w W) ⟨(hZH.out.all zeroR).at_, below_setAll hBH.out (Nat.le_refl _) zeroR⟩ ?_
      clear d0 d1 d2 d3 d4 d5 d6 z0 z1 z2 z3 z4 z5 z6 hZH hBH hRH
      rintro W9 ⟨⟨d0, d1, d2, d3, d4, d5, d6⟩, hB9⟩
      refine bodyPost_ret (v := .tuple #[.agg #[.int .i64 0, .int .i64 0, .int .i64 0, .int .i64 0, .int .i64 0, .int .i64 0, .string ⟨#[]⟩], .int .i64 0, .int .i64 10]) (by simp [results, Tryd.results15, go_sem, d0, d1, d2, d3, d4, d5, d6, zeroR]) rfl ⟨?_, hB9⟩
      rw [hfin.out]
      rfl
    rw [if_neg (fun h => h e2)] at hun
    have e2f : ((s.extract 0 21).toList == (wt.extract 0 21).toList) = true := by rw [e2]; simp
    clear e2
    by_cases e3 : s.extract 25 64 = wt.extract 25 64
    case neg =>
      rw [if_pos e3] at hun
      have hfin := Lib.hid hun
      have e3f : ((s.extract 25 64).toList == (wt.extract 25 64).toList) = false := beq_eq_false_iff_ne.2 (fun e => e3 (by rw [ByteArray.toList_eq, ByteArray.toList_eq] at e; exact ByteArray.ext (Array.ext' e)))
      clear hun e3
      go_wp2_with (go_at_call 12; with_reducible refine (href.out _).mono ?_; rintro e w4 ⟨rfl, hb4⟩)
      have hR4 := Lib.hid (hRH.out.below hb4)
      have hZ4 := Lib.hid (hZH.out.below hb4)
      have hB4 := Lib.hid (hBH.out.trans (hb4.mono hBH.out.size))
      clear hRH hZH hBH hb4 c0 c1 c2 c3 c4 c5 c6 href
      go_quiet (fail)
      refine fresh_K (fun W => RcW W B ⟨4, n1, n2, n3, n4, n5, s.extract 64 128⟩ ∧ RcW W w.heap.size zeroR ∧ Below w.heap.size w W) ⟨hR4.out.below (below_drewN (Below.refl _ _) _), hZ4.out.below (below_drewN (Below.refl _ _) _), below_drewN hB4.out _⟩ ?_
      clear hR4 hZ4 hB4
      rintro W5 ⟨hR, hZ, hB⟩
      have hRH := Lib.hid hR
      have hZH := Lib.hid hZ
      have hBH := Lib.hid hB
      clear hR hZ hB
      obtain ⟨d0, d1, d2, d3, d4, d5, d6⟩ := hZH.out.at_
      have z0 := hZH.out.fr 0; have z1 := hZH.out.fr 1; have z2 := hZH.out.fr 2; have z3 := hZH.out.fr 3; have z4 := hZH.out.fr 4; have z5 := hZH.out.fr 5; have z6 := hZH.out.fr 6
      go_wp2_with fail
      refine fresh_post (fun W => RcAt W w.heap.size zeroR ∧ Below w.heap.size w W) ⟨(hZH.out.all zeroR).at_, below_setAll hBH.out (Nat.le_refl _) zeroR⟩ ?_
      clear d0 d1 d2 d3 d4 d5 d6 z0 z1 z2 z3 z4 z5 z6 hZH hBH hRH
      rintro W9 ⟨⟨d0, d1, d2, d3, d4, d5, d6⟩, hB9⟩
      refine bodyPost_ret (v := .tuple #[.agg #[.int .i64 0, .int .i64 0, .int .i64 0, .int .i64 0, .int .i64 0, .int .i64 0, .string ⟨#[]⟩], .int .i64 0, .int .i64 10]) (by simp [results, Tryd.results15, go_sem, d0, d1, d2, d3, d4, d5, d6, zeroR]) rfl ⟨?_, hB9⟩
      rw [hfin.out]
      rfl
    rw [if_neg (fun h => h e3)] at hun
    have e3f : ((s.extract 25 64).toList == (wt.extract 25 64).toList) = true := by rw [e3]; simp
    clear e3
    by_cases e4 : s.extract 21 25 = wt.extract 21 25
    case neg =>
      rw [if_pos e4] at hun
      have hfin := Lib.hid hun
      have e4f : ((s.extract 21 25).toList == (wt.extract 21 25).toList) = false := beq_eq_false_iff_ne.2 (fun e => e4 (by rw [ByteArray.toList_eq, ByteArray.toList_eq] at e; exact ByteArray.ext (Array.ext' e)))
      clear hun e4
      go_wp2_with (go_at_call 12; with_reducible refine (href.out _).mono ?_; rintro e w4 ⟨rfl, hb4⟩)
      have hR4 := Lib.hid (hRH.out.below hb4)
      have hZ4 := Lib.hid (hZH.out.below hb4)
      have hB4 := Lib.hid (hBH.out.trans (hb4.mono hBH.out.size))
      clear hRH hZH hBH hb4 c0 c1 c2 c3 c4 c5 c6 href
      go_quiet (fail)
      refine fresh_K (fun W => RcW W B ⟨4, n1, n2, n3, n4, n5, s.extract 64 128⟩ ∧ RcW W w.heap.size zeroR ∧ Below w.heap.size w W) ⟨hR4.out.below (below_drewN (Below.refl _ _) _), hZ4.out.below (below_drewN (Below.refl _ _) _), below_drewN hB4.out _⟩ ?_
      clear hR4 hZ4 hB4
      rintro W5 ⟨hR, hZ, hB⟩
      have hRH := Lib.hid hR
      have hZH := Lib.hid hZ
      have hBH := Lib.hid hB
      clear hR hZ hB
      obtain ⟨d0, d1, d2, d3, d4, d5, d6⟩ := hZH.out.at_
      have z0 := hZH.out.fr 0; have z1 := hZH.out.fr 1; have z2 := hZH.out.fr 2; have z3 := hZH.out.fr 3; have z4 := hZH.out.fr 4; have z5 := hZH.out.fr 5; have z6 := hZH.out.fr 6
      go_wp2_with fail
      go_quiet (fail)
      refine fresh_K (fun W => RcW W w.heap.size zeroR ∧ Below w.heap.size w W) ⟨hZH.out.below (below_drewN (Below.refl _ _) _), below_drewN hBH.out _⟩ ?_
      clear hRH hZH hBH d0 d1 d2 d3 d4 d5 d6 z0 z1 z2 z3 z4 z5 z6
      rintro W6 ⟨hZ, hB⟩
      have hZH := Lib.hid hZ
      have hBH := Lib.hid hB
      clear hZ hB
      obtain ⟨d0, d1, d2, d3, d4, d5, d6⟩ := hZH.out.at_
      have z0 := hZH.out.fr 0; have z1 := hZH.out.fr 1; have z2 := hZH.out.fr 2; have z3 := hZH.out.fr 3; have z4 := hZH.out.fr 4; have z5 := hZH.out.fr 5; have z6 := hZH.out.fr 6
      go_wp2_with fail
      refine fresh_post (fun W => RcAt W w.heap.size zeroR ∧ Below w.heap.size w W) ⟨(hZH.out.all zeroR).at_, below_setAll hBH.out (Nat.le_refl _) zeroR⟩ ?_
      clear d0 d1 d2 d3 d4 d5 d6 z0 z1 z2 z3 z4 z5 z6 hZH hBH
      rintro W9 ⟨⟨d0, d1, d2, d3, d4, d5, d6⟩, hB9⟩
      refine bodyPost_ret (v := .tuple #[.agg #[.int .i64 0, .int .i64 0, .int .i64 0, .int .i64 0, .int .i64 0, .int .i64 0, .string ⟨#[]⟩], .int .i64 0, .int .i64 11]) (by simp [results, Tryd.results15, go_sem, d0, d1, d2, d3, d4, d5, d6, zeroR]) rfl ⟨?_, hB9⟩
      rw [hfin.out]
      rfl
    rw [if_neg (fun h => h e4)] at hun
    have e4f : ((s.extract 21 25).toList == (wt.extract 21 25).toList) = true := by rw [e4]; simp
    clear e4
    have hfin := Lib.hid hun
    clear hun
    go_wp2_with (go_at_call 12; with_reducible refine (href.out _).mono ?_; rintro e w4 ⟨rfl, hb4⟩)
    have hR4 := Lib.hid (hRH.out.below hb4)
    have hZ4 := Lib.hid (hZH.out.below hb4)
    have hB4 := Lib.hid (hBH.out.trans (hb4.mono hBH.out.size))
    clear hRH hZH hBH hb4 c0 c1 c2 c3 c4 c5 c6 href
    go_quiet (fail)
    refine fresh_K (fun W => RcW W B ⟨4, n1, n2, n3, n4, n5, s.extract 64 128⟩ ∧ RcW W w.heap.size zeroR ∧ Below w.heap.size w W) ⟨hR4.out.below (below_drewN (Below.refl _ _) _), hZ4.out.below (below_drewN (Below.refl _ _) _), below_drewN hB4.out _⟩ ?_
    clear hR4 hZ4 hB4
    rintro W5 ⟨hR, hZ, hB⟩
    have hRH := Lib.hid hR
    have hZH := Lib.hid hZ
    have hBH := Lib.hid hB
    clear hR hZ hB
    obtain ⟨d0, d1, d2, d3, d4, d5, d6⟩ := hZH.out.at_
    have z0 := hZH.out.fr 0; have z1 := hZH.out.fr 1; have z2 := hZH.out.fr 2; have z3 := hZH.out.fr 3; have z4 := hZH.out.fr 4; have z5 := hZH.out.fr 5; have z6 := hZH.out.fr 6
    go_wp2_with fail
    go_quiet (fail)
    refine fresh_K (fun W => RcW W B ⟨4, n1, n2, n3, n4, n5, s.extract 64 128⟩ ∧ RcW W w.heap.size zeroR ∧ Below w.heap.size w W) ⟨hRH.out.below (below_drewN (Below.refl _ _) _), hZH.out.below (below_drewN (Below.refl _ _) _), below_drewN hBH.out _⟩ ?_
    clear hRH hZH hBH d0 d1 d2 d3 d4 d5 d6 z0 z1 z2 z3 z4 z5 z6
    rintro W6 ⟨hR, hZ, hB⟩
    have hRH := Lib.hid hR
    have hZH := Lib.hid hZ
    have hBH := Lib.hid hB
    clear hR hZ hB
    obtain ⟨d0, d1, d2, d3, d4, d5, d6⟩ := hZH.out.at_
    have z0 := hZH.out.fr 0; have z1 := hZH.out.fr 1; have z2 := hZH.out.fr 2; have z3 := hZH.out.fr 3; have z4 := hZH.out.fr 4; have z5 := hZH.out.fr 5; have z6 := hZH.out.fr 6
    obtain ⟨c0, c1, c2, c3, c4, c5, c6⟩ := hRH.out.at_
    dsimp only at c0 c1 c2 c3 c4 c5 c6
    go_wp2_with fail
    refine fresh_post (fun W => RcAt W w.heap.size (⟨4, n1, n2, n3, n4, n5, s.extract 64 128⟩ : Rc) ∧ Below w.heap.size w W) ⟨(hZH.out.all (⟨4, n1, n2, n3, n4, n5, s.extract 64 128⟩ : Rc)).at_, below_setAll hBH.out (Nat.le_refl _) (⟨4, n1, n2, n3, n4, n5, s.extract 64 128⟩ : Rc)⟩ ?_
    clear c0 c1 c2 c3 c4 c5 c6 d0 d1 d2 d3 d4 d5 d6 z0 z1 z2 z3 z4 z5 z6 hZH hBH hRH
    rintro W9 ⟨⟨d0, d1, d2, d3, d4, d5, d6⟩, hB9⟩
    refine bodyPost_ret (v := .tuple #[.agg #[.int .i64 (4), .int .i64 n1, .int .i64 n2, .int .i64 n3, .int .i64 n4, .int .i64 n5, .string (s.extract 64 128)], .int .i64 2, .int .i64 0]) (by simp [results, Tryd.results15, go_sem, d0, d1, d2, d3, d4, d5, d6]) rfl ⟨?_, hB9⟩
    rw [hfin.out]
end Go.Proofs.YtlignckncgceaabDoor
