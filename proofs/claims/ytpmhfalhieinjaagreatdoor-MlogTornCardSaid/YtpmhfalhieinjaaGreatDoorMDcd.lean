/- What Decode of a record does. -/
import Derived.Test.YtpmhfalhieinjaaGreatDoorMDec
namespace Go.Proofs.YtpmhfalhieinjaaGreatDoor
open Go.RowKit Rec Crc Num
theorem parse_any (s : ByteArray) (w : World) (hs : s.size ≤ maxLen) :
    Calls Tryz.prog 107 #[.string s] w fun e w' => e = .returned (.tuple #[.agg #[.int .i64 (parsed s).k, .int .i64 (parsed s).s, .int .i64 (parsed s).a, .int .i64 (parsed s).b, .int .i64 (parsed s).c, .int .i64 (parsed s).d, .string (parsed s).body], .bool (parseOk s)]) ∧ Below w.heap.size w w' := by
  unfold parsed parseOk
  cases hf : formOk s with
  | false => exact parse_bad s w hf
  | true => exact parse_good s w hs hf
set_option maxRecDepth 100000 in
set_option maxHeartbeats 4000000 in
theorem decode_any (s : ByteArray) (w : World) (hs : s.size ≤ maxLen) (hT : Tab w) :
    Calls Tryz.prog 88 #[.string s] w fun e w' => e = .returned (.tuple #[.agg #[.int .i64 (dec s).1.k, .int .i64 (dec s).1.s, .int .i64 (dec s).1.a, .int .i64 (dec s).1.b, .int .i64 (dec s).1.c, .int .i64 (dec s).1.d, .string (dec s).1.body], .int .i64 (dec s).2.1, .int .i64 (dec s).2.2]) ∧ Below w.heap.size w w' := by
  unfold dec
  have hBH := Lib.hid (show Below w.heap.size w (w.alloc (.cells #[.int .i64 0, .int .i64 0, .int .i64 0, .int .i64 0, .int .i64 0, .int .i64 0, .string ⟨#[]⟩] 38)) from (Below.refl _ _).alloc (Nat.le_refl _) _)
  have hPH := Lib.hid (show RcW (w.alloc (.cells #[.int .i64 0, .int .i64 0, .int .i64 0, .int .i64 0, .int .i64 0, .int .i64 0, .string ⟨#[]⟩] 38)) w.heap.size zeroR from RcW.new w zeroR 38)
  by_cases he : s = ⟨#[]⟩
  case pos =>
    rw [if_pos he, he]
    clear he hs hT hPH
    go_enter Tryz.func88, Tryz.ntmps88
    go_wp2_with fail
    refine bodyPost_ret (v := .tuple #[.agg #[.int .i64 0, .int .i64 0, .int .i64 0, .int .i64 0, .int .i64 0, .int .i64 0, .string ⟨#[]⟩], .int .i64 0, .int .i64 13]) (by simp [results, Tryz.results88, go_sem]) rfl ⟨rfl, ?_⟩
    exact hBH.out
  rw [if_neg he]
  obtain ⟨he1, he2⟩ := not_empty_of (full_of he)
  clear he
  have hparH := Lib.hid (fun W => parse_any s W hs)
  cases hok : parseOk s with
  | false =>
    rw [hok] at hparH
    simp only [if_true]
    clear hok hs hT
    generalize parsed s = r0 at hparH
    go_enter Tryz.func88, Tryz.ntmps88
    go_upto_region 4 with (go_at_call 107; refine (hparH.out _).mono ?_; rintro e w1 ⟨rfl, hb1⟩)
    have hP1 := hPH.out.below hb1
    have hl1 := hP1.lt
    have hb2 : Below w1.heap.size w1 (w1.alloc (.cells #[.int .i64 r0.k, .int .i64 r0.s, .int .i64 r0.a, .int .i64 r0.b, .int .i64 r0.c, .int .i64 r0.d, .string r0.body] 38)) := (Below.refl _ _).alloc (Nat.le_refl _) _
    have hB1 := hBH.out.trans (hb1.mono (by simp))
    refine fresh_world (fun W => (RcW W w.heap.size zeroR ∧ RcW W w1.heap.size r0) ∧ Below w.heap.size w W) ⟨⟨hP1.below hb2, RcW.new w1 r0 _⟩, hB1.trans (hb2.mono (by omega))⟩ ?_
    clear hP1 hb1 hb2 hB1 hBH hPH hparH
    generalize w1.heap.size = Q at hl1
    rintro W2 ⟨⟨hP2, hQ2⟩, hB2⟩
    obtain ⟨d0, d1, d2, d3, d4, d5, d6⟩ := hP2.at_
    have z0 := hP2.fr 0; have z1 := hP2.fr 1; have z2 := hP2.fr 2; have z3 := hP2.fr 3; have z4 := hP2.fr 4; have z5 := hP2.fr 5; have z6 := hP2.fr 6
    have hP2H := Lib.hid hP2
    have hB2H := Lib.hid hB2
    clear hP2 hQ2 hB2
    go_wp2_with fail
    refine fresh_post (fun W => RcAt W w.heap.size zeroR ∧ Below w.heap.size w W) ⟨(hP2H.out.all zeroR).at_, (((((((hB2H.out.setCell (by simp) _).setCell (by simp) _).setCell (by simp) _).setCell (by simp) _).setCell (by simp) _).setCell (by simp) _).setCell (by simp) _)⟩ ?_
    clear d0 d1 d2 d3 d4 d5 d6 z0 z1 z2 z3 z4 z5 z6 hP2H hB2H
    rintro W9 ⟨⟨d0, d1, d2, d3, d4, d5, d6⟩, hB9⟩
    refine bodyPost_ret (v := .tuple #[.agg #[.int .i64 0, .int .i64 0, .int .i64 0, .int .i64 0, .int .i64 0, .int .i64 0, .string ⟨#[]⟩], .int .i64 0, .int .i64 10]) (by simp [results, Tryz.results88, go_sem, d0, d1, d2, d3, d4, d5, d6, zeroR]) rfl ⟨rfl, ?_⟩
    exact hB9
  | true =>
    rw [hok] at hparH
    have hf : formOk s = true := by unfold parseOk at hok; exact (Bool.and_eq_true _ _ ▸ hok).1
    have hno : NumOk (numsR s 6) := by unfold parseOk at hok; exact numOk_iff.1 (Bool.and_eq_true _ _ ▸ hok).2
    have h64 : 64 ≤ s.size := by unfold formOk at hf; simp only [Bool.and_eq_true, decide_eq_true_eq] at hf; exact hf.1.1
    have hpr : parsed s = numsR s 6 := by unfold parsed; rw [if_pos hf]
    rw [hpr] at hparH
    simp only [Bool.true_eq_false, if_false]
    unfold withBody
    have hTA := Lib.hid (fun W (h : Below w.heap.size w W) => hT.below h)
    have hnb : nBlocks (numsR s 6).k = 1 ∨ nBlocks (numsR s 6).k = 2 := by have := nBlocks_pos hno; omega
    have hbl := Lib.hid (fun W => blocks_any (numsR s 6).k W)
    clear hok hf hno hpr hT hs
    generalize numsR s 6 = r0 at hparH hnb hbl ⊢
    rcases hnb with hnb | hnb
    · rw [hnb] at hbl ⊢
      clear hnb
      have hbl1 : Hid (∀ W, Calls Tryz.prog 92 #[.int .i64 r0.k] W fun e w' => e = .returned (.int .i64 1) ∧ W = w') := Lib.hid hbl.out
      clear hbl
      have gw : IntKind.i64.wrap 64 = 64 := by decide +kernel
      rw [if_neg (by omega)]
      have hsh : ¬ (s.size : Int) < 64 := by omega
      have hsh2 : 64 ≤ s.size := by omega
      have hsh3 : (64 : Int) ≤ (s.size : Int) := by omega
      have hckH : Hid (∀ W, Below w.heap.size w W → Calls Tryz.prog 96 #[.string (s.extract 0 21), .string (s.extract 64 64)] W fun e w' => e = .returned (.string (sumS (s.extract 0 21) (s.extract 64 64))) ∧ Below W.heap.size W w') := Lib.hid (fun W h => checksum_any _ _ W (hTA.out W h) (by rw [ByteArray.size_extract]; omega) (by rw [ByteArray.size_extract]; omega))
      simp only [Nat.reduceMul]
      generalize sumS (s.extract 0 21) (s.extract 64 64) = cs at hckH ⊢
      have hx : s.extract 64 64 = ByteArray.empty := by simp
      rw [hx] at hckH ⊢
      clear hx
      clear hTA
      have q1 : 25 ≤ s.size := by omega
      have q2 : 21 ≤ s.size := by omega
      have q3 : (25 : Int) ≤ (s.size : Int) := by omega
      have q4 : (21 : Int) ≤ (s.size : Int) := by omega
      by_cases hsum : s.extract 21 25 = cs
      · rw [if_pos hsum]
        go_enter Tryz.func88, Tryz.ntmps88
        go_upto_region 4 with (go_at_call 107; refine (hparH.out _).mono ?_; rintro e w1 ⟨rfl, hb1⟩)
        have hP1 := hPH.out.below hb1
        have hl1 := hP1.lt
        have hb2 : Below w1.heap.size w1 (w1.alloc (.cells #[.int .i64 r0.k, .int .i64 r0.s, .int .i64 r0.a, .int .i64 r0.b, .int .i64 r0.c, .int .i64 r0.d, .string r0.body] 38)) := (Below.refl _ _).alloc (Nat.le_refl _) _
        have hB1 := hBH.out.trans (hb1.mono (by simp))
        refine fresh_world (fun W => (RcW W w.heap.size zeroR ∧ RcW W w1.heap.size r0) ∧ Below w.heap.size w W) ⟨⟨hP1.below hb2, RcW.new w1 r0 _⟩, hB1.trans (hb2.mono (by omega))⟩ ?_
        clear hP1 hb1 hb2 hB1 hBH hPH hparH
        generalize w1.heap.size = Q at hl1
        rintro W2 ⟨⟨hP2, hQ2⟩, hB2⟩
        obtain ⟨c0, c1, c2, c3, c4, c5, c6⟩ := hQ2.at_
        have z6 := hQ2.fr 6
        have hP2H := Lib.hid hP2
        have hQ2H := Lib.hid hQ2
        have hB2H := Lib.hid hB2
        clear hP2 hQ2 hB2
        go_wp2_with (go_at_call 92; refine (hbl1.out _).mono ?_; rintro e w3 ⟨rfl, rfl⟩)
        clear c0 c1 c2 c3 c4 c5 c6 z6 hbl1
        refine fresh_world (fun W => (RcW W w.heap.size zeroR ∧ RcW W Q { r0 with body := ByteArray.empty }) ∧ Below w.heap.size w W) ⟨⟨hP2H.out.far (by omega) 6 _, hQ2H.out.put6 _⟩, hB2H.out.setCell (by show w.heap.size ≤ Q; omega) _⟩ ?_
        clear hP2H hQ2H hB2H
        rintro W3 ⟨⟨hP3, hQ3⟩, hB3⟩
        have hP3H := Lib.hid hP3
        have hQ3H := Lib.hid hQ3
        have hB3H := Lib.hid hB3
        clear hP3 hQ3 hB3
        refine region_anyC (fun _ => true) (fun W => Below W3.heap.size W3 W) (by kernel_rfl) ?_
        have hS5 : Below W3.heap.size W3 W3.drew := (Below.refl _ _).drew
        refine anyL_take 0 (v := ?_) rfl (by kernel_rfl) (fun _ _ _ h => h) (Or.inl ⟨by rfl, ?_⟩) hS5 ?_
        rotate_left
        focus (intro W hW; go_simp; try with_reducible rfl)
        simp only [Act.put, List.setIfInBounds_toArray, List.set_cons_zero, List.set_cons_succ]
        refine anyL_take 1 (v := ?_) rfl (by kernel_rfl) (fun _ _ _ h => h) (Or.inl ⟨by rfl, ?_⟩) hS5 ?_
        rotate_left
        focus (intro W hW; go_simp; try with_reducible rfl)
        simp only [Act.put, List.setIfInBounds_toArray, List.set_cons_zero, List.set_cons_succ]
        refine anyL_take 2 (v := ?_) rfl (by kernel_rfl) (fun _ _ _ h => h) (Or.inl ⟨by rfl, ?_⟩) hS5 ?_
        rotate_left
        focus (intro W hW; go_simp; try with_reducible rfl)
        simp only [Act.put, List.setIfInBounds_toArray, List.set_cons_zero, List.set_cons_succ]
        refine anyL_take 3 (v := ?_) rfl (by kernel_rfl) (fun _ _ _ h => h) (Or.inl ⟨by rfl, ?_⟩) hS5 ?_
        rotate_left
        focus (intro W hW; go_simp; try with_reducible rfl)
        simp only [Act.put, List.setIfInBounds_toArray, List.set_cons_zero, List.set_cons_succ]
        refine anyL_take 4 (v := ?_) rfl (by kernel_rfl) (fun _ _ _ h => h) (Or.inl ⟨by rfl, ?_⟩) hS5 ?_
        rotate_left
        focus (intro W hW; go_simp; try with_reducible rfl)
        simp only [Act.put, List.setIfInBounds_toArray, List.set_cons_zero, List.set_cons_succ]
        refine anyL_take 5 (v := ?_) rfl (by kernel_rfl) (fun _ _ _ h => h) (Or.inl ⟨by rfl, ?_⟩) hS5 ?_
        rotate_left
        focus (intro W hW; have k6 := (hQ3H.out.below hW).at_.c6; go_simp; try with_reducible rfl)
        simp only [Act.put, List.setIfInBounds_toArray, List.set_cons_zero, List.set_cons_succ]
        refine anyL_one 6 rfl (by kernel_rfl) (fun K hK => ?_)
        go_simp
        refine (hckH.out _ (hB3H.out.trans (hS5.mono hB3H.out.size))).mono ?_
        rintro e' wp ⟨rfl, hbp⟩
        have hb2 := hS5.trans (hbp.mono (by simp))
        dsimp only
        refine hK.out _ _ (fun _ => hb2) ?_
        clear hK K
        try simp only [Act.put, List.setIfInBounds_toArray, List.set_cons_zero, List.set_cons_succ]
        refine anyL_take 7 (v := ?_) rfl (by kernel_rfl) (fun _ _ _ h => h) (Or.inl ⟨by rfl, ?_⟩) hb2 ?_
        rotate_left
        focus (intro W hW; go_simp; try with_reducible rfl)
        simp only [Act.put, List.setIfInBounds_toArray, List.set_cons_zero, List.set_cons_succ]
        refine anyC_done (by kernel_rfl) ?_ _
        simp only [Exit.then]
        have hP4 := hP3H.out.below hb2
        have hQ4 := hQ3H.out.below hb2
        have hB4 := hB3H.out.trans (hb2.mono hB3H.out.size)
        clear hP3H hQ3H hB3H hS5 hbp hb2 hckH
        obtain ⟨d0, d1, d2, d3, d4, d5, d6⟩ := hP4.at_
        obtain ⟨c0, c1, c2, c3, c4, c5, c6⟩ := hQ4.at_
        have z0 := hP4.fr 0; have z1 := hP4.fr 1; have z2 := hP4.fr 2; have z3 := hP4.fr 3; have z4 := hP4.fr 4; have z5 := hP4.fr 5; have z6 := hP4.fr 6
        have hP2H := Lib.hid hP4
        have hB2H := Lib.hid hB4
        clear hP4 hQ4 hB4
        go_wp2_with fail
        refine fresh_post (fun W => RcAt W w.heap.size ({ r0 with body := ByteArray.empty } : Rc) ∧ Below w.heap.size w W) ⟨(hP2H.out.all ({ r0 with body := ByteArray.empty } : Rc)).at_, (((((((hB2H.out.setCell (by simp) _).setCell (by simp) _).setCell (by simp) _).setCell (by simp) _).setCell (by simp) _).setCell (by simp) _).setCell (by simp) _)⟩ ?_
        clear d0 d1 d2 d3 d4 d5 d6 z0 z1 z2 z3 z4 z5 z6 hP2H hB2H c0 c1 c2 c3 c4 c5 c6
        rintro W9 ⟨⟨d0, d1, d2, d3, d4, d5, d6⟩, hB9⟩
        refine bodyPost_ret (v := .tuple #[.agg #[.int .i64 r0.k, .int .i64 r0.s, .int .i64 r0.a, .int .i64 r0.b, .int .i64 r0.c, .int .i64 r0.d, .string (ByteArray.empty)], .int .i64 1, .int .i64 0]) (by simp [results, Tryz.results88, go_sem, d0, d1, d2, d3, d4, d5, d6]) rfl ⟨rfl, ?_⟩
        exact hB9
      · rw [if_neg hsum]
        have hne : ((s.extract 21 25).toList == cs.toList) = false := beq_eq_false_iff_ne.2 (fun e => hsum (by rw [ByteArray.toList_eq, ByteArray.toList_eq] at e; exact ByteArray.ext (Array.ext' e)))
        clear hsum
        go_enter Tryz.func88, Tryz.ntmps88
        go_upto_region 4 with (go_at_call 107; refine (hparH.out _).mono ?_; rintro e w1 ⟨rfl, hb1⟩)
        have hP1 := hPH.out.below hb1
        have hl1 := hP1.lt
        have hb2 : Below w1.heap.size w1 (w1.alloc (.cells #[.int .i64 r0.k, .int .i64 r0.s, .int .i64 r0.a, .int .i64 r0.b, .int .i64 r0.c, .int .i64 r0.d, .string r0.body] 38)) := (Below.refl _ _).alloc (Nat.le_refl _) _
        have hB1 := hBH.out.trans (hb1.mono (by simp))
        refine fresh_world (fun W => (RcW W w.heap.size zeroR ∧ RcW W w1.heap.size r0) ∧ Below w.heap.size w W) ⟨⟨hP1.below hb2, RcW.new w1 r0 _⟩, hB1.trans (hb2.mono (by omega))⟩ ?_
        clear hP1 hb1 hb2 hB1 hBH hPH hparH
        generalize w1.heap.size = Q at hl1
        rintro W2 ⟨⟨hP2, hQ2⟩, hB2⟩
        obtain ⟨c0, c1, c2, c3, c4, c5, c6⟩ := hQ2.at_
        have z6 := hQ2.fr 6
        have hP2H := Lib.hid hP2
        have hQ2H := Lib.hid hQ2
        have hB2H := Lib.hid hB2
        clear hP2 hQ2 hB2
        go_wp2_with (go_at_call 92; refine (hbl1.out _).mono ?_; rintro e w3 ⟨rfl, rfl⟩)
        clear c0 c1 c2 c3 c4 c5 c6 z6 hbl1
        refine fresh_world (fun W => (RcW W w.heap.size zeroR ∧ RcW W Q { r0 with body := ByteArray.empty }) ∧ Below w.heap.size w W) ⟨⟨hP2H.out.far (by omega) 6 _, hQ2H.out.put6 _⟩, hB2H.out.setCell (by show w.heap.size ≤ Q; omega) _⟩ ?_
        clear hP2H hQ2H hB2H
        rintro W3 ⟨⟨hP3, hQ3⟩, hB3⟩
        have hP3H := Lib.hid hP3
        have hQ3H := Lib.hid hQ3
        have hB3H := Lib.hid hB3
        clear hP3 hQ3 hB3
        refine region_anyC (fun _ => true) (fun W => Below W3.heap.size W3 W) (by kernel_rfl) ?_
        have hS5 : Below W3.heap.size W3 W3.drew := (Below.refl _ _).drew
        refine anyL_take 0 (v := ?_) rfl (by kernel_rfl) (fun _ _ _ h => h) (Or.inl ⟨by rfl, ?_⟩) hS5 ?_
        rotate_left
        focus (intro W hW; go_simp; try with_reducible rfl)
        simp only [Act.put, List.setIfInBounds_toArray, List.set_cons_zero, List.set_cons_succ]
        refine anyL_take 1 (v := ?_) rfl (by kernel_rfl) (fun _ _ _ h => h) (Or.inl ⟨by rfl, ?_⟩) hS5 ?_
        rotate_left
        focus (intro W hW; go_simp; try with_reducible rfl)
        simp only [Act.put, List.setIfInBounds_toArray, List.set_cons_zero, List.set_cons_succ]
        refine anyL_take 2 (v := ?_) rfl (by kernel_rfl) (fun _ _ _ h => h) (Or.inl ⟨by rfl, ?_⟩) hS5 ?_
        rotate_left
        focus (intro W hW; go_simp; try with_reducible rfl)
        simp only [Act.put, List.setIfInBounds_toArray, List.set_cons_zero, List.set_cons_succ]
        refine anyL_take 3 (v := ?_) rfl (by kernel_rfl) (fun _ _ _ h => h) (Or.inl ⟨by rfl, ?_⟩) hS5 ?_
        rotate_left
        focus (intro W hW; go_simp; try with_reducible rfl)
        simp only [Act.put, List.setIfInBounds_toArray, List.set_cons_zero, List.set_cons_succ]
        refine anyL_take 4 (v := ?_) rfl (by kernel_rfl) (fun _ _ _ h => h) (Or.inl ⟨by rfl, ?_⟩) hS5 ?_
        rotate_left
        focus (intro W hW; go_simp; try with_reducible rfl)
        simp only [Act.put, List.setIfInBounds_toArray, List.set_cons_zero, List.set_cons_succ]
        refine anyL_take 5 (v := ?_) rfl (by kernel_rfl) (fun _ _ _ h => h) (Or.inl ⟨by rfl, ?_⟩) hS5 ?_
        rotate_left
        focus (intro W hW; have k6 := (hQ3H.out.below hW).at_.c6; go_simp; try with_reducible rfl)
        simp only [Act.put, List.setIfInBounds_toArray, List.set_cons_zero, List.set_cons_succ]
        refine anyL_one 6 rfl (by kernel_rfl) (fun K hK => ?_)
        go_simp
        refine (hckH.out _ (hB3H.out.trans (hS5.mono hB3H.out.size))).mono ?_
        rintro e' wp ⟨rfl, hbp⟩
        have hb2 := hS5.trans (hbp.mono (by simp))
        dsimp only
        refine hK.out _ _ (fun _ => hb2) ?_
        clear hK K
        try simp only [Act.put, List.setIfInBounds_toArray, List.set_cons_zero, List.set_cons_succ]
        refine anyL_take 7 (v := ?_) rfl (by kernel_rfl) (fun _ _ _ h => h) (Or.inl ⟨by rfl, ?_⟩) hb2 ?_
        rotate_left
        focus (intro W hW; go_simp; try with_reducible rfl)
        simp only [Act.put, List.setIfInBounds_toArray, List.set_cons_zero, List.set_cons_succ]
        refine anyC_done (by kernel_rfl) ?_ _
        simp only [Exit.then]
        have hP4 := hP3H.out.below hb2
        have hQ4 := hQ3H.out.below hb2
        have hB4 := hB3H.out.trans (hb2.mono hB3H.out.size)
        clear hP3H hQ3H hB3H hS5 hbp hb2 hckH
        obtain ⟨d0, d1, d2, d3, d4, d5, d6⟩ := hP4.at_
        obtain ⟨c0, c1, c2, c3, c4, c5, c6⟩ := hQ4.at_
        have z0 := hP4.fr 0; have z1 := hP4.fr 1; have z2 := hP4.fr 2; have z3 := hP4.fr 3; have z4 := hP4.fr 4; have z5 := hP4.fr 5; have z6 := hP4.fr 6
        have hP2H := Lib.hid hP4
        have hB2H := Lib.hid hB4
        clear hP4 hQ4 hB4
        go_wp2_with fail
        refine fresh_post (fun W => RcAt W w.heap.size zeroR ∧ Below w.heap.size w W) ⟨(hP2H.out.all zeroR).at_, (((((((hB2H.out.setCell (by simp) _).setCell (by simp) _).setCell (by simp) _).setCell (by simp) _).setCell (by simp) _).setCell (by simp) _).setCell (by simp) _)⟩ ?_
        clear d0 d1 d2 d3 d4 d5 d6 z0 z1 z2 z3 z4 z5 z6 hP2H hB2H c0 c1 c2 c3 c4 c5 c6
        rintro W9 ⟨⟨d0, d1, d2, d3, d4, d5, d6⟩, hB9⟩
        refine bodyPost_ret (v := .tuple #[.agg #[.int .i64 0, .int .i64 0, .int .i64 0, .int .i64 0, .int .i64 0, .int .i64 0, .string ⟨#[]⟩], .int .i64 0, .int .i64 11]) (by simp [results, Tryz.results88, go_sem, d0, d1, d2, d3, d4, d5, d6, zeroR]) rfl ⟨rfl, ?_⟩
        exact hB9
    · rw [hnb] at hbl ⊢
      clear hnb
      have hbl1 : Hid (∀ W, Calls Tryz.prog 92 #[.int .i64 r0.k] W fun e w' => e = .returned (.int .i64 2) ∧ W = w') := Lib.hid hbl.out
      clear hbl
      have gw : IntKind.i64.wrap 128 = 128 := by decide +kernel
      by_cases hlt : s.size < 2 * 64
      · rw [if_pos (by omega)]
        have hsh : (s.size : Int) < 128 := by omega
        clear hTA
        go_enter Tryz.func88, Tryz.ntmps88
        go_upto_region 4 with (go_at_call 107; refine (hparH.out _).mono ?_; rintro e w1 ⟨rfl, hb1⟩)
        have hP1 := hPH.out.below hb1
        have hl1 := hP1.lt
        have hb2 : Below w1.heap.size w1 (w1.alloc (.cells #[.int .i64 r0.k, .int .i64 r0.s, .int .i64 r0.a, .int .i64 r0.b, .int .i64 r0.c, .int .i64 r0.d, .string r0.body] 38)) := (Below.refl _ _).alloc (Nat.le_refl _) _
        have hB1 := hBH.out.trans (hb1.mono (by simp))
        refine fresh_world (fun W => (RcW W w.heap.size zeroR ∧ RcW W w1.heap.size r0) ∧ Below w.heap.size w W) ⟨⟨hP1.below hb2, RcW.new w1 r0 _⟩, hB1.trans (hb2.mono (by omega))⟩ ?_
        clear hP1 hb1 hb2 hB1 hBH hPH hparH
        generalize w1.heap.size = Q at hl1
        rintro W2 ⟨⟨hP2, hQ2⟩, hB2⟩
        obtain ⟨d0, d1, d2, d3, d4, d5, d6⟩ := hP2.at_
        obtain ⟨c0, c1, c2, c3, c4, c5, c6⟩ := hQ2.at_
        have z0 := hP2.fr 0; have z1 := hP2.fr 1; have z2 := hP2.fr 2; have z3 := hP2.fr 3; have z4 := hP2.fr 4; have z5 := hP2.fr 5; have z6 := hP2.fr 6
        have hP2H := Lib.hid hP2
        have hB2H := Lib.hid hB2
        clear hP2 hQ2 hB2 c1 c2 c3 c4 c5 c6
        go_wp2_with (go_at_call 92; refine (hbl1.out _).mono ?_; rintro e w3 ⟨rfl, rfl⟩)
        refine fresh_post (fun W => RcAt W w.heap.size zeroR ∧ Below w.heap.size w W) ⟨(hP2H.out.all zeroR).at_, (((((((hB2H.out.setCell (by simp) _).setCell (by simp) _).setCell (by simp) _).setCell (by simp) _).setCell (by simp) _).setCell (by simp) _).setCell (by simp) _)⟩ ?_
        clear d0 d1 d2 d3 d4 d5 d6 z0 z1 z2 z3 z4 z5 z6 hP2H hB2H
        rintro W9 ⟨⟨d0, d1, d2, d3, d4, d5, d6⟩, hB9⟩
        refine bodyPost_ret (v := .tuple #[.agg #[.int .i64 0, .int .i64 0, .int .i64 0, .int .i64 0, .int .i64 0, .int .i64 0, .string ⟨#[]⟩], .int .i64 0, .int .i64 10]) (by simp [results, Tryz.results88, go_sem, d0, d1, d2, d3, d4, d5, d6, zeroR]) rfl ⟨rfl, ?_⟩
        exact hB9
      · rw [if_neg (by omega)]
        have hsh : ¬ (s.size : Int) < 128 := by omega
        have hsh2 : 128 ≤ s.size := by omega
        have hsh3 : (128 : Int) ≤ (s.size : Int) := by omega
        have hckH : Hid (∀ W, Below w.heap.size w W → Calls Tryz.prog 96 #[.string (s.extract 0 21), .string (s.extract 64 128)] W fun e w' => e = .returned (.string (sumS (s.extract 0 21) (s.extract 64 128))) ∧ Below W.heap.size W w') := Lib.hid (fun W h => checksum_any _ _ W (hTA.out W h) (by rw [ByteArray.size_extract]; omega) (by rw [ByteArray.size_extract]; omega))
        simp only [Nat.reduceMul]
        generalize sumS (s.extract 0 21) (s.extract 64 128) = cs at hckH ⊢
        clear hTA
        have q1 : 25 ≤ s.size := by omega
        have q2 : 21 ≤ s.size := by omega
        have q3 : (25 : Int) ≤ (s.size : Int) := by omega
        have q4 : (21 : Int) ≤ (s.size : Int) := by omega
        by_cases hsum : s.extract 21 25 = cs
        · rw [if_pos hsum]
          go_enter Tryz.func88, Tryz.ntmps88
          go_upto_region 4 with (go_at_call 107; refine (hparH.out _).mono ?_; rintro e w1 ⟨rfl, hb1⟩)
          have hP1 := hPH.out.below hb1
          have hl1 := hP1.lt
          have hb2 : Below w1.heap.size w1 (w1.alloc (.cells #[.int .i64 r0.k, .int .i64 r0.s, .int .i64 r0.a, .int .i64 r0.b, .int .i64 r0.c, .int .i64 r0.d, .string r0.body] 38)) := (Below.refl _ _).alloc (Nat.le_refl _) _
          have hB1 := hBH.out.trans (hb1.mono (by simp))
          refine fresh_world (fun W => (RcW W w.heap.size zeroR ∧ RcW W w1.heap.size r0) ∧ Below w.heap.size w W) ⟨⟨hP1.below hb2, RcW.new w1 r0 _⟩, hB1.trans (hb2.mono (by omega))⟩ ?_
          clear hP1 hb1 hb2 hB1 hBH hPH hparH
          generalize w1.heap.size = Q at hl1
          rintro W2 ⟨⟨hP2, hQ2⟩, hB2⟩
          obtain ⟨c0, c1, c2, c3, c4, c5, c6⟩ := hQ2.at_
          have z6 := hQ2.fr 6
          have hP2H := Lib.hid hP2
          have hQ2H := Lib.hid hQ2
          have hB2H := Lib.hid hB2
          clear hP2 hQ2 hB2
          go_wp2_with (go_at_call 92; refine (hbl1.out _).mono ?_; rintro e w3 ⟨rfl, rfl⟩)
          clear c0 c1 c2 c3 c4 c5 c6 z6 hbl1
          refine fresh_world (fun W => (RcW W w.heap.size zeroR ∧ RcW W Q { r0 with body := s.extract 64 128 }) ∧ Below w.heap.size w W) ⟨⟨hP2H.out.far (by omega) 6 _, hQ2H.out.put6 _⟩, hB2H.out.setCell (by show w.heap.size ≤ Q; omega) _⟩ ?_
          clear hP2H hQ2H hB2H
          rintro W3 ⟨⟨hP3, hQ3⟩, hB3⟩
          have hP3H := Lib.hid hP3
          have hQ3H := Lib.hid hQ3
          have hB3H := Lib.hid hB3
          clear hP3 hQ3 hB3
          refine region_anyC (fun _ => true) (fun W => Below W3.heap.size W3 W) (by kernel_rfl) ?_
          have hS5 : Below W3.heap.size W3 W3.drew := (Below.refl _ _).drew
          refine anyL_take 0 (v := ?_) rfl (by kernel_rfl) (fun _ _ _ h => h) (Or.inl ⟨by rfl, ?_⟩) hS5 ?_
          rotate_left
          focus (intro W hW; go_simp; try with_reducible rfl)
          simp only [Act.put, List.setIfInBounds_toArray, List.set_cons_zero, List.set_cons_succ]
          refine anyL_take 1 (v := ?_) rfl (by kernel_rfl) (fun _ _ _ h => h) (Or.inl ⟨by rfl, ?_⟩) hS5 ?_
          rotate_left
          focus (intro W hW; go_simp; try with_reducible rfl)
          simp only [Act.put, List.setIfInBounds_toArray, List.set_cons_zero, List.set_cons_succ]
          refine anyL_take 2 (v := ?_) rfl (by kernel_rfl) (fun _ _ _ h => h) (Or.inl ⟨by rfl, ?_⟩) hS5 ?_
          rotate_left
          focus (intro W hW; go_simp; try with_reducible rfl)
          simp only [Act.put, List.setIfInBounds_toArray, List.set_cons_zero, List.set_cons_succ]
          refine anyL_take 3 (v := ?_) rfl (by kernel_rfl) (fun _ _ _ h => h) (Or.inl ⟨by rfl, ?_⟩) hS5 ?_
          rotate_left
          focus (intro W hW; go_simp; try with_reducible rfl)
          simp only [Act.put, List.setIfInBounds_toArray, List.set_cons_zero, List.set_cons_succ]
          refine anyL_take 4 (v := ?_) rfl (by kernel_rfl) (fun _ _ _ h => h) (Or.inl ⟨by rfl, ?_⟩) hS5 ?_
          rotate_left
          focus (intro W hW; go_simp; try with_reducible rfl)
          simp only [Act.put, List.setIfInBounds_toArray, List.set_cons_zero, List.set_cons_succ]
          refine anyL_take 5 (v := ?_) rfl (by kernel_rfl) (fun _ _ _ h => h) (Or.inl ⟨by rfl, ?_⟩) hS5 ?_
          rotate_left
          focus (intro W hW; have k6 := (hQ3H.out.below hW).at_.c6; go_simp; try with_reducible rfl)
          simp only [Act.put, List.setIfInBounds_toArray, List.set_cons_zero, List.set_cons_succ]
          refine anyL_one 6 rfl (by kernel_rfl) (fun K hK => ?_)
          go_simp
          refine (hckH.out _ (hB3H.out.trans (hS5.mono hB3H.out.size))).mono ?_
          rintro e' wp ⟨rfl, hbp⟩
          have hb2 := hS5.trans (hbp.mono (by simp))
          dsimp only
          refine hK.out _ _ (fun _ => hb2) ?_
          clear hK K
          try simp only [Act.put, List.setIfInBounds_toArray, List.set_cons_zero, List.set_cons_succ]
          refine anyL_take 7 (v := ?_) rfl (by kernel_rfl) (fun _ _ _ h => h) (Or.inl ⟨by rfl, ?_⟩) hb2 ?_
          rotate_left
          focus (intro W hW; go_simp; try with_reducible rfl)
          simp only [Act.put, List.setIfInBounds_toArray, List.set_cons_zero, List.set_cons_succ]
          refine anyC_done (by kernel_rfl) ?_ _
          simp only [Exit.then]
          have hP4 := hP3H.out.below hb2
          have hQ4 := hQ3H.out.below hb2
          have hB4 := hB3H.out.trans (hb2.mono hB3H.out.size)
          clear hP3H hQ3H hB3H hS5 hbp hb2 hckH
          obtain ⟨d0, d1, d2, d3, d4, d5, d6⟩ := hP4.at_
          obtain ⟨c0, c1, c2, c3, c4, c5, c6⟩ := hQ4.at_
          have z0 := hP4.fr 0; have z1 := hP4.fr 1; have z2 := hP4.fr 2; have z3 := hP4.fr 3; have z4 := hP4.fr 4; have z5 := hP4.fr 5; have z6 := hP4.fr 6
          have hP2H := Lib.hid hP4
          have hB2H := Lib.hid hB4
          clear hP4 hQ4 hB4
          go_wp2_with fail
          refine fresh_post (fun W => RcAt W w.heap.size ({ r0 with body := s.extract 64 128 } : Rc) ∧ Below w.heap.size w W) ⟨(hP2H.out.all ({ r0 with body := s.extract 64 128 } : Rc)).at_, (((((((hB2H.out.setCell (by simp) _).setCell (by simp) _).setCell (by simp) _).setCell (by simp) _).setCell (by simp) _).setCell (by simp) _).setCell (by simp) _)⟩ ?_
          clear d0 d1 d2 d3 d4 d5 d6 z0 z1 z2 z3 z4 z5 z6 hP2H hB2H c0 c1 c2 c3 c4 c5 c6
          rintro W9 ⟨⟨d0, d1, d2, d3, d4, d5, d6⟩, hB9⟩
          refine bodyPost_ret (v := .tuple #[.agg #[.int .i64 r0.k, .int .i64 r0.s, .int .i64 r0.a, .int .i64 r0.b, .int .i64 r0.c, .int .i64 r0.d, .string (s.extract 64 128)], .int .i64 2, .int .i64 0]) (by simp [results, Tryz.results88, go_sem, d0, d1, d2, d3, d4, d5, d6]) rfl ⟨rfl, ?_⟩
          exact hB9
        · rw [if_neg hsum]
          have hne : ((s.extract 21 25).toList == cs.toList) = false := beq_eq_false_iff_ne.2 (fun e => hsum (by rw [ByteArray.toList_eq, ByteArray.toList_eq] at e; exact ByteArray.ext (Array.ext' e)))
          clear hsum
          go_enter Tryz.func88, Tryz.ntmps88
          go_upto_region 4 with (go_at_call 107; refine (hparH.out _).mono ?_; rintro e w1 ⟨rfl, hb1⟩)
          have hP1 := hPH.out.below hb1
          have hl1 := hP1.lt
          have hb2 : Below w1.heap.size w1 (w1.alloc (.cells #[.int .i64 r0.k, .int .i64 r0.s, .int .i64 r0.a, .int .i64 r0.b, .int .i64 r0.c, .int .i64 r0.d, .string r0.body] 38)) := (Below.refl _ _).alloc (Nat.le_refl _) _
          have hB1 := hBH.out.trans (hb1.mono (by simp))
          refine fresh_world (fun W => (RcW W w.heap.size zeroR ∧ RcW W w1.heap.size r0) ∧ Below w.heap.size w W) ⟨⟨hP1.below hb2, RcW.new w1 r0 _⟩, hB1.trans (hb2.mono (by omega))⟩ ?_
          clear hP1 hb1 hb2 hB1 hBH hPH hparH
          generalize w1.heap.size = Q at hl1
          rintro W2 ⟨⟨hP2, hQ2⟩, hB2⟩
          obtain ⟨c0, c1, c2, c3, c4, c5, c6⟩ := hQ2.at_
          have z6 := hQ2.fr 6
          have hP2H := Lib.hid hP2
          have hQ2H := Lib.hid hQ2
          have hB2H := Lib.hid hB2
          clear hP2 hQ2 hB2
          go_wp2_with (go_at_call 92; refine (hbl1.out _).mono ?_; rintro e w3 ⟨rfl, rfl⟩)
          clear c0 c1 c2 c3 c4 c5 c6 z6 hbl1
          refine fresh_world (fun W => (RcW W w.heap.size zeroR ∧ RcW W Q { r0 with body := s.extract 64 128 }) ∧ Below w.heap.size w W) ⟨⟨hP2H.out.far (by omega) 6 _, hQ2H.out.put6 _⟩, hB2H.out.setCell (by show w.heap.size ≤ Q; omega) _⟩ ?_
          clear hP2H hQ2H hB2H
          rintro W3 ⟨⟨hP3, hQ3⟩, hB3⟩
          have hP3H := Lib.hid hP3
          have hQ3H := Lib.hid hQ3
          have hB3H := Lib.hid hB3
          clear hP3 hQ3 hB3
          refine region_anyC (fun _ => true) (fun W => Below W3.heap.size W3 W) (by kernel_rfl) ?_
          have hS5 : Below W3.heap.size W3 W3.drew := (Below.refl _ _).drew
          refine anyL_take 0 (v := ?_) rfl (by kernel_rfl) (fun _ _ _ h => h) (Or.inl ⟨by rfl, ?_⟩) hS5 ?_
          rotate_left
          focus (intro W hW; go_simp; try with_reducible rfl)
          simp only [Act.put, List.setIfInBounds_toArray, List.set_cons_zero, List.set_cons_succ]
          refine anyL_take 1 (v := ?_) rfl (by kernel_rfl) (fun _ _ _ h => h) (Or.inl ⟨by rfl, ?_⟩) hS5 ?_
          rotate_left
          focus (intro W hW; go_simp; try with_reducible rfl)
          simp only [Act.put, List.setIfInBounds_toArray, List.set_cons_zero, List.set_cons_succ]
          refine anyL_take 2 (v := ?_) rfl (by kernel_rfl) (fun _ _ _ h => h) (Or.inl ⟨by rfl, ?_⟩) hS5 ?_
          rotate_left
          focus (intro W hW; go_simp; try with_reducible rfl)
          simp only [Act.put, List.setIfInBounds_toArray, List.set_cons_zero, List.set_cons_succ]
          refine anyL_take 3 (v := ?_) rfl (by kernel_rfl) (fun _ _ _ h => h) (Or.inl ⟨by rfl, ?_⟩) hS5 ?_
          rotate_left
          focus (intro W hW; go_simp; try with_reducible rfl)
          simp only [Act.put, List.setIfInBounds_toArray, List.set_cons_zero, List.set_cons_succ]
          refine anyL_take 4 (v := ?_) rfl (by kernel_rfl) (fun _ _ _ h => h) (Or.inl ⟨by rfl, ?_⟩) hS5 ?_
          rotate_left
          focus (intro W hW; go_simp; try with_reducible rfl)
          simp only [Act.put, List.setIfInBounds_toArray, List.set_cons_zero, List.set_cons_succ]
          refine anyL_take 5 (v := ?_) rfl (by kernel_rfl) (fun _ _ _ h => h) (Or.inl ⟨by rfl, ?_⟩) hS5 ?_
          rotate_left
          focus (intro W hW; have k6 := (hQ3H.out.below hW).at_.c6; go_simp; try with_reducible rfl)
          simp only [Act.put, List.setIfInBounds_toArray, List.set_cons_zero, List.set_cons_succ]
          refine anyL_one 6 rfl (by kernel_rfl) (fun K hK => ?_)
          go_simp
          refine (hckH.out _ (hB3H.out.trans (hS5.mono hB3H.out.size))).mono ?_
          rintro e' wp ⟨rfl, hbp⟩
          have hb2 := hS5.trans (hbp.mono (by simp))
          dsimp only
          refine hK.out _ _ (fun _ => hb2) ?_
          clear hK K
          try simp only [Act.put, List.setIfInBounds_toArray, List.set_cons_zero, List.set_cons_succ]
          refine anyL_take 7 (v := ?_) rfl (by kernel_rfl) (fun _ _ _ h => h) (Or.inl ⟨by rfl, ?_⟩) hb2 ?_
          rotate_left
          focus (intro W hW; go_simp; try with_reducible rfl)
          simp only [Act.put, List.setIfInBounds_toArray, List.set_cons_zero, List.set_cons_succ]
          refine anyC_done (by kernel_rfl) ?_ _
          simp only [Exit.then]
          have hP4 := hP3H.out.below hb2
          have hQ4 := hQ3H.out.below hb2
          have hB4 := hB3H.out.trans (hb2.mono hB3H.out.size)
          clear hP3H hQ3H hB3H hS5 hbp hb2 hckH
          obtain ⟨d0, d1, d2, d3, d4, d5, d6⟩ := hP4.at_
          obtain ⟨c0, c1, c2, c3, c4, c5, c6⟩ := hQ4.at_
          have z0 := hP4.fr 0; have z1 := hP4.fr 1; have z2 := hP4.fr 2; have z3 := hP4.fr 3; have z4 := hP4.fr 4; have z5 := hP4.fr 5; have z6 := hP4.fr 6
          have hP2H := Lib.hid hP4
          have hB2H := Lib.hid hB4
          clear hP4 hQ4 hB4
          go_wp2_with fail
          refine fresh_post (fun W => RcAt W w.heap.size zeroR ∧ Below w.heap.size w W) ⟨(hP2H.out.all zeroR).at_, (((((((hB2H.out.setCell (by simp) _).setCell (by simp) _).setCell (by simp) _).setCell (by simp) _).setCell (by simp) _).setCell (by simp) _).setCell (by simp) _)⟩ ?_
          clear d0 d1 d2 d3 d4 d5 d6 z0 z1 z2 z3 z4 z5 z6 hP2H hB2H c0 c1 c2 c3 c4 c5 c6
          rintro W9 ⟨⟨d0, d1, d2, d3, d4, d5, d6⟩, hB9⟩
          refine bodyPost_ret (v := .tuple #[.agg #[.int .i64 0, .int .i64 0, .int .i64 0, .int .i64 0, .int .i64 0, .int .i64 0, .string ⟨#[]⟩], .int .i64 0, .int .i64 11]) (by simp [results, Tryz.results88, go_sem, d0, d1, d2, d3, d4, d5, d6, zeroR]) rfl ⟨rfl, ?_⟩
          exact hB9
end Go.Proofs.YtpmhfalhieinjaaGreatDoor
