/- RecordApart: records that aren't one have blocks that aren't. -/
import Derived.Test.YtlignckncgceaabDoorRecSpeak
import Derived.Test.YtlignckncgceaabDoorHeldMany
namespace Go.Proofs.YtlignckncgceaabDoor
open Go.RowKit Rec Crc Num

theorem encS_inj {a b : Rc} (ha : Rec.Good a) (hb : Rec.Good b) (h : encS a = encS b) : a = b := by
  have h1 : dec (encS a) = (a, (nBlocks a.k : Int), 0) := dec_enc ha [] (by rw [List.append_nil, encS_good ha]; rfl)
  have h2 : dec (encS b) = (b, (nBlocks b.k : Int), 0) := dec_enc hb [] (by rw [List.append_nil, encS_good hb]; rfl)
  rw [h, h2] at h1
  exact (congrArg Prod.fst h1).symm
theorem RcW.farAll {W : World} {B C : Nat} {r : Rc} (h : RcW W B r) (hc : C ≠ B) (q : Rc) : RcW (((((((W.setCell ⟨C, 0, none⟩ (.int .i64 q.k)).setCell ⟨C, 1, none⟩ (.int .i64 q.s)).setCell ⟨C, 2, none⟩ (.int .i64 q.a)).setCell ⟨C, 3, none⟩ (.int .i64 q.b)).setCell ⟨C, 4, none⟩ (.int .i64 q.c)).setCell ⟨C, 5, none⟩ (.int .i64 q.d)).setCell ⟨C, 6, none⟩ (.string q.body)) B r :=
  ((((((h.far hc 0 _).far hc 1 _).far hc 2 _).far hc 3 _).far hc 4 _).far hc 5 _).far hc 6 _
theorem below_setAll {w W : World} {n C : Nat} (h : Below n w W) (hc : n ≤ C) (q : Rc) : Below n w (((((((W.setCell ⟨C, 0, none⟩ (.int .i64 q.k)).setCell ⟨C, 1, none⟩ (.int .i64 q.s)).setCell ⟨C, 2, none⟩ (.int .i64 q.a)).setCell ⟨C, 3, none⟩ (.int .i64 q.b)).setCell ⟨C, 4, none⟩ (.int .i64 q.c)).setCell ⟨C, 5, none⟩ (.int .i64 q.d)).setCell ⟨C, 6, none⟩ (.string q.body)) :=
  ((((((h.setCell hc _).setCell hc _).setCell hc _).setCell hc _).setCell hc _).setCell hc _).setCell hc _
theorem fresh_cut {Q : Exit → Act → World → Prop} {e : Exit} {a : Act} {W : World} (R : World → Prop) (hR : R W) (h : ∀ W2, R W2 → Q e a W2) : Q e a W := h W hR
theorem fresh_anyC {P : Program} {md : Region.Mode} {ops : Array Oper} {Q : Exit → Act → World → Prop} {c : Nat → Bool} {S : World → Prop} {fuel : Nat} {listed : Array Bool} {a : Act} {W : World} (R : World → Prop) (hR : R W)
    (h : ∀ W2, R W2 → anyC P md ops Q c S fuel listed a W2) : anyC P md ops Q c S fuel listed a W := h W hR

set_option maxRecDepth 100000 in
set_option maxHeartbeats 8000000 in
theorem apart_law (r1 r2 : Rc) (w : World) (hT : Tab w) (hb1 : r1.body.size ≤ 281474976710656) (hb2 : r2.body.size ≤ 281474976710656) :
    Calls Tryd.prog 7 #[.agg #[.int .i64 r1.k, .int .i64 r1.s, .int .i64 r1.a, .int .i64 r1.b, .int .i64 r1.c, .int .i64 r1.d, .string r1.body], .agg #[.int .i64 r2.k, .int .i64 r2.s, .int .i64 r2.a, .int .i64 r2.b, .int .i64 r2.c, .int .i64 r2.d, .string r2.body]] w fun e w' => e = .returned (.bool true) ∧ Below w.heap.size w w' := by
  have hwh1 := Lib.hid (fun W => whole_any r1 W hb1)
  have hwh2 := Lib.hid (fun W => whole_any r2 W hb2)
  obtain ⟨q1, hq1⟩ : ∃ q, q = wholeR r1 := ⟨_, rfl⟩
  obtain ⟨q2, hq2⟩ : ∃ q, q = wholeR r2 := ⟨_, rfl⟩
  rw [← hq1] at hwh1
  rw [← hq2] at hwh2
  clear hq1 hq2 hb1 hb2
  have hTA := Lib.hid (fun W (h : Below w.heap.size w W) => hT.below h)
  have hB0 := Lib.hid (show Below w.heap.size w ((w.alloc (.cells #[.int .i64 r1.k, .int .i64 r1.s, .int .i64 r1.a, .int .i64 r1.b, .int .i64 r1.c, .int .i64 r1.d, .string r1.body] 23)).alloc (.cells #[.int .i64 r2.k, .int .i64 r2.s, .int .i64 r2.a, .int .i64 r2.b, .int .i64 r2.c, .int .i64 r2.d, .string r2.body] 23)) from ((Below.refl _ _).alloc (Nat.le_refl _) _).alloc (by simp) _)
  have hX0 := Lib.hid (show RcAt ((w.alloc (.cells #[.int .i64 r1.k, .int .i64 r1.s, .int .i64 r1.a, .int .i64 r1.b, .int .i64 r1.c, .int .i64 r1.d, .string r1.body] 23)).alloc (.cells #[.int .i64 r2.k, .int .i64 r2.s, .int .i64 r2.a, .int .i64 r2.b, .int .i64 r2.c, .int .i64 r2.d, .string r2.body] 23)) w.heap.size r1 from (RcAt.new w r1 23).below ((Below.refl _ _).alloc (by simp) _))
  have hY0 := Lib.hid (show RcAt ((w.alloc (.cells #[.int .i64 r1.k, .int .i64 r1.s, .int .i64 r1.a, .int .i64 r1.b, .int .i64 r1.c, .int .i64 r1.d, .string r1.body] 23)).alloc (.cells #[.int .i64 r2.k, .int .i64 r2.s, .int .i64 r2.a, .int .i64 r2.b, .int .i64 r2.c, .int .i64 r2.d, .string r2.body] 23)) (w.heap.size + 1) r2 from by have h := RcAt.new (w.alloc (.cells #[.int .i64 r1.k, .int .i64 r1.s, .int .i64 r1.a, .int .i64 r1.b, .int .i64 r1.c, .int .i64 r1.d, .string r1.body] 23)) r2 23; rwa [World.size_alloc] at h)
  clear hT
  go_enter Tryd.func7, Tryd.ntmps7
  go_upto_region 3 with (go_at_call 9; refine (speaks6 _ (hTA.out _ hB0.out)).mono ?_; rintro e w1 ⟨rfl, hb1⟩)
  refine fresh_world (fun W => (RcAt W w.heap.size r1 ∧ RcAt W (w.heap.size + 1) r2) ∧ Below w.heap.size w W) ⟨⟨hX0.out.below hb1, hY0.out.below hb1⟩, hB0.out.trans (hb1.mono (by simp; omega))⟩ ?_
  clear hX0 hY0 hB0 hb1
  rintro W1 ⟨⟨hX1, hY1⟩, hB1⟩
  have hX1H := Lib.hid hX1
  have hY1H := Lib.hid hY1
  have hB1H := Lib.hid hB1
  clear hX1 hY1 hB1
  go_cut [5, 6] (fun s5 s6 wx => ∃ x y : Nat, s5 = .pointer (some ⟨x, 0, none⟩) ∧ s6 = .pointer (some ⟨y, 0, none⟩) ∧ (RcAt wx x q1 ∧ RcAt wx y q2) ∧ Below w.heap.size w wx)
  case first =>
    refine region_anyC (fun _ => true) (fun W => Below W1.heap.size W1 W) (by kernel_rfl) ?_
    have hS5 : Below W1.heap.size W1 W1.drew := (Below.refl _ _).drew
    refine anyL_take 0 (v := ?_) rfl (by kernel_rfl) (fun _ _ _ h => h) (Or.inl ⟨by rfl, ?_⟩) hS5 ?_
    rotate_left
    focus (intro W hW; obtain ⟨k0, k1, k2, k3, k4, k5, k6⟩ := hX1H.out.below hW; go_simp; try with_reducible rfl)
    simp only [Act.put, List.setIfInBounds_toArray, List.set_cons_zero, List.set_cons_succ]
    refine anyL_take 2 (v := ?_) rfl (by kernel_rfl) (fun _ _ _ h => h) (Or.inl ⟨by rfl, ?_⟩) hS5 ?_
    rotate_left
    focus (intro W hW; obtain ⟨k0, k1, k2, k3, k4, k5, k6⟩ := hY1H.out.below hW; go_simp; try with_reducible rfl)
    simp only [Act.put, List.setIfInBounds_toArray, List.set_cons_zero, List.set_cons_succ]
    clear hX1H hY1H
    refine fresh_anyC (fun W => Below W1.heap.size W1 W) hS5 ?_
    clear hS5
    rintro U0 hS5
    refine anyL_three 1 4 5 rfl rfl rfl (by kernel_rfl) (fun K hK => ?_) (fun K hK => ?_) (fun K hK => ?_)
    · go_simp
      refine (hwh1.out _).mono ?_
      rintro e' v1 ⟨rfl, hp1⟩
      have hn1 := hS5.trans (hp1.mono hS5.size)
      refine hK.out _ _ (fun _ => hn1) ?_
      clear hK K
      try simp only [Act.put, List.setIfInBounds_toArray, List.set_cons_zero, List.set_cons_succ]
      refine fresh_anyC (fun W => Below W1.heap.size W1 W) (hn1) ?_
      clear hn1 hp1
      rintro U1 hS6
      refine anyL_three 3 4 5 rfl rfl rfl (by kernel_rfl) (fun K hK => ?_) (fun K hK => ?_) (fun K hK => ?_)
      · go_simp
        refine (hwh2.out _).mono ?_
        rintro e' v2 ⟨rfl, hp2⟩
        have hn2 := hS6.trans (hp2.mono hS6.size)
        refine hK.out _ _ (fun _ => hn2) ?_
        clear hK K
        try simp only [Act.put, List.setIfInBounds_toArray, List.set_cons_zero, List.set_cons_succ]
        refine fresh_anyC (fun W => Below W1.heap.size W1 W) (hn2) ?_
        clear hn2 hp2
        rintro U2 hS7
        refine anyL_two 4 5 rfl rfl (by kernel_rfl) (fun K hK => ?_) (fun K hK => ?_)
        · go_simp
          refine hK.out _ _ (fun _ => hS7.alloc hS7.size _) ?_
          clear hK K
          try simp only [Act.put, List.setIfInBounds_toArray, List.set_cons_zero, List.set_cons_succ]
          have g5 := hS7.size
          have a5 := RcW.new U2 zeroR 29
          refine fresh_anyC (fun W => Below W1.heap.size W1 W ∧ RcW W (U2).heap.size zeroR) ⟨hS7.alloc hS7.size _, a5⟩ ?_
          clear a5
          generalize U2.heap.size = B5 at g5 ⊢
          rintro U3 ⟨hS8, h5⟩
          refine anyL_one 5 rfl (by kernel_rfl) (fun K hK => ?_)
          go_simp
          refine hK.out _ _ (fun _ => hS8.alloc hS8.size _) ?_
          clear hK K
          try simp only [Act.put, List.setIfInBounds_toArray, List.set_cons_zero, List.set_cons_succ]
          have g6 := hS8.size
          have a6 := RcW.new U3 zeroR 29
          have ne := Nat.ne_of_lt h5.lt
          refine fresh_anyC (fun W => Below W1.heap.size W1 W ∧ RcW W B5 zeroR ∧ RcW W (U3).heap.size zeroR) ⟨hS8.alloc hS8.size _, h5.below ((Below.refl _ _).alloc (Nat.le_refl _) _), a6⟩ ?_
          clear h5 a6
          generalize U3.heap.size = B6 at g6 ne ⊢
          rintro U4 ⟨hS9, h5, h6⟩
          obtain ⟨d0, d1, d2, d3, d4, d5, d6⟩ := h5.at_
          have z0 := h5.fr 0; have z1 := h5.fr 1; have z2 := h5.fr 2; have z3 := h5.fr 3; have z4 := h5.fr 4; have z5 := h5.fr 5; have z6 := h5.fr 6
          refine anyL_one 6 rfl (by kernel_rfl) (fun K hK => ?_)
          go_simp
          refine hK.out _ _ (fun _ => below_setAll hS9 g5 q1) ?_
          clear hK K
          try simp only [Act.put, List.setIfInBounds_toArray, List.set_cons_zero, List.set_cons_succ]
          clear d0 d1 d2 d3 d4 d5 d6 z0 z1 z2 z3 z4 z5 z6
          refine fresh_anyC (fun W => (RcW W B5 q1 ∧ RcW W B6 zeroR) ∧ Below W1.heap.size W1 W) ⟨⟨h5.all q1, h6.farAll ne q1⟩, below_setAll hS9 g5 q1⟩ ?_
          clear h5 h6 hS9
          rintro U5 ⟨⟨h5, h6⟩, hT5⟩
          obtain ⟨d0, d1, d2, d3, d4, d5, d6⟩ := h6.at_
          have z0 := h6.fr 0; have z1 := h6.fr 1; have z2 := h6.fr 2; have z3 := h6.fr 3; have z4 := h6.fr 4; have z5 := h6.fr 5; have z6 := h6.fr 6
          refine anyL_one 7 rfl (by kernel_rfl) (fun K hK => ?_)
          go_simp
          refine hK.out _ _ (fun _ => below_setAll hT5 g6 q2) ?_
          clear hK K
          try simp only [Act.put, List.setIfInBounds_toArray, List.set_cons_zero, List.set_cons_succ]
          clear d0 d1 d2 d3 d4 d5 d6 z0 z1 z2 z3 z4 z5 z6
          refine anyC_done (by kernel_rfl) ?_ _
          refine fresh_cut (fun W => (RcAt W B5 q1 ∧ RcAt W B6 q2) ∧ Below w.heap.size w W) ⟨⟨(h5.farAll ne.symm q2).at_, (h6.all q2).at_⟩, hB1H.out.trans ((below_setAll hT5 g6 q2).mono hB1H.out.size)⟩ ?_
          clear h5 h6 hT5
          rintro U6 ⟨⟨h5, h6⟩, hT6⟩
          go_wp2_with fail
          go_meet
          exact ⟨B5, B6, rfl, rfl, ⟨h5, h6⟩, hT6⟩
        · go_simp
          refine hK.out _ _ (fun _ => hS7.alloc hS7.size _) ?_
          clear hK K
          try simp only [Act.put, List.setIfInBounds_toArray, List.set_cons_zero, List.set_cons_succ]
          have g6 := hS7.size
          have a6 := RcW.new U2 zeroR 29
          refine fresh_anyC (fun W => Below W1.heap.size W1 W ∧ RcW W (U2).heap.size zeroR) ⟨hS7.alloc hS7.size _, a6⟩ ?_
          clear a6
          generalize U2.heap.size = B6 at g6 ⊢
          rintro U3 ⟨hS8, h6⟩
          refine anyL_one 4 rfl (by kernel_rfl) (fun K hK => ?_)
          go_simp
          refine hK.out _ _ (fun _ => hS8.alloc hS8.size _) ?_
          clear hK K
          try simp only [Act.put, List.setIfInBounds_toArray, List.set_cons_zero, List.set_cons_succ]
          have g5 := hS8.size
          have a5 := RcW.new U3 zeroR 29
          have ne := Nat.ne_of_gt h6.lt
          refine fresh_anyC (fun W => Below W1.heap.size W1 W ∧ RcW W (U3).heap.size zeroR ∧ RcW W B6 zeroR) ⟨hS8.alloc hS8.size _, a5, h6.below ((Below.refl _ _).alloc (Nat.le_refl _) _)⟩ ?_
          clear h6 a5
          generalize U3.heap.size = B5 at g5 ne ⊢
          rintro U4 ⟨hS9, h5, h6⟩
          obtain ⟨d0, d1, d2, d3, d4, d5, d6⟩ := h5.at_
          have z0 := h5.fr 0; have z1 := h5.fr 1; have z2 := h5.fr 2; have z3 := h5.fr 3; have z4 := h5.fr 4; have z5 := h5.fr 5; have z6 := h5.fr 6
          refine anyL_one 6 rfl (by kernel_rfl) (fun K hK => ?_)
          go_simp
          refine hK.out _ _ (fun _ => below_setAll hS9 g5 q1) ?_
          clear hK K
          try simp only [Act.put, List.setIfInBounds_toArray, List.set_cons_zero, List.set_cons_succ]
          clear d0 d1 d2 d3 d4 d5 d6 z0 z1 z2 z3 z4 z5 z6
          refine fresh_anyC (fun W => (RcW W B5 q1 ∧ RcW W B6 zeroR) ∧ Below W1.heap.size W1 W) ⟨⟨h5.all q1, h6.farAll ne q1⟩, below_setAll hS9 g5 q1⟩ ?_
          clear h5 h6 hS9
          rintro U5 ⟨⟨h5, h6⟩, hT5⟩
          obtain ⟨d0, d1, d2, d3, d4, d5, d6⟩ := h6.at_
          have z0 := h6.fr 0; have z1 := h6.fr 1; have z2 := h6.fr 2; have z3 := h6.fr 3; have z4 := h6.fr 4; have z5 := h6.fr 5; have z6 := h6.fr 6
          refine anyL_one 7 rfl (by kernel_rfl) (fun K hK => ?_)
          go_simp
          refine hK.out _ _ (fun _ => below_setAll hT5 g6 q2) ?_
          clear hK K
          try simp only [Act.put, List.setIfInBounds_toArray, List.set_cons_zero, List.set_cons_succ]
          clear d0 d1 d2 d3 d4 d5 d6 z0 z1 z2 z3 z4 z5 z6
          refine anyC_done (by kernel_rfl) ?_ _
          refine fresh_cut (fun W => (RcAt W B5 q1 ∧ RcAt W B6 q2) ∧ Below w.heap.size w W) ⟨⟨(h5.farAll ne.symm q2).at_, (h6.all q2).at_⟩, hB1H.out.trans ((below_setAll hT5 g6 q2).mono hB1H.out.size)⟩ ?_
          clear h5 h6 hT5
          rintro U6 ⟨⟨h5, h6⟩, hT6⟩
          go_wp2_with fail
          go_meet
          exact ⟨B5, B6, rfl, rfl, ⟨h5, h6⟩, hT6⟩
      · go_simp
        refine hK.out _ _ (fun _ => hS6.alloc hS6.size _) ?_
        clear hK K
        try simp only [Act.put, List.setIfInBounds_toArray, List.set_cons_zero, List.set_cons_succ]
        have g5 := hS6.size
        have a5 := RcW.new U1 zeroR 29
        refine fresh_anyC (fun W => Below W1.heap.size W1 W ∧ RcW W (U1).heap.size zeroR) ⟨hS6.alloc hS6.size _, a5⟩ ?_
        clear a5
        generalize U1.heap.size = B5 at g5 ⊢
        rintro U2 ⟨hS7, h5⟩
        refine anyL_two 3 5 rfl rfl (by kernel_rfl) (fun K hK => ?_) (fun K hK => ?_)
        · go_simp
          refine (hwh2.out _).mono ?_
          rintro e' v3 ⟨rfl, hp3⟩
          have hn3 := hS7.trans (hp3.mono hS7.size)
          refine hK.out _ _ (fun _ => hn3) ?_
          clear hK K
          try simp only [Act.put, List.setIfInBounds_toArray, List.set_cons_zero, List.set_cons_succ]
          refine fresh_anyC (fun W => Below W1.heap.size W1 W ∧ RcW W B5 zeroR) ⟨hn3, h5.below hp3⟩ ?_
          clear h5 hn3 hp3
          rintro U3 ⟨hS8, h5⟩
          refine anyL_one 5 rfl (by kernel_rfl) (fun K hK => ?_)
          go_simp
          refine hK.out _ _ (fun _ => hS8.alloc hS8.size _) ?_
          clear hK K
          try simp only [Act.put, List.setIfInBounds_toArray, List.set_cons_zero, List.set_cons_succ]
          have g6 := hS8.size
          have a6 := RcW.new U3 zeroR 29
          have ne := Nat.ne_of_lt h5.lt
          refine fresh_anyC (fun W => Below W1.heap.size W1 W ∧ RcW W B5 zeroR ∧ RcW W (U3).heap.size zeroR) ⟨hS8.alloc hS8.size _, h5.below ((Below.refl _ _).alloc (Nat.le_refl _) _), a6⟩ ?_
          clear h5 a6
          generalize U3.heap.size = B6 at g6 ne ⊢
          rintro U4 ⟨hS9, h5, h6⟩
          obtain ⟨d0, d1, d2, d3, d4, d5, d6⟩ := h5.at_
          have z0 := h5.fr 0; have z1 := h5.fr 1; have z2 := h5.fr 2; have z3 := h5.fr 3; have z4 := h5.fr 4; have z5 := h5.fr 5; have z6 := h5.fr 6
          refine anyL_one 6 rfl (by kernel_rfl) (fun K hK => ?_)
          go_simp
          refine hK.out _ _ (fun _ => below_setAll hS9 g5 q1) ?_
          clear hK K
          try simp only [Act.put, List.setIfInBounds_toArray, List.set_cons_zero, List.set_cons_succ]
          clear d0 d1 d2 d3 d4 d5 d6 z0 z1 z2 z3 z4 z5 z6
          refine fresh_anyC (fun W => (RcW W B5 q1 ∧ RcW W B6 zeroR) ∧ Below W1.heap.size W1 W) ⟨⟨h5.all q1, h6.farAll ne q1⟩, below_setAll hS9 g5 q1⟩ ?_
          clear h5 h6 hS9
          rintro U5 ⟨⟨h5, h6⟩, hT5⟩
          obtain ⟨d0, d1, d2, d3, d4, d5, d6⟩ := h6.at_
          have z0 := h6.fr 0; have z1 := h6.fr 1; have z2 := h6.fr 2; have z3 := h6.fr 3; have z4 := h6.fr 4; have z5 := h6.fr 5; have z6 := h6.fr 6
          refine anyL_one 7 rfl (by kernel_rfl) (fun K hK => ?_)
          go_simp
          refine hK.out _ _ (fun _ => below_setAll hT5 g6 q2) ?_
          clear hK K
          try simp only [Act.put, List.setIfInBounds_toArray, List.set_cons_zero, List.set_cons_succ]
          clear d0 d1 d2 d3 d4 d5 d6 z0 z1 z2 z3 z4 z5 z6
          refine anyC_done (by kernel_rfl) ?_ _
          refine fresh_cut (fun W => (RcAt W B5 q1 ∧ RcAt W B6 q2) ∧ Below w.heap.size w W) ⟨⟨(h5.farAll ne.symm q2).at_, (h6.all q2).at_⟩, hB1H.out.trans ((below_setAll hT5 g6 q2).mono hB1H.out.size)⟩ ?_
          clear h5 h6 hT5
          rintro U6 ⟨⟨h5, h6⟩, hT6⟩
          go_wp2_with fail
          go_meet
          exact ⟨B5, B6, rfl, rfl, ⟨h5, h6⟩, hT6⟩
        · go_simp
          refine hK.out _ _ (fun _ => hS7.alloc hS7.size _) ?_
          clear hK K
          try simp only [Act.put, List.setIfInBounds_toArray, List.set_cons_zero, List.set_cons_succ]
          have g6 := hS7.size
          have a6 := RcW.new U2 zeroR 29
          have ne := Nat.ne_of_lt h5.lt
          refine fresh_anyC (fun W => Below W1.heap.size W1 W ∧ RcW W B5 zeroR ∧ RcW W (U2).heap.size zeroR) ⟨hS7.alloc hS7.size _, h5.below ((Below.refl _ _).alloc (Nat.le_refl _) _), a6⟩ ?_
          clear h5 a6
          generalize U2.heap.size = B6 at g6 ne ⊢
          rintro U3 ⟨hS8, h5, h6⟩
          refine anyL_one 3 rfl (by kernel_rfl) (fun K hK => ?_)
          go_simp
          refine (hwh2.out _).mono ?_
          rintro e' v4 ⟨rfl, hp4⟩
          have hn4 := hS8.trans (hp4.mono hS8.size)
          refine hK.out _ _ (fun _ => hn4) ?_
          clear hK K
          try simp only [Act.put, List.setIfInBounds_toArray, List.set_cons_zero, List.set_cons_succ]
          refine fresh_anyC (fun W => Below W1.heap.size W1 W ∧ RcW W B5 zeroR ∧ RcW W B6 zeroR) ⟨hn4, h5.below hp4, h6.below hp4⟩ ?_
          clear h5 h6 hn4 hp4
          rintro U4 ⟨hS9, h5, h6⟩
          obtain ⟨d0, d1, d2, d3, d4, d5, d6⟩ := h5.at_
          have z0 := h5.fr 0; have z1 := h5.fr 1; have z2 := h5.fr 2; have z3 := h5.fr 3; have z4 := h5.fr 4; have z5 := h5.fr 5; have z6 := h5.fr 6
          refine anyL_one 6 rfl (by kernel_rfl) (fun K hK => ?_)
          go_simp
          refine hK.out _ _ (fun _ => below_setAll hS9 g5 q1) ?_
          clear hK K
          try simp only [Act.put, List.setIfInBounds_toArray, List.set_cons_zero, List.set_cons_succ]
          clear d0 d1 d2 d3 d4 d5 d6 z0 z1 z2 z3 z4 z5 z6
          refine fresh_anyC (fun W => (RcW W B5 q1 ∧ RcW W B6 zeroR) ∧ Below W1.heap.size W1 W) ⟨⟨h5.all q1, h6.farAll ne q1⟩, below_setAll hS9 g5 q1⟩ ?_
          clear h5 h6 hS9
          rintro U5 ⟨⟨h5, h6⟩, hT5⟩
          obtain ⟨d0, d1, d2, d3, d4, d5, d6⟩ := h6.at_
          have z0 := h6.fr 0; have z1 := h6.fr 1; have z2 := h6.fr 2; have z3 := h6.fr 3; have z4 := h6.fr 4; have z5 := h6.fr 5; have z6 := h6.fr 6
          refine anyL_one 7 rfl (by kernel_rfl) (fun K hK => ?_)
          go_simp
          refine hK.out _ _ (fun _ => below_setAll hT5 g6 q2) ?_
          clear hK K
          try simp only [Act.put, List.setIfInBounds_toArray, List.set_cons_zero, List.set_cons_succ]
          clear d0 d1 d2 d3 d4 d5 d6 z0 z1 z2 z3 z4 z5 z6
          refine anyC_done (by kernel_rfl) ?_ _
          refine fresh_cut (fun W => (RcAt W B5 q1 ∧ RcAt W B6 q2) ∧ Below w.heap.size w W) ⟨⟨(h5.farAll ne.symm q2).at_, (h6.all q2).at_⟩, hB1H.out.trans ((below_setAll hT5 g6 q2).mono hB1H.out.size)⟩ ?_
          clear h5 h6 hT5
          rintro U6 ⟨⟨h5, h6⟩, hT6⟩
          go_wp2_with fail
          go_meet
          exact ⟨B5, B6, rfl, rfl, ⟨h5, h6⟩, hT6⟩
      · go_simp
        refine hK.out _ _ (fun _ => hS6.alloc hS6.size _) ?_
        clear hK K
        try simp only [Act.put, List.setIfInBounds_toArray, List.set_cons_zero, List.set_cons_succ]
        have g6 := hS6.size
        have a6 := RcW.new U1 zeroR 29
        refine fresh_anyC (fun W => Below W1.heap.size W1 W ∧ RcW W (U1).heap.size zeroR) ⟨hS6.alloc hS6.size _, a6⟩ ?_
        clear a6
        generalize U1.heap.size = B6 at g6 ⊢
        rintro U2 ⟨hS7, h6⟩
        refine anyL_two 3 4 rfl rfl (by kernel_rfl) (fun K hK => ?_) (fun K hK => ?_)
        · go_simp
          refine (hwh2.out _).mono ?_
          rintro e' v3 ⟨rfl, hp3⟩
          have hn3 := hS7.trans (hp3.mono hS7.size)
          refine hK.out _ _ (fun _ => hn3) ?_
          clear hK K
          try simp only [Act.put, List.setIfInBounds_toArray, List.set_cons_zero, List.set_cons_succ]
          refine fresh_anyC (fun W => Below W1.heap.size W1 W ∧ RcW W B6 zeroR) ⟨hn3, h6.below hp3⟩ ?_
          clear h6 hn3 hp3
          rintro U3 ⟨hS8, h6⟩
          refine anyL_one 4 rfl (by kernel_rfl) (fun K hK => ?_)
          go_simp
          refine hK.out _ _ (fun _ => hS8.alloc hS8.size _) ?_
          clear hK K
          try simp only [Act.put, List.setIfInBounds_toArray, List.set_cons_zero, List.set_cons_succ]
          have g5 := hS8.size
          have a5 := RcW.new U3 zeroR 29
          have ne := Nat.ne_of_gt h6.lt
          refine fresh_anyC (fun W => Below W1.heap.size W1 W ∧ RcW W (U3).heap.size zeroR ∧ RcW W B6 zeroR) ⟨hS8.alloc hS8.size _, a5, h6.below ((Below.refl _ _).alloc (Nat.le_refl _) _)⟩ ?_
          clear h6 a5
          generalize U3.heap.size = B5 at g5 ne ⊢
          rintro U4 ⟨hS9, h5, h6⟩
          obtain ⟨d0, d1, d2, d3, d4, d5, d6⟩ := h5.at_
          have z0 := h5.fr 0; have z1 := h5.fr 1; have z2 := h5.fr 2; have z3 := h5.fr 3; have z4 := h5.fr 4; have z5 := h5.fr 5; have z6 := h5.fr 6
          refine anyL_one 6 rfl (by kernel_rfl) (fun K hK => ?_)
          go_simp
          refine hK.out _ _ (fun _ => below_setAll hS9 g5 q1) ?_
          clear hK K
          try simp only [Act.put, List.setIfInBounds_toArray, List.set_cons_zero, List.set_cons_succ]
          clear d0 d1 d2 d3 d4 d5 d6 z0 z1 z2 z3 z4 z5 z6
          refine fresh_anyC (fun W => (RcW W B5 q1 ∧ RcW W B6 zeroR) ∧ Below W1.heap.size W1 W) ⟨⟨h5.all q1, h6.farAll ne q1⟩, below_setAll hS9 g5 q1⟩ ?_
          clear h5 h6 hS9
          rintro U5 ⟨⟨h5, h6⟩, hT5⟩
          obtain ⟨d0, d1, d2, d3, d4, d5, d6⟩ := h6.at_
          have z0 := h6.fr 0; have z1 := h6.fr 1; have z2 := h6.fr 2; have z3 := h6.fr 3; have z4 := h6.fr 4; have z5 := h6.fr 5; have z6 := h6.fr 6
          refine anyL_one 7 rfl (by kernel_rfl) (fun K hK => ?_)
          go_simp
          refine hK.out _ _ (fun _ => below_setAll hT5 g6 q2) ?_
          clear hK K
          try simp only [Act.put, List.setIfInBounds_toArray, List.set_cons_zero, List.set_cons_succ]
          clear d0 d1 d2 d3 d4 d5 d6 z0 z1 z2 z3 z4 z5 z6
          refine anyC_done (by kernel_rfl) ?_ _
          refine fresh_cut (fun W => (RcAt W B5 q1 ∧ RcAt W B6 q2) ∧ Below w.heap.size w W) ⟨⟨(h5.farAll ne.symm q2).at_, (h6.all q2).at_⟩, hB1H.out.trans ((below_setAll hT5 g6 q2).mono hB1H.out.size)⟩ ?_
          clear h5 h6 hT5
          rintro U6 ⟨⟨h5, h6⟩, hT6⟩
          go_wp2_with fail
          go_meet
          exact ⟨B5, B6, rfl, rfl, ⟨h5, h6⟩, hT6⟩
        · go_simp
          refine hK.out _ _ (fun _ => hS7.alloc hS7.size _) ?_
          clear hK K
          try simp only [Act.put, List.setIfInBounds_toArray, List.set_cons_zero, List.set_cons_succ]
          have g5 := hS7.size
          have a5 := RcW.new U2 zeroR 29
          have ne := Nat.ne_of_gt h6.lt
          refine fresh_anyC (fun W => Below W1.heap.size W1 W ∧ RcW W (U2).heap.size zeroR ∧ RcW W B6 zeroR) ⟨hS7.alloc hS7.size _, a5, h6.below ((Below.refl _ _).alloc (Nat.le_refl _) _)⟩ ?_
          clear h6 a5
          generalize U2.heap.size = B5 at g5 ne ⊢
          rintro U3 ⟨hS8, h5, h6⟩
          refine anyL_one 3 rfl (by kernel_rfl) (fun K hK => ?_)
          go_simp
          refine (hwh2.out _).mono ?_
          rintro e' v4 ⟨rfl, hp4⟩
          have hn4 := hS8.trans (hp4.mono hS8.size)
          refine hK.out _ _ (fun _ => hn4) ?_
          clear hK K
          try simp only [Act.put, List.setIfInBounds_toArray, List.set_cons_zero, List.set_cons_succ]
          refine fresh_anyC (fun W => Below W1.heap.size W1 W ∧ RcW W B5 zeroR ∧ RcW W B6 zeroR) ⟨hn4, h5.below hp4, h6.below hp4⟩ ?_
          clear h5 h6 hn4 hp4
          rintro U4 ⟨hS9, h5, h6⟩
          obtain ⟨d0, d1, d2, d3, d4, d5, d6⟩ := h5.at_
          have z0 := h5.fr 0; have z1 := h5.fr 1; have z2 := h5.fr 2; have z3 := h5.fr 3; have z4 := h5.fr 4; have z5 := h5.fr 5; have z6 := h5.fr 6
          refine anyL_one 6 rfl (by kernel_rfl) (fun K hK => ?_)
          go_simp
          refine hK.out _ _ (fun _ => below_setAll hS9 g5 q1) ?_
          clear hK K
          try simp only [Act.put, List.setIfInBounds_toArray, List.set_cons_zero, List.set_cons_succ]
          clear d0 d1 d2 d3 d4 d5 d6 z0 z1 z2 z3 z4 z5 z6
          refine fresh_anyC (fun W => (RcW W B5 q1 ∧ RcW W B6 zeroR) ∧ Below W1.heap.size W1 W) ⟨⟨h5.all q1, h6.farAll ne q1⟩, below_setAll hS9 g5 q1⟩ ?_
          clear h5 h6 hS9
          rintro U5 ⟨⟨h5, h6⟩, hT5⟩
          obtain ⟨d0, d1, d2, d3, d4, d5, d6⟩ := h6.at_
          have z0 := h6.fr 0; have z1 := h6.fr 1; have z2 := h6.fr 2; have z3 := h6.fr 3; have z4 := h6.fr 4; have z5 := h6.fr 5; have z6 := h6.fr 6
          refine anyL_one 7 rfl (by kernel_rfl) (fun K hK => ?_)
          go_simp
          refine hK.out _ _ (fun _ => below_setAll hT5 g6 q2) ?_
          clear hK K
          try simp only [Act.put, List.setIfInBounds_toArray, List.set_cons_zero, List.set_cons_succ]
          clear d0 d1 d2 d3 d4 d5 d6 z0 z1 z2 z3 z4 z5 z6
          refine anyC_done (by kernel_rfl) ?_ _
          refine fresh_cut (fun W => (RcAt W B5 q1 ∧ RcAt W B6 q2) ∧ Below w.heap.size w W) ⟨⟨(h5.farAll ne.symm q2).at_, (h6.all q2).at_⟩, hB1H.out.trans ((below_setAll hT5 g6 q2).mono hB1H.out.size)⟩ ?_
          clear h5 h6 hT5
          rintro U6 ⟨⟨h5, h6⟩, hT6⟩
          go_wp2_with fail
          go_meet
          exact ⟨B5, B6, rfl, rfl, ⟨h5, h6⟩, hT6⟩
    · go_simp
      refine hK.out _ _ (fun _ => hS5.alloc hS5.size _) ?_
      clear hK K
      try simp only [Act.put, List.setIfInBounds_toArray, List.set_cons_zero, List.set_cons_succ]
      have g5 := hS5.size
      have a5 := RcW.new U0 zeroR 29
      refine fresh_anyC (fun W => Below W1.heap.size W1 W ∧ RcW W (U0).heap.size zeroR) ⟨hS5.alloc hS5.size _, a5⟩ ?_
      clear a5
      generalize U0.heap.size = B5 at g5 ⊢
      rintro U1 ⟨hS6, h5⟩
      refine anyL_two 1 5 rfl rfl (by kernel_rfl) (fun K hK => ?_) (fun K hK => ?_)
      · go_simp
        refine (hwh1.out _).mono ?_
        rintro e' v2 ⟨rfl, hp2⟩
        have hn2 := hS6.trans (hp2.mono hS6.size)
        refine hK.out _ _ (fun _ => hn2) ?_
        clear hK K
        try simp only [Act.put, List.setIfInBounds_toArray, List.set_cons_zero, List.set_cons_succ]
        refine fresh_anyC (fun W => Below W1.heap.size W1 W ∧ RcW W B5 zeroR) ⟨hn2, h5.below hp2⟩ ?_
        clear h5 hn2 hp2
        rintro U2 ⟨hS7, h5⟩
        refine anyL_two 3 5 rfl rfl (by kernel_rfl) (fun K hK => ?_) (fun K hK => ?_)
        · go_simp
          refine (hwh2.out _).mono ?_
          rintro e' v3 ⟨rfl, hp3⟩
          have hn3 := hS7.trans (hp3.mono hS7.size)
          refine hK.out _ _ (fun _ => hn3) ?_
          clear hK K
          try simp only [Act.put, List.setIfInBounds_toArray, List.set_cons_zero, List.set_cons_succ]
          refine fresh_anyC (fun W => Below W1.heap.size W1 W ∧ RcW W B5 zeroR) ⟨hn3, h5.below hp3⟩ ?_
          clear h5 hn3 hp3
          rintro U3 ⟨hS8, h5⟩
          refine anyL_one 5 rfl (by kernel_rfl) (fun K hK => ?_)
          go_simp
          refine hK.out _ _ (fun _ => hS8.alloc hS8.size _) ?_
          clear hK K
          try simp only [Act.put, List.setIfInBounds_toArray, List.set_cons_zero, List.set_cons_succ]
          have g6 := hS8.size
          have a6 := RcW.new U3 zeroR 29
          have ne := Nat.ne_of_lt h5.lt
          refine fresh_anyC (fun W => Below W1.heap.size W1 W ∧ RcW W B5 zeroR ∧ RcW W (U3).heap.size zeroR) ⟨hS8.alloc hS8.size _, h5.below ((Below.refl _ _).alloc (Nat.le_refl _) _), a6⟩ ?_
          clear h5 a6
          generalize U3.heap.size = B6 at g6 ne ⊢
          rintro U4 ⟨hS9, h5, h6⟩
          obtain ⟨d0, d1, d2, d3, d4, d5, d6⟩ := h5.at_
          have z0 := h5.fr 0; have z1 := h5.fr 1; have z2 := h5.fr 2; have z3 := h5.fr 3; have z4 := h5.fr 4; have z5 := h5.fr 5; have z6 := h5.fr 6
          refine anyL_one 6 rfl (by kernel_rfl) (fun K hK => ?_)
          go_simp
          refine hK.out _ _ (fun _ => below_setAll hS9 g5 q1) ?_
          clear hK K
          try simp only [Act.put, List.setIfInBounds_toArray, List.set_cons_zero, List.set_cons_succ]
          clear d0 d1 d2 d3 d4 d5 d6 z0 z1 z2 z3 z4 z5 z6
          refine fresh_anyC (fun W => (RcW W B5 q1 ∧ RcW W B6 zeroR) ∧ Below W1.heap.size W1 W) ⟨⟨h5.all q1, h6.farAll ne q1⟩, below_setAll hS9 g5 q1⟩ ?_
          clear h5 h6 hS9
          rintro U5 ⟨⟨h5, h6⟩, hT5⟩
          obtain ⟨d0, d1, d2, d3, d4, d5, d6⟩ := h6.at_
          have z0 := h6.fr 0; have z1 := h6.fr 1; have z2 := h6.fr 2; have z3 := h6.fr 3; have z4 := h6.fr 4; have z5 := h6.fr 5; have z6 := h6.fr 6
          refine anyL_one 7 rfl (by kernel_rfl) (fun K hK => ?_)
          go_simp
          refine hK.out _ _ (fun _ => below_setAll hT5 g6 q2) ?_
          clear hK K
          try simp only [Act.put, List.setIfInBounds_toArray, List.set_cons_zero, List.set_cons_succ]
          clear d0 d1 d2 d3 d4 d5 d6 z0 z1 z2 z3 z4 z5 z6
          refine anyC_done (by kernel_rfl) ?_ _
          refine fresh_cut (fun W => (RcAt W B5 q1 ∧ RcAt W B6 q2) ∧ Below w.heap.size w W) ⟨⟨(h5.farAll ne.symm q2).at_, (h6.all q2).at_⟩, hB1H.out.trans ((below_setAll hT5 g6 q2).mono hB1H.out.size)⟩ ?_
          clear h5 h6 hT5
          rintro U6 ⟨⟨h5, h6⟩, hT6⟩
          go_wp2_with fail
          go_meet
          exact ⟨B5, B6, rfl, rfl, ⟨h5, h6⟩, hT6⟩
        · go_simp
          refine hK.out _ _ (fun _ => hS7.alloc hS7.size _) ?_
          clear hK K
          try simp only [Act.put, List.setIfInBounds_toArray, List.set_cons_zero, List.set_cons_succ]
          have g6 := hS7.size
          have a6 := RcW.new U2 zeroR 29
          have ne := Nat.ne_of_lt h5.lt
          refine fresh_anyC (fun W => Below W1.heap.size W1 W ∧ RcW W B5 zeroR ∧ RcW W (U2).heap.size zeroR) ⟨hS7.alloc hS7.size _, h5.below ((Below.refl _ _).alloc (Nat.le_refl _) _), a6⟩ ?_
          clear h5 a6
          generalize U2.heap.size = B6 at g6 ne ⊢
          rintro U3 ⟨hS8, h5, h6⟩
          refine anyL_one 3 rfl (by kernel_rfl) (fun K hK => ?_)
          go_simp
          refine (hwh2.out _).mono ?_
          rintro e' v4 ⟨rfl, hp4⟩
          have hn4 := hS8.trans (hp4.mono hS8.size)
          refine hK.out _ _ (fun _ => hn4) ?_
          clear hK K
          try simp only [Act.put, List.setIfInBounds_toArray, List.set_cons_zero, List.set_cons_succ]
          refine fresh_anyC (fun W => Below W1.heap.size W1 W ∧ RcW W B5 zeroR ∧ RcW W B6 zeroR) ⟨hn4, h5.below hp4, h6.below hp4⟩ ?_
          clear h5 h6 hn4 hp4
          rintro U4 ⟨hS9, h5, h6⟩
          obtain ⟨d0, d1, d2, d3, d4, d5, d6⟩ := h5.at_
          have z0 := h5.fr 0; have z1 := h5.fr 1; have z2 := h5.fr 2; have z3 := h5.fr 3; have z4 := h5.fr 4; have z5 := h5.fr 5; have z6 := h5.fr 6
          refine anyL_one 6 rfl (by kernel_rfl) (fun K hK => ?_)
          go_simp
          refine hK.out _ _ (fun _ => below_setAll hS9 g5 q1) ?_
          clear hK K
          try simp only [Act.put, List.setIfInBounds_toArray, List.set_cons_zero, List.set_cons_succ]
          clear d0 d1 d2 d3 d4 d5 d6 z0 z1 z2 z3 z4 z5 z6
          refine fresh_anyC (fun W => (RcW W B5 q1 ∧ RcW W B6 zeroR) ∧ Below W1.heap.size W1 W) ⟨⟨h5.all q1, h6.farAll ne q1⟩, below_setAll hS9 g5 q1⟩ ?_
          clear h5 h6 hS9
          rintro U5 ⟨⟨h5, h6⟩, hT5⟩
          obtain ⟨d0, d1, d2, d3, d4, d5, d6⟩ := h6.at_
          have z0 := h6.fr 0; have z1 := h6.fr 1; have z2 := h6.fr 2; have z3 := h6.fr 3; have z4 := h6.fr 4; have z5 := h6.fr 5; have z6 := h6.fr 6
          refine anyL_one 7 rfl (by kernel_rfl) (fun K hK => ?_)
          go_simp
          refine hK.out _ _ (fun _ => below_setAll hT5 g6 q2) ?_
          clear hK K
          try simp only [Act.put, List.setIfInBounds_toArray, List.set_cons_zero, List.set_cons_succ]
          clear d0 d1 d2 d3 d4 d5 d6 z0 z1 z2 z3 z4 z5 z6
          refine anyC_done (by kernel_rfl) ?_ _
          refine fresh_cut (fun W => (RcAt W B5 q1 ∧ RcAt W B6 q2) ∧ Below w.heap.size w W) ⟨⟨(h5.farAll ne.symm q2).at_, (h6.all q2).at_⟩, hB1H.out.trans ((below_setAll hT5 g6 q2).mono hB1H.out.size)⟩ ?_
          clear h5 h6 hT5
          rintro U6 ⟨⟨h5, h6⟩, hT6⟩
          go_wp2_with fail
          go_meet
          exact ⟨B5, B6, rfl, rfl, ⟨h5, h6⟩, hT6⟩
      · go_simp
        refine hK.out _ _ (fun _ => hS6.alloc hS6.size _) ?_
        clear hK K
        try simp only [Act.put, List.setIfInBounds_toArray, List.set_cons_zero, List.set_cons_succ]
        have g6 := hS6.size
        have a6 := RcW.new U1 zeroR 29
        have ne := Nat.ne_of_lt h5.lt
        refine fresh_anyC (fun W => Below W1.heap.size W1 W ∧ RcW W B5 zeroR ∧ RcW W (U1).heap.size zeroR) ⟨hS6.alloc hS6.size _, h5.below ((Below.refl _ _).alloc (Nat.le_refl _) _), a6⟩ ?_
        clear h5 a6
        generalize U1.heap.size = B6 at g6 ne ⊢
        rintro U2 ⟨hS7, h5, h6⟩
        refine anyL_one 1 rfl (by kernel_rfl) (fun K hK => ?_)
        go_simp
        refine (hwh1.out _).mono ?_
        rintro e' v3 ⟨rfl, hp3⟩
        have hn3 := hS7.trans (hp3.mono hS7.size)
        refine hK.out _ _ (fun _ => hn3) ?_
        clear hK K
        try simp only [Act.put, List.setIfInBounds_toArray, List.set_cons_zero, List.set_cons_succ]
        refine fresh_anyC (fun W => Below W1.heap.size W1 W ∧ RcW W B5 zeroR ∧ RcW W B6 zeroR) ⟨hn3, h5.below hp3, h6.below hp3⟩ ?_
        clear h5 h6 hn3 hp3
        rintro U3 ⟨hS8, h5, h6⟩
        refine anyL_one 3 rfl (by kernel_rfl) (fun K hK => ?_)
        go_simp
        refine (hwh2.out _).mono ?_
        rintro e' v4 ⟨rfl, hp4⟩
        have hn4 := hS8.trans (hp4.mono hS8.size)
        refine hK.out _ _ (fun _ => hn4) ?_
        clear hK K
        try simp only [Act.put, List.setIfInBounds_toArray, List.set_cons_zero, List.set_cons_succ]
        refine fresh_anyC (fun W => Below W1.heap.size W1 W ∧ RcW W B5 zeroR ∧ RcW W B6 zeroR) ⟨hn4, h5.below hp4, h6.below hp4⟩ ?_
        clear h5 h6 hn4 hp4
        rintro U4 ⟨hS9, h5, h6⟩
        obtain ⟨d0, d1, d2, d3, d4, d5, d6⟩ := h5.at_
        have z0 := h5.fr 0; have z1 := h5.fr 1; have z2 := h5.fr 2; have z3 := h5.fr 3; have z4 := h5.fr 4; have z5 := h5.fr 5; have z6 := h5.fr 6
        refine anyL_one 6 rfl (by kernel_rfl) (fun K hK => ?_)
        go_simp
        refine hK.out _ _ (fun _ => below_setAll hS9 g5 q1) ?_
        clear hK K
        try simp only [Act.put, List.setIfInBounds_toArray, List.set_cons_zero, List.set_cons_succ]
        clear d0 d1 d2 d3 d4 d5 d6 z0 z1 z2 z3 z4 z5 z6
        refine fresh_anyC (fun W => (RcW W B5 q1 ∧ RcW W B6 zeroR) ∧ Below W1.heap.size W1 W) ⟨⟨h5.all q1, h6.farAll ne q1⟩, below_setAll hS9 g5 q1⟩ ?_
        clear h5 h6 hS9
        rintro U5 ⟨⟨h5, h6⟩, hT5⟩
        obtain ⟨d0, d1, d2, d3, d4, d5, d6⟩ := h6.at_
        have z0 := h6.fr 0; have z1 := h6.fr 1; have z2 := h6.fr 2; have z3 := h6.fr 3; have z4 := h6.fr 4; have z5 := h6.fr 5; have z6 := h6.fr 6
        refine anyL_one 7 rfl (by kernel_rfl) (fun K hK => ?_)
        go_simp
        refine hK.out _ _ (fun _ => below_setAll hT5 g6 q2) ?_
        clear hK K
        try simp only [Act.put, List.setIfInBounds_toArray, List.set_cons_zero, List.set_cons_succ]
        clear d0 d1 d2 d3 d4 d5 d6 z0 z1 z2 z3 z4 z5 z6
        refine anyC_done (by kernel_rfl) ?_ _
        refine fresh_cut (fun W => (RcAt W B5 q1 ∧ RcAt W B6 q2) ∧ Below w.heap.size w W) ⟨⟨(h5.farAll ne.symm q2).at_, (h6.all q2).at_⟩, hB1H.out.trans ((below_setAll hT5 g6 q2).mono hB1H.out.size)⟩ ?_
        clear h5 h6 hT5
        rintro U6 ⟨⟨h5, h6⟩, hT6⟩
        go_wp2_with fail
        go_meet
        exact ⟨B5, B6, rfl, rfl, ⟨h5, h6⟩, hT6⟩
    · go_simp
      refine hK.out _ _ (fun _ => hS5.alloc hS5.size _) ?_
      clear hK K
      try simp only [Act.put, List.setIfInBounds_toArray, List.set_cons_zero, List.set_cons_succ]
      have g6 := hS5.size
      have a6 := RcW.new U0 zeroR 29
      refine fresh_anyC (fun W => Below W1.heap.size W1 W ∧ RcW W (U0).heap.size zeroR) ⟨hS5.alloc hS5.size _, a6⟩ ?_
      clear a6
      generalize U0.heap.size = B6 at g6 ⊢
      rintro U1 ⟨hS6, h6⟩
      refine anyL_two 1 4 rfl rfl (by kernel_rfl) (fun K hK => ?_) (fun K hK => ?_)
      · go_simp
        refine (hwh1.out _).mono ?_
        rintro e' v2 ⟨rfl, hp2⟩
        have hn2 := hS6.trans (hp2.mono hS6.size)
        refine hK.out _ _ (fun _ => hn2) ?_
        clear hK K
        try simp only [Act.put, List.setIfInBounds_toArray, List.set_cons_zero, List.set_cons_succ]
        refine fresh_anyC (fun W => Below W1.heap.size W1 W ∧ RcW W B6 zeroR) ⟨hn2, h6.below hp2⟩ ?_
        clear h6 hn2 hp2
        rintro U2 ⟨hS7, h6⟩
        refine anyL_two 3 4 rfl rfl (by kernel_rfl) (fun K hK => ?_) (fun K hK => ?_)
        · go_simp
          refine (hwh2.out _).mono ?_
          rintro e' v3 ⟨rfl, hp3⟩
          have hn3 := hS7.trans (hp3.mono hS7.size)
          refine hK.out _ _ (fun _ => hn3) ?_
          clear hK K
          try simp only [Act.put, List.setIfInBounds_toArray, List.set_cons_zero, List.set_cons_succ]
          refine fresh_anyC (fun W => Below W1.heap.size W1 W ∧ RcW W B6 zeroR) ⟨hn3, h6.below hp3⟩ ?_
          clear h6 hn3 hp3
          rintro U3 ⟨hS8, h6⟩
          refine anyL_one 4 rfl (by kernel_rfl) (fun K hK => ?_)
          go_simp
          refine hK.out _ _ (fun _ => hS8.alloc hS8.size _) ?_
          clear hK K
          try simp only [Act.put, List.setIfInBounds_toArray, List.set_cons_zero, List.set_cons_succ]
          have g5 := hS8.size
          have a5 := RcW.new U3 zeroR 29
          have ne := Nat.ne_of_gt h6.lt
          refine fresh_anyC (fun W => Below W1.heap.size W1 W ∧ RcW W (U3).heap.size zeroR ∧ RcW W B6 zeroR) ⟨hS8.alloc hS8.size _, a5, h6.below ((Below.refl _ _).alloc (Nat.le_refl _) _)⟩ ?_
          clear h6 a5
          generalize U3.heap.size = B5 at g5 ne ⊢
          rintro U4 ⟨hS9, h5, h6⟩
          obtain ⟨d0, d1, d2, d3, d4, d5, d6⟩ := h5.at_
          have z0 := h5.fr 0; have z1 := h5.fr 1; have z2 := h5.fr 2; have z3 := h5.fr 3; have z4 := h5.fr 4; have z5 := h5.fr 5; have z6 := h5.fr 6
          refine anyL_one 6 rfl (by kernel_rfl) (fun K hK => ?_)
          go_simp
          refine hK.out _ _ (fun _ => below_setAll hS9 g5 q1) ?_
          clear hK K
          try simp only [Act.put, List.setIfInBounds_toArray, List.set_cons_zero, List.set_cons_succ]
          clear d0 d1 d2 d3 d4 d5 d6 z0 z1 z2 z3 z4 z5 z6
          refine fresh_anyC (fun W => (RcW W B5 q1 ∧ RcW W B6 zeroR) ∧ Below W1.heap.size W1 W) ⟨⟨h5.all q1, h6.farAll ne q1⟩, below_setAll hS9 g5 q1⟩ ?_
          clear h5 h6 hS9
          rintro U5 ⟨⟨h5, h6⟩, hT5⟩
          obtain ⟨d0, d1, d2, d3, d4, d5, d6⟩ := h6.at_
          have z0 := h6.fr 0; have z1 := h6.fr 1; have z2 := h6.fr 2; have z3 := h6.fr 3; have z4 := h6.fr 4; have z5 := h6.fr 5; have z6 := h6.fr 6
          refine anyL_one 7 rfl (by kernel_rfl) (fun K hK => ?_)
          go_simp
          refine hK.out _ _ (fun _ => below_setAll hT5 g6 q2) ?_
          clear hK K
          try simp only [Act.put, List.setIfInBounds_toArray, List.set_cons_zero, List.set_cons_succ]
          clear d0 d1 d2 d3 d4 d5 d6 z0 z1 z2 z3 z4 z5 z6
          refine anyC_done (by kernel_rfl) ?_ _
          refine fresh_cut (fun W => (RcAt W B5 q1 ∧ RcAt W B6 q2) ∧ Below w.heap.size w W) ⟨⟨(h5.farAll ne.symm q2).at_, (h6.all q2).at_⟩, hB1H.out.trans ((below_setAll hT5 g6 q2).mono hB1H.out.size)⟩ ?_
          clear h5 h6 hT5
          rintro U6 ⟨⟨h5, h6⟩, hT6⟩
          go_wp2_with fail
          go_meet
          exact ⟨B5, B6, rfl, rfl, ⟨h5, h6⟩, hT6⟩
        · go_simp
          refine hK.out _ _ (fun _ => hS7.alloc hS7.size _) ?_
          clear hK K
          try simp only [Act.put, List.setIfInBounds_toArray, List.set_cons_zero, List.set_cons_succ]
          have g5 := hS7.size
          have a5 := RcW.new U2 zeroR 29
          have ne := Nat.ne_of_gt h6.lt
          refine fresh_anyC (fun W => Below W1.heap.size W1 W ∧ RcW W (U2).heap.size zeroR ∧ RcW W B6 zeroR) ⟨hS7.alloc hS7.size _, a5, h6.below ((Below.refl _ _).alloc (Nat.le_refl _) _)⟩ ?_
          clear h6 a5
          generalize U2.heap.size = B5 at g5 ne ⊢
          rintro U3 ⟨hS8, h5, h6⟩
          refine anyL_one 3 rfl (by kernel_rfl) (fun K hK => ?_)
          go_simp
          refine (hwh2.out _).mono ?_
          rintro e' v4 ⟨rfl, hp4⟩
          have hn4 := hS8.trans (hp4.mono hS8.size)
          refine hK.out _ _ (fun _ => hn4) ?_
          clear hK K
          try simp only [Act.put, List.setIfInBounds_toArray, List.set_cons_zero, List.set_cons_succ]
          refine fresh_anyC (fun W => Below W1.heap.size W1 W ∧ RcW W B5 zeroR ∧ RcW W B6 zeroR) ⟨hn4, h5.below hp4, h6.below hp4⟩ ?_
          clear h5 h6 hn4 hp4
          rintro U4 ⟨hS9, h5, h6⟩
          obtain ⟨d0, d1, d2, d3, d4, d5, d6⟩ := h5.at_
          have z0 := h5.fr 0; have z1 := h5.fr 1; have z2 := h5.fr 2; have z3 := h5.fr 3; have z4 := h5.fr 4; have z5 := h5.fr 5; have z6 := h5.fr 6
          refine anyL_one 6 rfl (by kernel_rfl) (fun K hK => ?_)
          go_simp
          refine hK.out _ _ (fun _ => below_setAll hS9 g5 q1) ?_
          clear hK K
          try simp only [Act.put, List.setIfInBounds_toArray, List.set_cons_zero, List.set_cons_succ]
          clear d0 d1 d2 d3 d4 d5 d6 z0 z1 z2 z3 z4 z5 z6
          refine fresh_anyC (fun W => (RcW W B5 q1 ∧ RcW W B6 zeroR) ∧ Below W1.heap.size W1 W) ⟨⟨h5.all q1, h6.farAll ne q1⟩, below_setAll hS9 g5 q1⟩ ?_
          clear h5 h6 hS9
          rintro U5 ⟨⟨h5, h6⟩, hT5⟩
          obtain ⟨d0, d1, d2, d3, d4, d5, d6⟩ := h6.at_
          have z0 := h6.fr 0; have z1 := h6.fr 1; have z2 := h6.fr 2; have z3 := h6.fr 3; have z4 := h6.fr 4; have z5 := h6.fr 5; have z6 := h6.fr 6
          refine anyL_one 7 rfl (by kernel_rfl) (fun K hK => ?_)
          go_simp
          refine hK.out _ _ (fun _ => below_setAll hT5 g6 q2) ?_
          clear hK K
          try simp only [Act.put, List.setIfInBounds_toArray, List.set_cons_zero, List.set_cons_succ]
          clear d0 d1 d2 d3 d4 d5 d6 z0 z1 z2 z3 z4 z5 z6
          refine anyC_done (by kernel_rfl) ?_ _
          refine fresh_cut (fun W => (RcAt W B5 q1 ∧ RcAt W B6 q2) ∧ Below w.heap.size w W) ⟨⟨(h5.farAll ne.symm q2).at_, (h6.all q2).at_⟩, hB1H.out.trans ((below_setAll hT5 g6 q2).mono hB1H.out.size)⟩ ?_
          clear h5 h6 hT5
          rintro U6 ⟨⟨h5, h6⟩, hT6⟩
          go_wp2_with fail
          go_meet
          exact ⟨B5, B6, rfl, rfl, ⟨h5, h6⟩, hT6⟩
      · go_simp
        refine hK.out _ _ (fun _ => hS6.alloc hS6.size _) ?_
        clear hK K
        try simp only [Act.put, List.setIfInBounds_toArray, List.set_cons_zero, List.set_cons_succ]
        have g5 := hS6.size
        have a5 := RcW.new U1 zeroR 29
        have ne := Nat.ne_of_gt h6.lt
        refine fresh_anyC (fun W => Below W1.heap.size W1 W ∧ RcW W (U1).heap.size zeroR ∧ RcW W B6 zeroR) ⟨hS6.alloc hS6.size _, a5, h6.below ((Below.refl _ _).alloc (Nat.le_refl _) _)⟩ ?_
        clear h6 a5
        generalize U1.heap.size = B5 at g5 ne ⊢
        rintro U2 ⟨hS7, h5, h6⟩
        refine anyL_one 1 rfl (by kernel_rfl) (fun K hK => ?_)
        go_simp
        refine (hwh1.out _).mono ?_
        rintro e' v3 ⟨rfl, hp3⟩
        have hn3 := hS7.trans (hp3.mono hS7.size)
        refine hK.out _ _ (fun _ => hn3) ?_
        clear hK K
        try simp only [Act.put, List.setIfInBounds_toArray, List.set_cons_zero, List.set_cons_succ]
        refine fresh_anyC (fun W => Below W1.heap.size W1 W ∧ RcW W B5 zeroR ∧ RcW W B6 zeroR) ⟨hn3, h5.below hp3, h6.below hp3⟩ ?_
        clear h5 h6 hn3 hp3
        rintro U3 ⟨hS8, h5, h6⟩
        refine anyL_one 3 rfl (by kernel_rfl) (fun K hK => ?_)
        go_simp
        refine (hwh2.out _).mono ?_
        rintro e' v4 ⟨rfl, hp4⟩
        have hn4 := hS8.trans (hp4.mono hS8.size)
        refine hK.out _ _ (fun _ => hn4) ?_
        clear hK K
        try simp only [Act.put, List.setIfInBounds_toArray, List.set_cons_zero, List.set_cons_succ]
        refine fresh_anyC (fun W => Below W1.heap.size W1 W ∧ RcW W B5 zeroR ∧ RcW W B6 zeroR) ⟨hn4, h5.below hp4, h6.below hp4⟩ ?_
        clear h5 h6 hn4 hp4
        rintro U4 ⟨hS9, h5, h6⟩
        obtain ⟨d0, d1, d2, d3, d4, d5, d6⟩ := h5.at_
        have z0 := h5.fr 0; have z1 := h5.fr 1; have z2 := h5.fr 2; have z3 := h5.fr 3; have z4 := h5.fr 4; have z5 := h5.fr 5; have z6 := h5.fr 6
        refine anyL_one 6 rfl (by kernel_rfl) (fun K hK => ?_)
        go_simp
        refine hK.out _ _ (fun _ => below_setAll hS9 g5 q1) ?_
        clear hK K
        try simp only [Act.put, List.setIfInBounds_toArray, List.set_cons_zero, List.set_cons_succ]
        clear d0 d1 d2 d3 d4 d5 d6 z0 z1 z2 z3 z4 z5 z6
        refine fresh_anyC (fun W => (RcW W B5 q1 ∧ RcW W B6 zeroR) ∧ Below W1.heap.size W1 W) ⟨⟨h5.all q1, h6.farAll ne q1⟩, below_setAll hS9 g5 q1⟩ ?_
        clear h5 h6 hS9
        rintro U5 ⟨⟨h5, h6⟩, hT5⟩
        obtain ⟨d0, d1, d2, d3, d4, d5, d6⟩ := h6.at_
        have z0 := h6.fr 0; have z1 := h6.fr 1; have z2 := h6.fr 2; have z3 := h6.fr 3; have z4 := h6.fr 4; have z5 := h6.fr 5; have z6 := h6.fr 6
        refine anyL_one 7 rfl (by kernel_rfl) (fun K hK => ?_)
        go_simp
        refine hK.out _ _ (fun _ => below_setAll hT5 g6 q2) ?_
        clear hK K
        try simp only [Act.put, List.setIfInBounds_toArray, List.set_cons_zero, List.set_cons_succ]
        clear d0 d1 d2 d3 d4 d5 d6 z0 z1 z2 z3 z4 z5 z6
        refine anyC_done (by kernel_rfl) ?_ _
        refine fresh_cut (fun W => (RcAt W B5 q1 ∧ RcAt W B6 q2) ∧ Below w.heap.size w W) ⟨⟨(h5.farAll ne.symm q2).at_, (h6.all q2).at_⟩, hB1H.out.trans ((below_setAll hT5 g6 q2).mono hB1H.out.size)⟩ ?_
        clear h5 h6 hT5
        rintro U6 ⟨⟨h5, h6⟩, hT6⟩
        go_wp2_with fail
        go_meet
        exact ⟨B5, B6, rfl, rfl, ⟨h5, h6⟩, hT6⟩
  case rest =>
    clear hX1H hY1H hB1H hwh1 hwh2
    obtain ⟨x, y, rfl, rfl, ⟨hA, hB⟩, hB4⟩ := hcut
    have hAH := Lib.hid hA
    have hBH := Lib.hid hB
    have hB4H := Lib.hid hB4
    obtain ⟨c0, c1, c2, c3, c4, c5, c6⟩ := hA
    obtain ⟨d0, d1, d2, d3, d4, d5, d6⟩ := hB
    clear hB4
    have henc1 := Lib.hid (fun W (h : Tab W) => encode_any q1 W h)
    have henc2 := Lib.hid (fun W (h : Tab W) => encode_any q2 W h)
    by_cases hg1 : good q1 = true
    case neg =>
      rw [if_neg hg1] at henc1
      clear hg1
      obtain ⟨e2, he2⟩ : ∃ e2 : Int, e2 = if good q2 = true then 0 else 1 := ⟨_, rfl⟩
      rw [← he2] at henc2
      clear he2
      generalize encS q1 = t1 at henc1
      generalize encS q2 = t2 at henc2
      go_wp2_with (first | (go_at_call 11; with_reducible refine (henc1.out _ (hTA.out _ hB4H.out)).mono ?_; rintro e w5 ⟨rfl, hb5⟩; have hB5 := hBH.out.below hb5; obtain ⟨d0, d1, d2, d3, d4, d5, d6⟩ := hB5) | (go_at_call 11; with_reducible refine (henc2.out _ (hTA.out _ (hB4H.out.trans (hb5.mono hB4H.out.size)))).mono ?_; rintro e w6 ⟨rfl, hb6⟩; have hb56 := hb5.trans (hb6.mono hb5.size); have hA6 := hAH.out.below hb56; have hB6 := hBH.out.below hb56; obtain ⟨c0, c1, c2, c3, c4, c5, c6⟩ := hA6; obtain ⟨d0, d1, d2, d3, d4, d5, d6⟩ := hB6))
      go_ret
      exact ⟨rfl, hB4H.out.trans ((hb5.trans (hb6.mono hb5.size)).mono hB4H.out.size)⟩
    by_cases hg2 : good q2 = true
    case neg =>
      rw [if_pos hg1] at henc1
      rw [if_neg hg2] at henc2
      clear hg1 hg2
      generalize encS q1 = t1 at henc1
      generalize encS q2 = t2 at henc2
      go_wp2_with (first | (go_at_call 11; with_reducible refine (henc1.out _ (hTA.out _ hB4H.out)).mono ?_; rintro e w5 ⟨rfl, hb5⟩; have hB5 := hBH.out.below hb5; obtain ⟨d0, d1, d2, d3, d4, d5, d6⟩ := hB5) | (go_at_call 11; with_reducible refine (henc2.out _ (hTA.out _ (hB4H.out.trans (hb5.mono hB4H.out.size)))).mono ?_; rintro e w6 ⟨rfl, hb6⟩; have hb56 := hb5.trans (hb6.mono hb5.size); have hA6 := hAH.out.below hb56; have hB6 := hBH.out.below hb56; obtain ⟨c0, c1, c2, c3, c4, c5, c6⟩ := hA6; obtain ⟨d0, d1, d2, d3, d4, d5, d6⟩ := hB6))
      go_ret
      exact ⟨rfl, hB4H.out.trans ((hb5.trans (hb6.mono hb5.size)).mono hB4H.out.size)⟩
    rw [if_pos hg1] at henc1
    rw [if_pos hg2] at henc2
    have hgd1 := good_iff.1 hg1
    have hgd2 := good_iff.1 hg2
    have hnb : nBlocks q1.k = 1 ∨ nBlocks q1.k = 2 := by have := nBlocks_pos hgd1.1; omega
    have hsz := encS_size hgd1
    have hbl := Lib.hid (fun W => blocks_any q1.k W)
    have gw1 : IntKind.i64.wrap 64 = 64 := by decide +kernel
    have gw2 : IntKind.i64.wrap 128 = 128 := by decide +kernel
    by_cases he : q1 = q2
    case pos =>
      have heq : ∀ W, (binOp .eql 29 (.agg #[.int .i64 q1.k, .int .i64 q1.s, .int .i64 q1.a, .int .i64 q1.b, .int .i64 q1.c, .int .i64 q1.d, .string q1.body]) (.agg #[.int .i64 q2.k, .int .i64 q2.s, .int .i64 q2.a, .int .i64 q2.b, .int .i64 q2.c, .int .i64 q2.d, .string q2.body])).run Tryd.prog W = .ok (.bool true) W := fun W => by
        have h := (rec_eql W q1 q2).1
        rw [he, eqR_self] at h
        rw [he]; exact h
      have ht : encS q1 = encS q2 := by rw [he]
      rw [← ht] at henc2
      clear he ht hgd1 hgd2 hg1 hg2
      generalize encS q1 = t1 at henc1 henc2 hsz
      rcases hnb with hnb | hnb
      · rw [hnb] at hbl hsz
        clear hnb
        have hsz1 : (t1.size : Int) = 64 := by omega
        clear hsz
        go_wp2_with (first | (go_at_call 11; with_reducible refine (henc1.out _ (hTA.out _ hB4H.out)).mono ?_; rintro e w5 ⟨rfl, hb5⟩; have hB5 := hBH.out.below hb5; obtain ⟨d0, d1, d2, d3, d4, d5, d6⟩ := hB5) | (go_at_call 11; with_reducible refine (henc2.out _ (hTA.out _ (hB4H.out.trans (hb5.mono hB4H.out.size)))).mono ?_; rintro e w6 ⟨rfl, hb6⟩; have hb56 := hb5.trans (hb6.mono hb5.size); have hA6 := hAH.out.below hb56; have hB6 := hBH.out.below hb56; obtain ⟨c0, c1, c2, c3, c4, c5, c6⟩ := hA6; obtain ⟨d0, d1, d2, d3, d4, d5, d6⟩ := hB6) | (go_at_call 13; with_reducible refine (hbl.out _).mono ?_; rintro e w7 ⟨rfl, rfl⟩))
        go_ret
        exact ⟨rfl, hB4H.out.trans ((hb5.trans (hb6.mono hb5.size)).mono hB4H.out.size)⟩
      · rw [hnb] at hbl hsz
        clear hnb
        have hsz1 : (t1.size : Int) = 128 := by omega
        clear hsz
        go_wp2_with (first | (go_at_call 11; with_reducible refine (henc1.out _ (hTA.out _ hB4H.out)).mono ?_; rintro e w5 ⟨rfl, hb5⟩; have hB5 := hBH.out.below hb5; obtain ⟨d0, d1, d2, d3, d4, d5, d6⟩ := hB5) | (go_at_call 11; with_reducible refine (henc2.out _ (hTA.out _ (hB4H.out.trans (hb5.mono hB4H.out.size)))).mono ?_; rintro e w6 ⟨rfl, hb6⟩; have hb56 := hb5.trans (hb6.mono hb5.size); have hA6 := hAH.out.below hb56; have hB6 := hBH.out.below hb56; obtain ⟨c0, c1, c2, c3, c4, c5, c6⟩ := hA6; obtain ⟨d0, d1, d2, d3, d4, d5, d6⟩ := hB6) | (go_at_call 13; with_reducible refine (hbl.out _).mono ?_; rintro e w7 ⟨rfl, rfl⟩))
        go_ret
        exact ⟨rfl, hB4H.out.trans ((hb5.trans (hb6.mono hb5.size)).mono hB4H.out.size)⟩
    case neg =>
      have heq : ∀ W, (binOp .eql 29 (.agg #[.int .i64 q1.k, .int .i64 q1.s, .int .i64 q1.a, .int .i64 q1.b, .int .i64 q1.c, .int .i64 q1.d, .string q1.body]) (.agg #[.int .i64 q2.k, .int .i64 q2.s, .int .i64 q2.a, .int .i64 q2.b, .int .i64 q2.c, .int .i64 q2.d, .string q2.body])).run Tryd.prog W = .ok (.bool false) W := fun W => by
        have h := (rec_eql W q1 q2).1
        rwa [show eqR q1 q2 = false from Bool.eq_false_iff.2 (fun h => he (eqR_iff.1 h))] at h
      have hne : ((encS q1).toList == (encS q2).toList) = false := beq_eq_false_iff_ne.2 (fun e => he (encS_inj hgd1 hgd2 (by rw [ByteArray.toList_eq, ByteArray.toList_eq] at e; exact ByteArray.ext (Array.ext' e))))
      clear he hgd1 hgd2 hg1 hg2
      generalize encS q1 = t1 at henc1 hsz hne
      generalize encS q2 = t2 at henc2 hne
      rcases hnb with hnb | hnb
      · rw [hnb] at hbl hsz
        clear hnb
        have hsz1 : (t1.size : Int) = 64 := by omega
        clear hsz
        go_wp2_with (first | (go_at_call 11; with_reducible refine (henc1.out _ (hTA.out _ hB4H.out)).mono ?_; rintro e w5 ⟨rfl, hb5⟩; have hB5 := hBH.out.below hb5; obtain ⟨d0, d1, d2, d3, d4, d5, d6⟩ := hB5) | (go_at_call 11; with_reducible refine (henc2.out _ (hTA.out _ (hB4H.out.trans (hb5.mono hB4H.out.size)))).mono ?_; rintro e w6 ⟨rfl, hb6⟩; have hb56 := hb5.trans (hb6.mono hb5.size); have hA6 := hAH.out.below hb56; have hB6 := hBH.out.below hb56; obtain ⟨c0, c1, c2, c3, c4, c5, c6⟩ := hA6; obtain ⟨d0, d1, d2, d3, d4, d5, d6⟩ := hB6) | (go_at_call 13; with_reducible refine (hbl.out _).mono ?_; rintro e w7 ⟨rfl, rfl⟩))
        go_ret
        exact ⟨rfl, hB4H.out.trans ((hb5.trans (hb6.mono hb5.size)).mono hB4H.out.size)⟩
      · rw [hnb] at hbl hsz
        clear hnb
        have hsz1 : (t1.size : Int) = 128 := by omega
        clear hsz
        go_wp2_with (first | (go_at_call 11; with_reducible refine (henc1.out _ (hTA.out _ hB4H.out)).mono ?_; rintro e w5 ⟨rfl, hb5⟩; have hB5 := hBH.out.below hb5; obtain ⟨d0, d1, d2, d3, d4, d5, d6⟩ := hB5) | (go_at_call 11; with_reducible refine (henc2.out _ (hTA.out _ (hB4H.out.trans (hb5.mono hB4H.out.size)))).mono ?_; rintro e w6 ⟨rfl, hb6⟩; have hb56 := hb5.trans (hb6.mono hb5.size); have hA6 := hAH.out.below hb56; have hB6 := hBH.out.below hb56; obtain ⟨c0, c1, c2, c3, c4, c5, c6⟩ := hA6; obtain ⟨d0, d1, d2, d3, d4, d5, d6⟩ := hB6) | (go_at_call 13; with_reducible refine (hbl.out _).mono ?_; rintro e w7 ⟨rfl, rfl⟩))
        go_ret
        exact ⟨rfl, hB4H.out.trans ((hb5.trans (hb6.mono hb5.size)).mono hB4H.out.size)⟩
end Go.Proofs.YtlignckncgceaabDoor
