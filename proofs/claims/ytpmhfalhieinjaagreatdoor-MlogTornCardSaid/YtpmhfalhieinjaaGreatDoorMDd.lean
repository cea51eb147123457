/- Do and New of a drive's; several drives. -/
import Derived.Test.YtpmhfalhieinjaaGreatDoorMDx
import Derived.Test.YtpmhfalhieinjaaGreatDoorMZn
import Derived.Test.YtpmhfalhieinjaaGreatDoorMDk
namespace Go.Proofs.YtpmhfalhieinjaaGreatDoor
open Go.RowKit Zon Drv
theorem DAt.bound {w : World} {F : Nat → Prop} {d : Nat} {D : Dr} (h : DAt w F d D) : DAt w (fun b => F b ∧ b < w.heap.size) d D := by
  obtain ⟨B, h, hF⟩ := h
  exact ⟨B, h, ⟨hF.d, h.dlt⟩, ⟨hF.g, h.m.gl⟩, ⟨hF.z, h.m.zl⟩, ⟨hF.c, h.lc⟩, ⟨hF.l, h.ll⟩, fun i hi b hb => ⟨hF.o i hi b hb, h.olt hi hb⟩⟩
theorem DAt.mono {w : World} {F G : Nat → Prop} {d : Nat} {D : Dr} (h : DAt w F d D) (hG : ∀ b, F b → G b) : DAt w G d D := by
  obtain ⟨B, h, hF⟩ := h
  exact ⟨B, h, hF.mono hG⟩
theorem DoPost.same {w W : World} {F : Nat → Prop} {d : Nat} {D : Dr} (h : DAt W F d D) (ht : Turn w W F) (x y : Int) : DoPost w F d (([], x, y), D) (.returned (.tuple #[.string ⟨#[]⟩, .int .i64 x, .int .i64 y])) W :=
  ⟨rfl, ⟨F, h, fun _ hb => .inl hb⟩, ht⟩
set_option maxRecDepth 100000 in
set_option maxHeartbeats 1000000 in
theorem ddo_b (w : World) (F : Nat → Prop) (d : Nat) (D : Dr) (k zz a n : Int) (s : ByteArray) (h : DAt w F d D) (hok : D.Ok) (ha : a ≤ 9223372036854775807) (hs : s.size ≤ 9223372036854775807) (hF : ∀ b, F b → b < w.heap.size) :
    Calls Tryz.prog 86 #[.pointer (some ⟨d, 0, none⟩), .agg #[.int .i64 k, .int .i64 zz, .int .i64 a, .int .i64 n], .string s] w (DoPost w F d (doD D k zz a n s.data.toList)) := by
  have hB : Below w.heap.size w (w.alloc (.cells #[.int .i64 k, .int .i64 zz, .int .i64 a, .int .i64 n] 116)) := (Below.refl _ _).alloc (Nat.le_refl _) _
  have hX := Bx.new w k zz a n 116
  have hXs : w.heap.size < (w.alloc (.cells #[.int .i64 k, .int .i64 zz, .int .i64 a, .int .i64 n] 116)).heap.size := by simp
  have hhH := Lib.hid h
  have hlt := h.lt
  have c3 : w.cell? ⟨d, 3, none⟩ = some (.bool D.dead) := by obtain ⟨B, h, _⟩ := h; exact h.c3
  have hma := Lib.hid (fun W => matches_any k zz a n s W hs)
  have hex := Lib.hid (fun W (h : DAt W F d D) (hF : ∀ b, F b → b < W.heap.size) (hfit : fits k n s.size = true) => exec_any W F d D k zz a n s h hok ha hF hfit)
  clear h hok ha hs
  unfold doD
  rw [show s.data.toList.length = s.size from rfl]
  cases hd : D.dead with
  | true =>
    rw [if_pos rfl]
    rw [hd] at c3
    have hfin := Lib.hid (DoPost.same (hhH.out.below hB) (Turn.of_below hB F) 0 7)
    clear hX hd hB
    go_enter Tryz.func86, Tryz.ntmps86
    go_wp2_with fail
    go_ret3
    exact hfin.out
  | false =>
    rw [if_neg (by simp)]
    rw [hd] at c3
    clear hd
    cases hfit : fits k n s.size with
    | false =>
      rw [if_neg (by simp)]
      rw [hfit] at hma
      have hHH := Lib.hid hB
      clear hX hfit hB hex
      go_enter Tryz.func86, Tryz.ntmps86
      go_wp2_with (go_at_call 104; refine (hma.out _).mono ?_; rintro e w1 ⟨rfl, hb⟩; obtain ⟨hc, hf⟩ := bcell hb)
      go_ret3
      exact DoPost.same ((hhH.out.below hHH.out).below hb) ((Turn.of_below hHH.out F).trans (Turn.of_below hb F)) 0 1
    | true =>
      rw [if_pos rfl]
      rw [hfit] at hma
      have hfitH := Lib.hid hfit
      have hHH := Lib.hid hB
      have hXH := Lib.hid hX
      have hXn : ¬ F w.heap.size := fun hf => by have := hF _ hf; omega
      generalize hR : exec D k zz a n s.data.toList = R at hex ⊢
      clear hX hfit hB hR
      go_enter Tryz.func86, Tryz.ntmps86
      go_wp2_with (go_at_call 104; refine (hma.out _).mono ?_; rintro e w1 ⟨rfl, hb⟩; obtain ⟨hc, hf⟩ := bcell hb)
      refine fresh_world (fun W => Below w.heap.size w W ∧ Bx w W w.heap.size k zz a n) ⟨hHH.out.trans (hb.mono (by simp)), hXH.out.turn (F := fun _ => False) (Turn.of_below hb _) id⟩ ?_
      rintro W5 ⟨hB5, hX5⟩
      clear hc hf hb hXH hHH w1 hma
      have hf := Lib.hid (fun W (hW : Turn W5 W F) => (⟨hW.cell hX5.x0 hXn, hW.cell hX5.x1 hXn, hW.cell hX5.x2 hXn, hW.cell hX5.x3 hXn⟩ : W.cell? ⟨w.heap.size, 0, none⟩ = some (.int .i64 k) ∧ W.cell? ⟨w.heap.size, 1, none⟩ = some (.int .i64 zz) ∧ W.cell? ⟨w.heap.size, 2, none⟩ = some (.int .i64 a) ∧ W.cell? ⟨w.heap.size, 3, none⟩ = some (.int .i64 n)))
      have hex5 := Lib.hid (fun W (hb : Below W5.heap.size W5 W) => hex.out W ((hhH.out.below hB5).below hb) (fun b hb2 => by have := hF b hb2; have := hB5.size; have := hb.size; omega) hfitH.out)
      unfold DoPost at hex5
      obtain ⟨⟨out, at', ev⟩, D'⟩ := R
      clear hX5 hex
      refine region_anyC (fun _ => true) (fun W => Turn W5 W F) (by kernel_rfl) ?_
      have hS : Turn W5 W5.drew F := Turn.of_below (Below.refl _ _).drew F
      refine anyL_take 0 (v := ?_) rfl (by kernel_rfl) (fun _ _ _ h => h) (Or.inl ⟨by rfl, ?_⟩) hS ?_
      rotate_left
      focus (intro W hW; go_simp; try with_reducible rfl)
      simp only [Act.put, List.setIfInBounds_toArray, List.set_cons_zero, List.set_cons_succ]
      refine anyL_take 1 (v := ?_) rfl (by kernel_rfl) (fun _ _ _ h => h) (Or.inl ⟨by rfl, ?_⟩) hS ?_
      rotate_left
      focus (intro W hW; go_simp; try with_reducible rfl)
      simp only [Act.put, List.setIfInBounds_toArray, List.set_cons_zero, List.set_cons_succ]
      refine anyL_take 2 (v := ?_) rfl (by kernel_rfl) (fun _ _ _ h => h) (Or.inl ⟨by rfl, ?_⟩) hS ?_
      rotate_left
      focus (intro W hW; go_simp; try with_reducible rfl)
      simp only [Act.put, List.setIfInBounds_toArray, List.set_cons_zero, List.set_cons_succ]
      refine anyL_take 3 (v := ?_) rfl (by kernel_rfl) (fun _ _ _ h => h) (Or.inl ⟨by rfl, ?_⟩) hS ?_
      rotate_left
      focus (intro W hW; obtain ⟨f0, f1, f2, f3⟩ := hf.out W hW; go_simp; try with_reducible rfl)
      simp only [Act.put, List.setIfInBounds_toArray, List.set_cons_zero, List.set_cons_succ]
      refine anyL_take 4 (v := ?_) rfl (by kernel_rfl) (fun _ _ _ h => h) (Or.inl ⟨by rfl, ?_⟩) hS ?_
      rotate_left
      focus (intro W hW; go_simp; try with_reducible rfl)
      simp only [Act.put, List.setIfInBounds_toArray, List.set_cons_zero, List.set_cons_succ]
      refine anyL_one 5 rfl (by kernel_rfl) (fun K hK => ?_)
      go_simp
      refine (hex5.out _ (Below.refl _ _).drew).mono ?_
      rintro e' w7 ⟨rfl, ⟨F', hD7, hF'⟩, ht7⟩
      have ht8 := hS.trans ht7
      dsimp only
      refine hK.out _ _ (fun _ => ht8) ?_
      clear hK K
      try simp only [Act.put, List.setIfInBounds_toArray, List.set_cons_zero, List.set_cons_succ]
      refine anyL_take 6 (v := ?_) rfl (by kernel_rfl) (fun _ _ _ h => h) (Or.inl ⟨by rfl, ?_⟩) ht8 ?_
      rotate_left
      focus (intro W hW; go_simp; try with_reducible rfl)
      simp only [Act.put, List.setIfInBounds_toArray, List.set_cons_zero, List.set_cons_succ]
      refine anyL_take 7 (v := ?_) rfl (by kernel_rfl) (fun _ _ _ h => h) (Or.inl ⟨by rfl, ?_⟩) ht8 ?_
      rotate_left
      focus (intro W hW; go_simp; try with_reducible rfl)
      simp only [Act.put, List.setIfInBounds_toArray, List.set_cons_zero, List.set_cons_succ]
      refine anyL_take 8 (v := ?_) rfl (by kernel_rfl) (fun _ _ _ h => h) (Or.inl ⟨by rfl, ?_⟩) ht8 ?_
      rotate_left
      focus (intro W hW; go_simp; try with_reducible rfl)
      simp only [Act.put, List.setIfInBounds_toArray, List.set_cons_zero, List.set_cons_succ]
      refine anyL_take 9 (v := ?_) rfl (by kernel_rfl) (fun _ _ _ h => h) (Or.inl ⟨by rfl, ?_⟩) ht8 ?_
      rotate_left
      focus (intro W hW; go_simp; try with_reducible rfl)
      simp only [Act.put, List.setIfInBounds_toArray, List.set_cons_zero, List.set_cons_succ]
      refine anyL_take 10 (v := ?_) rfl (by kernel_rfl) (fun _ _ _ h => h) (Or.inl ⟨by rfl, ?_⟩) ht8 ?_
      rotate_left
      focus (intro W hW; go_simp; try with_reducible rfl)
      simp only [Act.put, List.setIfInBounds_toArray, List.set_cons_zero, List.set_cons_succ]
      refine anyL_take 11 (v := ?_) rfl (by kernel_rfl) (fun _ _ _ h => h) (Or.inl ⟨by rfl, ?_⟩) ht8 ?_
      rotate_left
      focus (intro W hW; go_simp; try with_reducible rfl)
      simp only [Act.put, List.setIfInBounds_toArray, List.set_cons_zero, List.set_cons_succ]
      refine anyC_done (by kernel_rfl) ?_ _
      go_wp2
      go_ret3
      refine ⟨rfl, ⟨F', hD7, fun b hb => (hF' b hb).imp id fun h => ?_⟩, (Turn.of_below hB5 F).trans ht8⟩
      have := hB5.size
      have e8 : W5.drew.heap.size = W5.heap.size := rfl
      omega
theorem ddo_any (w : World) (F : Nat → Prop) (d : Nat) (D : Dr) (k zz a n : Int) (s : ByteArray) (h : DAt w F d D) (hok : D.Ok) (ha : a ≤ 9223372036854775807) (hs : s.size ≤ 9223372036854775807) :
    Calls Tryz.prog 86 #[.pointer (some ⟨d, 0, none⟩), .agg #[.int .i64 k, .int .i64 zz, .int .i64 a, .int .i64 n], .string s] w (DoPost w F d (doD D k zz a n s.data.toList)) := by
  refine (ddo_b w _ d D k zz a n s h.bound hok ha hs (fun b hb => hb.2)).mono ?_
  rintro e w1 ⟨h1, ⟨F', h2, h3⟩, h4⟩
  exact ⟨h1, ⟨F', h2, fun b hb => (h3 b hb).imp And.left id⟩, h4.mono fun b _ hb => hb.1⟩
theorem ddo_nil (w : World) (k zz a n : Int) (s : ByteArray) :
    Calls Tryz.prog 86 #[.pointer none, .agg #[.int .i64 k, .int .i64 zz, .int .i64 a, .int .i64 n], .string s] w fun e w' => e = .returned (.tuple #[.string ⟨#[]⟩, .int .i64 0, .int .i64 1]) ∧ Below w.heap.size w w' := by
  go_enter Tryz.func86, Tryz.ntmps86
  go_wp2
  go_ret3
  exact ⟨rfl, (Below.refl _ _).alloc (Nat.le_refl _) _⟩
end Go.Proofs.YtpmhfalhieinjaaGreatDoor
namespace Go.Proofs.YtpmhfalhieinjaaGreatDoor
open Go.RowKit Zon Drv
theorem infoBS : (Tryz.prog.info? 45).map (fun i => (i.zero, i.size, i.bytes)) = some (some (.slice none 0 0), 1, 24) := by kernel_rfl
theorem infoInt : (Tryz.prog.info? 3).map (fun i => (i.zero, i.size, i.bytes)) = some (some (.int .i64 0), 1, 8) := by kernel_rfl
/-- The two rows of a new drive. -/
structure NewRows (W : World) (c l n : Nat) : Prop where
  row : ∀ i, i < n → W.cell? ⟨c, i, none⟩ = some (.slice none 0 0) ∧ W.frozen? ⟨c, i, none⟩ = false
  lrow : ∀ i, i < n → W.cell? ⟨l, i, none⟩ = some (.int .i64 0) ∧ W.frozen? ⟨l, i, none⟩ = false
  lc : c < W.heap.size
  ll : l < W.heap.size
theorem NewRows.below {W W' : World} {c l n : Nat} (h : NewRows W c l n) (hb : Below W.heap.size W W') : NewRows W' c l n :=
  ⟨fun i hi => ⟨(hb.cell (p := ⟨c, i, none⟩) h.lc).trans (h.row i hi).1, (hb.frozen (p := ⟨c, i, none⟩) h.lc).trans (h.row i hi).2⟩,
   fun i hi => ⟨(hb.cell (p := ⟨l, i, none⟩) h.ll).trans (h.lrow i hi).1, (hb.frozen (p := ⟨l, i, none⟩) h.ll).trans (h.lrow i hi).2⟩, Nat.lt_of_lt_of_le h.lc hb.size, Nat.lt_of_lt_of_le h.ll hb.size⟩
theorem NewRows.cl (w : World) (n : Nat) (e e' : TypeId) : NewRows ((w.alloc (.cells (madeCells #[.slice none 0 0] n) e)).alloc (.cells (madeCells #[.int .i64 0] n) e')) w.heap.size (w.heap.size + 1) n := by
  have hb : Below (w.alloc (.cells (madeCells #[.slice none 0 0] n) e)).heap.size (w.alloc (.cells (madeCells #[.slice none 0 0] n) e)) ((w.alloc (.cells (madeCells #[.slice none 0 0] n) e)).alloc (.cells (madeCells #[.int .i64 0] n) e')) := (Below.refl _ _).alloc (Nat.le_refl _) _
  have hs : (w.alloc (.cells (madeCells #[.slice none 0 0] n) e)).heap.size = w.heap.size + 1 := by simp
  refine ⟨fun i hi => ⟨(hb.cell (p := ⟨w.heap.size, i, none⟩) (by rw [hs]; exact Nat.lt_succ_self _)).trans (made_noughts w e _ n i hi), (hb.frozen (p := ⟨w.heap.size, i, none⟩) (by rw [hs]; exact Nat.lt_succ_self _)).trans (made_free w e _ n i)⟩, fun i hi => ?_, by simp; omega, by simp⟩
  rw [← hs]
  exact ⟨made_noughts _ e' _ n i hi, made_free _ e' _ n i⟩
theorem NewRows.lc' (w : World) (n : Nat) (e e' : TypeId) : NewRows ((w.alloc (.cells (madeCells #[.int .i64 0] n) e')).alloc (.cells (madeCells #[.slice none 0 0] n) e)) (w.heap.size + 1) w.heap.size n := by
  have hb : Below (w.alloc (.cells (madeCells #[.int .i64 0] n) e')).heap.size (w.alloc (.cells (madeCells #[.int .i64 0] n) e')) ((w.alloc (.cells (madeCells #[.int .i64 0] n) e')).alloc (.cells (madeCells #[.slice none 0 0] n) e)) := (Below.refl _ _).alloc (Nat.le_refl _) _
  have hs : (w.alloc (.cells (madeCells #[.int .i64 0] n) e')).heap.size = w.heap.size + 1 := by simp
  refine ⟨fun i hi => ?_, fun i hi => ⟨(hb.cell (p := ⟨w.heap.size, i, none⟩) (by rw [hs]; exact Nat.lt_succ_self _)).trans (made_noughts w e' _ n i hi), (hb.frozen (p := ⟨w.heap.size, i, none⟩) (by rw [hs]; exact Nat.lt_succ_self _)).trans (made_free w e' _ n i)⟩, by simp, by simp; omega⟩
  rw [← hs]
  exact ⟨made_noughts _ e _ n i hi, made_free _ e _ n i⟩
/-- Three cells, stored. -/
theorem set_three {w1 : World} {X : Nat} {u1 u2 u3 : Value} (q1 : w1.cell? ⟨X, 0, none⟩ = some u1) (q2 : w1.cell? ⟨X, 1, none⟩ = some u2) (q3 : w1.cell? ⟨X, 2, none⟩ = some u3) (x1 x2 x3 : Value) :
    (((w1.setCell ⟨X, 0, none⟩ x1).setCell ⟨X, 1, none⟩ x2).setCell ⟨X, 2, none⟩ x3).cell? ⟨X, 0, none⟩ = some x1 ∧ (((w1.setCell ⟨X, 0, none⟩ x1).setCell ⟨X, 1, none⟩ x2).setCell ⟨X, 2, none⟩ x3).cell? ⟨X, 1, none⟩ = some x2 ∧
      (((w1.setCell ⟨X, 0, none⟩ x1).setCell ⟨X, 1, none⟩ x2).setCell ⟨X, 2, none⟩ x3).cell? ⟨X, 2, none⟩ = some x3 ∧ (((w1.setCell ⟨X, 0, none⟩ x1).setCell ⟨X, 1, none⟩ x2).setCell ⟨X, 2, none⟩ x3).heap.size = w1.heap.size ∧
      Turn w1 (((w1.setCell ⟨X, 0, none⟩ x1).setCell ⟨X, 1, none⟩ x2).setCell ⟨X, 2, none⟩ x3) (fun b => b = X) := by
  have n01 : (⟨X, 0, none⟩ : Addr) ≠ ⟨X, 1, none⟩ := by intro e'; injection e' with _ e'; omega
  have n02 : (⟨X, 0, none⟩ : Addr) ≠ ⟨X, 2, none⟩ := by intro e'; injection e' with _ e'; omega
  have n12 : (⟨X, 1, none⟩ : Addr) ≠ ⟨X, 2, none⟩ := by intro e'; injection e' with _ e'; omega
  have a1 : (w1.setCell ⟨X, 0, none⟩ x1).cell? ⟨X, 1, none⟩ = some u2 := (World.cell?_setCell_other _ _ _ _ (by intro e'; injection e' with _ e'; omega)).trans q2
  have a2 : ((w1.setCell ⟨X, 0, none⟩ x1).setCell ⟨X, 1, none⟩ x2).cell? ⟨X, 2, none⟩ = some u3 := (World.cell?_setCell_other _ _ _ _ (by intro e'; injection e' with _ e'; omega)).trans ((World.cell?_setCell_other _ _ _ _ (by intro e'; injection e' with _ e'; omega)).trans q3)
  refine ⟨?_, ?_, World.cell?_setCell_same' _ _ _ (by rw [a2]; rfl), by simp [World.setCell], ((Turn.set w1 (F := fun b => b = X) rfl 0 x1).trans (Turn.set _ (F := fun b => b = X) rfl 1 x2)).trans (Turn.set _ (F := fun b => b = X) rfl 2 x3)⟩
  · exact (World.cell?_setCell_other _ _ _ _ (by intro e'; injection e' with _ e'; omega)).trans ((World.cell?_setCell_other _ _ _ _ (by intro e'; injection e' with _ e'; omega)).trans (World.cell?_setCell_same' _ _ _ (by rw [q1]; rfl)))
  · exact (World.cell?_setCell_other _ _ _ _ (by intro e'; injection e' with _ e'; omega)).trans (World.cell?_setCell_same' _ _ _ (by rw [a1]; rfl))
/-- What newZones answers. -/
def ZonesPost (w : World) (z b o a : Int) (e : Ending) (w' : World) : Prop :=
  ∃ g y c l, e = .returned (.tuple #[.agg #[.pointer (some ⟨g, 0, none⟩), .slice (some ⟨c, 0, none⟩) z.toNat z.toNat, .slice (some ⟨l, 0, none⟩) z.toNat z.toNat], .int .i64 0]) ∧ MAt w' g y (newM z b o a) ∧ NewRows w' c l z.toNat ∧ Below w.heap.size w w' ∧ w.heap.size ≤ g ∧ w.heap.size ≤ y ∧ w.heap.size ≤ c ∧ w.heap.size ≤ l ∧
    g ≠ c ∧ g ≠ l ∧ y ≠ c ∧ y ≠ l ∧ c ≠ l
set_option maxHeartbeats 1000000 in
theorem newZones_good (z b o a : Int) (w : World) (h : newOk z b o a = true) :
    Calls Tryz.prog 80 #[.int .i64 z, .int .i64 b, .int .i64 o, .int .i64 a] w (ZonesPost w z b o a) := by
  have hn := Zon.newOk_iff.1 h
  have hnew := Lib.hid (fun W => new_good z b o a W h)
  obtain ⟨n, rfl⟩ := Int.eq_ofNat_of_zero_le (show 0 ≤ z by omega)
  obtain ⟨i0, hi, hz0, hz1, hz2⟩ := info_parts infoBS
  have hmk := fun W => run_make_m (P := Tryz.prog) 141 45 i0 (.slice none 0 0) Tryz.underlying141 hi hz0 .i64 .i64 n n (Nat.le_refl _) (by rw [hz2]; omega) (by omega) W
  rw [hz1] at hmk
  clear hi hz0 hz1 hz2
  obtain ⟨i1, hi, hz0, hz1, hz2⟩ := info_parts infoInt
  have hmk2 := fun W => run_make_m (P := Tryz.prog) 42 3 i1 (.int .i64 0) Tryz.underlying42 hi hz0 .i64 .i64 n n (Nat.le_refl _) (by rw [hz2]; omega) (by omega) W
  rw [hz1] at hmk2
  clear hi hz0 hz1 hz2 h
  have hn1 : n ≤ 64 := by omega
  clear hn
  go_enter Tryz.func80, Tryz.ntmps80
  go_wp2_with fail
  refine (hnew.out _).mono ?_
  rintro e w1 ⟨g, y, rfl, hM, hzy, hgy, hb⟩
  have hB1 : Below w.heap.size w w1 := ((Below.refl _ _).alloc (Nat.le_refl _) _).trans (hb.mono (by simp))
  have q1 : w1.cell? ⟨w.heap.size, 0, none⟩ = some (.pointer none) := (hb.cell (p := ⟨w.heap.size, 0, none⟩) (by simp)).trans (by go_simp)
  have q2 : w1.cell? ⟨w.heap.size, 1, none⟩ = some (.slice none 0 0) := (hb.cell (p := ⟨w.heap.size, 1, none⟩) (by simp)).trans (by go_simp)
  have q3 : w1.cell? ⟨w.heap.size, 2, none⟩ = some (.slice none 0 0) := (hb.cell (p := ⟨w.heap.size, 2, none⟩) (by simp)).trans (by go_simp)
  have hfz : ∀ j, w1.frozen? ⟨w.heap.size, j, none⟩ = false := fun j => (hb.frozen (p := ⟨w.heap.size, j, none⟩) (by simp)).trans ((World.frozen?_alloc_mark w _ _ 0 0 j).trans (by simp))
  have z1 := hfz 0
  have z2 := hfz 1
  have z3 := hfz 2
  have hlt : w.heap.size < w1.heap.size := lt_of_cell q1
  have hgy' : w.heap.size < g := by simp at hgy; omega
  have hzy' : w.heap.size < y := by simp at hzy; omega
  have hMH := Lib.hid hM
  have hB1H := Lib.hid hB1
  have hgl := hM.gl
  have hyl := hM.zl
  clear hM hB1 hb hzy hgy hfz hnew
  go_wp2_with fail
  go_region
  · obtain ⟨t1, t2, t3, hsz, htu⟩ := set_three q1 q2 q3 (.pointer (some ⟨g, 0, none⟩)) (.slice (some ⟨w1.heap.size, 0, none⟩) n n) (.slice (some ⟨w1.heap.size + 1, 0, none⟩) n n)
    have hM3 : MAt _ g y (newM (n : Int) b o a) := hMH.out.same htu.size (htu.block g hgl (by omega)) (htu.block y hyl (by omega))
    have hB3 : Below w.heap.size w _ := hB1H.out.trans (htu.below (B := w.heap.size) (fun k hk => by omega) hB1H.out.size)
    generalize ((w1.setCell ⟨w.heap.size, 0, none⟩ (.pointer (some ⟨g, 0, none⟩))).setCell ⟨w.heap.size, 1, none⟩ (.slice (some ⟨w1.heap.size, 0, none⟩) n n)).setCell ⟨w.heap.size, 2, none⟩ (.slice (some ⟨w1.heap.size + 1, 0, none⟩) n n) = W3 at t1 t2 t3 hsz htu hM3 hB3 ⊢
    have hnr := NewRows.cl W3 n 45 3
    rw [hsz] at hnr
    have hb4 : Below W3.heap.size W3 ((W3.alloc (.cells (madeCells #[.slice none 0 0] n) 45)).alloc (.cells (madeCells #[.int .i64 0] n) 3)).drew := (((Below.refl _ _).alloc (Nat.le_refl _) _).alloc (by simp) _).drew
    have hlt3 : w.heap.size < W3.heap.size := by rw [hsz]; exact hlt
    refine fresh_K (fun W => NewRows W (w1.heap.size) (w1.heap.size + 1) n ∧ MAt W g y (newM (n : Int) b o a) ∧ Below w.heap.size w W ∧ W.cell? ⟨w.heap.size, 0, none⟩ = some (.pointer (some ⟨g, 0, none⟩)) ∧ W.cell? ⟨w.heap.size, 1, none⟩ = some (.slice (some ⟨w1.heap.size, 0, none⟩) n n) ∧ W.cell? ⟨w.heap.size, 2, none⟩ = some (.slice (some ⟨w1.heap.size + 1, 0, none⟩) n n))
      ⟨hnr.below (Below.refl _ _).drew, hM3.below hb4, hB3.trans (hb4.mono (by omega)), (hb4.cell (p := ⟨w.heap.size, 0, none⟩) hlt3).trans t1, (hb4.cell (p := ⟨w.heap.size, 1, none⟩) hlt3).trans t2, (hb4.cell (p := ⟨w.heap.size, 2, none⟩) hlt3).trans t3⟩ ?_
    clear hnr hb4 hlt3 hM3 hB3 t1 t2 t3 htu hsz q1 q2 q3 z1 z2 z3 hmk hmk2
    rintro W9 ⟨hnr, hM9, hB9, d0, d1, d2⟩
    go_wp2
    refine bodyPost_ret (v := .tuple #[.agg #[.pointer (some ⟨g, 0, none⟩), .slice (some ⟨w1.heap.size, 0, none⟩) n n, .slice (some ⟨w1.heap.size + 1, 0, none⟩) n n], .int .i64 0]) (by simp [results, Tryz.results80, go_sem, d0, d1, d2]) rfl ?_
    refine ⟨g, y, w1.heap.size, w1.heap.size + 1, by rw [Int.toNat_natCast], hM9, by rw [Int.toNat_natCast]; exact hnr, hB9, by omega, by omega, by omega, by omega, by omega, by omega, by omega, by omega, by omega⟩
  · obtain ⟨t1, t2, t3, hsz, htu⟩ := set_three q1 q2 q3 (.pointer (some ⟨g, 0, none⟩)) (.slice (some ⟨w1.heap.size + 1, 0, none⟩) n n) (.slice (some ⟨w1.heap.size, 0, none⟩) n n)
    have hM3 : MAt _ g y (newM (n : Int) b o a) := hMH.out.same htu.size (htu.block g hgl (by omega)) (htu.block y hyl (by omega))
    have hB3 : Below w.heap.size w _ := hB1H.out.trans (htu.below (B := w.heap.size) (fun k hk => by omega) hB1H.out.size)
    generalize ((w1.setCell ⟨w.heap.size, 0, none⟩ (.pointer (some ⟨g, 0, none⟩))).setCell ⟨w.heap.size, 1, none⟩ (.slice (some ⟨w1.heap.size + 1, 0, none⟩) n n)).setCell ⟨w.heap.size, 2, none⟩ (.slice (some ⟨w1.heap.size, 0, none⟩) n n) = W3 at t1 t2 t3 hsz htu hM3 hB3 ⊢
    have hnr := NewRows.lc' W3 n 45 3
    rw [hsz] at hnr
    have hb4 : Below W3.heap.size W3 ((W3.alloc (.cells (madeCells #[.int .i64 0] n) 3)).alloc (.cells (madeCells #[.slice none 0 0] n) 45)).drew := (((Below.refl _ _).alloc (Nat.le_refl _) _).alloc (by simp) _).drew
    have hlt3 : w.heap.size < W3.heap.size := by rw [hsz]; exact hlt
    refine fresh_K (fun W => NewRows W (w1.heap.size + 1) (w1.heap.size) n ∧ MAt W g y (newM (n : Int) b o a) ∧ Below w.heap.size w W ∧ W.cell? ⟨w.heap.size, 0, none⟩ = some (.pointer (some ⟨g, 0, none⟩)) ∧ W.cell? ⟨w.heap.size, 1, none⟩ = some (.slice (some ⟨w1.heap.size + 1, 0, none⟩) n n) ∧ W.cell? ⟨w.heap.size, 2, none⟩ = some (.slice (some ⟨w1.heap.size, 0, none⟩) n n))
      ⟨hnr.below (Below.refl _ _).drew, hM3.below hb4, hB3.trans (hb4.mono (by omega)), (hb4.cell (p := ⟨w.heap.size, 0, none⟩) hlt3).trans t1, (hb4.cell (p := ⟨w.heap.size, 1, none⟩) hlt3).trans t2, (hb4.cell (p := ⟨w.heap.size, 2, none⟩) hlt3).trans t3⟩ ?_
    clear hnr hb4 hlt3 hM3 hB3 t1 t2 t3 htu hsz q1 q2 q3 z1 z2 z3 hmk hmk2
    rintro W9 ⟨hnr, hM9, hB9, d0, d1, d2⟩
    go_wp2
    refine bodyPost_ret (v := .tuple #[.agg #[.pointer (some ⟨g, 0, none⟩), .slice (some ⟨w1.heap.size + 1, 0, none⟩) n n, .slice (some ⟨w1.heap.size, 0, none⟩) n n], .int .i64 0]) (by simp [results, Tryz.results80, go_sem, d0, d1, d2]) rfl ?_
    refine ⟨g, y, w1.heap.size + 1, w1.heap.size, by rw [Int.toNat_natCast], hM9, by rw [Int.toNat_natCast]; exact hnr, hB9, by omega, by omega, by omega, by omega, by omega, by omega, by omega, by omega, by omega⟩
/-- Nothing may be made so. -/
theorem newZones_bad (z b o a : Int) (w : World) (h : newOk z b o a = false) :
    Calls Tryz.prog 80 #[.int .i64 z, .int .i64 b, .int .i64 o, .int .i64 a] w fun e w' => e = .returned (.tuple #[.agg #[.pointer none, .slice none 0 0, .slice none 0 0], .int .i64 1]) ∧ Below w.heap.size w w' := by
  have hnew := Lib.hid (fun W => new_bad z b o a W h)
  clear h
  go_enter Tryz.func80, Tryz.ntmps80
  go_wp2_with (go_at_call 101; refine (hnew.out _).mono ?_; rintro e w1 ⟨rfl, rfl⟩)
  refine bodyPost_ret (v := .tuple #[.agg #[.pointer none, .slice none 0 0, .slice none 0 0], .int .i64 1]) (by simp [results, Tryz.results80, go_sem]) rfl ⟨rfl, ?_⟩
  exact (Below.refl _ _).alloc (Nat.le_refl _) _
/-- A drive in new memory. -/
def DNew (w : World) (z b o a : Int) (e : Ending) (w' : World) : Prop := ∃ d F, e = .returned (.tuple #[.pointer (some ⟨d, 0, none⟩), .int .i64 0]) ∧ DAt w' F d (newD z b o a) ∧ (∀ x, F x → w.heap.size ≤ x) ∧ Below w.heap.size w w'
theorem dnew_bad (z b o a : Int) (w : World) (h : newOk z b o a = false) :
    Calls Tryz.prog 45 #[.int .i64 z, .int .i64 b, .int .i64 o, .int .i64 a] w fun e w' => e = .returned (.tuple #[.pointer none, .int .i64 1]) ∧ Below w.heap.size w w' := by
  have hnew := Lib.hid (fun W => newZones_bad z b o a W h)
  clear h
  go_enter Tryz.func45, Tryz.ntmps45
  go_wp2_with (go_at_call 80; refine (hnew.out _).mono ?_; rintro e w1 ⟨rfl, hb⟩; obtain ⟨hc, hf⟩ := bcell hb)
  go_ret2
  exact ⟨rfl, hb.trans ((Below.refl _ _).alloc (by exact hb.size) _)⟩
theorem dnew_lies {w W : World} {g y c l d : Nat} {z b o a : Int} (hM : MAt W g y (newM z b o a)) (hn : NewRows W c l z.toNat) (hd : d = W.heap.size) (hg : w.heap.size ≤ g) (hy : w.heap.size ≤ y) (hc : w.heap.size ≤ c) (hl : w.heap.size ≤ l) (h1 : g ≠ c) (h2 : g ≠ l) (h3 : y ≠ c) (h4 : y ≠ l) (h5 : c ≠ l) (hs : w.heap.size ≤ W.heap.size) (t : TypeId) :
    ∃ F, DAt (W.alloc (.cells #[.pointer (some ⟨g, 0, none⟩), .slice (some ⟨c, 0, none⟩) z.toNat z.toNat, .slice (some ⟨l, 0, none⟩) z.toNat z.toNat, .bool false] t)) F d (newD z b o a) ∧ ∀ x, F x → w.heap.size ≤ x := by
  subst hd
  have hb : Below W.heap.size W (W.alloc (.cells #[.pointer (some ⟨g, 0, none⟩), .slice (some ⟨c, 0, none⟩) z.toNat z.toNat, .slice (some ⟨l, 0, none⟩) z.toNat z.toNat, .bool false] t)) := (Below.refl _ _).alloc (Nat.le_refl _) _
  have hn2 := hn.below hb
  have hM2 := hM.below hb
  have hgl := hM.gl
  have hyl := hM.zl
  have hcl := hn.lc
  have hll := hn.ll
  have hv : ∀ i, Blk.v ⟨g, y, c, l, List.replicate z.toNat (Value.slice none 0 0)⟩ i = .slice none 0 0 := fun i => by
    unfold Blk.v at_
    rw [List.getD_eq_getElem?_getD]
    simp only [List.getElem?_replicate]
    split <;> rfl
  have hcz : ∀ i, (newD z b o a).c i = [] := fun i => by
    unfold Dr.c at_ newD
    rw [List.getD_eq_getElem?_getD]
    simp only [List.getElem?_replicate]
    split <;> rfl
  have hlz : ∀ i, (newD z b o a).l i = 0 := fun i => by
    unfold Dr.l at_ newD
    rw [List.getD_eq_getElem?_getD]
    simp only [List.getElem?_replicate]
    split <;> rfl
  refine ⟨fun x => w.heap.size ≤ x, ⟨⟨g, y, c, l, List.replicate z.toNat (.slice none 0 0)⟩, ⟨by go_simp, ?_, ?_, ?_, ?_, hM2, ?_, fun i hi => ?_, fun i hi => ?_, fun i hi => ?_, hn2.lc, hn2.ll, (by show W.heap.size ≠ g; omega), (by show W.heap.size ≠ y; omega), (by show W.heap.size ≠ c; omega), (by show W.heap.size ≠ l; omega), h1, h2, h3, h4, h5, fun i hi b hb => ?_, fun i j hi hj _ b hb => ?_⟩, ⟨hs, hg, hy, hc, hl, fun i hi b hb => ?_⟩⟩, fun x hx => hx⟩
  · show _ = some (Value.slice _ (List.replicate z.toNat _).length (List.replicate z.toNat _).length)
    rw [List.length_replicate]
    go_simp
  · show _ = some (Value.slice _ (List.replicate z.toNat _).length (List.replicate z.toNat _).length)
    rw [List.length_replicate]
    go_simp
  · show _ = some (Value.bool false)
    go_simp
  · exact (World.frozen?_alloc_mark W _ t 0 0 3).trans (by simp)
  · show (List.replicate _ _).length = (List.replicate _ _).length
    rw [List.length_replicate, List.length_replicate]
  · rw [hv]
    exact hn2.row i (by simpa [newD] using hi)
  · rw [hv, hcz]
    exact World.ownsRow_nil _ _ _ _
  · rw [hlz]
    exact hn2.lrow i (by simpa [newD] using hi)
  · rw [hv] at hb; cases hb
  · rw [hv] at hb; cases hb
  · rw [hv] at hb; cases hb
set_option maxHeartbeats 1000000 in
theorem dnew_good (z b o a : Int) (w : World) (h : newOk z b o a = true) :
    Calls Tryz.prog 45 #[.int .i64 z, .int .i64 b, .int .i64 o, .int .i64 a] w (DNew w z b o a) := by
  have hnew := Lib.hid (fun W => newZones_good z b o a W h)
  go_enter Tryz.func45, Tryz.ntmps45
  go_wp2_with fail
  refine (hnew.out _).mono ?_
  rintro e w1 ⟨g, y, c, l, rfl, hM, hnr, hb, hg, hy, hc, hl, h1, h2, h3, h4, h5⟩
  go_wp2_with fail
  go_ret2
  have hb2 : Below w1.heap.size w1 (w1.alloc (.cells #[.pointer (some ⟨g, 0, none⟩), .slice (some ⟨c, 0, none⟩) z.toNat z.toNat, .slice (some ⟨l, 0, none⟩) z.toNat z.toNat] 143)) := (Below.refl _ _).alloc (Nat.le_refl _) _
  obtain ⟨F, hD, hF⟩ := dnew_lies (w := w) (d := w1.heap.size + 1) (hM.below hb2) (hnr.below hb2) (by simp) hg hy hc hl h1 h2 h3 h4 h5 (Nat.le_trans hb.size hb2.size) 145
  exact ⟨_, F, rfl, hD, hF, (hb.trans (hb2.mono hb.size)).trans ((Below.refl _ _).alloc (Nat.le_trans hb.size hb2.size) _)⟩
end Go.Proofs.YtpmhfalhieinjaaGreatDoor
namespace Go.Proofs.YtpmhfalhieinjaaGreatDoor
open Go.RowKit Zon Drv
/-- A drive whose blocks were made since w. -/
def Own (w W : World) (d : Nat) (D : Dr) : Prop := ∃ F, DAt W F d D ∧ (∀ x, F x → w.heap.size ≤ x ∧ x < W.heap.size) ∧ Below w.heap.size w W
theorem Own.b {w W : World} {d : Nat} {D : Dr} (h : Own w W d D) : Below w.heap.size w W := by
  obtain ⟨F, _, _, h⟩ := h
  exact h
theorem Own.mk' {w W : World} {F : Nat → Prop} {d : Nat} {D : Dr} (h : DAt W F d D) (hF : ∀ x, F x → w.heap.size ≤ x) (hb : Below w.heap.size w W) : Own w W d D :=
  ⟨_, h.bound, fun x hx => ⟨hF x hx.1, hx.2⟩, hb⟩
theorem Own.below {w W W' : World} {d : Nat} {D : Dr} (h : Own w W d D) (hb : Below W.heap.size W W') : Own w W' d D := by
  obtain ⟨F, h1, h2, h3⟩ := h
  exact ⟨F, h1.below hb, fun x hx => ⟨(h2 x hx).1, Nat.lt_of_lt_of_le (h2 x hx).2 hb.size⟩, h3.trans (hb.mono h3.size)⟩
theorem own_new {w : World} (W : World) (z b o a : Int) (hB : Below w.heap.size w W) (h : newOk z b o a = true) :
    Calls Tryz.prog 45 #[.int .i64 z, .int .i64 b, .int .i64 o, .int .i64 a] W fun e w' => ∃ d, e = .returned (.tuple #[.pointer (some ⟨d, 0, none⟩), .int .i64 0]) ∧ Own w w' d (newD z b o a) ∧ W.heap.size ≤ d := by
  refine (dnew_good z b o a W h).mono ?_
  rintro e w1 ⟨d, F, rfl, hD, hF, hb⟩
  exact ⟨d, rfl, .mk' hD (fun x hx => Nat.le_trans hB.size (hF x hx)) (hB.trans (hb.mono hB.size)), hF d hD.in_⟩
theorem own_do {w : World} (W : World) (d : Nat) (D : Dr) (k zz a n : Int) (s : ByteArray) (h : Own w W d D) (hok : D.Ok) (ha : a ≤ 9223372036854775807) (hs : s.size ≤ 9223372036854775807) :
    Calls Tryz.prog 86 #[.pointer (some ⟨d, 0, none⟩), .agg #[.int .i64 k, .int .i64 zz, .int .i64 a, .int .i64 n], .string s] W fun e w' =>
      e = .returned (.tuple #[.string ⟨(doD D k zz a n s.data.toList).1.1.toArray⟩, .int .i64 (doD D k zz a n s.data.toList).1.2.1, .int .i64 (doD D k zz a n s.data.toList).1.2.2]) ∧ Own w w' d (doD D k zz a n s.data.toList).2 := by
  obtain ⟨F, h1, h2, h3⟩ := h
  refine (ddo_any W F d D k zz a n s h1 hok ha hs).mono ?_
  rintro e w1 ⟨h4, ⟨F', h5, h6⟩, h7⟩
  refine ⟨h4, .mk' h5 (fun x hx => ?_) (h3.trans (h7.below (fun x hx => (h2 x hx).1) h3.size))⟩
  rcases h6 x hx with h | h
  · exact (h2 x h).1
  · exact Nat.le_trans h3.size h
theorem own_flush {w : World} (W : World) (d : Nat) (D : Dr) (h : Own w W d D) (hok : D.Ok) :
    Calls Tryz.prog 40 #[.pointer (some ⟨d, 0, none⟩)] W fun e w' => e = .returned (.int .i64 (if D.dead = true then 7 else 0)) ∧ Own w w' d (flushD D) := by
  obtain ⟨F, h1, h2, h3⟩ := h
  refine (dflush_any W F d D h1 hok.both hok.small hok.few).mono ?_
  rintro e w1 ⟨h4, h5, h6⟩
  exact ⟨h4, .mk' h5 (fun x hx => (h2 x hx).1) (h3.trans (h6.below (fun x hx => (h2 x hx).1) h3.size))⟩
/-- The list may have come in, or be new. -/
theorem own_lose {w : World} (W1 W : World) (d : Nat) (D : Dr) (A : Option Addr) (cap : Nat) (ks : List Int) (h : Own w W1 d D) (hb : Below W1.heap.size W1 W) (hok : D.Ok) (hI : IntsIn W A ks)
    (hA : ks ≠ [] → ∀ b off, A = some ⟨b, off, none⟩ → b < w.heap.size ∨ W1.heap.size ≤ b) (hk : ∀ x ∈ ks, -9223372036854775808 ≤ x ∧ x ≤ 9223372036854775807) (hl : ks.length ≤ maxLen) :
    Calls Tryz.prog 73 #[.pointer (some ⟨d, 0, none⟩), .slice A ks.length cap] W fun e w' => e = .returned (.tuple #[]) ∧ Own w w' d (loseD D ks) := by
  obtain ⟨F, h1, h2, h3⟩ := h
  have h4 := h3.trans (hb.mono h3.size)
  refine (dlose_any W F d D A cap ks (h1.below hb) hok hI (fun h b off e hF => ?_) hk hl).mono ?_
  · have := h2 b hF
    rcases hA h b off e with h | h <;> omega
  · rintro e w1 ⟨h5, h6, h7⟩
    exact ⟨h5, .mk' h6 (fun x hx => (h2 x hx).1) (h4.trans (h7.below (fun x hx => (h2 x hx).1) h4.size))⟩
theorem own_zone {w : World} (W : World) (d : Nat) (D : Dr) (z : Int) (h : Own w W d D) :
    Calls Tryz.prog 87 #[.pointer (some ⟨d, 0, none⟩), .int .i64 z] W fun e w' => e = .returned (.tuple #[.agg #[.int .i64 (getM D.m z).s, .int .i64 (getM D.m z).l], .bool (hasB D.m z)]) ∧ Below W.heap.size W w' := by
  obtain ⟨F, h1, _⟩ := h
  exact dzone_any W F d D z h1
theorem own_dead {w : World} (W : World) (d : Nat) (D : Dr) (h : Own w W d D) :
    Calls Tryz.prog 71 #[.pointer (some ⟨d, 0, none⟩)] W fun e w' => e = .returned (.bool D.dead) ∧ W = w' := by
  obtain ⟨F, h1, _⟩ := h
  exact ddead_any W F d D h1
end Go.Proofs.YtpmhfalhieinjaaGreatDoor
namespace Go.Proofs.YtpmhfalhieinjaaGreatDoor
open Go.RowKit Zon Drv
def upd {α : Type} (f : Nat → α) (i : Nat) (x : α) : Nat → α := fun j => if j = i then x else f j
theorem upd_same {α : Type} (f : Nat → α) (i : Nat) (x : α) : upd f i x i = x := if_pos rfl
theorem upd_ne {α : Type} (f : Nat → α) {i j : Nat} (h : j ≠ i) (x : α) : upd f i x j = f j := if_neg h
/-- The blocks of K are as they were. -/
def SameK (W W' : World) (K : Nat → Prop) : Prop := W.heap.size ≤ W'.heap.size ∧ ∀ x, x < W.heap.size → K x → W'.heap[x]? = W.heap[x]?
theorem SameK.refl (W : World) (K : Nat → Prop) : SameK W W K := ⟨Nat.le_refl _, fun _ _ _ => rfl⟩
theorem SameK.cell {W W' : World} {K : Nat → Prop} (h : SameK W W' K) {b o : Nat} {v : Value} (hc : W.cell? ⟨b, o, none⟩ = some v) (hb : K b) : W'.cell? ⟨b, o, none⟩ = some v := (same_cell (h.2 b (lt_of_cell hc) hb)).trans hc
/-- n drives, made since w. -/
structure Fam (w W : World) (K : Nat → Prop) (n : Nat) (d : Nat → Nat) (D : Nat → Dr) : Prop where
  ex : ∃ F : Nat → Nat → Prop, (∀ i, i < n → DAt W (F i) (d i) (D i)) ∧ (∀ i j, i < n → j < n → i ≠ j → ∀ x, F i x → ¬ F j x) ∧ (∀ i, i < n → ∀ x, F i x → w.heap.size ≤ x ∧ x < W.heap.size ∧ ¬ K x)
  kb : ∀ x, K x → x < W.heap.size
  b : Below w.heap.size w W
theorem Fam.none_ {w W : World} {K : Nat → Prop} (d : Nat → Nat) (D : Nat → Dr) (hb : Below w.heap.size w W) (hk : ∀ x, K x → x < W.heap.size) : Fam w W K 0 d D :=
  ⟨⟨fun _ _ => False, fun _ hi => absurd hi (Nat.not_lt_zero _), fun _ _ hi => absurd hi (Nat.not_lt_zero _), fun _ hi => absurd hi (Nat.not_lt_zero _)⟩, hk, hb⟩
/-- Memory has grown; other blocks are to stay. -/
theorem Fam.below {w W W' : World} {K K' : Nat → Prop} {n : Nat} {d : Nat → Nat} {D : Nat → Dr} (h : Fam w W K n d D) (hb : Below W.heap.size W W') (hK : ∀ x, K' x → K x ∨ W.heap.size ≤ x) (hl : ∀ x, K' x → x < W'.heap.size) : Fam w W' K' n d D := by
  obtain ⟨⟨F, h1, h2, h3⟩, _, h4⟩ := h
  refine ⟨⟨F, fun i hi => (h1 i hi).below hb, h2, fun i hi x hx => ?_⟩, hl, h4.trans (hb.mono h4.size)⟩
  obtain ⟨a1, a2, a3⟩ := h3 i hi x hx
  refine ⟨a1, Nat.lt_of_lt_of_le a2 hb.size, fun hk => ?_⟩
  rcases hK x hk with h | h
  · exact a3 h
  · omega
theorem Fam.below' {w W W' : World} {K : Nat → Prop} {n : Nat} {d : Nat → Nat} {D : Nat → Dr} (h : Fam w W K n d D) (hb : Below W.heap.size W W') : Fam w W' K n d D :=
  h.below hb (fun _ hx => .inl hx) (fun x hx => Nat.lt_of_lt_of_le (h.kb x hx) hb.size)
/-- One drive's turn. -/
theorem fam_core {w W W' : World} {K : Nat → Prop} {n : Nat} {d : Nat → Nat} {D : Nat → Dr} {F : Nat → Nat → Prop} {F' : Nat → Prop} {D' : Dr} {i : Nat} (h1 : ∀ i, i < n → DAt W (F i) (d i) (D i)) (h2 : ∀ i j, i < n → j < n → i ≠ j → ∀ x, F i x → ¬ F j x)
    (h3 : ∀ i, i < n → ∀ x, F i x → w.heap.size ≤ x ∧ x < W.heap.size ∧ ¬ K x) (hk : ∀ x, K x → x < W.heap.size) (hb : Below w.heap.size w W) (hi : i < n) (hD : DAt W' F' (d i) D') (hF : ∀ b, F' b → F i b ∨ W.heap.size ≤ b) (ht : Turn W W' (F i)) :
    Fam w W' K n d (upd D i D') ∧ SameK W W' K := by
  refine ⟨⟨⟨upd F i (fun b => F' b ∧ b < W'.heap.size), fun j hj => ?_, fun j k hj hk2 hjk x hx => ?_, fun j hj x hx => ?_⟩, fun x hx => Nat.lt_of_lt_of_le (hk x hx) ht.size, hb.trans (ht.below (fun x hx => (h3 i hi x hx).1) hb.size)⟩, ht.size, fun x hx hkx => ht.block x hx fun hf => (h3 i hi x hf).2.2 hkx⟩
  · by_cases e : j = i
    · subst e
      rw [upd_same, upd_same]
      exact hD.bound
    · rw [upd_ne F e, upd_ne D e]
      exact (h1 j hj).turn ht (h2 j i hj hi e)
  · by_cases e : j = i
    · subst e
      rw [upd_same] at hx
      rw [upd_ne F (Ne.symm hjk)]
      intro hf
      rcases hF x hx.1 with h | h
      · exact h2 j k hj hk2 hjk x h hf
      · have := (h3 k hk2 x hf).2.1; omega
    · rw [upd_ne F e] at hx
      by_cases e2 : k = i
      · subst e2
        rw [upd_same]
        intro hf
        rcases hF x hf.1 with h | h
        · exact h2 j k hj hk2 hjk x hx h
        · have := (h3 j hj x hx).2.1; omega
      · rw [upd_ne F e2]
        exact h2 j k hj hk2 hjk x hx
  · by_cases e : j = i
    · subst e
      rw [upd_same] at hx
      rcases hF x hx.1 with h | h
      · obtain ⟨a1, a2, a3⟩ := h3 j hj x h
        exact ⟨a1, hx.2, a3⟩
      · exact ⟨Nat.le_trans hb.size h, hx.2, fun hkx => by have := hk x hkx; omega⟩
    · rw [upd_ne F e] at hx
      obtain ⟨a1, a2, a3⟩ := h3 j hj x hx
      exact ⟨a1, Nat.lt_of_lt_of_le a2 ht.size, a3⟩
section
variable {w : World} {K : Nat → Prop} {n : Nat} {d : Nat → Nat} {D : Nat → Dr}
theorem fam_new (W : World) (z b o a : Int) (h : Fam w W K n d D) (hok : newOk z b o a = true) :
    Calls Tryz.prog 45 #[.int .i64 z, .int .i64 b, .int .i64 o, .int .i64 a] W fun e w' => ∃ x, e = .returned (.tuple #[.pointer (some ⟨x, 0, none⟩), .int .i64 0]) ∧ Fam w w' K (n + 1) (upd d n x) (upd D n (newD z b o a)) ∧ Below W.heap.size W w' := by
  obtain ⟨⟨F, h1, h2, h3⟩, hk, hb⟩ := h
  refine (dnew_good z b o a W hok).mono ?_
  rintro e w1 ⟨x, G, rfl, hD, hG, hb1⟩
  refine ⟨x, rfl, ⟨⟨upd F n (fun y => G y ∧ y < w1.heap.size), fun j hj => ?_, fun j k hj hk2 hjk y hy => ?_, fun j hj y hy => ?_⟩, fun y hy => Nat.lt_of_lt_of_le (hk y hy) hb1.size, hb.trans (hb1.mono hb.size)⟩, hb1⟩
  · by_cases e : j = n
    · subst e
      rw [upd_same, upd_same, upd_same]
      exact hD.bound
    · rw [upd_ne F e, upd_ne d e, upd_ne D e]
      exact (h1 j (by omega)).below hb1
  · by_cases e : j = n
    · subst e
      rw [upd_same] at hy
      rw [upd_ne F (Ne.symm hjk)]
      intro hf
      have := (h3 k (by omega) y hf).2.1
      have := hG y hy.1
      omega
    · rw [upd_ne F e] at hy
      by_cases e2 : k = n
      · subst e2
        rw [upd_same]
        intro hf
        have := (h3 j (by omega) y hy).2.1
        have := hG y hf.1
        omega
      · rw [upd_ne F e2]
        exact h2 j k (by omega) (by omega) hjk y hy
  · by_cases e : j = n
    · subst e
      rw [upd_same] at hy
      exact ⟨Nat.le_trans hb.size (hG y hy.1), hy.2, fun hky => by have := hk y hky; have := hG y hy.1; omega⟩
    · rw [upd_ne F e] at hy
      obtain ⟨a1, a2, a3⟩ := h3 j (by omega) y hy
      exact ⟨a1, Nat.lt_of_lt_of_le a2 hb1.size, a3⟩
theorem fam_do (W : World) (i : Nat) (k zz a x : Int) (s : ByteArray) (h : Fam w W K n d D) (hi : i < n) (hok : (D i).Ok) (ha : a ≤ 9223372036854775807) (hs : s.size ≤ 9223372036854775807) :
    Calls Tryz.prog 86 #[.pointer (some ⟨d i, 0, none⟩), .agg #[.int .i64 k, .int .i64 zz, .int .i64 a, .int .i64 x], .string s] W fun e w' =>
      e = .returned (.tuple #[.string ⟨(doD (D i) k zz a x s.data.toList).1.1.toArray⟩, .int .i64 (doD (D i) k zz a x s.data.toList).1.2.1, .int .i64 (doD (D i) k zz a x s.data.toList).1.2.2]) ∧ Fam w w' K n d (upd D i (doD (D i) k zz a x s.data.toList).2) ∧ SameK W w' K := by
  obtain ⟨⟨F, h1, h2, h3⟩, hk, hb⟩ := h
  refine (ddo_any W (F i) (d i) (D i) k zz a x s (h1 i hi) hok ha hs).mono ?_
  rintro e w1 ⟨h4, ⟨F', h5, h6⟩, h7⟩
  exact ⟨h4, fam_core h1 h2 h3 hk hb hi h5 h6 h7⟩
theorem fam_flush (W : World) (i : Nat) (h : Fam w W K n d D) (hi : i < n) (hok : (D i).Ok) :
    Calls Tryz.prog 40 #[.pointer (some ⟨d i, 0, none⟩)] W fun e w' => e = .returned (.int .i64 (if (D i).dead = true then 7 else 0)) ∧ Fam w w' K n d (upd D i (flushD (D i))) ∧ SameK W w' K := by
  obtain ⟨⟨F, h1, h2, h3⟩, hk, hb⟩ := h
  refine (dflush_any W (F i) (d i) (D i) (h1 i hi) hok.both hok.small hok.few).mono ?_
  rintro e w1 ⟨h4, h5, h6⟩
  exact ⟨h4, fam_core h1 h2 h3 hk hb hi h5 (fun _ hb => .inl hb) h6⟩
/-- The list came in, or is one of the blocks that stay. -/
theorem fam_lose (W : World) (i : Nat) (A : Option Addr) (cap : Nat) (ks : List Int) (h : Fam w W K n d D) (hi : i < n) (hok : (D i).Ok) (hI : IntsIn W A ks) (hA : ks ≠ [] → ∀ b off, A = some ⟨b, off, none⟩ → b < w.heap.size ∨ K b)
    (hq : ∀ x ∈ ks, -9223372036854775808 ≤ x ∧ x ≤ 9223372036854775807) (hl : ks.length ≤ maxLen) :
    Calls Tryz.prog 73 #[.pointer (some ⟨d i, 0, none⟩), .slice A ks.length cap] W fun e w' => e = .returned (.tuple #[]) ∧ Fam w w' K n d (upd D i (loseD (D i) ks)) ∧ SameK W w' K := by
  obtain ⟨⟨F, h1, h2, h3⟩, hk, hb⟩ := h
  refine (dlose_any W (F i) (d i) (D i) A cap ks (h1 i hi) hok hI (fun h0 b off e hF => ?_) hq hl).mono ?_
  · obtain ⟨a1, a2, a3⟩ := h3 i hi b hF
    rcases hA h0 b off e with h | h
    · omega
    · exact a3 h
  · rintro e w1 ⟨h4, h5, h6⟩
    exact ⟨h4, fam_core h1 h2 h3 hk hb hi h5 (fun _ hb => .inl hb) h6⟩
theorem fam_zone (W : World) (i : Nat) (z : Int) (h : Fam w W K n d D) (hi : i < n) :
    Calls Tryz.prog 87 #[.pointer (some ⟨d i, 0, none⟩), .int .i64 z] W fun e w' => e = .returned (.tuple #[.agg #[.int .i64 (getM (D i).m z).s, .int .i64 (getM (D i).m z).l], .bool (hasB (D i).m z)]) ∧ Below W.heap.size W w' := by
  obtain ⟨⟨F, h1, _⟩, _⟩ := h
  exact dzone_any W (F i) (d i) (D i) z (h1 i hi)
theorem fam_dead (W : World) (i : Nat) (h : Fam w W K n d D) (hi : i < n) :
    Calls Tryz.prog 71 #[.pointer (some ⟨d i, 0, none⟩)] W fun e w' => e = .returned (.bool (D i).dead) ∧ W = w' := by
  obtain ⟨⟨F, h1, _⟩, _⟩ := h
  exact ddead_any W (F i) (d i) (D i) (h1 i hi)
end
end Go.Proofs.YtpmhfalhieinjaaGreatDoor
