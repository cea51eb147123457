/- What Do of a drive's does. -/
import Derived.Test.YtncbkegflkjlfaaDrvExec
namespace Go.Proofs.Ytncbkegflkjlfaa
open Go.RowKit Zon Drv

theorem DAt.bound {w : World} {F : Nat → Prop} {d : Nat} {D : Dr} (h : DAt w F d D) : DAt w (fun b => F b ∧ b < w.heap.size) d D := by
  obtain ⟨B, h, hF⟩ := h
  exact ⟨B, h, ⟨hF.d, h.dlt⟩, ⟨hF.g, h.m.gl⟩, ⟨hF.z, h.m.zl⟩, ⟨hF.c, h.lc⟩, ⟨hF.l, h.ll⟩, fun i hi b hb => ⟨hF.o i hi b hb, h.olt hi hb⟩⟩
theorem DAt.mono {w : World} {F G : Nat → Prop} {d : Nat} {D : Dr} (h : DAt w F d D) (hG : ∀ b, F b → G b) : DAt w G d D := by
  obtain ⟨B, h, hF⟩ := h
  exact ⟨B, h, hF.mono hG⟩
theorem DoPost.same {w W : World} {F : Nat → Prop} {d : Nat} {D : Dr} (h : DAt W F d D) (ht : Turn w W F) (x y : Int) : DoPost w F d (([], x, y), D) (.returned (.tuple #[.string ⟨#[]⟩, .int .i64 x, .int .i64 y])) W :=
  ⟨rfl, ⟨F, h, fun _ hb => .inl hb⟩, ht⟩

set_option maxRecDepth 100000 in
set_option maxHeartbeats 1000000 in
theorem ddo_b (w : World) (F : Nat → Prop) (d : Nat) (D : Dr) (k zz a n : Int) (s : ByteArray) (h : DAt w F d D) (hok : D.Ok) (ha : a ≤ 9223372036854775807) (hs : s.size ≤ 9223372036854775807) (hF : ∀ b, F b → b < w.heap.size) :
    Calls Try.prog 21 #[.pointer (some ⟨d, 0, none⟩), .agg #[.int .i64 k, .int .i64 zz, .int .i64 a, .int .i64 n], .string s] w (DoPost w F d (doD D k zz a n s.data.toList)) := by
  have hB : Below w.heap.size w (w.alloc (.cells #[.int .i64 k, .int .i64 zz, .int .i64 a, .int .i64 n] 46)) := (Below.refl _ _).alloc (Nat.le_refl _) _
  have hX := Bx.new w k zz a n 46
  have hXs : w.heap.size < (w.alloc (.cells #[.int .i64 k, .int .i64 zz, .int .i64 a, .int .i64 n] 46)).heap.size := by simp
  have hhH := Lib.hid h
  have hlt := h.lt
  have c3 : w.cell? ⟨d, 3, none⟩ = some (.bool D.dead) := by obtain ⟨B, h, _⟩ := h; exact h.c3
  have hma := Lib.hid (fun W => matches_any k zz a n s W hs)
  have hex := Lib.hid (fun W (h : DAt W F d D) (hF : ∀ b, F b → b < W.heap.size) (hfit : fits k n s.size = true) => exec_any W F d D k zz a n s h hok ha hF hfit)
  clear h hok ha hs
  unfold doD
  rw [show s.data.toList.length = s.size from rfl]
  cases hd : D.dead with
  | true =>
    rw [if_pos rfl]
    rw [hd] at c3
    have hfin := Lib.hid (DoPost.same (hhH.out.below hB) (Turn.of_below hB F) 0 7)
    clear hX hd hB
    go_enter Try.func21, Try.ntmps21
    go_wp2_with fail
    go_ret3
    exact hfin.out
  | false =>
    rw [if_neg (by simp)]
    rw [hd] at c3
    clear hd
    cases hfit : fits k n s.size with
    | false =>
      rw [if_neg (by simp)]
      rw [hfit] at hma
      have hHH := Lib.hid hB
      clear hX hfit hB hex
      go_enter Try.func21, Try.ntmps21
      go_wp2_with (go_at_call 46; refine (hma.out _).mono ?_; rintro e w1 ⟨rfl, hb⟩; obtain ⟨hc, hf⟩ := bcell hb)
      go_ret3
      exact DoPost.same ((hhH.out.below hHH.out).below hb) ((Turn.of_below hHH.out F).trans (Turn.of_below hb F)) 0 1
    | true =>
      rw [if_pos rfl]
      rw [hfit] at hma
      have hfitH := Lib.hid hfit
      have hHH := Lib.hid hB
      have hXH := Lib.hid hX
      have hXn : ¬ F w.heap.size := fun hf => by have := hF _ hf; omega
      generalize hR : exec D k zz a n s.data.toList = R at hex ⊢
      clear hX hfit hB hR
      go_enter Try.func21, Try.ntmps21
      go_wp2_with (go_at_call 46; refine (hma.out _).mono ?_; rintro e w1 ⟨rfl, hb⟩; obtain ⟨hc, hf⟩ := bcell hb)
      refine fresh_world (fun W => Below w.heap.size w W ∧ Bx w W w.heap.size k zz a n) ⟨hHH.out.trans (hb.mono (by simp)), hXH.out.turn (F := fun _ => False) (Turn.of_below hb _) id⟩ ?_
      rintro W5 ⟨hB5, hX5⟩
      clear hc hf hb hXH hHH w1 hma
      have hf := Lib.hid (fun W (hW : Turn W5 W F) => (⟨hW.cell hX5.x0 hXn, hW.cell hX5.x1 hXn, hW.cell hX5.x2 hXn, hW.cell hX5.x3 hXn⟩ : W.cell? ⟨w.heap.size, 0, none⟩ = some (.int .i64 k) ∧ W.cell? ⟨w.heap.size, 1, none⟩ = some (.int .i64 zz) ∧ W.cell? ⟨w.heap.size, 2, none⟩ = some (.int .i64 a) ∧ W.cell? ⟨w.heap.size, 3, none⟩ = some (.int .i64 n)))
      have hex5 := Lib.hid (fun W (hb : Below W5.heap.size W5 W) => hex.out W ((hhH.out.below hB5).below hb) (fun b hb2 => by have := hF b hb2; have := hB5.size; have := hb.size; omega) hfitH.out)
      unfold DoPost at hex5
      obtain ⟨⟨out, at', ev⟩, D'⟩ := R
      clear hX5 hex
      refine region_anyC (fun _ => true) (fun W => Turn W5 W F) (by kernel_rfl) ?_
      have hS : Turn W5 W5.drew F := Turn.of_below (Below.refl _ _).drew F
      refine anyL_take 0 (v := ?_) rfl (by kernel_rfl) (fun _ _ _ h => h) (Or.inl ⟨by rfl, ?_⟩) hS ?_
      rotate_left
      focus (intro W hW; go_simp; try with_reducible rfl)
      simp only [Act.put, List.setIfInBounds_toArray, List.set_cons_zero, List.set_cons_succ]
      refine anyL_take 1 (v := ?_) rfl (by kernel_rfl) (fun _ _ _ h => h) (Or.inl ⟨by rfl, ?_⟩) hS ?_
      rotate_left
      focus (intro W hW; go_simp; try with_reducible rfl)
      simp only [Act.put, List.setIfInBounds_toArray, List.set_cons_zero, List.set_cons_succ]
      refine anyL_take 2 (v := ?_) rfl (by kernel_rfl) (fun _ _ _ h => h) (Or.inl ⟨by rfl, ?_⟩) hS ?_
      rotate_left
      focus (intro W hW; go_simp; try with_reducible rfl)
      simp only [Act.put, List.setIfInBounds_toArray, List.set_cons_zero, List.set_cons_succ]
      refine anyL_take 3 (v := ?_) rfl (by kernel_rfl) (fun _ _ _ h => h) (Or.inl ⟨by rfl, ?_⟩) hS ?_
      rotate_left
      focus (intro W hW; obtain ⟨f0, f1, f2, f3⟩ := hf.out W hW; go_simp; try with_reducible rfl)
      simp only [Act.put, List.setIfInBounds_toArray, List.set_cons_zero, List.set_cons_succ]
      refine anyL_take 4 (v := ?_) rfl (by kernel_rfl) (fun _ _ _ h => h) (Or.inl ⟨by rfl, ?_⟩) hS ?_
      rotate_left
      focus (intro W hW; go_simp; try with_reducible rfl)
      simp only [Act.put, List.setIfInBounds_toArray, List.set_cons_zero, List.set_cons_succ]
      refine anyL_one 5 rfl (by kernel_rfl) (fun K hK => ?_)
      go_simp
      refine (hex5.out _ (Below.refl _ _).drew).mono ?_
      rintro e' w7 ⟨rfl, ⟨F', hD7, hF'⟩, ht7⟩
      have ht8 := hS.trans ht7
      dsimp only
      refine hK.out _ _ (fun _ => ht8) ?_
      clear hK K
      try simp only [Act.put, List.setIfInBounds_toArray, List.set_cons_zero, List.set_cons_succ]
      refine anyL_take 6 (v := ?_) rfl (by kernel_rfl) (fun _ _ _ h => h) (Or.inl ⟨by rfl, ?_⟩) ht8 ?_
      rotate_left
      focus (intro W hW; go_simp; try with_reducible rfl)
      simp only [Act.put, List.setIfInBounds_toArray, List.set_cons_zero, List.set_cons_succ]
      refine anyL_take 7 (v := ?_) rfl (by kernel_rfl) (fun _ _ _ h => h) (Or.inl ⟨by rfl, ?_⟩) ht8 ?_
      rotate_left
      focus (intro W hW; go_simp; try with_reducible rfl)
      simp only [Act.put, List.setIfInBounds_toArray, List.set_cons_zero, List.set_cons_succ]
      refine anyL_take 8 (v := ?_) rfl (by kernel_rfl) (fun _ _ _ h => h) (Or.inl ⟨by rfl, ?_⟩) ht8 ?_
      rotate_left
      focus (intro W hW; go_simp; try with_reducible rfl)
      simp only [Act.put, List.setIfInBounds_toArray, List.set_cons_zero, List.set_cons_succ]
      refine anyL_take 9 (v := ?_) rfl (by kernel_rfl) (fun _ _ _ h => h) (Or.inl ⟨by rfl, ?_⟩) ht8 ?_
      rotate_left
      focus (intro W hW; go_simp; try with_reducible rfl)
      simp only [Act.put, List.setIfInBounds_toArray, List.set_cons_zero, List.set_cons_succ]
      refine anyL_take 10 (v := ?_) rfl (by kernel_rfl) (fun _ _ _ h => h) (Or.inl ⟨by rfl, ?_⟩) ht8 ?_
      rotate_left
      focus (intro W hW; go_simp; try with_reducible rfl)
      simp only [Act.put, List.setIfInBounds_toArray, List.set_cons_zero, List.set_cons_succ]
      refine anyL_take 11 (v := ?_) rfl (by kernel_rfl) (fun _ _ _ h => h) (Or.inl ⟨by rfl, ?_⟩) ht8 ?_
      rotate_left
      focus (intro W hW; go_simp; try with_reducible rfl)
      simp only [Act.put, List.setIfInBounds_toArray, List.set_cons_zero, List.set_cons_succ]
      refine anyC_done (by kernel_rfl) ?_ _
      go_wp2
      go_ret3
      refine ⟨rfl, ⟨F', hD7, fun b hb => (hF' b hb).imp id fun h => ?_⟩, (Turn.of_below hB5 F).trans ht8⟩
      have := hB5.size
      have e8 : W5.drew.heap.size = W5.heap.size := rfl
      omega

theorem ddo_any (w : World) (F : Nat → Prop) (d : Nat) (D : Dr) (k zz a n : Int) (s : ByteArray) (h : DAt w F d D) (hok : D.Ok) (ha : a ≤ 9223372036854775807) (hs : s.size ≤ 9223372036854775807) :
    Calls Try.prog 21 #[.pointer (some ⟨d, 0, none⟩), .agg #[.int .i64 k, .int .i64 zz, .int .i64 a, .int .i64 n], .string s] w (DoPost w F d (doD D k zz a n s.data.toList)) := by
  refine (ddo_b w _ d D k zz a n s h.bound hok ha hs (fun b hb => hb.2)).mono ?_
  rintro e w1 ⟨h1, ⟨F', h2, h3⟩, h4⟩
  exact ⟨h1, ⟨F', h2, fun b hb => (h3 b hb).imp And.left id⟩, h4.mono fun b _ hb => hb.1⟩
theorem ddo_nil (w : World) (k zz a n : Int) (s : ByteArray) :
    Calls Try.prog 21 #[.pointer none, .agg #[.int .i64 k, .int .i64 zz, .int .i64 a, .int .i64 n], .string s] w fun e w' => e = .returned (.tuple #[.string ⟨#[]⟩, .int .i64 0, .int .i64 1]) ∧ Below w.heap.size w w' := by
  go_enter Try.func21, Try.ntmps21
  go_wp2
  go_ret3
  exact ⟨rfl, (Below.refl _ _).alloc (Nat.le_refl _) _⟩
end Go.Proofs.Ytncbkegflkjlfaa
