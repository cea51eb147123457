/- What the law NumsScripts does. -/
import Derived.Test.YtdiefdijhghefaaNumSpeaks
import Derived.Test.YtdiefdijhghefaaRefWith2
import Derived.Test.YtdiefdijhghefaaHeldTail
import Derived.Test.YtdiefdijhghefaaActs
namespace Go.Proofs.Ytdiefdijhghefaa
open Go.RowKit Sets Num

theorem elems_zero : elems W4.zero = [] := List.eq_nil_iff_forall_not_mem.2 fun x h => by rw [elems_mem', W4.hasI_zero] at h; cases h

/-- A box of the reference's set, whose row lies in no block below b0. -/
def RefAt (b0 : Nat) (W : World) (B : Nat) (A : Option Addr) (cap : Nat) (xs : List Int) : Prop :=
  W.cell? ⟨B, 0, none⟩ = some (.slice A xs.length cap) ∧ W.frozen? ⟨B, 0, none⟩ = false ∧ IntsFrom b0 W A xs
theorem RefAt.below {b0 : Nat} {W W' : World} {B : Nat} {A : Option Addr} {cap : Nat} {xs : List Int} (h : RefAt b0 W B A cap xs) (hb : Below W.heap.size W W') : RefAt b0 W' B A cap xs := by
  have hlt := lt_of_cell h.1
  obtain ⟨hc, hf⟩ := bcell hb
  exact ⟨(hc _ _ hlt).trans h.1, (hf _ _ hlt).trans h.2.1, h.2.2.below hb⟩
theorem RefAt.other {b0 : Nat} {W : World} {B : Nat} {A : Option Addr} {cap : Nat} {xs : List Int} (h : RefAt b0 W B A cap xs) {p : Addr} (hp : p.block ≠ B) (hp0 : p.block < b0) (v : Value) : RefAt b0 (W.setCell p v) B A cap xs :=
  ⟨(World.cell?_setCell_other _ _ _ _ (by rintro rfl; exact hp rfl)).trans h.1, by rw [World.frozen?_setCell]; exact h.2.1, h.2.2.other hp0 v⟩

theorem fresh_K {K : Act → World → Prop} {a : Act} {W : World} (R : World → Prop) (hR : R W) (h : ∀ W2, R W2 → K a W2) : K a W := h W hR
theorem step_done {w0 w7 : World} {B D : Nat} {s t u : W4} {A' A7 : Option Addr} {c' c7 : Nat} {xs ys : List Int} (hS : SetAt w7 B u) (hD : SetAt w7 D s) (hq : RefAt (B + 2) w7 (B + 1) A' c' xs) (hI : IntsFrom (B + 2) w7 A7 ys) (hBD : B + 2 ≤ D) (hb : Below w0.heap.size w0 w7) (hwB : w0.heap.size ≤ B) :
    SetAt (((((w7.setCell ⟨B, 0, none⟩ (.int .u64 (t.a : Int))).setCell ⟨B, 1, none⟩ (.int .u64 (t.b : Int))).setCell ⟨B, 2, none⟩ (.int .u64 (t.c : Int))).setCell ⟨B, 3, none⟩ (.int .u64 (t.d : Int))).setCell ⟨B + 1, 0, none⟩ (.slice A7 ys.length c7)) B t ∧
    SetAt (((((w7.setCell ⟨B, 0, none⟩ (.int .u64 (t.a : Int))).setCell ⟨B, 1, none⟩ (.int .u64 (t.b : Int))).setCell ⟨B, 2, none⟩ (.int .u64 (t.c : Int))).setCell ⟨B, 3, none⟩ (.int .u64 (t.d : Int))).setCell ⟨B + 1, 0, none⟩ (.slice A7 ys.length c7)) D s ∧
    RefAt (B + 2) (((((w7.setCell ⟨B, 0, none⟩ (.int .u64 (t.a : Int))).setCell ⟨B, 1, none⟩ (.int .u64 (t.b : Int))).setCell ⟨B, 2, none⟩ (.int .u64 (t.c : Int))).setCell ⟨B, 3, none⟩ (.int .u64 (t.d : Int))).setCell ⟨B + 1, 0, none⟩ (.slice A7 ys.length c7)) (B + 1) A7 c7 ys ∧
    Below w0.heap.size w0 (((((w7.setCell ⟨B, 0, none⟩ (.int .u64 (t.a : Int))).setCell ⟨B, 1, none⟩ (.int .u64 (t.b : Int))).setCell ⟨B, 2, none⟩ (.int .u64 (t.c : Int))).setCell ⟨B, 3, none⟩ (.int .u64 (t.d : Int))).setCell ⟨B + 1, 0, none⟩ (.slice A7 ys.length c7)) ∧
    D < (((((w7.setCell ⟨B, 0, none⟩ (.int .u64 (t.a : Int))).setCell ⟨B, 1, none⟩ (.int .u64 (t.b : Int))).setCell ⟨B, 2, none⟩ (.int .u64 (t.c : Int))).setCell ⟨B, 3, none⟩ (.int .u64 (t.d : Int))).setCell ⟨B + 1, 0, none⟩ (.slice A7 ys.length c7)).heap.size := by
  have hD2 := ((((hD.other (p := ⟨B, 0, none⟩) (by simp; omega) (.int .u64 (t.a : Int))).other (p := ⟨B, 1, none⟩) (by simp; omega) (.int .u64 (t.b : Int))).other (p := ⟨B, 2, none⟩) (by simp; omega) (.int .u64 (t.c : Int))).other (p := ⟨B, 3, none⟩) (by simp; omega) (.int .u64 (t.d : Int))).other (p := ⟨B + 1, 0, none⟩) (by simp; omega) (.slice A7 ys.length c7)
  have hq2 := (((hq.other (p := ⟨B, 0, none⟩) (by simp) (by simp) (.int .u64 (t.a : Int))).other (p := ⟨B, 1, none⟩) (by simp) (by simp) (.int .u64 (t.b : Int))).other (p := ⟨B, 2, none⟩) (by simp) (by simp) (.int .u64 (t.c : Int))).other (p := ⟨B, 3, none⟩) (by simp) (by simp) (.int .u64 (t.d : Int))
  have hI2 := ((((hI.other (p := ⟨B, 0, none⟩) (by simp) (.int .u64 (t.a : Int))).other (p := ⟨B, 1, none⟩) (by simp) (.int .u64 (t.b : Int))).other (p := ⟨B, 2, none⟩) (by simp) (.int .u64 (t.c : Int))).other (p := ⟨B, 3, none⟩) (by simp) (.int .u64 (t.d : Int))).other (p := ⟨B + 1, 0, none⟩) (by simp) (.slice A7 ys.length c7)
  exact ⟨(hS.store t).other (by simp) _, hD2, ⟨cell_set _ _ _ _ _ hq2.1, by rw [World.frozen?_setCell]; exact hq2.2.1, hI2⟩,
    ((((hb.setCell (by simpa using hwB) _).setCell (by simpa using hwB) _).setCell (by simpa using hwB) _).setCell (by simpa using hwB) _).setCell (by simp; omega) _, lt_of_cell hD2.1⟩

set_option maxRecDepth 100000 in
set_option maxHeartbeats 2000000 in
theorem scripts_law (A : Option Addr) (cap : Nat) (acts : List (Int × Bool)) (ask : Int) (w : World) (hal : acts.length ≤ maxLen) (hI : ActsIn w A acts) :
    Calls Try.prog 6 #[.slice A acts.length cap, .int .i64 ask] w fun e w' => e = .returned (.bool true) ∧ Below w.heap.size w w' := by
  have hIH := Lib.hid hI
  clear hI
  unfold maxLen at hal
  go_enter Try.func6, Try.ntmps6
  go_wp2_with (go_at_call 10; refine (speaks1 _).mono ?_; rintro e w1 ⟨rfl, hb⟩)
  refine fresh_world (fun W => SetAt W w1.heap.size W4.zero ∧ RefAt (w1.heap.size + 2) W (w1.heap.size + 1) none 0 [] ∧ Below w.heap.size w W ∧ w1.heap.size + 2 ≤ W.heap.size) ?_ ?_
  · have h1 := setAt_new w1 W4.zero
    exact ⟨h1.below ((Below.refl _ _).alloc (Nat.le_refl _) _), ⟨by go_simp, by go_simp, .inl rfl⟩, (hb.alloc hb.size _).alloc (Nat.le_trans hb.size (by simp)) _, by simp⟩
  rintro W0 ⟨hS0, hR0, hB0, hsz0⟩
  have hw1 := hb.size
  clear hb
  generalize w1.heap.size = B at hS0 hR0 hsz0 hw1 ⊢
  go_loopw [7] (fun i wr => ∃ (k : Nat) (s : W4) (A' : Option Addr) (cap' : Nat), k ≤ acts.length ∧ k ≤ 300 ∧ i = .int .i64 (k : Int) ∧ s.ok ∧ SetAt wr B s ∧ RefAt (B + 2) wr (B + 1) A' cap' (elems s) ∧ Below w.heap.size w wr ∧ B + 2 ≤ wr.heap.size) (fun i _ => acts.length - (intOf i).toNat)
  case atStart => exact ⟨0, W4.zero, none, 0, by omega, by omega, rfl, W4.zero_ok, hS0, by rw [elems_zero]; exact hR0, hB0, hsz0⟩
  case round =>
    clear hS0 hR0 hB0 hsz0
    obtain ⟨k, s, A', cap', hk, hk3, rfl, hok, hS, hR, hB, hsz⟩ := hrel
    obtain ⟨xs, hxs⟩ : ∃ xs, elems s = xs := ⟨_, rfl⟩
    have hxl : xs.length ≤ 256 := by rw [← hxs]; have := elems_length s; omega
    rw [hxs] at hR
    have hxsH := Lib.hid hxs
    clear hxs
    have hSH := Lib.hid hS
    have hRH := Lib.hid hR
    clear hR
    obtain ⟨c0, c1, c2, c3, _⟩ := hS
    by_cases hrun : k < acts.length ∧ k < 300
    · obtain ⟨hlt, hlt3⟩ := hrun
      obtain ⟨b, off, rfl, hltb, hc, hd⟩ := hIH.out.at_ hlt
      have hcw := (hB.cell (p := ⟨b, off + k * 2, none⟩) hltb).trans hc
      have hdw := (hB.cell (p := ⟨b, off + k * 2 + 1, none⟩) hltb).trans hd
      generalize acts[k].1 = n at hc hcw
      generalize acts[k].2 = y at hd hdw
      have hltw := lt_of_cell hcw
      cases y with
      | true =>
        go_wp2_with fail
        refine fresh_world (fun W => SetAt W B s ∧ SetAt W wr.heap.size s ∧ RefAt (B + 2) W (B + 1) A' cap' xs ∧ Below w.heap.size w W ∧ wr.heap.size < W.heap.size) ?_ ?_
        · have hb1 : Below wr.heap.size wr (wr.alloc (.cells #[.int .u64 (s.a : Int), .int .u64 (s.b : Int), .int .u64 (s.c : Int), .int .u64 (s.d : Int)] 33)) := (Below.refl _ _).alloc (Nat.le_refl _) _
          exact ⟨hSH.out.below hb1, setAt_new wr s, hRH.out.below hb1, bmore hB hb1, by simp⟩
        have hBw := hB.size
        clear c0 c1 c2 c3 hcw hdw hltw hB hSH hRH
        rintro W5 ⟨hS5', hD5, hR5, hB5, hsz5⟩
        generalize wr.heap.size = D at hD5 hsz hsz5 hBw ⊢
        have hcw := (hB5.cell (p := ⟨b, off + k * 2, none⟩) hltb).trans hc
        have hless := Lib.hid (fun W => less_any s hok n W)
        unfold W4.val at hless
        have hrless := Lib.hid (fun W (hb : Below W5.heap.size W5 W) => refless_from (B + 2) A' cap' xs n W hxl (by have := hb.size; omega) (hR5.2.2.below hb))
        unfold refV at hrless
        have hfx : ∀ W, Below W5.heap.size W5 W → (W.cell? ⟨B, 0, none⟩ = some (.int .u64 (s.a : Int)) ∧ W.cell? ⟨B, 1, none⟩ = some (.int .u64 (s.b : Int)) ∧ W.cell? ⟨B, 2, none⟩ = some (.int .u64 (s.c : Int)) ∧ W.cell? ⟨B, 3, none⟩ = some (.int .u64 (s.d : Int)) ∧ W.cell? ⟨B + 1, 0, none⟩ = some (.slice A' xs.length cap') ∧ W.cell? ⟨b, off + k * 2, none⟩ = some (.int .i64 n)) := fun W hb =>
          have h1 := hS5'.below hb
          ⟨h1.1, h1.2.1, h1.2.2.1, h1.2.2.2.1, (hR5.below hb).1, ((bcell hb).1 _ _ (lt_of_cell hcw)).trans hcw⟩
        have hfacts := Lib.hid hfx
        clear hfx
        have hS5H := Lib.hid hS5'
        have hD5H := Lib.hid hD5
        have hR5H := Lib.hid hR5
        have hB5H := Lib.hid hB5
        clear hS5' hD5 hR5 hcw hB5
        refine region_anyC (fun j => decide (j < 14)) (fun W => Below W5.heap.size W5 W) (by kernel_rfl) ?_
        have hS5 : Below W5.heap.size W5 W5.drew := (Below.refl _ _).drew
        refine anyL_take 0 (v := ?_) rfl (by kernel_rfl) (fun _ _ _ h => h) (Or.inl ⟨by rfl, ?_⟩) hS5 ?_
        rotate_left
        focus (intro W hW; obtain ⟨k0, k1, k2, k3, k4, k5⟩ := hfacts.out W hW; go_simp; try with_reducible rfl)
        simp only [Act.put, List.setIfInBounds_toArray, List.set_cons_zero, List.set_cons_succ]
        refine anyL_take 1 (v := ?_) rfl (by kernel_rfl) (fun _ _ _ h => h) (Or.inl ⟨by rfl, ?_⟩) hS5 ?_
        rotate_left
        focus (intro W hW; go_simp; try with_reducible rfl)
        simp only [Act.put, List.setIfInBounds_toArray, List.set_cons_zero, List.set_cons_succ]
        refine anyL_take 2 (v := ?_) rfl (by kernel_rfl) (fun _ _ _ h => h) (Or.inl ⟨by rfl, ?_⟩) hS5 ?_
        rotate_left
        focus (intro W hW; go_simp; try with_reducible rfl)
        simp only [Act.put, List.setIfInBounds_toArray, List.set_cons_zero, List.set_cons_succ]
        refine anyL_take 3 (v := ?_) rfl (by kernel_rfl) (fun _ _ _ h => h) (Or.inl ⟨by rfl, ?_⟩) hS5 ?_
        rotate_left
        focus (intro W hW; go_simp; try with_reducible rfl)
        simp only [Act.put, List.setIfInBounds_toArray, List.set_cons_zero, List.set_cons_succ]
        refine anyL_take 4 (v := ?_) rfl (by kernel_rfl) (fun _ _ _ h => h) (Or.inl ⟨by rfl, ?_⟩) hS5 ?_
        rotate_left
        focus (intro W hW; go_simp; try with_reducible rfl)
        simp only [Act.put, List.setIfInBounds_toArray, List.set_cons_zero, List.set_cons_succ]
        refine anyL_take 5 (v := ?_) rfl (by kernel_rfl) (fun _ _ _ h => h) (Or.inl ⟨by rfl, ?_⟩) hS5 ?_
        rotate_left
        focus (intro W hW; obtain ⟨k0, k1, k2, k3, k4, k5⟩ := hfacts.out W hW; go_simp; try with_reducible rfl)
        simp only [Act.put, List.setIfInBounds_toArray, List.set_cons_zero, List.set_cons_succ]
        refine anyL_take 7 (v := ?_) rfl (by kernel_rfl) (fun _ _ _ h => h) (Or.inl ⟨by rfl, ?_⟩) hS5 ?_
        rotate_left
        focus (intro W hW; obtain ⟨k0, k1, k2, k3, k4, k5⟩ := hfacts.out W hW; go_simp; try with_reducible rfl)
        simp only [Act.put, List.setIfInBounds_toArray, List.set_cons_zero, List.set_cons_succ]
        refine anyL_take 8 (v := ?_) rfl (by kernel_rfl) (fun _ _ _ h => h) (Or.inl ⟨by rfl, ?_⟩) hS5 ?_
        rotate_left
        focus (intro W hW; go_simp; try with_reducible rfl)
        simp only [Act.put, List.setIfInBounds_toArray, List.set_cons_zero, List.set_cons_succ]
        refine anyL_take 9 (v := ?_) rfl (by kernel_rfl) (fun _ _ _ h => h) (Or.inl ⟨by rfl, ?_⟩) hS5 ?_
        rotate_left
        focus (intro W hW; go_simp; try with_reducible rfl)
        simp only [Act.put, List.setIfInBounds_toArray, List.set_cons_zero, List.set_cons_succ]
        refine anyL_take 10 (v := ?_) rfl (by kernel_rfl) (fun _ _ _ h => h) (Or.inl ⟨by rfl, ?_⟩) hS5 ?_
        rotate_left
        focus (intro W hW; go_simp; try with_reducible rfl)
        simp only [Act.put, List.setIfInBounds_toArray, List.set_cons_zero, List.set_cons_succ]
        refine anyL_take 11 (v := ?_) rfl (by kernel_rfl) (fun _ _ _ h => h) (Or.inl ⟨by rfl, ?_⟩) hS5 ?_
        rotate_left
        focus (intro W hW; go_simp; try with_reducible rfl)
        simp only [Act.put, List.setIfInBounds_toArray, List.set_cons_zero, List.set_cons_succ]
        refine anyL_take 12 (v := ?_) rfl (by kernel_rfl) (fun _ _ _ h => h) (Or.inl ⟨by rfl, ?_⟩) hS5 ?_
        rotate_left
        focus (intro W hW; obtain ⟨k0, k1, k2, k3, k4, k5⟩ := hfacts.out W hW; go_simp; try with_reducible rfl)
        simp only [Act.put, List.setIfInBounds_toArray, List.set_cons_zero, List.set_cons_succ]
        refine anyL_one 6 rfl (by kernel_rfl) (fun K hK => ?_)
        go_simp
        refine (hless.out _).mono ?_
        rintro e' w6 ⟨rfl, hb6⟩
        have hb6' := hS5.trans (hb6.mono (by simp))
        dsimp only
        refine hK.out _ _ (fun _ => hb6') ?_
        clear hK K
        try simp only [Act.put, List.setIfInBounds_toArray, List.set_cons_zero, List.set_cons_succ]
        refine anyL_one 13 rfl (by kernel_rfl) (fun K hK => ?_)
        go_simp
        refine (hrless.out w6 hb6').mono ?_
        rintro e' w7 ⟨A7, cap7, rfl, hI7, hb7⟩
        have hb7' := bmore hb6' hb7
        dsimp only
        refine hK.out _ _ (fun _ => hb7') ?_
        clear hK K
        try simp only [Act.put, List.setIfInBounds_toArray, List.set_cons_zero, List.set_cons_succ]
        obtain ⟨g0, g1, g2, g3, f0, f1, f2, f3⟩ := hS5H.out.below hb7'
        obtain ⟨q0, q1, q2⟩ := hR5H.out.below hb7'
        refine anyL_one 14 rfl (by kernel_rfl) (fun K hK => ?_)
        go_simp
        refine hK.out _ _ (fun h => absurd h (by decide)) ?_
        clear hK K
        try simp only [Act.put, List.setIfInBounds_toArray, List.set_cons_zero, List.set_cons_succ]
        refine anyL_one 15 rfl (by kernel_rfl) (fun K hK => ?_)
        go_simp
        refine hK.out _ _ (fun h => absurd h (by decide)) ?_
        clear hK K
        try simp only [Act.put, List.setIfInBounds_toArray, List.set_cons_zero, List.set_cons_succ]
        refine anyC_done (by kernel_rfl) ?_ _
        simp only [Exit.then]
        refine fresh_K (fun W => SetAt W B (s.lessI n) ∧ SetAt W D s ∧ RefAt (B + 2) W (B + 1) A7 cap7 (lessL n xs) ∧ Below w.heap.size w W ∧ D < W.heap.size) ?_ ?_
        · exact step_done (hS5H.out.below hb7') (hD5H.out.below hb7') (hR5H.out.below hb7') hI7 (by omega) (bmore hB5H.out hb7') hw1
        rintro W9 ⟨hS9, hD9, hR9, hB9, hsz9⟩
        clear g0 g1 g2 g3 f0 f1 f2 f3 q0 q1 q2 hI7 hb7' hb7 hb6' hb6 hfacts hless hrless hS5 hS5H hD5H hR5H hB5H hsz5 w7 w6 W5
        have hokt := W4.lessI_ok hok n
        have het : elems (s.lessI n) = (lessL n xs) := by rw [elems_less, hxsH.out]
        have hoth : ∀ m, m ≠ n → (s.lessI n).hasI m = s.hasI m := fun m hm => by rw [W4.hasI_lessI]; simp [hm]
        generalize (s.lessI n) = t at hS9 hokt het hoth ⊢
        generalize (lessL n xs) = ys at hR9 het ⊢
        clear hxsH hxl
        have hyl : ys.length ≤ 256 := by rw [← het]; exact elems_length t
        obtain ⟨z, hz1, hz2⟩ : ∃ z, t.hasI n = z ∧ decide (n ∈ ys) = z := ⟨_, rfl, by rw [← het]; have := elems_mem' t n; cases h : t.hasI n <;> simp_all⟩
        have hhas := Lib.hid (fun W => show Calls Try.prog 19 #[.agg #[.int .u64 (t.a : Int), .int .u64 (t.b : Int), .int .u64 (t.c : Int), .int .u64 (t.d : Int)], .int .i64 n] W fun e w' => e = .returned (.bool z) ∧ Below W.heap.size W w' by rw [← hz1]; exact has_any t hokt n W)
        have hrhas := Lib.hid (fun W (hb : Below W9.heap.size W9 W) => show Calls Try.prog 20 #[.agg #[.slice A7 ys.length cap7], .int .i64 n] W fun e w' => e = .returned (.bool z) ∧ Below W.heap.size W w' by rw [← hz2]; exact refhas_any A7 cap7 ys n W (by unfold maxLen; omega) (hR9.2.2.ints.below hb))
        have hask1 := Lib.hid (fun W => show Calls Try.prog 19 #[.agg #[.int .u64 (s.a : Int), .int .u64 (s.b : Int), .int .u64 (s.c : Int), .int .u64 (s.d : Int)], .int .i64 ask] W fun e w' => e = .returned (.bool (s.hasI ask)) ∧ Below W.heap.size W w' from has_any s hok ask W)
        have hask2 := Lib.hid (fun W => show Calls Try.prog 19 #[.agg #[.int .u64 (t.a : Int), .int .u64 (t.b : Int), .int .u64 (t.c : Int), .int .u64 (t.d : Int)], .int .i64 ask] W fun e w' => e = .returned (.bool (t.hasI ask)) ∧ Below W.heap.size W w' from has_any t hokt ask W)
        have hways : s.hasI ask = t.hasI ask ∨ (ask = n ∧ t.hasI ask = !s.hasI ask) := by
          by_cases h : ask = n
          · cases h1 : s.hasI ask <;> cases h2 : t.hasI ask <;> simp_all
          · exact .inl (hoth ask h).symm
        generalize s.hasI ask = p at hask1 hways
        generalize t.hasI ask = q at hask2 hways
        clear hz1 hz2 hoth
        have hetH := Lib.hid het
        clear het
        have hcw := (hB9.cell (p := ⟨b, off + k * 2, none⟩) hltb).trans hc
        have hfx : ∀ W, Below W9.heap.size W9 W → (W.cell? ⟨B, 0, none⟩ = some (.int .u64 (t.a : Int)) ∧ W.cell? ⟨B, 1, none⟩ = some (.int .u64 (t.b : Int)) ∧ W.cell? ⟨B, 2, none⟩ = some (.int .u64 (t.c : Int)) ∧ W.cell? ⟨B, 3, none⟩ = some (.int .u64 (t.d : Int)) ∧ W.cell? ⟨D, 0, none⟩ = some (.int .u64 (s.a : Int)) ∧ W.cell? ⟨D, 1, none⟩ = some (.int .u64 (s.b : Int)) ∧ W.cell? ⟨D, 2, none⟩ = some (.int .u64 (s.c : Int)) ∧ W.cell? ⟨D, 3, none⟩ = some (.int .u64 (s.d : Int)) ∧ W.cell? ⟨B + 1, 0, none⟩ = some (.slice A7 ys.length cap7)) := fun W hb =>
          have h1 := hS9.below hb
          have h2 := hD9.below hb
          ⟨h1.1, h1.2.1, h1.2.2.1, h1.2.2.2.1, h2.1, h2.2.1, h2.2.2.1, h2.2.2.2.1, (hR9.below hb).1⟩
        have hfacts := Lib.hid hfx
        clear hfx
        have hS9H := Lib.hid hS9
        have hR9H := Lib.hid hR9
        have hB9H := Lib.hid hB9
        clear hS9 hD9 hR9 hB9
        rcases hways with rfl | ⟨rfl, rfl⟩
        · go_wp2_with fail
          refine region_anyC (fun _ => true) (fun W => Below W9.heap.size W9 W) (by kernel_rfl) ?_
          have hS0 : Below W9.heap.size W9 W9.drew := (Below.refl _ _).drew
          refine anyL_take 0 (v := ?_) rfl (by kernel_rfl) (fun _ _ _ h => h) (Or.inl ⟨by rfl, ?_⟩) hS0 ?_
          rotate_left
          focus (intro W hW; obtain ⟨k0, k1, k2, k3, k4, k5, k6, k7, k8⟩ := hfacts.out W hW; go_simp; try with_reducible rfl)
          simp only [Act.put, List.setIfInBounds_toArray, List.set_cons_zero, List.set_cons_succ]
          refine anyL_take 1 (v := ?_) rfl (by kernel_rfl) (fun _ _ _ h => h) (Or.inl ⟨by rfl, ?_⟩) hS0 ?_
          rotate_left
          focus (intro W hW; go_simp; try with_reducible rfl)
          simp only [Act.put, List.setIfInBounds_toArray, List.set_cons_zero, List.set_cons_succ]
          refine anyL_take 3 (v := ?_) rfl (by kernel_rfl) (fun _ _ _ h => h) (Or.inl ⟨by rfl, ?_⟩) hS0 ?_
          rotate_left
          focus (intro W hW; obtain ⟨k0, k1, k2, k3, k4, k5, k6, k7, k8⟩ := hfacts.out W hW; go_simp; try with_reducible rfl)
          simp only [Act.put, List.setIfInBounds_toArray, List.set_cons_zero, List.set_cons_succ]
          refine anyL_take 4 (v := ?_) rfl (by kernel_rfl) (fun _ _ _ h => h) (Or.inl ⟨by rfl, ?_⟩) hS0 ?_
          rotate_left
          focus (intro W hW; go_simp; try with_reducible rfl)
          simp only [Act.put, List.setIfInBounds_toArray, List.set_cons_zero, List.set_cons_succ]
          refine anyL_one 2 rfl (by kernel_rfl) (fun K hK => ?_)
          go_simp
          refine (hhas.out _).mono ?_
          rintro e' w1 ⟨rfl, hb1⟩
          have hb1' := hS0.trans (hb1.mono (by simp))
          dsimp only
          refine hK.out _ _ (fun _ => hb1') ?_
          clear hK K
          try simp only [Act.put, List.setIfInBounds_toArray, List.set_cons_zero, List.set_cons_succ]
          refine anyL_one 5 rfl (by kernel_rfl) (fun K hK => ?_)
          go_simp
          refine (hrhas.out _ hb1').mono ?_
          rintro e' w2 ⟨rfl, hb2⟩
          have hb2' := bmore hb1' hb2
          dsimp only
          refine hK.out _ _ (fun _ => hb2') ?_
          clear hK K
          try simp only [Act.put, List.setIfInBounds_toArray, List.set_cons_zero, List.set_cons_succ]
          refine anyL_take 6 (v := ?_) rfl (by kernel_rfl) (fun _ _ _ h => h) (Or.inl ⟨by rfl, ?_⟩) hb2' ?_
          rotate_left
          focus (intro W hW; go_simp; try with_reducible rfl)
          simp only [Act.put, List.setIfInBounds_toArray, List.set_cons_zero, List.set_cons_succ]
          refine anyL_take 7 (v := ?_) rfl (by kernel_rfl) (fun _ _ _ h => h) (Or.inl ⟨by rfl, ?_⟩) hb2' ?_
          rotate_left
          focus (intro W hW; go_simp; try with_reducible rfl)
          simp only [Act.put, List.setIfInBounds_toArray, List.set_cons_zero, List.set_cons_succ]
          refine anyL_take 8 (v := ?_) rfl (by kernel_rfl) (fun _ _ _ h => h) (Or.inl ⟨by rfl, ?_⟩) hb2' ?_
          rotate_left
          focus (intro W hW; obtain ⟨k0, k1, k2, k3, k4, k5, k6, k7, k8⟩ := hfacts.out W hW; go_simp; try with_reducible rfl)
          simp only [Act.put, List.setIfInBounds_toArray, List.set_cons_zero, List.set_cons_succ]
          refine anyL_take 9 (v := ?_) rfl (by kernel_rfl) (fun _ _ _ h => h) (Or.inl ⟨by rfl, ?_⟩) hb2' ?_
          rotate_left
          focus (intro W hW; go_simp; try with_reducible rfl)
          simp only [Act.put, List.setIfInBounds_toArray, List.set_cons_zero, List.set_cons_succ]
          refine anyL_take 11 (v := ?_) rfl (by kernel_rfl) (fun _ _ _ h => h) (Or.inl ⟨by rfl, ?_⟩) hb2' ?_
          rotate_left
          focus (intro W hW; obtain ⟨k0, k1, k2, k3, k4, k5, k6, k7, k8⟩ := hfacts.out W hW; go_simp; try with_reducible rfl)
          simp only [Act.put, List.setIfInBounds_toArray, List.set_cons_zero, List.set_cons_succ]
          refine anyL_take 12 (v := ?_) rfl (by kernel_rfl) (fun _ _ _ h => h) (Or.inl ⟨by rfl, ?_⟩) hb2' ?_
          rotate_left
          focus (intro W hW; go_simp; try with_reducible rfl)
          simp only [Act.put, List.setIfInBounds_toArray, List.set_cons_zero, List.set_cons_succ]
          refine anyL_one 10 rfl (by kernel_rfl) (fun K hK => ?_)
          go_simp
          refine (hask1.out _).mono ?_
          rintro e' w3 ⟨rfl, hb3⟩
          have hb3' := bmore hb2' hb3
          dsimp only
          refine hK.out _ _ (fun _ => hb3') ?_
          clear hK K
          try simp only [Act.put, List.setIfInBounds_toArray, List.set_cons_zero, List.set_cons_succ]
          refine anyL_one 13 rfl (by kernel_rfl) (fun K hK => ?_)
          go_simp
          refine (hask2.out _).mono ?_
          rintro e' w4 ⟨rfl, hb4⟩
          have hb4' := bmore hb3' hb4
          dsimp only
          refine hK.out _ _ (fun _ => hb4') ?_
          clear hK K
          try simp only [Act.put, List.setIfInBounds_toArray, List.set_cons_zero, List.set_cons_succ]
          refine anyL_take 14 (v := ?_) rfl (by kernel_rfl) (fun _ _ _ h => h) (Or.inl ⟨by rfl, ?_⟩) hb4' ?_
          rotate_left
          focus (intro W hW; go_simp; try with_reducible rfl)
          simp only [Act.put, List.setIfInBounds_toArray, List.set_cons_zero, List.set_cons_succ]
          refine anyL_take 15 (v := ?_) rfl (by kernel_rfl) (fun _ _ _ h => h) (Or.inl ⟨by rfl, ?_⟩) hb4' ?_
          rotate_left
          focus (intro W hW; go_simp; try with_reducible rfl)
          simp only [Act.put, List.setIfInBounds_toArray, List.set_cons_zero, List.set_cons_succ]
          refine anyL_take 16 (v := undef) rfl (by kernel_rfl) (fun _ _ _ h => h) (Or.inr ⟨by rfl, rfl⟩) hb4' ?_
          simp only [Act.put, List.setIfInBounds_toArray, List.set_cons_zero, List.set_cons_succ]
          refine anyL_take 17 (v := undef) rfl (by kernel_rfl) (fun _ _ _ h => h) (Or.inr ⟨by rfl, rfl⟩) hb4' ?_
          simp only [Act.put, List.setIfInBounds_toArray, List.set_cons_zero, List.set_cons_succ]
          refine anyL_take 18 (v := undef) rfl (by kernel_rfl) (fun _ _ _ h => h) (Or.inr ⟨by rfl, rfl⟩) hb4' ?_
          simp only [Act.put, List.setIfInBounds_toArray, List.set_cons_zero, List.set_cons_succ]
          refine anyL_take 19 (v := ?_) rfl (by kernel_rfl) (fun _ _ _ h => h) (Or.inl ⟨by rfl, ?_⟩) hb4' ?_
          rotate_left
          focus (intro W hW; go_simp; try with_reducible rfl)
          simp only [Act.put, List.setIfInBounds_toArray, List.set_cons_zero, List.set_cons_succ]
          refine anyL_take 20 (v := ?_) rfl (by kernel_rfl) (fun _ _ _ h => h) (Or.inl ⟨by rfl, ?_⟩) hb4' ?_
          rotate_left
          focus (intro W hW; go_simp; try with_reducible rfl)
          simp only [Act.put, List.setIfInBounds_toArray, List.set_cons_zero, List.set_cons_succ]
          refine anyC_done (by kernel_rfl) ?_ _
          simp only [Exit.then]
          refine fresh_K (fun W => SetAt W B t ∧ RefAt (B + 2) W (B + 1) A7 cap7 ys ∧ Below w.heap.size w W ∧ B + 2 ≤ W.heap.size) ?_ ?_
          · exact ⟨hS9H.out.below hb4', hR9H.out.below hb4', bmore hB9H.out hb4', by have := hb4'.size; omega⟩
          rintro W10 ⟨hS10, hR10, hB10, hsz10⟩
          have hS10H := Lib.hid hS10
          have hR10H := Lib.hid hR10
          clear hS10 hR10
          go_wp2
          go_roundw
          case rel => exact ⟨k + 1, t, A7, cap7, by omega, by omega, by go_num, hokt, hS10H.out, by rw [hetH.out]; exact hR10H.out, hB10, hsz10⟩
          case measure => simp [intOf]; omega
        · go_wp2_with fail
          refine region_anyC (fun _ => true) (fun W => Below W9.heap.size W9 W) (by kernel_rfl) ?_
          have hS0 : Below W9.heap.size W9 W9.drew := (Below.refl _ _).drew
          refine anyL_take 0 (v := ?_) rfl (by kernel_rfl) (fun _ _ _ h => h) (Or.inl ⟨by rfl, ?_⟩) hS0 ?_
          rotate_left
          focus (intro W hW; obtain ⟨k0, k1, k2, k3, k4, k5, k6, k7, k8⟩ := hfacts.out W hW; go_simp; try with_reducible rfl)
          simp only [Act.put, List.setIfInBounds_toArray, List.set_cons_zero, List.set_cons_succ]
          refine anyL_take 1 (v := ?_) rfl (by kernel_rfl) (fun _ _ _ h => h) (Or.inl ⟨by rfl, ?_⟩) hS0 ?_
          rotate_left
          focus (intro W hW; go_simp; try with_reducible rfl)
          simp only [Act.put, List.setIfInBounds_toArray, List.set_cons_zero, List.set_cons_succ]
          refine anyL_take 3 (v := ?_) rfl (by kernel_rfl) (fun _ _ _ h => h) (Or.inl ⟨by rfl, ?_⟩) hS0 ?_
          rotate_left
          focus (intro W hW; obtain ⟨k0, k1, k2, k3, k4, k5, k6, k7, k8⟩ := hfacts.out W hW; go_simp; try with_reducible rfl)
          simp only [Act.put, List.setIfInBounds_toArray, List.set_cons_zero, List.set_cons_succ]
          refine anyL_take 4 (v := ?_) rfl (by kernel_rfl) (fun _ _ _ h => h) (Or.inl ⟨by rfl, ?_⟩) hS0 ?_
          rotate_left
          focus (intro W hW; go_simp; try with_reducible rfl)
          simp only [Act.put, List.setIfInBounds_toArray, List.set_cons_zero, List.set_cons_succ]
          refine anyL_one 2 rfl (by kernel_rfl) (fun K hK => ?_)
          go_simp
          refine (hhas.out _).mono ?_
          rintro e' w1 ⟨rfl, hb1⟩
          have hb1' := hS0.trans (hb1.mono (by simp))
          dsimp only
          refine hK.out _ _ (fun _ => hb1') ?_
          clear hK K
          try simp only [Act.put, List.setIfInBounds_toArray, List.set_cons_zero, List.set_cons_succ]
          refine anyL_one 5 rfl (by kernel_rfl) (fun K hK => ?_)
          go_simp
          refine (hrhas.out _ hb1').mono ?_
          rintro e' w2 ⟨rfl, hb2⟩
          have hb2' := bmore hb1' hb2
          dsimp only
          refine hK.out _ _ (fun _ => hb2') ?_
          clear hK K
          try simp only [Act.put, List.setIfInBounds_toArray, List.set_cons_zero, List.set_cons_succ]
          refine anyL_take 6 (v := ?_) rfl (by kernel_rfl) (fun _ _ _ h => h) (Or.inl ⟨by rfl, ?_⟩) hb2' ?_
          rotate_left
          focus (intro W hW; go_simp; try with_reducible rfl)
          simp only [Act.put, List.setIfInBounds_toArray, List.set_cons_zero, List.set_cons_succ]
          refine anyL_take 7 (v := ?_) rfl (by kernel_rfl) (fun _ _ _ h => h) (Or.inl ⟨by rfl, ?_⟩) hb2' ?_
          rotate_left
          focus (intro W hW; go_simp; try with_reducible rfl)
          simp only [Act.put, List.setIfInBounds_toArray, List.set_cons_zero, List.set_cons_succ]
          refine anyL_take 8 (v := ?_) rfl (by kernel_rfl) (fun _ _ _ h => h) (Or.inl ⟨by rfl, ?_⟩) hb2' ?_
          rotate_left
          focus (intro W hW; obtain ⟨k0, k1, k2, k3, k4, k5, k6, k7, k8⟩ := hfacts.out W hW; go_simp; try with_reducible rfl)
          simp only [Act.put, List.setIfInBounds_toArray, List.set_cons_zero, List.set_cons_succ]
          refine anyL_take 9 (v := ?_) rfl (by kernel_rfl) (fun _ _ _ h => h) (Or.inl ⟨by rfl, ?_⟩) hb2' ?_
          rotate_left
          focus (intro W hW; go_simp; try with_reducible rfl)
          simp only [Act.put, List.setIfInBounds_toArray, List.set_cons_zero, List.set_cons_succ]
          refine anyL_take 11 (v := ?_) rfl (by kernel_rfl) (fun _ _ _ h => h) (Or.inl ⟨by rfl, ?_⟩) hb2' ?_
          rotate_left
          focus (intro W hW; obtain ⟨k0, k1, k2, k3, k4, k5, k6, k7, k8⟩ := hfacts.out W hW; go_simp; try with_reducible rfl)
          simp only [Act.put, List.setIfInBounds_toArray, List.set_cons_zero, List.set_cons_succ]
          refine anyL_take 12 (v := ?_) rfl (by kernel_rfl) (fun _ _ _ h => h) (Or.inl ⟨by rfl, ?_⟩) hb2' ?_
          rotate_left
          focus (intro W hW; go_simp; try with_reducible rfl)
          simp only [Act.put, List.setIfInBounds_toArray, List.set_cons_zero, List.set_cons_succ]
          refine anyL_one 10 rfl (by kernel_rfl) (fun K hK => ?_)
          go_simp
          refine (hask1.out _).mono ?_
          rintro e' w3 ⟨rfl, hb3⟩
          have hb3' := bmore hb2' hb3
          dsimp only
          refine hK.out _ _ (fun _ => hb3') ?_
          clear hK K
          try simp only [Act.put, List.setIfInBounds_toArray, List.set_cons_zero, List.set_cons_succ]
          refine anyL_one 13 rfl (by kernel_rfl) (fun K hK => ?_)
          go_simp
          refine (hask2.out _).mono ?_
          rintro e' w4 ⟨rfl, hb4⟩
          have hb4' := bmore hb3' hb4
          dsimp only
          refine hK.out _ _ (fun _ => hb4') ?_
          clear hK K
          try simp only [Act.put, List.setIfInBounds_toArray, List.set_cons_zero, List.set_cons_succ]
          refine anyL_take 14 (v := ?_) rfl (by kernel_rfl) (fun _ _ _ h => h) (Or.inl ⟨by rfl, ?_⟩) hb4' ?_
          rotate_left
          focus (intro W hW; go_simp; try with_reducible rfl)
          simp only [Act.put, List.setIfInBounds_toArray, List.set_cons_zero, List.set_cons_succ]
          refine anyL_take 15 (v := ?_) rfl (by kernel_rfl) (fun _ _ _ h => h) (Or.inl ⟨by rfl, ?_⟩) hb4' ?_
          rotate_left
          focus (intro W hW; go_simp; try with_reducible rfl)
          simp only [Act.put, List.setIfInBounds_toArray, List.set_cons_zero, List.set_cons_succ]
          refine anyL_take 16 (v := ?_) rfl (by kernel_rfl) (fun _ _ _ h => h) (Or.inl ⟨by rfl, ?_⟩) hb4' ?_
          rotate_left
          focus (intro W hW; go_simp; try with_reducible rfl)
          simp only [Act.put, List.setIfInBounds_toArray, List.set_cons_zero, List.set_cons_succ]
          refine anyL_take 17 (v := ?_) rfl (by kernel_rfl) (fun _ _ _ h => h) (Or.inl ⟨by rfl, ?_⟩) hb4' ?_
          rotate_left
          focus (intro W hW; go_simp; try with_reducible rfl)
          simp only [Act.put, List.setIfInBounds_toArray, List.set_cons_zero, List.set_cons_succ]
          refine anyL_take 18 (v := ?_) rfl (by kernel_rfl) (fun _ _ _ h => h) (Or.inl ⟨by rfl, ?_⟩) hb4' ?_
          rotate_left
          focus (intro W hW; go_simp; try with_reducible rfl)
          simp only [Act.put, List.setIfInBounds_toArray, List.set_cons_zero, List.set_cons_succ]
          refine anyL_take 19 (v := ?_) rfl (by kernel_rfl) (fun _ _ _ h => h) (Or.inl ⟨by rfl, ?_⟩) hb4' ?_
          rotate_left
          focus (intro W hW; go_simp; try with_reducible rfl)
          simp only [Act.put, List.setIfInBounds_toArray, List.set_cons_zero, List.set_cons_succ]
          refine anyL_take 20 (v := ?_) rfl (by kernel_rfl) (fun _ _ _ h => h) (Or.inl ⟨by rfl, ?_⟩) hb4' ?_
          rotate_left
          focus (intro W hW; go_simp; try with_reducible rfl)
          simp only [Act.put, List.setIfInBounds_toArray, List.set_cons_zero, List.set_cons_succ]
          refine anyC_done (by kernel_rfl) ?_ _
          simp only [Exit.then]
          refine fresh_K (fun W => SetAt W B t ∧ RefAt (B + 2) W (B + 1) A7 cap7 ys ∧ Below w.heap.size w W ∧ B + 2 ≤ W.heap.size) ?_ ?_
          · exact ⟨hS9H.out.below hb4', hR9H.out.below hb4', bmore hB9H.out hb4', by have := hb4'.size; omega⟩
          rintro W10 ⟨hS10, hR10, hB10, hsz10⟩
          have hS10H := Lib.hid hS10
          have hR10H := Lib.hid hR10
          clear hS10 hR10
          go_wp2
          go_roundw
          case rel => exact ⟨k + 1, t, A7, cap7, by omega, by omega, by go_num, hokt, hS10H.out, by rw [hetH.out]; exact hR10H.out, hB10, hsz10⟩
          case measure => simp [intOf]; omega
      | false =>
        go_wp2_with fail
        refine fresh_world (fun W => SetAt W B s ∧ SetAt W wr.heap.size s ∧ RefAt (B + 2) W (B + 1) A' cap' xs ∧ Below w.heap.size w W ∧ wr.heap.size < W.heap.size) ?_ ?_
        · have hb1 : Below wr.heap.size wr (wr.alloc (.cells #[.int .u64 (s.a : Int), .int .u64 (s.b : Int), .int .u64 (s.c : Int), .int .u64 (s.d : Int)] 33)) := (Below.refl _ _).alloc (Nat.le_refl _) _
          exact ⟨hSH.out.below hb1, setAt_new wr s, hRH.out.below hb1, bmore hB hb1, by simp⟩
        have hBw := hB.size
        clear c0 c1 c2 c3 hcw hdw hltw hB hSH hRH
        rintro W5 ⟨hS5', hD5, hR5, hB5, hsz5⟩
        generalize wr.heap.size = D at hD5 hsz hsz5 hBw ⊢
        have hcw := (hB5.cell (p := ⟨b, off + k * 2, none⟩) hltb).trans hc
        have hless := Lib.hid (fun W => with_any s hok n W)
        unfold W4.val at hless
        have hrless := Lib.hid (fun W (hb : Below W5.heap.size W5 W) => refwith_any (B + 2) A' cap' xs n W hxl (by have := hb.size; omega) (hR5.2.2.below hb))
        unfold refV at hrless
        have hfx : ∀ W, Below W5.heap.size W5 W → (W.cell? ⟨B, 0, none⟩ = some (.int .u64 (s.a : Int)) ∧ W.cell? ⟨B, 1, none⟩ = some (.int .u64 (s.b : Int)) ∧ W.cell? ⟨B, 2, none⟩ = some (.int .u64 (s.c : Int)) ∧ W.cell? ⟨B, 3, none⟩ = some (.int .u64 (s.d : Int)) ∧ W.cell? ⟨B + 1, 0, none⟩ = some (.slice A' xs.length cap') ∧ W.cell? ⟨b, off + k * 2, none⟩ = some (.int .i64 n)) := fun W hb =>
          have h1 := hS5'.below hb
          ⟨h1.1, h1.2.1, h1.2.2.1, h1.2.2.2.1, (hR5.below hb).1, ((bcell hb).1 _ _ (lt_of_cell hcw)).trans hcw⟩
        have hfacts := Lib.hid hfx
        clear hfx
        have hS5H := Lib.hid hS5'
        have hD5H := Lib.hid hD5
        have hR5H := Lib.hid hR5
        have hB5H := Lib.hid hB5
        clear hS5' hD5 hR5 hcw hB5
        refine region_anyC (fun j => decide (j < 14)) (fun W => Below W5.heap.size W5 W) (by kernel_rfl) ?_
        have hS5 : Below W5.heap.size W5 W5.drew := (Below.refl _ _).drew
        refine anyL_take 0 (v := ?_) rfl (by kernel_rfl) (fun _ _ _ h => h) (Or.inl ⟨by rfl, ?_⟩) hS5 ?_
        rotate_left
        focus (intro W hW; obtain ⟨k0, k1, k2, k3, k4, k5⟩ := hfacts.out W hW; go_simp; try with_reducible rfl)
        simp only [Act.put, List.setIfInBounds_toArray, List.set_cons_zero, List.set_cons_succ]
        refine anyL_take 1 (v := ?_) rfl (by kernel_rfl) (fun _ _ _ h => h) (Or.inl ⟨by rfl, ?_⟩) hS5 ?_
        rotate_left
        focus (intro W hW; go_simp; try with_reducible rfl)
        simp only [Act.put, List.setIfInBounds_toArray, List.set_cons_zero, List.set_cons_succ]
        refine anyL_take 2 (v := ?_) rfl (by kernel_rfl) (fun _ _ _ h => h) (Or.inl ⟨by rfl, ?_⟩) hS5 ?_
        rotate_left
        focus (intro W hW; go_simp; try with_reducible rfl)
        simp only [Act.put, List.setIfInBounds_toArray, List.set_cons_zero, List.set_cons_succ]
        refine anyL_take 3 (v := ?_) rfl (by kernel_rfl) (fun _ _ _ h => h) (Or.inl ⟨by rfl, ?_⟩) hS5 ?_
        rotate_left
        focus (intro W hW; go_simp; try with_reducible rfl)
        simp only [Act.put, List.setIfInBounds_toArray, List.set_cons_zero, List.set_cons_succ]
        refine anyL_take 4 (v := ?_) rfl (by kernel_rfl) (fun _ _ _ h => h) (Or.inl ⟨by rfl, ?_⟩) hS5 ?_
        rotate_left
        focus (intro W hW; go_simp; try with_reducible rfl)
        simp only [Act.put, List.setIfInBounds_toArray, List.set_cons_zero, List.set_cons_succ]
        refine anyL_take 5 (v := ?_) rfl (by kernel_rfl) (fun _ _ _ h => h) (Or.inl ⟨by rfl, ?_⟩) hS5 ?_
        rotate_left
        focus (intro W hW; obtain ⟨k0, k1, k2, k3, k4, k5⟩ := hfacts.out W hW; go_simp; try with_reducible rfl)
        simp only [Act.put, List.setIfInBounds_toArray, List.set_cons_zero, List.set_cons_succ]
        refine anyL_take 7 (v := ?_) rfl (by kernel_rfl) (fun _ _ _ h => h) (Or.inl ⟨by rfl, ?_⟩) hS5 ?_
        rotate_left
        focus (intro W hW; obtain ⟨k0, k1, k2, k3, k4, k5⟩ := hfacts.out W hW; go_simp; try with_reducible rfl)
        simp only [Act.put, List.setIfInBounds_toArray, List.set_cons_zero, List.set_cons_succ]
        refine anyL_take 8 (v := ?_) rfl (by kernel_rfl) (fun _ _ _ h => h) (Or.inl ⟨by rfl, ?_⟩) hS5 ?_
        rotate_left
        focus (intro W hW; go_simp; try with_reducible rfl)
        simp only [Act.put, List.setIfInBounds_toArray, List.set_cons_zero, List.set_cons_succ]
        refine anyL_take 9 (v := ?_) rfl (by kernel_rfl) (fun _ _ _ h => h) (Or.inl ⟨by rfl, ?_⟩) hS5 ?_
        rotate_left
        focus (intro W hW; go_simp; try with_reducible rfl)
        simp only [Act.put, List.setIfInBounds_toArray, List.set_cons_zero, List.set_cons_succ]
        refine anyL_take 10 (v := ?_) rfl (by kernel_rfl) (fun _ _ _ h => h) (Or.inl ⟨by rfl, ?_⟩) hS5 ?_
        rotate_left
        focus (intro W hW; go_simp; try with_reducible rfl)
        simp only [Act.put, List.setIfInBounds_toArray, List.set_cons_zero, List.set_cons_succ]
        refine anyL_take 11 (v := ?_) rfl (by kernel_rfl) (fun _ _ _ h => h) (Or.inl ⟨by rfl, ?_⟩) hS5 ?_
        rotate_left
        focus (intro W hW; go_simp; try with_reducible rfl)
        simp only [Act.put, List.setIfInBounds_toArray, List.set_cons_zero, List.set_cons_succ]
        refine anyL_take 12 (v := ?_) rfl (by kernel_rfl) (fun _ _ _ h => h) (Or.inl ⟨by rfl, ?_⟩) hS5 ?_
        rotate_left
        focus (intro W hW; obtain ⟨k0, k1, k2, k3, k4, k5⟩ := hfacts.out W hW; go_simp; try with_reducible rfl)
        simp only [Act.put, List.setIfInBounds_toArray, List.set_cons_zero, List.set_cons_succ]
        refine anyL_one 6 rfl (by kernel_rfl) (fun K hK => ?_)
        go_simp
        refine (hless.out _).mono ?_
        rintro e' w6 ⟨rfl, hb6⟩
        have hb6' := hS5.trans (hb6.mono (by simp))
        dsimp only
        refine hK.out _ _ (fun _ => hb6') ?_
        clear hK K
        try simp only [Act.put, List.setIfInBounds_toArray, List.set_cons_zero, List.set_cons_succ]
        refine anyL_one 13 rfl (by kernel_rfl) (fun K hK => ?_)
        go_simp
        refine (hrless.out w6 hb6').mono ?_
        rintro e' w7 ⟨A7, cap7, rfl, hI7, hb7⟩
        have hb7' := bmore hb6' hb7
        dsimp only
        refine hK.out _ _ (fun _ => hb7') ?_
        clear hK K
        try simp only [Act.put, List.setIfInBounds_toArray, List.set_cons_zero, List.set_cons_succ]
        obtain ⟨g0, g1, g2, g3, f0, f1, f2, f3⟩ := hS5H.out.below hb7'
        obtain ⟨q0, q1, q2⟩ := hR5H.out.below hb7'
        refine anyL_one 14 rfl (by kernel_rfl) (fun K hK => ?_)
        go_simp
        refine hK.out _ _ (fun h => absurd h (by decide)) ?_
        clear hK K
        try simp only [Act.put, List.setIfInBounds_toArray, List.set_cons_zero, List.set_cons_succ]
        refine anyL_one 15 rfl (by kernel_rfl) (fun K hK => ?_)
        go_simp
        refine hK.out _ _ (fun h => absurd h (by decide)) ?_
        clear hK K
        try simp only [Act.put, List.setIfInBounds_toArray, List.set_cons_zero, List.set_cons_succ]
        refine anyC_done (by kernel_rfl) ?_ _
        simp only [Exit.then]
        refine fresh_K (fun W => SetAt W B (s.withI n) ∧ SetAt W D s ∧ RefAt (B + 2) W (B + 1) A7 cap7 (withL n xs) ∧ Below w.heap.size w W ∧ D < W.heap.size) ?_ ?_
        · exact step_done (hS5H.out.below hb7') (hD5H.out.below hb7') (hR5H.out.below hb7') hI7 (by omega) (bmore hB5H.out hb7') hw1
        rintro W9 ⟨hS9, hD9, hR9, hB9, hsz9⟩
        clear g0 g1 g2 g3 f0 f1 f2 f3 q0 q1 q2 hI7 hb7' hb7 hb6' hb6 hfacts hless hrless hS5 hS5H hD5H hR5H hB5H hsz5 w7 w6 W5
        have hokt := W4.withI_ok hok n
        have het : elems (s.withI n) = (withL n xs) := by rw [elems_with, hxsH.out]
        have hoth : ∀ m, m ≠ n → (s.withI n).hasI m = s.hasI m := fun m hm => by rw [W4.hasI_withI]; simp [hm]
        generalize (s.withI n) = t at hS9 hokt het hoth ⊢
        generalize (withL n xs) = ys at hR9 het ⊢
        clear hxsH hxl
        have hyl : ys.length ≤ 256 := by rw [← het]; exact elems_length t
        obtain ⟨z, hz1, hz2⟩ : ∃ z, t.hasI n = z ∧ decide (n ∈ ys) = z := ⟨_, rfl, by rw [← het]; have := elems_mem' t n; cases h : t.hasI n <;> simp_all⟩
        have hhas := Lib.hid (fun W => show Calls Try.prog 19 #[.agg #[.int .u64 (t.a : Int), .int .u64 (t.b : Int), .int .u64 (t.c : Int), .int .u64 (t.d : Int)], .int .i64 n] W fun e w' => e = .returned (.bool z) ∧ Below W.heap.size W w' by rw [← hz1]; exact has_any t hokt n W)
        have hrhas := Lib.hid (fun W (hb : Below W9.heap.size W9 W) => show Calls Try.prog 20 #[.agg #[.slice A7 ys.length cap7], .int .i64 n] W fun e w' => e = .returned (.bool z) ∧ Below W.heap.size W w' by rw [← hz2]; exact refhas_any A7 cap7 ys n W (by unfold maxLen; omega) (hR9.2.2.ints.below hb))
        have hask1 := Lib.hid (fun W => show Calls Try.prog 19 #[.agg #[.int .u64 (s.a : Int), .int .u64 (s.b : Int), .int .u64 (s.c : Int), .int .u64 (s.d : Int)], .int .i64 ask] W fun e w' => e = .returned (.bool (s.hasI ask)) ∧ Below W.heap.size W w' from has_any s hok ask W)
        have hask2 := Lib.hid (fun W => show Calls Try.prog 19 #[.agg #[.int .u64 (t.a : Int), .int .u64 (t.b : Int), .int .u64 (t.c : Int), .int .u64 (t.d : Int)], .int .i64 ask] W fun e w' => e = .returned (.bool (t.hasI ask)) ∧ Below W.heap.size W w' from has_any t hokt ask W)
        have hways : s.hasI ask = t.hasI ask ∨ (ask = n ∧ t.hasI ask = !s.hasI ask) := by
          by_cases h : ask = n
          · cases h1 : s.hasI ask <;> cases h2 : t.hasI ask <;> simp_all
          · exact .inl (hoth ask h).symm
        generalize s.hasI ask = p at hask1 hways
        generalize t.hasI ask = q at hask2 hways
        clear hz1 hz2 hoth
        have hetH := Lib.hid het
        clear het
        have hcw := (hB9.cell (p := ⟨b, off + k * 2, none⟩) hltb).trans hc
        have hfx : ∀ W, Below W9.heap.size W9 W → (W.cell? ⟨B, 0, none⟩ = some (.int .u64 (t.a : Int)) ∧ W.cell? ⟨B, 1, none⟩ = some (.int .u64 (t.b : Int)) ∧ W.cell? ⟨B, 2, none⟩ = some (.int .u64 (t.c : Int)) ∧ W.cell? ⟨B, 3, none⟩ = some (.int .u64 (t.d : Int)) ∧ W.cell? ⟨D, 0, none⟩ = some (.int .u64 (s.a : Int)) ∧ W.cell? ⟨D, 1, none⟩ = some (.int .u64 (s.b : Int)) ∧ W.cell? ⟨D, 2, none⟩ = some (.int .u64 (s.c : Int)) ∧ W.cell? ⟨D, 3, none⟩ = some (.int .u64 (s.d : Int)) ∧ W.cell? ⟨B + 1, 0, none⟩ = some (.slice A7 ys.length cap7)) := fun W hb =>
          have h1 := hS9.below hb
          have h2 := hD9.below hb
          ⟨h1.1, h1.2.1, h1.2.2.1, h1.2.2.2.1, h2.1, h2.2.1, h2.2.2.1, h2.2.2.2.1, (hR9.below hb).1⟩
        have hfacts := Lib.hid hfx
        clear hfx
        have hS9H := Lib.hid hS9
        have hR9H := Lib.hid hR9
        have hB9H := Lib.hid hB9
        clear hS9 hD9 hR9 hB9
        rcases hways with rfl | ⟨rfl, rfl⟩
        · go_wp2_with fail
          refine region_anyC (fun _ => true) (fun W => Below W9.heap.size W9 W) (by kernel_rfl) ?_
          have hS0 : Below W9.heap.size W9 W9.drew := (Below.refl _ _).drew
          refine anyL_take 0 (v := ?_) rfl (by kernel_rfl) (fun _ _ _ h => h) (Or.inl ⟨by rfl, ?_⟩) hS0 ?_
          rotate_left
          focus (intro W hW; obtain ⟨k0, k1, k2, k3, k4, k5, k6, k7, k8⟩ := hfacts.out W hW; go_simp; try with_reducible rfl)
          simp only [Act.put, List.setIfInBounds_toArray, List.set_cons_zero, List.set_cons_succ]
          refine anyL_take 1 (v := ?_) rfl (by kernel_rfl) (fun _ _ _ h => h) (Or.inl ⟨by rfl, ?_⟩) hS0 ?_
          rotate_left
          focus (intro W hW; go_simp; try with_reducible rfl)
          simp only [Act.put, List.setIfInBounds_toArray, List.set_cons_zero, List.set_cons_succ]
          refine anyL_take 3 (v := ?_) rfl (by kernel_rfl) (fun _ _ _ h => h) (Or.inl ⟨by rfl, ?_⟩) hS0 ?_
          rotate_left
          focus (intro W hW; obtain ⟨k0, k1, k2, k3, k4, k5, k6, k7, k8⟩ := hfacts.out W hW; go_simp; try with_reducible rfl)
          simp only [Act.put, List.setIfInBounds_toArray, List.set_cons_zero, List.set_cons_succ]
          refine anyL_take 4 (v := ?_) rfl (by kernel_rfl) (fun _ _ _ h => h) (Or.inl ⟨by rfl, ?_⟩) hS0 ?_
          rotate_left
          focus (intro W hW; go_simp; try with_reducible rfl)
          simp only [Act.put, List.setIfInBounds_toArray, List.set_cons_zero, List.set_cons_succ]
          refine anyL_one 2 rfl (by kernel_rfl) (fun K hK => ?_)
          go_simp
          refine (hhas.out _).mono ?_
          rintro e' w1 ⟨rfl, hb1⟩
          have hb1' := hS0.trans (hb1.mono (by simp))
          dsimp only
          refine hK.out _ _ (fun _ => hb1') ?_
          clear hK K
          try simp only [Act.put, List.setIfInBounds_toArray, List.set_cons_zero, List.set_cons_succ]
          refine anyL_one 5 rfl (by kernel_rfl) (fun K hK => ?_)
          go_simp
          refine (hrhas.out _ hb1').mono ?_
          rintro e' w2 ⟨rfl, hb2⟩
          have hb2' := bmore hb1' hb2
          dsimp only
          refine hK.out _ _ (fun _ => hb2') ?_
          clear hK K
          try simp only [Act.put, List.setIfInBounds_toArray, List.set_cons_zero, List.set_cons_succ]
          refine anyL_take 6 (v := ?_) rfl (by kernel_rfl) (fun _ _ _ h => h) (Or.inl ⟨by rfl, ?_⟩) hb2' ?_
          rotate_left
          focus (intro W hW; go_simp; try with_reducible rfl)
          simp only [Act.put, List.setIfInBounds_toArray, List.set_cons_zero, List.set_cons_succ]
          refine anyL_take 7 (v := ?_) rfl (by kernel_rfl) (fun _ _ _ h => h) (Or.inl ⟨by rfl, ?_⟩) hb2' ?_
          rotate_left
          focus (intro W hW; go_simp; try with_reducible rfl)
          simp only [Act.put, List.setIfInBounds_toArray, List.set_cons_zero, List.set_cons_succ]
          refine anyL_take 8 (v := ?_) rfl (by kernel_rfl) (fun _ _ _ h => h) (Or.inl ⟨by rfl, ?_⟩) hb2' ?_
          rotate_left
          focus (intro W hW; obtain ⟨k0, k1, k2, k3, k4, k5, k6, k7, k8⟩ := hfacts.out W hW; go_simp; try with_reducible rfl)
          simp only [Act.put, List.setIfInBounds_toArray, List.set_cons_zero, List.set_cons_succ]
          refine anyL_take 9 (v := ?_) rfl (by kernel_rfl) (fun _ _ _ h => h) (Or.inl ⟨by rfl, ?_⟩) hb2' ?_
          rotate_left
          focus (intro W hW; go_simp; try with_reducible rfl)
          simp only [Act.put, List.setIfInBounds_toArray, List.set_cons_zero, List.set_cons_succ]
          refine anyL_take 11 (v := ?_) rfl (by kernel_rfl) (fun _ _ _ h => h) (Or.inl ⟨by rfl, ?_⟩) hb2' ?_
          rotate_left
          focus (intro W hW; obtain ⟨k0, k1, k2, k3, k4, k5, k6, k7, k8⟩ := hfacts.out W hW; go_simp; try with_reducible rfl)
          simp only [Act.put, List.setIfInBounds_toArray, List.set_cons_zero, List.set_cons_succ]
          refine anyL_take 12 (v := ?_) rfl (by kernel_rfl) (fun _ _ _ h => h) (Or.inl ⟨by rfl, ?_⟩) hb2' ?_
          rotate_left
          focus (intro W hW; go_simp; try with_reducible rfl)
          simp only [Act.put, List.setIfInBounds_toArray, List.set_cons_zero, List.set_cons_succ]
          refine anyL_one 10 rfl (by kernel_rfl) (fun K hK => ?_)
          go_simp
          refine (hask1.out _).mono ?_
          rintro e' w3 ⟨rfl, hb3⟩
          have hb3' := bmore hb2' hb3
          dsimp only
          refine hK.out _ _ (fun _ => hb3') ?_
          clear hK K
          try simp only [Act.put, List.setIfInBounds_toArray, List.set_cons_zero, List.set_cons_succ]
          refine anyL_one 13 rfl (by kernel_rfl) (fun K hK => ?_)
          go_simp
          refine (hask2.out _).mono ?_
          rintro e' w4 ⟨rfl, hb4⟩
          have hb4' := bmore hb3' hb4
          dsimp only
          refine hK.out _ _ (fun _ => hb4') ?_
          clear hK K
          try simp only [Act.put, List.setIfInBounds_toArray, List.set_cons_zero, List.set_cons_succ]
          refine anyL_take 14 (v := ?_) rfl (by kernel_rfl) (fun _ _ _ h => h) (Or.inl ⟨by rfl, ?_⟩) hb4' ?_
          rotate_left
          focus (intro W hW; go_simp; try with_reducible rfl)
          simp only [Act.put, List.setIfInBounds_toArray, List.set_cons_zero, List.set_cons_succ]
          refine anyL_take 15 (v := ?_) rfl (by kernel_rfl) (fun _ _ _ h => h) (Or.inl ⟨by rfl, ?_⟩) hb4' ?_
          rotate_left
          focus (intro W hW; go_simp; try with_reducible rfl)
          simp only [Act.put, List.setIfInBounds_toArray, List.set_cons_zero, List.set_cons_succ]
          refine anyL_take 16 (v := undef) rfl (by kernel_rfl) (fun _ _ _ h => h) (Or.inr ⟨by rfl, rfl⟩) hb4' ?_
          simp only [Act.put, List.setIfInBounds_toArray, List.set_cons_zero, List.set_cons_succ]
          refine anyL_take 17 (v := undef) rfl (by kernel_rfl) (fun _ _ _ h => h) (Or.inr ⟨by rfl, rfl⟩) hb4' ?_
          simp only [Act.put, List.setIfInBounds_toArray, List.set_cons_zero, List.set_cons_succ]
          refine anyL_take 18 (v := undef) rfl (by kernel_rfl) (fun _ _ _ h => h) (Or.inr ⟨by rfl, rfl⟩) hb4' ?_
          simp only [Act.put, List.setIfInBounds_toArray, List.set_cons_zero, List.set_cons_succ]
          refine anyL_take 19 (v := ?_) rfl (by kernel_rfl) (fun _ _ _ h => h) (Or.inl ⟨by rfl, ?_⟩) hb4' ?_
          rotate_left
          focus (intro W hW; go_simp; try with_reducible rfl)
          simp only [Act.put, List.setIfInBounds_toArray, List.set_cons_zero, List.set_cons_succ]
          refine anyL_take 20 (v := ?_) rfl (by kernel_rfl) (fun _ _ _ h => h) (Or.inl ⟨by rfl, ?_⟩) hb4' ?_
          rotate_left
          focus (intro W hW; go_simp; try with_reducible rfl)
          simp only [Act.put, List.setIfInBounds_toArray, List.set_cons_zero, List.set_cons_succ]
          refine anyC_done (by kernel_rfl) ?_ _
          simp only [Exit.then]
          refine fresh_K (fun W => SetAt W B t ∧ RefAt (B + 2) W (B + 1) A7 cap7 ys ∧ Below w.heap.size w W ∧ B + 2 ≤ W.heap.size) ?_ ?_
          · exact ⟨hS9H.out.below hb4', hR9H.out.below hb4', bmore hB9H.out hb4', by have := hb4'.size; omega⟩
          rintro W10 ⟨hS10, hR10, hB10, hsz10⟩
          have hS10H := Lib.hid hS10
          have hR10H := Lib.hid hR10
          clear hS10 hR10
          go_wp2
          go_roundw
          case rel => exact ⟨k + 1, t, A7, cap7, by omega, by omega, by go_num, hokt, hS10H.out, by rw [hetH.out]; exact hR10H.out, hB10, hsz10⟩
          case measure => simp [intOf]; omega
        · go_wp2_with fail
          refine region_anyC (fun _ => true) (fun W => Below W9.heap.size W9 W) (by kernel_rfl) ?_
          have hS0 : Below W9.heap.size W9 W9.drew := (Below.refl _ _).drew
          refine anyL_take 0 (v := ?_) rfl (by kernel_rfl) (fun _ _ _ h => h) (Or.inl ⟨by rfl, ?_⟩) hS0 ?_
          rotate_left
          focus (intro W hW; obtain ⟨k0, k1, k2, k3, k4, k5, k6, k7, k8⟩ := hfacts.out W hW; go_simp; try with_reducible rfl)
          simp only [Act.put, List.setIfInBounds_toArray, List.set_cons_zero, List.set_cons_succ]
          refine anyL_take 1 (v := ?_) rfl (by kernel_rfl) (fun _ _ _ h => h) (Or.inl ⟨by rfl, ?_⟩) hS0 ?_
          rotate_left
          focus (intro W hW; go_simp; try with_reducible rfl)
          simp only [Act.put, List.setIfInBounds_toArray, List.set_cons_zero, List.set_cons_succ]
          refine anyL_take 3 (v := ?_) rfl (by kernel_rfl) (fun _ _ _ h => h) (Or.inl ⟨by rfl, ?_⟩) hS0 ?_
          rotate_left
          focus (intro W hW; obtain ⟨k0, k1, k2, k3, k4, k5, k6, k7, k8⟩ := hfacts.out W hW; go_simp; try with_reducible rfl)
          simp only [Act.put, List.setIfInBounds_toArray, List.set_cons_zero, List.set_cons_succ]
          refine anyL_take 4 (v := ?_) rfl (by kernel_rfl) (fun _ _ _ h => h) (Or.inl ⟨by rfl, ?_⟩) hS0 ?_
          rotate_left
          focus (intro W hW; go_simp; try with_reducible rfl)
          simp only [Act.put, List.setIfInBounds_toArray, List.set_cons_zero, List.set_cons_succ]
          refine anyL_one 2 rfl (by kernel_rfl) (fun K hK => ?_)
          go_simp
          refine (hhas.out _).mono ?_
          rintro e' w1 ⟨rfl, hb1⟩
          have hb1' := hS0.trans (hb1.mono (by simp))
          dsimp only
          refine hK.out _ _ (fun _ => hb1') ?_
          clear hK K
          try simp only [Act.put, List.setIfInBounds_toArray, List.set_cons_zero, List.set_cons_succ]
          refine anyL_one 5 rfl (by kernel_rfl) (fun K hK => ?_)
          go_simp
          refine (hrhas.out _ hb1').mono ?_
          rintro e' w2 ⟨rfl, hb2⟩
          have hb2' := bmore hb1' hb2
          dsimp only
          refine hK.out _ _ (fun _ => hb2') ?_
          clear hK K
          try simp only [Act.put, List.setIfInBounds_toArray, List.set_cons_zero, List.set_cons_succ]
          refine anyL_take 6 (v := ?_) rfl (by kernel_rfl) (fun _ _ _ h => h) (Or.inl ⟨by rfl, ?_⟩) hb2' ?_
          rotate_left
          focus (intro W hW; go_simp; try with_reducible rfl)
          simp only [Act.put, List.setIfInBounds_toArray, List.set_cons_zero, List.set_cons_succ]
          refine anyL_take 7 (v := ?_) rfl (by kernel_rfl) (fun _ _ _ h => h) (Or.inl ⟨by rfl, ?_⟩) hb2' ?_
          rotate_left
          focus (intro W hW; go_simp; try with_reducible rfl)
          simp only [Act.put, List.setIfInBounds_toArray, List.set_cons_zero, List.set_cons_succ]
          refine anyL_take 8 (v := ?_) rfl (by kernel_rfl) (fun _ _ _ h => h) (Or.inl ⟨by rfl, ?_⟩) hb2' ?_
          rotate_left
          focus (intro W hW; obtain ⟨k0, k1, k2, k3, k4, k5, k6, k7, k8⟩ := hfacts.out W hW; go_simp; try with_reducible rfl)
          simp only [Act.put, List.setIfInBounds_toArray, List.set_cons_zero, List.set_cons_succ]
          refine anyL_take 9 (v := ?_) rfl (by kernel_rfl) (fun _ _ _ h => h) (Or.inl ⟨by rfl, ?_⟩) hb2' ?_
          rotate_left
          focus (intro W hW; go_simp; try with_reducible rfl)
          simp only [Act.put, List.setIfInBounds_toArray, List.set_cons_zero, List.set_cons_succ]
          refine anyL_take 11 (v := ?_) rfl (by kernel_rfl) (fun _ _ _ h => h) (Or.inl ⟨by rfl, ?_⟩) hb2' ?_
          rotate_left
          focus (intro W hW; obtain ⟨k0, k1, k2, k3, k4, k5, k6, k7, k8⟩ := hfacts.out W hW; go_simp; try with_reducible rfl)
          simp only [Act.put, List.setIfInBounds_toArray, List.set_cons_zero, List.set_cons_succ]
          refine anyL_take 12 (v := ?_) rfl (by kernel_rfl) (fun _ _ _ h => h) (Or.inl ⟨by rfl, ?_⟩) hb2' ?_
          rotate_left
          focus (intro W hW; go_simp; try with_reducible rfl)
          simp only [Act.put, List.setIfInBounds_toArray, List.set_cons_zero, List.set_cons_succ]
          refine anyL_one 10 rfl (by kernel_rfl) (fun K hK => ?_)
          go_simp
          refine (hask1.out _).mono ?_
          rintro e' w3 ⟨rfl, hb3⟩
          have hb3' := bmore hb2' hb3
          dsimp only
          refine hK.out _ _ (fun _ => hb3') ?_
          clear hK K
          try simp only [Act.put, List.setIfInBounds_toArray, List.set_cons_zero, List.set_cons_succ]
          refine anyL_one 13 rfl (by kernel_rfl) (fun K hK => ?_)
          go_simp
          refine (hask2.out _).mono ?_
          rintro e' w4 ⟨rfl, hb4⟩
          have hb4' := bmore hb3' hb4
          dsimp only
          refine hK.out _ _ (fun _ => hb4') ?_
          clear hK K
          try simp only [Act.put, List.setIfInBounds_toArray, List.set_cons_zero, List.set_cons_succ]
          refine anyL_take 14 (v := ?_) rfl (by kernel_rfl) (fun _ _ _ h => h) (Or.inl ⟨by rfl, ?_⟩) hb4' ?_
          rotate_left
          focus (intro W hW; go_simp; try with_reducible rfl)
          simp only [Act.put, List.setIfInBounds_toArray, List.set_cons_zero, List.set_cons_succ]
          refine anyL_take 15 (v := ?_) rfl (by kernel_rfl) (fun _ _ _ h => h) (Or.inl ⟨by rfl, ?_⟩) hb4' ?_
          rotate_left
          focus (intro W hW; go_simp; try with_reducible rfl)
          simp only [Act.put, List.setIfInBounds_toArray, List.set_cons_zero, List.set_cons_succ]
          refine anyL_take 16 (v := ?_) rfl (by kernel_rfl) (fun _ _ _ h => h) (Or.inl ⟨by rfl, ?_⟩) hb4' ?_
          rotate_left
          focus (intro W hW; go_simp; try with_reducible rfl)
          simp only [Act.put, List.setIfInBounds_toArray, List.set_cons_zero, List.set_cons_succ]
          refine anyL_take 17 (v := ?_) rfl (by kernel_rfl) (fun _ _ _ h => h) (Or.inl ⟨by rfl, ?_⟩) hb4' ?_
          rotate_left
          focus (intro W hW; go_simp; try with_reducible rfl)
          simp only [Act.put, List.setIfInBounds_toArray, List.set_cons_zero, List.set_cons_succ]
          refine anyL_take 18 (v := ?_) rfl (by kernel_rfl) (fun _ _ _ h => h) (Or.inl ⟨by rfl, ?_⟩) hb4' ?_
          rotate_left
          focus (intro W hW; go_simp; try with_reducible rfl)
          simp only [Act.put, List.setIfInBounds_toArray, List.set_cons_zero, List.set_cons_succ]
          refine anyL_take 19 (v := ?_) rfl (by kernel_rfl) (fun _ _ _ h => h) (Or.inl ⟨by rfl, ?_⟩) hb4' ?_
          rotate_left
          focus (intro W hW; go_simp; try with_reducible rfl)
          simp only [Act.put, List.setIfInBounds_toArray, List.set_cons_zero, List.set_cons_succ]
          refine anyL_take 20 (v := ?_) rfl (by kernel_rfl) (fun _ _ _ h => h) (Or.inl ⟨by rfl, ?_⟩) hb4' ?_
          rotate_left
          focus (intro W hW; go_simp; try with_reducible rfl)
          simp only [Act.put, List.setIfInBounds_toArray, List.set_cons_zero, List.set_cons_succ]
          refine anyC_done (by kernel_rfl) ?_ _
          simp only [Exit.then]
          refine fresh_K (fun W => SetAt W B t ∧ RefAt (B + 2) W (B + 1) A7 cap7 ys ∧ Below w.heap.size w W ∧ B + 2 ≤ W.heap.size) ?_ ?_
          · exact ⟨hS9H.out.below hb4', hR9H.out.below hb4', bmore hB9H.out hb4', by have := hb4'.size; omega⟩
          rintro W10 ⟨hS10, hR10, hB10, hsz10⟩
          have hS10H := Lib.hid hS10
          have hR10H := Lib.hid hR10
          clear hS10 hR10
          go_wp2
          go_roundw
          case rel => exact ⟨k + 1, t, A7, cap7, by omega, by omega, by go_num, hokt, hS10H.out, by rw [hetH.out]; exact hR10H.out, hB10, hsz10⟩
          case measure => simp [intOf]; omega
    · have hSH2 := Lib.hid hSH.out
      have hlist := Lib.hid (fun W => show Calls Try.prog 22 #[.agg #[.int .u64 (s.a : Int), .int .u64 (s.b : Int), .int .u64 (s.c : Int), .int .u64 (s.d : Int)]] W fun e w' => ∃ A2 c2, e = .returned (.slice A2 xs.length c2) ∧ IntsIn w' A2 xs ∧ Below W.heap.size W w' by
        refine (list_any s hok W).mono ?_
        rintro e w' ⟨v, rfl, hrow, _, hb⟩
        rw [hxsH.out] at hrow
        obtain ⟨A2, c2, rfl, hI2⟩ := ints_own hrow rfl
        exact ⟨A2, c2, rfl, hI2, hb⟩)
      have hints := Lib.hid (fun W (A2 : Option Addr) (c2 : Nat) (hb : Below wr.heap.size wr W) (hI2 : IntsIn W A2 xs) => show Calls Try.prog 21 #[.slice A2 xs.length c2, .slice A' xs.length cap'] W fun e w' => e = .returned (.bool true) ∧ Below W.heap.size W w' by
        have h := ints_any A2 A' c2 cap' xs xs W (by unfold maxLen; omega) (by unfold maxLen; omega) hI2 (hRH.out.2.2.ints.below hb)
        rwa [decide_eq_true rfl] at h)
      have hcount := Lib.hid (fun W => show Calls Try.prog 23 #[.agg #[.int .u64 (s.a : Int), .int .u64 (s.b : Int), .int .u64 (s.c : Int), .int .u64 (s.d : Int)]] W fun e w' => e = .returned (.int .i64 (xs.length : Int)) ∧ Below W.heap.size W w' by rw [← hxsH.out]; exact count_any s hok W)
      obtain ⟨nx, hnx⟩ : ∃ nx, nextL xs ask = nx := ⟨_, rfl⟩
      have hnext := Lib.hid (fun W => show Calls Try.prog 24 #[.agg #[.int .u64 (s.a : Int), .int .u64 (s.b : Int), .int .u64 (s.c : Int), .int .u64 (s.d : Int)], .int .i64 ask] W fun e w' => e = .returned (.int .i64 nx) ∧ Below W.heap.size W w' by rw [← hnx, ← hxsH.out]; exact next_any s hok ask W)
      have hrnext := Lib.hid (fun W (hb : Below wr.heap.size wr W) => show Calls Try.prog 25 #[.agg #[.slice A' xs.length cap'], .int .i64 ask] W fun e w' => e = .returned (.int .i64 nx) ∧ Below W.heap.size W w' by rw [← hnx]; exact refnext_any A' cap' xs ask W (by unfold maxLen; omega) (hRH.out.2.2.ints.below hb))
      obtain ⟨z, hz1, hz2⟩ : ∃ z, s.hasI ask = z ∧ decide (ask ∈ xs) = z := ⟨_, rfl, by rw [← hxsH.out]; have := elems_mem' s ask; cases h : s.hasI ask <;> simp_all⟩
      have hhas := Lib.hid (fun W => show Calls Try.prog 19 #[.agg #[.int .u64 (s.a : Int), .int .u64 (s.b : Int), .int .u64 (s.c : Int), .int .u64 (s.d : Int)], .int .i64 ask] W fun e w' => e = .returned (.bool z) ∧ Below W.heap.size W w' by rw [← hz1]; exact has_any s hok ask W)
      have hrhas := Lib.hid (fun W (hb : Below wr.heap.size wr W) => show Calls Try.prog 20 #[.agg #[.slice A' xs.length cap'], .int .i64 ask] W fun e w' => e = .returned (.bool z) ∧ Below W.heap.size W w' by rw [← hz2]; exact refhas_any A' cap' xs ask W (by unfold maxLen; omega) (hRH.out.2.2.ints.below hb))
      clear hz1 hz2 hnx hxsH
      have hfx : ∀ W, Below wr.heap.size wr W → (W.cell? ⟨B, 0, none⟩ = some (.int .u64 (s.a : Int)) ∧ W.cell? ⟨B, 1, none⟩ = some (.int .u64 (s.b : Int)) ∧ W.cell? ⟨B, 2, none⟩ = some (.int .u64 (s.c : Int)) ∧ W.cell? ⟨B, 3, none⟩ = some (.int .u64 (s.d : Int)) ∧ W.cell? ⟨B + 1, 0, none⟩ = some (.slice A' xs.length cap')) := fun W hb =>
        have h1 := hSH.out.below hb
        ⟨h1.1, h1.2.1, h1.2.2.1, h1.2.2.2.1, (hRH.out.below hb).1⟩
      have hfacts := Lib.hid hfx
      have hBH := Lib.hid hB
      clear hfx c0 c1 c2 c3 hB hSH hRH
      by_cases hlt : k < acts.length
      · have hlt3 : ¬ k < 300 := fun h => hrun ⟨hlt, h⟩
        clear hrun
        go_wp2_with fail
        refine region_anyC (fun _ => true) (fun W => Below wr.heap.size wr W) (by kernel_rfl) ?_
        have hS0 : Below wr.heap.size wr wr.drew := (Below.refl _ _).drew
        refine anyL_take 0 (v := ?_) rfl (by kernel_rfl) (fun _ _ _ h => h) (Or.inl ⟨by rfl, ?_⟩) hS0 ?_
        rotate_left
        focus (intro W hW; obtain ⟨k0, k1, k2, k3, k4⟩ := hfacts.out W hW; go_simp; try with_reducible rfl)
        simp only [Act.put, List.setIfInBounds_toArray, List.set_cons_zero, List.set_cons_succ]
        refine anyL_take 2 (v := ?_) rfl (by kernel_rfl) (fun _ _ _ h => h) (Or.inl ⟨by rfl, ?_⟩) hS0 ?_
        rotate_left
        focus (intro W hW; go_simp; try with_reducible rfl)
        simp only [Act.put, List.setIfInBounds_toArray, List.set_cons_zero, List.set_cons_succ]
        refine anyL_take 3 (v := ?_) rfl (by kernel_rfl) (fun _ _ _ h => h) (Or.inl ⟨by rfl, ?_⟩) hS0 ?_
        rotate_left
        focus (intro W hW; obtain ⟨k0, k1, k2, k3, k4⟩ := hfacts.out W hW; go_simp; try with_reducible rfl)
        simp only [Act.put, List.setIfInBounds_toArray, List.set_cons_zero, List.set_cons_succ]
        refine anyL_one 1 rfl (by kernel_rfl) (fun K hK => ?_)
        go_simp
        refine (hlist.out _).mono ?_
        rintro e' v1 ⟨A2, cc2, rfl, hI2, hd1⟩
        have he1 := hS0.trans (hd1.mono (by simp))
        dsimp only
        refine hK.out _ _ (fun _ => he1) ?_
        clear hK K
        try simp only [Act.put, List.setIfInBounds_toArray, List.set_cons_zero, List.set_cons_succ]
        refine anyL_one 4 rfl (by kernel_rfl) (fun K hK => ?_)
        go_simp
        refine (hints.out _ A2 cc2 he1 hI2).mono ?_
        rintro e' v2 ⟨rfl, hd2⟩
        have he2 := bmore he1 hd2
        dsimp only
        refine hK.out _ _ (fun _ => he2) ?_
        clear hK K
        try simp only [Act.put, List.setIfInBounds_toArray, List.set_cons_zero, List.set_cons_succ]
        refine anyL_take 5 (v := ?_) rfl (by kernel_rfl) (fun _ _ _ h => h) (Or.inl ⟨by rfl, ?_⟩) he2 ?_
        rotate_left
        focus (intro W hW; go_simp; try with_reducible rfl)
        simp only [Act.put, List.setIfInBounds_toArray, List.set_cons_zero, List.set_cons_succ]
        refine anyL_take 6 (v := ?_) rfl (by kernel_rfl) (fun _ _ _ h => h) (Or.inl ⟨by rfl, ?_⟩) he2 ?_
        rotate_left
        focus (intro W hW; obtain ⟨k0, k1, k2, k3, k4⟩ := hfacts.out W hW; go_simp; try with_reducible rfl)
        simp only [Act.put, List.setIfInBounds_toArray, List.set_cons_zero, List.set_cons_succ]
        refine anyL_take 8 (v := ?_) rfl (by kernel_rfl) (fun _ _ _ h => h) (Or.inl ⟨by rfl, ?_⟩) he2 ?_
        rotate_left
        focus (intro W hW; go_simp; try with_reducible rfl)
        simp only [Act.put, List.setIfInBounds_toArray, List.set_cons_zero, List.set_cons_succ]
        refine anyL_take 9 (v := ?_) rfl (by kernel_rfl) (fun _ _ _ h => h) (Or.inl ⟨by rfl, ?_⟩) he2 ?_
        rotate_left
        focus (intro W hW; obtain ⟨k0, k1, k2, k3, k4⟩ := hfacts.out W hW; go_simp; try with_reducible rfl)
        simp only [Act.put, List.setIfInBounds_toArray, List.set_cons_zero, List.set_cons_succ]
        refine anyL_take 10 (v := ?_) rfl (by kernel_rfl) (fun _ _ _ h => h) (Or.inl ⟨by rfl, ?_⟩) he2 ?_
        rotate_left
        focus (intro W hW; go_simp; try with_reducible rfl)
        simp only [Act.put, List.setIfInBounds_toArray, List.set_cons_zero, List.set_cons_succ]
        refine anyL_one 7 rfl (by kernel_rfl) (fun K hK => ?_)
        go_simp
        refine (hcount.out _).mono ?_
        rintro e' v3 ⟨rfl, hd3⟩
        have he3 := bmore he2 hd3
        dsimp only
        refine hK.out _ _ (fun _ => he3) ?_
        clear hK K
        try simp only [Act.put, List.setIfInBounds_toArray, List.set_cons_zero, List.set_cons_succ]
        refine anyL_take 11 (v := ?_) rfl (by kernel_rfl) (fun _ _ _ h => h) (Or.inl ⟨by rfl, ?_⟩) he3 ?_
        rotate_left
        focus (intro W hW; go_simp; try with_reducible rfl)
        simp only [Act.put, List.setIfInBounds_toArray, List.set_cons_zero, List.set_cons_succ]
        refine anyL_take 12 (v := ?_) rfl (by kernel_rfl) (fun _ _ _ h => h) (Or.inl ⟨by rfl, ?_⟩) he3 ?_
        rotate_left
        focus (intro W hW; go_simp; try with_reducible rfl)
        simp only [Act.put, List.setIfInBounds_toArray, List.set_cons_zero, List.set_cons_succ]
        refine anyL_take 13 (v := ?_) rfl (by kernel_rfl) (fun _ _ _ h => h) (Or.inl ⟨by rfl, ?_⟩) he3 ?_
        rotate_left
        focus (intro W hW; go_simp; try with_reducible rfl)
        simp only [Act.put, List.setIfInBounds_toArray, List.set_cons_zero, List.set_cons_succ]
        refine anyL_take 14 (v := ?_) rfl (by kernel_rfl) (fun _ _ _ h => h) (Or.inl ⟨by rfl, ?_⟩) he3 ?_
        rotate_left
        focus (intro W hW; obtain ⟨k0, k1, k2, k3, k4⟩ := hfacts.out W hW; go_simp; try with_reducible rfl)
        simp only [Act.put, List.setIfInBounds_toArray, List.set_cons_zero, List.set_cons_succ]
        refine anyL_take 15 (v := ?_) rfl (by kernel_rfl) (fun _ _ _ h => h) (Or.inl ⟨by rfl, ?_⟩) he3 ?_
        rotate_left
        focus (intro W hW; go_simp; try with_reducible rfl)
        simp only [Act.put, List.setIfInBounds_toArray, List.set_cons_zero, List.set_cons_succ]
        refine anyL_take 17 (v := ?_) rfl (by kernel_rfl) (fun _ _ _ h => h) (Or.inl ⟨by rfl, ?_⟩) he3 ?_
        rotate_left
        focus (intro W hW; obtain ⟨k0, k1, k2, k3, k4⟩ := hfacts.out W hW; go_simp; try with_reducible rfl)
        simp only [Act.put, List.setIfInBounds_toArray, List.set_cons_zero, List.set_cons_succ]
        refine anyL_take 18 (v := ?_) rfl (by kernel_rfl) (fun _ _ _ h => h) (Or.inl ⟨by rfl, ?_⟩) he3 ?_
        rotate_left
        focus (intro W hW; go_simp; try with_reducible rfl)
        simp only [Act.put, List.setIfInBounds_toArray, List.set_cons_zero, List.set_cons_succ]
        refine anyL_one 16 rfl (by kernel_rfl) (fun K hK => ?_)
        go_simp
        refine (hnext.out _).mono ?_
        rintro e' v4 ⟨rfl, hd4⟩
        have he4 := bmore he3 hd4
        dsimp only
        refine hK.out _ _ (fun _ => he4) ?_
        clear hK K
        try simp only [Act.put, List.setIfInBounds_toArray, List.set_cons_zero, List.set_cons_succ]
        refine anyL_one 19 rfl (by kernel_rfl) (fun K hK => ?_)
        go_simp
        refine (hrnext.out _ he4).mono ?_
        rintro e' v5 ⟨rfl, hd5⟩
        have he5 := bmore he4 hd5
        dsimp only
        refine hK.out _ _ (fun _ => he5) ?_
        clear hK K
        try simp only [Act.put, List.setIfInBounds_toArray, List.set_cons_zero, List.set_cons_succ]
        refine anyL_take 20 (v := ?_) rfl (by kernel_rfl) (fun _ _ _ h => h) (Or.inl ⟨by rfl, ?_⟩) he5 ?_
        rotate_left
        focus (intro W hW; go_simp; try with_reducible rfl)
        simp only [Act.put, List.setIfInBounds_toArray, List.set_cons_zero, List.set_cons_succ]
        refine anyL_take 21 (v := ?_) rfl (by kernel_rfl) (fun _ _ _ h => h) (Or.inl ⟨by rfl, ?_⟩) he5 ?_
        rotate_left
        focus (intro W hW; go_simp; try with_reducible rfl)
        simp only [Act.put, List.setIfInBounds_toArray, List.set_cons_zero, List.set_cons_succ]
        refine anyL_take 22 (v := ?_) rfl (by kernel_rfl) (fun _ _ _ h => h) (Or.inl ⟨by rfl, ?_⟩) he5 ?_
        rotate_left
        focus (intro W hW; go_simp; try with_reducible rfl)
        simp only [Act.put, List.setIfInBounds_toArray, List.set_cons_zero, List.set_cons_succ]
        refine anyL_take 23 (v := ?_) rfl (by kernel_rfl) (fun _ _ _ h => h) (Or.inl ⟨by rfl, ?_⟩) he5 ?_
        rotate_left
        focus (intro W hW; obtain ⟨k0, k1, k2, k3, k4⟩ := hfacts.out W hW; go_simp; try with_reducible rfl)
        simp only [Act.put, List.setIfInBounds_toArray, List.set_cons_zero, List.set_cons_succ]
        refine anyL_take 24 (v := ?_) rfl (by kernel_rfl) (fun _ _ _ h => h) (Or.inl ⟨by rfl, ?_⟩) he5 ?_
        rotate_left
        focus (intro W hW; go_simp; try with_reducible rfl)
        simp only [Act.put, List.setIfInBounds_toArray, List.set_cons_zero, List.set_cons_succ]
        refine anyL_take 26 (v := ?_) rfl (by kernel_rfl) (fun _ _ _ h => h) (Or.inl ⟨by rfl, ?_⟩) he5 ?_
        rotate_left
        focus (intro W hW; obtain ⟨k0, k1, k2, k3, k4⟩ := hfacts.out W hW; go_simp; try with_reducible rfl)
        simp only [Act.put, List.setIfInBounds_toArray, List.set_cons_zero, List.set_cons_succ]
        refine anyL_take 27 (v := ?_) rfl (by kernel_rfl) (fun _ _ _ h => h) (Or.inl ⟨by rfl, ?_⟩) he5 ?_
        rotate_left
        focus (intro W hW; go_simp; try with_reducible rfl)
        simp only [Act.put, List.setIfInBounds_toArray, List.set_cons_zero, List.set_cons_succ]
        refine anyL_one 25 rfl (by kernel_rfl) (fun K hK => ?_)
        go_simp
        refine (hhas.out _).mono ?_
        rintro e' v6 ⟨rfl, hd6⟩
        have he6 := bmore he5 hd6
        dsimp only
        refine hK.out _ _ (fun _ => he6) ?_
        clear hK K
        try simp only [Act.put, List.setIfInBounds_toArray, List.set_cons_zero, List.set_cons_succ]
        refine anyL_one 28 rfl (by kernel_rfl) (fun K hK => ?_)
        go_simp
        refine (hrhas.out _ he6).mono ?_
        rintro e' v7 ⟨rfl, hd7⟩
        have he7 := bmore he6 hd7
        dsimp only
        refine hK.out _ _ (fun _ => he7) ?_
        clear hK K
        try simp only [Act.put, List.setIfInBounds_toArray, List.set_cons_zero, List.set_cons_succ]
        refine anyL_take 29 (v := ?_) rfl (by kernel_rfl) (fun _ _ _ h => h) (Or.inl ⟨by rfl, ?_⟩) he7 ?_
        rotate_left
        focus (intro W hW; go_simp; try with_reducible rfl)
        simp only [Act.put, List.setIfInBounds_toArray, List.set_cons_zero, List.set_cons_succ]
        refine anyL_take 30 (v := ?_) rfl (by kernel_rfl) (fun _ _ _ h => h) (Or.inl ⟨by rfl, ?_⟩) he7 ?_
        rotate_left
        focus (intro W hW; go_simp; try with_reducible rfl)
        simp only [Act.put, List.setIfInBounds_toArray, List.set_cons_zero, List.set_cons_succ]
        refine anyL_take 31 (v := ?_) rfl (by kernel_rfl) (fun _ _ _ h => h) (Or.inl ⟨by rfl, ?_⟩) he7 ?_
        rotate_left
        focus (intro W hW; go_simp; try with_reducible rfl)
        simp only [Act.put, List.setIfInBounds_toArray, List.set_cons_zero, List.set_cons_succ]
        refine anyC_done (by kernel_rfl) ?_ _
        simp only [Exit.then]
        refine fresh_K (fun W => Below w.heap.size w W) (bmore hBH.out he7) ?_
        rintro W10 hB10
        go_wp2
        go_ret
        exact ⟨rfl, hB10⟩
      · clear hrun
        go_wp2_with fail
        refine region_anyC (fun _ => true) (fun W => Below wr.heap.size wr W) (by kernel_rfl) ?_
        have hS0 : Below wr.heap.size wr wr.drew := (Below.refl _ _).drew
        refine anyL_take 0 (v := ?_) rfl (by kernel_rfl) (fun _ _ _ h => h) (Or.inl ⟨by rfl, ?_⟩) hS0 ?_
        rotate_left
        focus (intro W hW; obtain ⟨k0, k1, k2, k3, k4⟩ := hfacts.out W hW; go_simp; try with_reducible rfl)
        simp only [Act.put, List.setIfInBounds_toArray, List.set_cons_zero, List.set_cons_succ]
        refine anyL_take 2 (v := ?_) rfl (by kernel_rfl) (fun _ _ _ h => h) (Or.inl ⟨by rfl, ?_⟩) hS0 ?_
        rotate_left
        focus (intro W hW; go_simp; try with_reducible rfl)
        simp only [Act.put, List.setIfInBounds_toArray, List.set_cons_zero, List.set_cons_succ]
        refine anyL_take 3 (v := ?_) rfl (by kernel_rfl) (fun _ _ _ h => h) (Or.inl ⟨by rfl, ?_⟩) hS0 ?_
        rotate_left
        focus (intro W hW; obtain ⟨k0, k1, k2, k3, k4⟩ := hfacts.out W hW; go_simp; try with_reducible rfl)
        simp only [Act.put, List.setIfInBounds_toArray, List.set_cons_zero, List.set_cons_succ]
        refine anyL_one 1 rfl (by kernel_rfl) (fun K hK => ?_)
        go_simp
        refine (hlist.out _).mono ?_
        rintro e' v1 ⟨A2, cc2, rfl, hI2, hd1⟩
        have he1 := hS0.trans (hd1.mono (by simp))
        dsimp only
        refine hK.out _ _ (fun _ => he1) ?_
        clear hK K
        try simp only [Act.put, List.setIfInBounds_toArray, List.set_cons_zero, List.set_cons_succ]
        refine anyL_one 4 rfl (by kernel_rfl) (fun K hK => ?_)
        go_simp
        refine (hints.out _ A2 cc2 he1 hI2).mono ?_
        rintro e' v2 ⟨rfl, hd2⟩
        have he2 := bmore he1 hd2
        dsimp only
        refine hK.out _ _ (fun _ => he2) ?_
        clear hK K
        try simp only [Act.put, List.setIfInBounds_toArray, List.set_cons_zero, List.set_cons_succ]
        refine anyL_take 5 (v := ?_) rfl (by kernel_rfl) (fun _ _ _ h => h) (Or.inl ⟨by rfl, ?_⟩) he2 ?_
        rotate_left
        focus (intro W hW; go_simp; try with_reducible rfl)
        simp only [Act.put, List.setIfInBounds_toArray, List.set_cons_zero, List.set_cons_succ]
        refine anyL_take 6 (v := ?_) rfl (by kernel_rfl) (fun _ _ _ h => h) (Or.inl ⟨by rfl, ?_⟩) he2 ?_
        rotate_left
        focus (intro W hW; obtain ⟨k0, k1, k2, k3, k4⟩ := hfacts.out W hW; go_simp; try with_reducible rfl)
        simp only [Act.put, List.setIfInBounds_toArray, List.set_cons_zero, List.set_cons_succ]
        refine anyL_take 8 (v := ?_) rfl (by kernel_rfl) (fun _ _ _ h => h) (Or.inl ⟨by rfl, ?_⟩) he2 ?_
        rotate_left
        focus (intro W hW; go_simp; try with_reducible rfl)
        simp only [Act.put, List.setIfInBounds_toArray, List.set_cons_zero, List.set_cons_succ]
        refine anyL_take 9 (v := ?_) rfl (by kernel_rfl) (fun _ _ _ h => h) (Or.inl ⟨by rfl, ?_⟩) he2 ?_
        rotate_left
        focus (intro W hW; obtain ⟨k0, k1, k2, k3, k4⟩ := hfacts.out W hW; go_simp; try with_reducible rfl)
        simp only [Act.put, List.setIfInBounds_toArray, List.set_cons_zero, List.set_cons_succ]
        refine anyL_take 10 (v := ?_) rfl (by kernel_rfl) (fun _ _ _ h => h) (Or.inl ⟨by rfl, ?_⟩) he2 ?_
        rotate_left
        focus (intro W hW; go_simp; try with_reducible rfl)
        simp only [Act.put, List.setIfInBounds_toArray, List.set_cons_zero, List.set_cons_succ]
        refine anyL_one 7 rfl (by kernel_rfl) (fun K hK => ?_)
        go_simp
        refine (hcount.out _).mono ?_
        rintro e' v3 ⟨rfl, hd3⟩
        have he3 := bmore he2 hd3
        dsimp only
        refine hK.out _ _ (fun _ => he3) ?_
        clear hK K
        try simp only [Act.put, List.setIfInBounds_toArray, List.set_cons_zero, List.set_cons_succ]
        refine anyL_take 11 (v := ?_) rfl (by kernel_rfl) (fun _ _ _ h => h) (Or.inl ⟨by rfl, ?_⟩) he3 ?_
        rotate_left
        focus (intro W hW; go_simp; try with_reducible rfl)
        simp only [Act.put, List.setIfInBounds_toArray, List.set_cons_zero, List.set_cons_succ]
        refine anyL_take 12 (v := ?_) rfl (by kernel_rfl) (fun _ _ _ h => h) (Or.inl ⟨by rfl, ?_⟩) he3 ?_
        rotate_left
        focus (intro W hW; go_simp; try with_reducible rfl)
        simp only [Act.put, List.setIfInBounds_toArray, List.set_cons_zero, List.set_cons_succ]
        refine anyL_take 13 (v := ?_) rfl (by kernel_rfl) (fun _ _ _ h => h) (Or.inl ⟨by rfl, ?_⟩) he3 ?_
        rotate_left
        focus (intro W hW; go_simp; try with_reducible rfl)
        simp only [Act.put, List.setIfInBounds_toArray, List.set_cons_zero, List.set_cons_succ]
        refine anyL_take 14 (v := ?_) rfl (by kernel_rfl) (fun _ _ _ h => h) (Or.inl ⟨by rfl, ?_⟩) he3 ?_
        rotate_left
        focus (intro W hW; obtain ⟨k0, k1, k2, k3, k4⟩ := hfacts.out W hW; go_simp; try with_reducible rfl)
        simp only [Act.put, List.setIfInBounds_toArray, List.set_cons_zero, List.set_cons_succ]
        refine anyL_take 15 (v := ?_) rfl (by kernel_rfl) (fun _ _ _ h => h) (Or.inl ⟨by rfl, ?_⟩) he3 ?_
        rotate_left
        focus (intro W hW; go_simp; try with_reducible rfl)
        simp only [Act.put, List.setIfInBounds_toArray, List.set_cons_zero, List.set_cons_succ]
        refine anyL_take 17 (v := ?_) rfl (by kernel_rfl) (fun _ _ _ h => h) (Or.inl ⟨by rfl, ?_⟩) he3 ?_
        rotate_left
        focus (intro W hW; obtain ⟨k0, k1, k2, k3, k4⟩ := hfacts.out W hW; go_simp; try with_reducible rfl)
        simp only [Act.put, List.setIfInBounds_toArray, List.set_cons_zero, List.set_cons_succ]
        refine anyL_take 18 (v := ?_) rfl (by kernel_rfl) (fun _ _ _ h => h) (Or.inl ⟨by rfl, ?_⟩) he3 ?_
        rotate_left
        focus (intro W hW; go_simp; try with_reducible rfl)
        simp only [Act.put, List.setIfInBounds_toArray, List.set_cons_zero, List.set_cons_succ]
        refine anyL_one 16 rfl (by kernel_rfl) (fun K hK => ?_)
        go_simp
        refine (hnext.out _).mono ?_
        rintro e' v4 ⟨rfl, hd4⟩
        have he4 := bmore he3 hd4
        dsimp only
        refine hK.out _ _ (fun _ => he4) ?_
        clear hK K
        try simp only [Act.put, List.setIfInBounds_toArray, List.set_cons_zero, List.set_cons_succ]
        refine anyL_one 19 rfl (by kernel_rfl) (fun K hK => ?_)
        go_simp
        refine (hrnext.out _ he4).mono ?_
        rintro e' v5 ⟨rfl, hd5⟩
        have he5 := bmore he4 hd5
        dsimp only
        refine hK.out _ _ (fun _ => he5) ?_
        clear hK K
        try simp only [Act.put, List.setIfInBounds_toArray, List.set_cons_zero, List.set_cons_succ]
        refine anyL_take 20 (v := ?_) rfl (by kernel_rfl) (fun _ _ _ h => h) (Or.inl ⟨by rfl, ?_⟩) he5 ?_
        rotate_left
        focus (intro W hW; go_simp; try with_reducible rfl)
        simp only [Act.put, List.setIfInBounds_toArray, List.set_cons_zero, List.set_cons_succ]
        refine anyL_take 21 (v := ?_) rfl (by kernel_rfl) (fun _ _ _ h => h) (Or.inl ⟨by rfl, ?_⟩) he5 ?_
        rotate_left
        focus (intro W hW; go_simp; try with_reducible rfl)
        simp only [Act.put, List.setIfInBounds_toArray, List.set_cons_zero, List.set_cons_succ]
        refine anyL_take 22 (v := ?_) rfl (by kernel_rfl) (fun _ _ _ h => h) (Or.inl ⟨by rfl, ?_⟩) he5 ?_
        rotate_left
        focus (intro W hW; go_simp; try with_reducible rfl)
        simp only [Act.put, List.setIfInBounds_toArray, List.set_cons_zero, List.set_cons_succ]
        refine anyL_take 23 (v := ?_) rfl (by kernel_rfl) (fun _ _ _ h => h) (Or.inl ⟨by rfl, ?_⟩) he5 ?_
        rotate_left
        focus (intro W hW; obtain ⟨k0, k1, k2, k3, k4⟩ := hfacts.out W hW; go_simp; try with_reducible rfl)
        simp only [Act.put, List.setIfInBounds_toArray, List.set_cons_zero, List.set_cons_succ]
        refine anyL_take 24 (v := ?_) rfl (by kernel_rfl) (fun _ _ _ h => h) (Or.inl ⟨by rfl, ?_⟩) he5 ?_
        rotate_left
        focus (intro W hW; go_simp; try with_reducible rfl)
        simp only [Act.put, List.setIfInBounds_toArray, List.set_cons_zero, List.set_cons_succ]
        refine anyL_take 26 (v := ?_) rfl (by kernel_rfl) (fun _ _ _ h => h) (Or.inl ⟨by rfl, ?_⟩) he5 ?_
        rotate_left
        focus (intro W hW; obtain ⟨k0, k1, k2, k3, k4⟩ := hfacts.out W hW; go_simp; try with_reducible rfl)
        simp only [Act.put, List.setIfInBounds_toArray, List.set_cons_zero, List.set_cons_succ]
        refine anyL_take 27 (v := ?_) rfl (by kernel_rfl) (fun _ _ _ h => h) (Or.inl ⟨by rfl, ?_⟩) he5 ?_
        rotate_left
        focus (intro W hW; go_simp; try with_reducible rfl)
        simp only [Act.put, List.setIfInBounds_toArray, List.set_cons_zero, List.set_cons_succ]
        refine anyL_one 25 rfl (by kernel_rfl) (fun K hK => ?_)
        go_simp
        refine (hhas.out _).mono ?_
        rintro e' v6 ⟨rfl, hd6⟩
        have he6 := bmore he5 hd6
        dsimp only
        refine hK.out _ _ (fun _ => he6) ?_
        clear hK K
        try simp only [Act.put, List.setIfInBounds_toArray, List.set_cons_zero, List.set_cons_succ]
        refine anyL_one 28 rfl (by kernel_rfl) (fun K hK => ?_)
        go_simp
        refine (hrhas.out _ he6).mono ?_
        rintro e' v7 ⟨rfl, hd7⟩
        have he7 := bmore he6 hd7
        dsimp only
        refine hK.out _ _ (fun _ => he7) ?_
        clear hK K
        try simp only [Act.put, List.setIfInBounds_toArray, List.set_cons_zero, List.set_cons_succ]
        refine anyL_take 29 (v := ?_) rfl (by kernel_rfl) (fun _ _ _ h => h) (Or.inl ⟨by rfl, ?_⟩) he7 ?_
        rotate_left
        focus (intro W hW; go_simp; try with_reducible rfl)
        simp only [Act.put, List.setIfInBounds_toArray, List.set_cons_zero, List.set_cons_succ]
        refine anyL_take 30 (v := ?_) rfl (by kernel_rfl) (fun _ _ _ h => h) (Or.inl ⟨by rfl, ?_⟩) he7 ?_
        rotate_left
        focus (intro W hW; go_simp; try with_reducible rfl)
        simp only [Act.put, List.setIfInBounds_toArray, List.set_cons_zero, List.set_cons_succ]
        refine anyL_take 31 (v := ?_) rfl (by kernel_rfl) (fun _ _ _ h => h) (Or.inl ⟨by rfl, ?_⟩) he7 ?_
        rotate_left
        focus (intro W hW; go_simp; try with_reducible rfl)
        simp only [Act.put, List.setIfInBounds_toArray, List.set_cons_zero, List.set_cons_succ]
        refine anyC_done (by kernel_rfl) ?_ _
        simp only [Exit.then]
        refine fresh_K (fun W => Below w.heap.size w W) (bmore hBH.out he7) ?_
        rintro W10 hB10
        go_wp2
        go_ret
        exact ⟨rfl, hB10⟩
end Go.Proofs.Ytdiefdijhghefaa
