/- Has and possible. -/
import Derived.Test.YtpmhfalhieinjaaBkWalks
namespace Go.Proofs.Ytpmhfalhieinjaa
open Go.RowKit Rec Bk

set_option maxRecDepth 100000 in
theorem has_anyB (w : World) (A1 : Option Addr) (c1 : Nat) (A2 : Option Addr) (c2 : Nat) (b : Bo) (s p : Int) :
    Calls Try.prog 17 #[.agg #[.int .i64 b.q, .slice A1 b.zs.length c1, .slice A2 b.ms.length c2, .int .i64 b.sl, .int .i64 b.cu], .int .i64 s, .int .i64 p] w fun e w' => e = .returned (.bool (hasB b s p)) ∧ Below w.heap.size w w' := by
  have hii := Lib.hid (fun W => isIndex_any s b.ms.length W)
  unfold hasB
  generalize b.zs.length = n1
  generalize b.ms.length = n2 at hii ⊢
  by_cases h1 : 0 ≤ s ∧ s < (n2 : Int)
  · rw [decide_eq_true h1] at hii
    by_cases h2 : s = b.sl
    · have h2' : (s != b.sl) = false := by simp [h2]
      by_cases h3 : p < b.cu
      · rw [decide_eq_true ⟨h1.1, h1.2, .inr h3⟩]
        have h3' : decide (p < b.cu) = true := decide_eq_true h3
        clear h1 h2
        go_enter Try.func17, Try.ntmps17
        go_wp2_with (go_at_call 30; refine (hii.out _).mono ?_; rintro e w1 ⟨rfl, rfl⟩)
        go_ret
        exact ⟨rfl, (Below.refl _ _).alloc (Nat.le_refl _) _⟩
      · rw [decide_eq_false (by rintro ⟨_, _, h | h⟩; exact h h2; exact h3 h)]
        have h3' : decide (p < b.cu) = false := decide_eq_false h3
        clear h1 h2
        go_enter Try.func17, Try.ntmps17
        go_wp2_with (go_at_call 30; refine (hii.out _).mono ?_; rintro e w1 ⟨rfl, rfl⟩)
        go_ret
        exact ⟨rfl, (Below.refl _ _).alloc (Nat.le_refl _) _⟩
    · rw [decide_eq_true ⟨h1.1, h1.2, .inl h2⟩]
      have h2' : (s != b.sl) = true := by simp [h2]
      clear h1 h2
      go_enter Try.func17, Try.ntmps17
      go_wp2_with (go_at_call 30; refine (hii.out _).mono ?_; rintro e w1 ⟨rfl, rfl⟩)
      go_ret
      exact ⟨rfl, (Below.refl _ _).alloc (Nat.le_refl _) _⟩
  · rw [decide_eq_false h1] at hii
    rw [decide_eq_false (fun h => h1 ⟨h.1, h.2.1⟩)]
    clear h1
    go_enter Try.func17, Try.ntmps17
    go_wp2_with (go_at_call 30; refine (hii.out _).mono ?_; rintro e w1 ⟨rfl, rfl⟩)
    go_ret
    exact ⟨rfl, (Below.refl _ _).alloc (Nat.le_refl _) _⟩
set_option maxRecDepth 100000 in
set_option maxHeartbeats 1000000 in
theorem possible_any (D Z B O A : Int) (x : Rc) (w : World) (hD : 0 ≤ D ∧ D ≤ 100) :
    Calls Try.prog 22 #[.agg #[.int .i64 D, .int .i64 Z, .int .i64 B, .int .i64 O, .int .i64 A], .agg #[.int .i64 x.k, .int .i64 x.s, .int .i64 x.a, .int .i64 x.b, .int .i64 x.c, .int .i64 x.d, .string x.body]] w fun e w' => e = .returned (.bool (possB D Z x)) ∧ Below w.heap.size w w' := by
  unfold possB possP
  by_cases h3 : x.k = 3
  · have k3 : (x.k == 3) = true := by simp [h3]
    simp only [if_pos h3]
    clear h3
    by_cases a1 : 2 ≤ x.b
    · have a1' : decide (2 ≤ x.b) = true := decide_eq_true a1
      by_cases a2 : x.b < Z
      · have a2' : decide (x.b < Z) = true := decide_eq_true a2
        by_cases a3 : 0 ≤ x.d
        · have a3' : decide (0 ≤ x.d) = true := decide_eq_true a3
          by_cases a4 : x.d ≤ 2
          · have a4' : decide (x.d ≤ 2) = true := decide_eq_true a4
            rw [decide_eq_true (show 2 ≤ x.b ∧ x.b < Z ∧ 0 ≤ x.d ∧ x.d ≤ 2 by omega)]
            go_enter Try.func22, Try.ntmps22
            go_wp2_with fail
            go_ret
            exact ⟨rfl, ((Below.refl _ _).alloc (Nat.le_refl _) _).alloc (by simp) _⟩
          · have a4' : decide (x.d ≤ 2) = false := decide_eq_false a4
            rw [decide_eq_false (show ¬ (2 ≤ x.b ∧ x.b < Z ∧ 0 ≤ x.d ∧ x.d ≤ 2) by omega)]
            go_enter Try.func22, Try.ntmps22
            go_wp2_with fail
            go_ret
            exact ⟨rfl, ((Below.refl _ _).alloc (Nat.le_refl _) _).alloc (by simp) _⟩
        · have a3' : decide (0 ≤ x.d) = false := decide_eq_false a3
          rw [decide_eq_false (show ¬ (2 ≤ x.b ∧ x.b < Z ∧ 0 ≤ x.d ∧ x.d ≤ 2) by omega)]
          go_enter Try.func22, Try.ntmps22
          go_wp2_with fail
          go_ret
          exact ⟨rfl, ((Below.refl _ _).alloc (Nat.le_refl _) _).alloc (by simp) _⟩
      · have a2' : decide (x.b < Z) = false := decide_eq_false a2
        rw [decide_eq_false (show ¬ (2 ≤ x.b ∧ x.b < Z ∧ 0 ≤ x.d ∧ x.d ≤ 2) by omega)]
        go_enter Try.func22, Try.ntmps22
        go_wp2_with fail
        go_ret
        exact ⟨rfl, ((Below.refl _ _).alloc (Nat.le_refl _) _).alloc (by simp) _⟩
    · have a1' : decide (2 ≤ x.b) = false := decide_eq_false a1
      rw [decide_eq_false (show ¬ (2 ≤ x.b ∧ x.b < Z ∧ 0 ≤ x.d ∧ x.d ≤ 2) by omega)]
      go_enter Try.func22, Try.ntmps22
      go_wp2_with fail
      go_ret
      exact ⟨rfl, ((Below.refl _ _).alloc (Nat.le_refl _) _).alloc (by simp) _⟩
  have k3 : (x.k == 3) = false := by simp [h3]
  simp only [if_neg h3]
  clear h3
  by_cases h5 : x.k = 5
  · have k5 : (x.k == 5) = true := by simp [h5]
    simp only [if_pos h5]
    have hii := Lib.hid (fun W => isIndex_any x.b (D + 1) W)
    generalize decide (0 ≤ x.b ∧ x.b < D + 1) = t at hii ⊢
    clear h5
    go_enter Try.func22, Try.ntmps22
    go_wp2_with (go_at_call 30; refine (hii.out _).mono ?_; rintro e w1 ⟨rfl, rfl⟩)
    go_ret
    exact ⟨rfl, ((Below.refl _ _).alloc (Nat.le_refl _) _).alloc (by simp) _⟩
  have k5 : (x.k == 5) = false := by simp [h5]
  simp only [if_neg h5]
  clear h5
  by_cases ha : x.a = 65535
  · have ka : (x.a == 65535) = true := by simp [ha]
    simp only [if_pos ha]
    have e : decide (x.b = 0) = (x.b == 0) := rfl
    rw [e]
    clear e ha
    go_enter Try.func22, Try.ntmps22
    go_wp2_with fail
    go_ret
    exact ⟨rfl, ((Below.refl _ _).alloc (Nat.le_refl _) _).alloc (by simp) _⟩
  have ka : (x.a == 65535) = false := by simp [ha]
  simp only [if_neg ha]
  clear ha
  have hii := Lib.hid (fun W => isIndex_any x.a D W)
  by_cases a0 : 0 ≤ x.a ∧ x.a < D
  · rw [decide_eq_true a0] at hii
    by_cases a1 : 0 ≤ x.b
    · have a1' : decide (0 ≤ x.b) = true := decide_eq_true a1
      by_cases a2 : x.b ≤ Z
      · have a2' : decide (x.b ≤ Z) = true := decide_eq_true a2
        rw [decide_eq_true (show 0 ≤ x.a ∧ x.a < D ∧ 0 ≤ x.b ∧ x.b ≤ Z from ⟨a0.1, a0.2, a1, a2⟩)]
        clear a0
        go_enter Try.func22, Try.ntmps22
        go_wp2_with (go_at_call 30; refine (hii.out _).mono ?_; rintro e w1 ⟨rfl, rfl⟩)
        go_ret
        exact ⟨rfl, ((Below.refl _ _).alloc (Nat.le_refl _) _).alloc (by simp) _⟩
      · have a2' : decide (x.b ≤ Z) = false := decide_eq_false a2
        rw [decide_eq_false (show ¬ (0 ≤ x.a ∧ x.a < D ∧ 0 ≤ x.b ∧ x.b ≤ Z) from fun h => a2 h.2.2.2)]
        clear a0
        go_enter Try.func22, Try.ntmps22
        go_wp2_with (go_at_call 30; refine (hii.out _).mono ?_; rintro e w1 ⟨rfl, rfl⟩)
        go_ret
        exact ⟨rfl, ((Below.refl _ _).alloc (Nat.le_refl _) _).alloc (by simp) _⟩
    · have a1' : decide (0 ≤ x.b) = false := decide_eq_false a1
      rw [decide_eq_false (show ¬ (0 ≤ x.a ∧ x.a < D ∧ 0 ≤ x.b ∧ x.b ≤ Z) from fun h => a1 h.2.2.1)]
      clear a0
      go_enter Try.func22, Try.ntmps22
      go_wp2_with (go_at_call 30; refine (hii.out _).mono ?_; rintro e w1 ⟨rfl, rfl⟩)
      go_ret
      exact ⟨rfl, ((Below.refl _ _).alloc (Nat.le_refl _) _).alloc (by simp) _⟩
  · rw [decide_eq_false a0] at hii
    rw [decide_eq_false (show ¬ (0 ≤ x.a ∧ x.a < D ∧ 0 ≤ x.b ∧ x.b ≤ Z) from fun h => a0 ⟨h.1, h.2.1⟩)]
    clear a0
    go_enter Try.func22, Try.ntmps22
    go_wp2_with (go_at_call 30; refine (hii.out _).mono ?_; rintro e w1 ⟨rfl, rfl⟩)
    go_ret
    exact ⟨rfl, ((Below.refl _ _).alloc (Nat.le_refl _) _).alloc (by simp) _⟩
end Go.Proofs.Ytpmhfalhieinjaa
