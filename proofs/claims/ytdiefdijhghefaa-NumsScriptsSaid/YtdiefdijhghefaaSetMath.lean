/- Plain facts on a set of numbers below 256 as four words of 64 bits. -/
namespace Go.Proofs.Ytdiefdijhghefaa.Sets

structure W4 where
  a : Nat
  b : Nat
  c : Nat
  d : Nat
def W4.ok (s : W4) : Prop := s.a < 2 ^ 64 ∧ s.b < 2 ^ 64 ∧ s.c < 2 ^ 64 ∧ s.d < 2 ^ 64
def W4.zero : W4 := ⟨0, 0, 0, 0⟩
def W4.get (s : W4) (j : Nat) : Nat := if j = 0 then s.a else if j = 1 then s.b else if j = 2 then s.c else s.d
def W4.set (s : W4) (j x : Nat) : W4 := if j = 0 then { s with a := x } else if j = 1 then { s with b := x } else if j = 2 then { s with c := x } else { s with d := x }
def W4.has (s : W4) (n : Nat) : Bool := decide (n < 256) && (s.get (n / 64)).testBit (n % 64)
def W4.put (s : W4) (n : Nat) : W4 := s.set (n / 64) (s.get (n / 64) ||| 2 ^ (n % 64))
def W4.del (s : W4) (n : Nat) : W4 := s.set (n / 64) (s.get (n / 64) &&& (2 ^ 64 - 1 - 2 ^ (n % 64)))
def W4.withI (s : W4) (n : Int) : W4 := if 0 ≤ n ∧ n < 256 then s.put n.toNat else s
def W4.lessI (s : W4) (n : Int) : W4 := if 0 ≤ n ∧ n < 256 then s.del n.toNat else s
def W4.hasI (s : W4) (n : Int) : Bool := decide (0 ≤ n) && s.has n.toNat

theorem W4.get_set (s : W4) (j x k : Nat) (hj : j < 4) (hk : k < 4) : (s.set j x).get k = if k = j then x else s.get k := by
  unfold W4.set W4.get
  rcases (by omega : j = 0 ∨ j = 1 ∨ j = 2 ∨ j = 3) with rfl | rfl | rfl | rfl <;> rcases (by omega : k = 0 ∨ k = 1 ∨ k = 2 ∨ k = 3) with rfl | rfl | rfl | rfl <;> simp
theorem W4.get_lt {s : W4} (h : s.ok) (j : Nat) : s.get j < 2 ^ 64 := by
  unfold W4.get
  obtain ⟨h1, h2, h3, h4⟩ := h
  split
  · exact h1
  split
  · exact h2
  split
  · exact h3
  · exact h4
theorem W4.set_ok {s : W4} (h : s.ok) (j : Nat) {x : Nat} (hx : x < 2 ^ 64) : (s.set j x).ok := by
  unfold W4.set
  obtain ⟨h1, h2, h3, h4⟩ := h
  split
  · exact ⟨hx, h2, h3, h4⟩
  split
  · exact ⟨h1, hx, h3, h4⟩
  split
  · exact ⟨h1, h2, hx, h4⟩
  · exact ⟨h1, h2, h3, hx⟩
theorem pow_lt (n : Nat) : 2 ^ (n % 64) < 2 ^ 64 := Nat.pow_lt_pow_right (by omega) (Nat.mod_lt _ (by omega))
theorem W4.put_ok {s : W4} (h : s.ok) (n : Nat) : (s.put n).ok := W4.set_ok h _ (Nat.or_lt_two_pow (W4.get_lt h _) (pow_lt n))
theorem W4.del_ok {s : W4} (h : s.ok) (n : Nat) : (s.del n).ok := W4.set_ok h _ (Nat.lt_of_le_of_lt Nat.and_le_left (W4.get_lt h _))
theorem W4.withI_ok {s : W4} (h : s.ok) (n : Int) : (s.withI n).ok := by
  unfold W4.withI
  split
  · exact W4.put_ok h _
  · exact h
theorem W4.lessI_ok {s : W4} (h : s.ok) (n : Int) : (s.lessI n).ok := by
  unfold W4.lessI
  split
  · exact W4.del_ok h _
  · exact h
theorem W4.zero_ok : W4.zero.ok := by unfold W4.ok W4.zero; decide

theorem not_bit (r i : Nat) (hr : r < 64) : (2 ^ 64 - 1 - 2 ^ r).testBit i = (decide (i < 64) && decide (i ≠ r)) := by
  have h := Nat.testBit_two_pow_sub_succ (x := 2 ^ r) (n := 64) (Nat.pow_lt_pow_right (by omega) hr) i
  rw [show 2 ^ 64 - (2 ^ r + 1) = 2 ^ 64 - 1 - 2 ^ r by omega] at h
  rw [h, Nat.testBit_two_pow]
  congr 1
  by_cases e : r = i
  · simp [e]
  · simp [e, Ne.symm e]

theorem W4.has_put (s : W4) (n m : Nat) (hn : n < 256) : (s.put n).has m = (s.has m || decide (m = n)) := by
  unfold W4.has W4.put
  by_cases hm : m < 256
  · rw [W4.get_set _ _ _ _ (by omega) (by omega)]
    by_cases hj : m / 64 = n / 64
    · rw [if_pos hj, Nat.testBit_or, Nat.testBit_two_pow, hj]
      have : decide (n % 64 = m % 64) = decide (m = n) := by rw [decide_eq_decide]; omega
      rw [this]; simp [hm]
    · rw [if_neg hj]
      have : m ≠ n := by rintro rfl; exact hj rfl
      simp [this]
  · have : m ≠ n := by omega
    simp [hm, this]
theorem W4.has_del (s : W4) (n m : Nat) (hn : n < 256) : (s.del n).has m = (s.has m && decide (m ≠ n)) := by
  unfold W4.has W4.del
  by_cases hm : m < 256
  · rw [W4.get_set _ _ _ _ (by omega) (by omega)]
    by_cases hj : m / 64 = n / 64
    · rw [if_pos hj, Nat.testBit_and, not_bit _ _ (by omega), hj]
      have : decide (m % 64 ≠ n % 64) = decide (m ≠ n) := by rw [decide_eq_decide]; omega
      rw [this, decide_eq_true (show m % 64 < 64 by omega)]; simp [hm]
    · rw [if_neg hj]
      have : m ≠ n := by rintro rfl; exact hj rfl
      simp [this]
  · simp [hm]
theorem W4.has_zero (n : Nat) : W4.zero.has n = false := by
  unfold W4.has W4.zero W4.get; simp
theorem W4.ext {s t : W4} (hs : s.ok) (ht : t.ok) (h : ∀ n, n < 256 → s.has n = t.has n) : s = t := by
  have hw : ∀ j, j < 4 → s.get j = t.get j := fun j hj => by
    apply Nat.eq_of_testBit_eq
    intro i
    by_cases hi : i < 64
    · have := h (64 * j + i) (by omega)
      unfold W4.has at this
      rw [show (64 * j + i) / 64 = j by omega, show (64 * j + i) % 64 = i by omega] at this
      simpa [show 64 * j + i < 256 by omega] using this
    · have h1 : 2 ^ 64 ≤ 2 ^ i := Nat.pow_le_pow_right (by omega) (by omega)
      rw [Nat.testBit_lt_two_pow (Nat.lt_of_lt_of_le (W4.get_lt hs j) h1), Nat.testBit_lt_two_pow (Nat.lt_of_lt_of_le (W4.get_lt ht j) h1)]
  have h0 := hw 0 (by omega); have h1 := hw 1 (by omega); have h2 := hw 2 (by omega); have h3 := hw 3 (by omega)
  unfold W4.get at h0 h1 h2 h3
  simp at h0 h1 h2 h3
  cases s; cases t
  simp at h0 h1 h2 h3
  simp [h0, h1, h2, h3]
/-- Adding what is there makes no other set, and only that. -/
theorem W4.put_same {s : W4} (h : s.ok) (n : Nat) (hn : n < 256) : s.put n = s ↔ s.has n = true := by
  constructor
  · intro e
    have := W4.has_put s n n hn
    rw [e] at this
    simpa using this
  · intro e
    refine W4.ext (W4.put_ok h n) h fun m _ => ?_
    rw [W4.has_put s n m hn]
    by_cases hm : m = n
    · subst hm; simp [e]
    · simp [hm]
theorem W4.hasI_withI {s : W4} (n m : Int) : (s.withI n).hasI m = (s.hasI m || (decide (0 ≤ n ∧ n < 256) && decide (m = n))) := by
  unfold W4.withI W4.hasI
  by_cases hn : 0 ≤ n ∧ n < 256
  · rw [if_pos hn, decide_eq_true hn, W4.has_put _ _ _ (by omega)]
    by_cases hm : 0 ≤ m
    · have : decide (m.toNat = n.toNat) = decide (m = n) := by rw [decide_eq_decide]; omega
      rw [this]; simp [hm]
    · have : m ≠ n := by omega
      simp [hm, this]
  · rw [if_neg hn, decide_eq_false hn]; simp
theorem W4.hasI_lessI {s : W4} (n m : Int) : (s.lessI n).hasI m = (s.hasI m && !(decide (0 ≤ n ∧ n < 256) && decide (m = n))) := by
  unfold W4.lessI W4.hasI
  by_cases hn : 0 ≤ n ∧ n < 256
  · rw [if_pos hn, decide_eq_true hn, W4.has_del _ _ _ (by omega)]
    by_cases hm : 0 ≤ m
    · have : decide (m.toNat ≠ n.toNat) = !decide (m = n) := by
        by_cases e : m = n
        · simp [e]
        · have : m.toNat ≠ n.toNat := by omega
          simp [e, this]
      rw [this]; simp [hm]
    · simp [hm]
  · rw [if_neg hn, decide_eq_false hn]; simp
theorem W4.hasI_range {s : W4} {n : Int} (h : s.hasI n = true) : 0 ≤ n ∧ n < 256 := by
  unfold W4.hasI W4.has at h
  simp at h
  omega
theorem W4.hasI_zero (n : Int) : W4.zero.hasI n = false := by unfold W4.hasI; rw [W4.has_zero]; simp
theorem W4.extI {s t : W4} (hs : s.ok) (ht : t.ok) (h : ∀ n : Int, s.hasI n = t.hasI n) : s = t :=
  W4.ext hs ht fun n _ => by have := h n; unfold W4.hasI at this; simpa using this
theorem W4.withI_same {s : W4} (h : s.ok) (n : Int) (hn : 0 ≤ n ∧ n < 256) : s.withI n = s ↔ s.hasI n = true := by
  unfold W4.withI W4.hasI
  rw [if_pos hn, W4.put_same h _ (by omega)]
  simp [hn.1]

end Go.Proofs.Ytdiefdijhghefaa.Sets
