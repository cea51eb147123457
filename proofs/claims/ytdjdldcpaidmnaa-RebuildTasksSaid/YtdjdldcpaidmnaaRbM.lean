/- The tasks of the slots of a zone, plainly: each block that was written is one of them, and a parity for each full row. -/
import Derived.Test.YtdjdldcpaidmnaaMdE
namespace Go.Proofs.Ytdjdldcpaidmnaa
namespace Rb
open Tl Pl Md
/-- A block lies within what its slot has just where it was written. -/
theorem lt_len {wd z r k : Nat} (hw : 0 < wd) (h : ((k / wd : Nat) : Int) < len wd z r (sl wd z k)) : k < r := by
  rcases Nat.lt_or_ge k r with h1 | h1
  · exact h1
  · exfalso
    have h2 : r / wd ≤ k / wd := Nat.div_le_div_right h1
    have h3 := (len_bd wd z r (sl wd z k)).2
    have h4 : ((if r % wd = 0 then 0 else 1 : Int)) ≤ 1 := by split <;> omega
    have e : r / wd = k / wd := by omega
    have m1 := Nat.div_add_mod k wd
    have m2 := Nat.div_add_mod r wd
    rw [e] at m2
    unfold len at h
    rw [if_neg, e] at h
    · omega
    · intro hi
      obtain ⟨j, hj, e2⟩ := inRow_iff.1 hi
      have hlt := Nat.mod_lt k hw
      have hlt2 := Nat.mod_lt r hw
      have : j = k % wd := by
        refine slotK_inj (D := (wd : Int) + 1) (zone := (z : Int)) (row := ((k / wd : Nat) : Int)) (by omega) (by omega) (by omega) ?_
        rw [← e, e2]
        unfold sl
        rw [e]
      omega
/-- In how many of the first so many rows a slot has the parity. -/
def pc (wd z : Nat) (s : Int) : Nat → Nat
  | 0 => 0
  | i + 1 => pc wd z s i + if par wd z i = s then 1 else 0
/-- In how many a slot ahead of s has it. -/
def pT (wd z : Nat) (s : Int) : Nat → Nat
  | 0 => 0
  | i + 1 => pT wd z s i + if par wd z i < s then 1 else 0
theorem pT_zero (wd z : Nat) : ∀ i, pT wd z 0 i = 0
  | 0 => rfl
  | i + 1 => by
    have := par_bd wd z i
    unfold pT
    rw [pT_zero wd z i, if_neg (by omega)]
theorem pT_all (wd z : Nat) : ∀ i, pT wd z ((wd + 1 : Nat) : Int) i = i
  | 0 => rfl
  | i + 1 => by
    have := par_bd wd z i
    unfold pT
    rw [pT_all wd z i, if_pos (by omega)]
theorem pT_next (wd z : Nat) (s : Int) : ∀ i, pT wd z (s + 1) i = pT wd z s i + pc wd z s i
  | 0 => rfl
  | i + 1 => by
    unfold pT pc
    rw [pT_next wd z s i]
    by_cases h1 : par wd z i = s
    · rw [if_pos (by omega), if_neg (by omega), if_pos h1]; omega
    · rw [if_neg h1]
      by_cases h2 : par wd z i < s
      · rw [if_pos (by omega), if_pos h2]; omega
      · rw [if_neg (by omega), if_neg h2]; omega
theorem pc_le (wd z : Nat) (s : Int) : ∀ i, pc wd z s i ≤ i
  | 0 => Nat.le_refl _
  | i + 1 => by
    have := pc_le wd z s i
    unfold pc
    split <;> omega
theorem pT_le (wd z : Nat) (s : Int) : ∀ i, pT wd z s i ≤ i
  | 0 => Nat.le_refl _
  | i + 1 => by
    have := pT_le wd z s i
    unfold pT
    split <;> omega
/-- The rows of a slot have its parities of the full rows. -/
theorem pc_len {wd z r n : Nat} {s : Int} (hw : 0 < wd) (hn : len wd z r s = (n : Int)) : pc wd z s n = pc wd z s (r / wd) := by
  unfold len at hn
  by_cases h : inRow wd z (r / wd) (r % wd) s = true
  · rw [if_pos h] at hn
    have e : n = r / wd + 1 := by omega
    rw [e]
    show pc wd z s (r / wd) + (if par wd z (r / wd) = s then 1 else 0) = _
    rw [if_neg, Nat.add_zero]
    intro hp
    obtain ⟨k, hk, e2⟩ := inRow_iff.1 h
    have := Nat.mod_lt r hw
    exact slotK_par (D := (wd : Int) + 1) (zone := (z : Int)) (row := ((r / wd : Nat) : Int)) (by omega) (k := k) (by omega) (e2.trans hp.symm)
  · rw [if_neg h] at hn
    have e : n = r / wd := by omega
    rw [e]
/-- Which blocks were seen when the slots ahead of s were gone through, and the first i rows of s. -/
def seenB (wd z r s i b : Nat) : Bool := decide (b < r ∧ (sl wd z b < (s : Int) ∨ (sl wd z b = (s : Int) ∧ b / wd < i)))
theorem seen_zero (wd z r b : Nat) : seenB wd z r 0 0 b = false := by
  have h1 := sl_bd wd z b
  refine decide_eq_false ?_
  rintro ⟨_, h2 | ⟨_, h3⟩⟩
  · omega
  · exact Nat.not_lt_zero _ h3
theorem seen_slot {wd z r s n b : Nat} (hn : len wd z r (s : Int) = (n : Int)) : seenB wd z r s n b = seenB wd z r (s + 1) 0 b := by
  unfold seenB
  rw [Bool.eq_iff_iff]
  simp only [decide_eq_true_eq]
  constructor
  · rintro ⟨h1, h2⟩
    exact ⟨h1, .inl (by rcases h2 with h2 | ⟨h2, _⟩ <;> omega)⟩
  · rintro ⟨h1, h2⟩
    refine ⟨h1, ?_⟩
    rcases h2 with h2 | ⟨_, h2⟩
    · by_cases e : sl wd z b = (s : Int)
      · right
        have h3 := len_gt (wd := wd) (z := z) h1
        rw [e, hn] at h3
        exact ⟨e, Int.ofNat_lt.1 h3⟩
      · left; omega
    · exact absurd h2 (Nat.not_lt_zero _)
/-- A row in which the slot has the parity. -/
theorem seen_par {wd z r s i b : Nat} (hw : 0 < wd) (hp : par wd z i = (s : Int)) : seenB wd z r s (i + 1) b = seenB wd z r s i b := by
  unfold seenB
  rw [Bool.eq_iff_iff]
  simp only [decide_eq_true_eq]
  constructor
  · rintro ⟨h1, h2⟩
    refine ⟨h1, ?_⟩
    rcases h2 with h2 | ⟨h2, h3⟩
    · exact .inl h2
    · right
      refine ⟨h2, ?_⟩
      rcases Nat.lt_or_ge (b / wd) i with h4 | h4
      · exact h4
      · exfalso
        have e : b / wd = i := by omega
        have := par_ne (z := z) (b := b) hw
        rw [e, hp, h2] at this
        exact this rfl
  · rintro ⟨h1, h2⟩
    exact ⟨h1, by omega⟩
/-- A row in which the slot has block k of the row. -/
theorem seen_new {wd z r s i k : Nat} (hw : 0 < wd) (hk : k < wd) (hs : slotK ((wd : Int) + 1) (z : Int) (i : Int) k = (s : Int)) : seenB wd z r s i (i * wd + k) = false := by
  obtain ⟨e1, e2⟩ := base_div (q := i) hw hk
  have e : sl wd z (i * wd + k) = (s : Int) := by unfold sl; rw [e1, e2, hs]
  refine decide_eq_false ?_
  rw [e, e1]
  omega
theorem seen_blk {wd z r s i k b : Nat} (hw : 0 < wd) (hk : k < wd) (hs : slotK ((wd : Int) + 1) (z : Int) (i : Int) k = (s : Int)) (hr : i * wd + k < r) : seenB wd z r s (i + 1) b = (seenB wd z r s i b || decide (b = i * wd + k)) := by
  obtain ⟨e1, e2⟩ := base_div (q := i) hw hk
  have e : sl wd z (i * wd + k) = (s : Int) := by unfold sl; rw [e1, e2, hs]
  unfold seenB
  rw [Bool.eq_iff_iff]
  simp only [decide_eq_true_eq, Bool.or_eq_true]
  constructor
  · rintro ⟨h1, h2⟩
    rcases h2 with h2 | ⟨h2, h3⟩
    · exact .inl ⟨h1, .inl h2⟩
    · rcases Nat.lt_or_ge (b / wd) i with h4 | h4
      · exact .inl ⟨h1, .inr ⟨h2, h4⟩⟩
      · right
        have e3 : b / wd = i := by omega
        have hm := Nat.mod_lt b hw
        have : b % wd = k := by
          refine slotK_inj (D := (wd : Int) + 1) (zone := (z : Int)) (row := (i : Int)) (by omega) (by omega) (by omega) ?_
          rw [hs, ← h2]
          unfold sl
          rw [e3]
        have d := Nat.div_add_mod b wd
        rw [e3, this, Nat.mul_comm] at d
        omega
  · rintro (⟨h1, h2⟩ | rfl)
    · exact ⟨h1, by omega⟩
    · exact ⟨hr, .inr ⟨e, by rw [e1]; omega⟩⟩
/-- What a slot has in a row: the parity, or a block. -/
theorem back_of {wd z i s : Nat} (hw : 0 < wd) (hs : s < wd + 1) : (par wd z i = (s : Int)) ∨ (par wd z i ≠ (s : Int) ∧ ∃ k, k < wd ∧ slotK ((wd : Int) + 1) (z : Int) (i : Int) k = (s : Int)) := by
  rcases slotK_all (D := (wd : Int) + 1) (zone := (z : Int)) (row := (i : Int)) (s := (s : Int)) (by omega) (by omega) with e | ⟨k, hk, e⟩
  · exact .inl e.symm
  · refine .inr ⟨fun hp => ?_, k, by omega, e⟩
    exact slotK_par (D := (wd : Int) + 1) (by omega) (k := k) hk (e.trans hp.symm)
theorem blk_lt {wd z r s i k : Nat} (hw : 0 < wd) (hk : k < wd) (hs : slotK ((wd : Int) + 1) (z : Int) (i : Int) k = (s : Int)) (hi : (i : Int) < len wd z r (s : Int)) : i * wd + k < r := by
  obtain ⟨e1, e2⟩ := base_div (q := i) hw hk
  have e : sl wd z (i * wd + k) = (s : Int) := by unfold sl; rw [e1, e2, hs]
  exact lt_len (z := z) hw (by rw [e, e1]; exact hi)
end Rb
end Go.Proofs.Ytdjdldcpaidmnaa
