/- Where one stands among the steps of a write; the same without notes. -/
import Derived.Test.YtpgnajcbahklgaaPlM
namespace Go.Proofs.Ytpgnajcbahklgaa
namespace Pl
open Tl
def pStep (w z b : Nat) : St := ⟨2, par w z (b / w), ((b / w : Nat) : Int), 0, 0⟩
def nStep (w z b : Nat) : St := ⟨3, par w z (b / w), ((b / w : Nat) : Int), 0, ((b % w + 1 : Nat) : Int)⟩
/-- Ahead of a block's step. -/
def Aft (w z e : Nat) (L : List St) (i b : Nat) : Prop := b ≤ e ∧ L.drop i = steps w z e b (e - b) ∧ (b = e → e % w = 0)
/-- Between a block's step and what comes behind it. -/
def Mid (w z e : Nat) (L : List St) (i b : Nat) : Prop := b < e ∧ L.drop i = beh w z e b ++ steps w z e (b + 1) (e - (b + 1)) ∧ beh w z e b ≠ []
theorem aft_start {w z f n : Nat} (hn : 0 < n) : Aft w z (f + n) (steps w z (f + n) f n) 0 f := ⟨by omega, by rw [List.drop_zero, Nat.add_sub_cancel_left], fun h => by omega⟩
theorem drop_at {α : Type} {L : List α} {i : Nat} {x : α} {r : List α} (h : L.drop i = x :: r) : ∃ hi : i < L.length, L[i] = x ∧ L.drop (i + 1) = r := by
  have hi : i < L.length := by
    rcases Nat.lt_or_ge i L.length with h1 | h1
    · exact h1
    · rw [List.drop_eq_nil_of_le h1] at h; cases h
  rw [List.drop_eq_getElem_cons hi] at h
  injection h with h1 h2
  exact ⟨hi, h1, h2⟩
theorem beh_nil {w z e b : Nat} (h : beh w z e b = []) : b % w + 1 ≠ w ∧ b + 1 ≠ e := by
  unfold beh at h
  by_cases h1 : b % w + 1 = w
  · rw [if_pos h1] at h; cases h
  · rw [if_neg h1] at h
    by_cases h2 : b + 1 = e
    · rw [if_pos h2] at h; cases h
    · exact ⟨h1, h2⟩
theorem Aft.next {w z e : Nat} {L : List St} {i b : Nat} (h : Aft w z e L i b) (hi : i < L.length) :
    b < e ∧ L[i] = dat w z b ∧ ((Aft w z e L (i + 1) (b + 1) ∧ b % w + 1 ≠ w ∧ b + 1 < e) ∨ Mid w z e L (i + 1) b) := by
  obtain ⟨h1, h2, h3⟩ := h
  have hlt : b < e := by
    rcases Nat.lt_or_ge b e with h4 | h4
    · exact h4
    · rw [show e - b = 0 by omega, steps, List.drop_eq_nil_iff] at h2; omega
  rw [show e - b = (e - (b + 1)) + 1 by omega, steps] at h2
  obtain ⟨hi', e1, e2⟩ := drop_at h2
  refine ⟨hlt, e1, ?_⟩
  by_cases hb : beh w z e b = []
  · left
    obtain ⟨n1, n2⟩ := beh_nil hb
    exact ⟨⟨by omega, by rw [e2, hb, List.nil_append], fun h => by omega⟩, n1, by omega⟩
  · right; exact ⟨hlt, e2, hb⟩
theorem Aft.done {w z e : Nat} {L : List St} {i b : Nat} (h : Aft w z e L i b) (hi : ¬ i < L.length) : b = e ∧ e % w = 0 := by
  obtain ⟨h1, h2, h3⟩ := h
  rcases Nat.lt_or_ge b e with h4 | h4
  · rw [List.drop_eq_nil_of_le (by omega), show e - b = (e - (b + 1)) + 1 by omega, steps] at h2; cases h2
  · exact ⟨by omega, h3 (by omega)⟩
theorem Mid.next {w z e : Nat} {L : List St} {i b : Nat} (h : Mid w z e L i b) :
    ∃ hi : i < L.length, b < e ∧ ((L[i] = pStep w z b ∧ b % w + 1 = w ∧ Aft w z e L (i + 1) (b + 1)) ∨ (L[i] = nStep w z b ∧ b % w + 1 ≠ w ∧ b + 1 = e ∧ i + 1 = L.length)) := by
  obtain ⟨h1, h2, h3⟩ := h
  unfold beh at h2 h3
  by_cases hf : b % w + 1 = w
  · rw [if_pos hf] at h2
    obtain ⟨hi, e1, e2⟩ := drop_at h2
    refine ⟨hi, h1, .inl ⟨e1, hf, by omega, e2, fun h => ?_⟩⟩
    rw [← h]
    exact (div_full (by omega) hf).2
  · rw [if_neg hf] at h2 h3
    by_cases hl : b + 1 = e
    · rw [if_pos hl] at h2
      obtain ⟨hi, e1, e2⟩ := drop_at h2
      refine ⟨hi, h1, .inr ⟨e1, hf, hl, ?_⟩⟩
      rw [show e - (b + 1) = 0 by omega, steps] at e2
      have := List.drop_eq_nil_iff.1 e2
      omega
    · rw [if_neg hl] at h3; exact absurd rfl h3
/-- Without notes. -/
def nn (l : List St) : List St := l.filter fun s => decide (s.k ≠ 3)
theorem nn_append (a b : List St) : nn (a ++ b) = nn a ++ nn b := List.filter_append a b
theorem nn_beh (w z e e' b : Nat) : nn (beh w z e b) = nn (beh w z e' b) := by
  unfold beh nn
  by_cases h1 : b % w + 1 = w
  · rw [if_pos h1, if_pos h1]
  · rw [if_neg h1, if_neg h1]
    split <;> split <;> rfl
theorem nn_steps (w z e e' : Nat) : ∀ n f, nn (steps w z e f n) = nn (steps w z e' f n)
  | 0, _ => rfl
  | n + 1, f => by
    have h1 : ∀ e, steps w z e f (n + 1) = [dat w z f] ++ (beh w z e f ++ steps w z e (f + 1) n) := fun e => rfl
    rw [h1, h1, nn_append, nn_append, nn_append, nn_append, nn_beh w z e e', nn_steps w z e e' n (f + 1)]
/-- Written as two it is the same, but for a note. -/
theorem nn_two (w z f a n : Nat) : nn (steps w z (f + a + n) f (a + n)) = nn (steps w z (f + a) f a ++ steps w z (f + a + n) (f + a) n) := by
  rw [steps_add, nn_append, nn_append, nn_steps w z (f + a + n) (f + a) a f]
theorem steps_pos {w z e n f : Nat} (h : 0 < n) : 0 < (steps w z e f n).length := by
  cases n with
  | zero => omega
  | succ n => rw [steps, List.length_cons]; omega
theorem last_two {w z f a n : Nat} (hn : 0 < n) :
    ∃ (h1 : (steps w z (f + a + n) f (a + n)).length - 1 < (steps w z (f + a + n) f (a + n)).length) (h2 : (steps w z (f + a + n) (f + a) n).length - 1 < (steps w z (f + a + n) (f + a) n).length),
      (steps w z (f + a + n) f (a + n))[(steps w z (f + a + n) f (a + n)).length - 1] = (steps w z (f + a + n) (f + a) n)[(steps w z (f + a + n) (f + a) n).length - 1] := by
  have hp := steps_pos (w := w) (z := z) (e := f + a + n) (n := n) (f := f + a) hn
  have hL : (steps w z (f + a + n) f (a + n)) = steps w z (f + a + n) f a ++ steps w z (f + a + n) (f + a) n := steps_add a f n
  have hl := congrArg List.length hL
  rw [List.length_append] at hl
  have h1 : (steps w z (f + a + n) f (a + n)).length - 1 < (steps w z (f + a + n) f (a + n)).length := by omega
  have h2 : (steps w z (f + a + n) (f + a) n).length - 1 < (steps w z (f + a + n) (f + a) n).length := by omega
  refine ⟨h1, h2, (List.getElem_eq_iff h1).2 ?_⟩
  rw [hl]
  rw [hL, List.getElem?_append_right (by omega), show (steps w z (f + a + n) f a).length + (steps w z (f + a + n) (f + a) n).length - 1 - (steps w z (f + a + n) f a).length = (steps w z (f + a + n) (f + a) n).length - 1 by omega]
  exact List.getElem?_eq_getElem h2
end Pl
end Go.Proofs.Ytpgnajcbahklgaa
