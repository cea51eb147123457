/- What is to be done with a zone, plainly. -/
import Derived.Test.YtdjdldcpaidmnaaNLn
namespace Go.Proofs.Ytdjdldcpaidmnaa
namespace Md
open Tl Pl
/-- Is the slot's length not the one that is wanted? -/
def bad (want ls : List Int) (m : Int) (s : Nat) : Bool := decide ((s : Int) ≠ m ∧ ls.getD s 0 ≠ want.getD s 0)
/-- The slots, of the first so many, whose length is not the one that is wanted. -/
def unl (want ls : List Int) (m : Int) : Nat → List Int
  | 0 => []
  | n + 1 => unl want ls m n ++ if bad want ls m n = true then [(n : Int)] else []
theorem unl_mem {want ls : List Int} {m : Int} {x : Int} : ∀ {n : Nat}, x ∈ unl want ls m n → ∃ s : Nat, s < n ∧ x = (s : Int) ∧ bad want ls m s = true
  | 0, h => by cases h
  | n + 1, h => by
    unfold unl at h
    rcases List.mem_append.1 h with h | h
    · obtain ⟨s, h1, h2, h3⟩ := unl_mem h
      exact ⟨s, by omega, h2, h3⟩
    · by_cases hb : bad want ls m n = true
      · rw [if_pos hb] at h
        exact ⟨n, by omega, List.mem_singleton.1 h, hb⟩
      · rw [if_neg hb] at h; cases h
theorem unl_has {want ls : List Int} {m : Int} {s : Nat} (hb : bad want ls m s = true) : ∀ {n : Nat}, s < n → (s : Int) ∈ unl want ls m n
  | 0, h => by cases h
  | n + 1, h => by
    unfold unl
    by_cases e : s = n
    · subst e
      rw [if_pos hb]; exact List.mem_append.2 (.inr (List.mem_singleton.2 rfl))
    · exact List.mem_append.2 (.inl (unl_has hb (by omega)))
theorem unl_nil {want ls : List Int} {m : Int} {n : Nat} (h : ∀ s, s < n → bad want ls m s = false) : unl want ls m n = [] := by
  rcases List.eq_nil_or_concat (unl want ls m n) with h1 | ⟨l, x, h1⟩
  · exact h1
  · obtain ⟨s, h2, _, h4⟩ := unl_mem (x := x) (show x ∈ unl want ls m n by rw [h1]; simp)
    rw [h s h2] at h4; cases h4
theorem unl_of_nil {want ls : List Int} {m : Int} {n : Nat} (h : unl want ls m n = []) (s : Nat) (hs : s < n) : bad want ls m s = false := by
  cases hb : bad want ls m s with
  | false => rfl
  | true => have := unl_has hb hs; rw [h] at this; cases this
theorem unl_congr {want ls ls' : List Int} {m : Int} : ∀ {n : Nat}, (∀ s, s < n → bad want ls m s = bad want ls' m s) → unl want ls m n = unl want ls' m n
  | 0, _ => rfl
  | n + 1, h => by
    unfold unl
    rw [unl_congr (fun s hs => h s (by omega)), h n (by omega)]
theorem unl_len (want ls : List Int) (m : Int) : ∀ n, (unl want ls m n).length ≤ n
  | 0 => Nat.le_refl _
  | n + 1 => by
    have := unl_len want ls m n
    unfold unl
    rw [List.length_append]
    split <;> simp <;> omega
/-- One slot alone. -/
theorem unl_one {want ls : List Int} {m : Int} {p : Nat} : ∀ {n : Nat}, p < n → bad want ls m p = true → (∀ s, s < n → s ≠ p → bad want ls m s = false) → unl want ls m n = [(p : Int)]
  | 0, h, _, _ => by cases h
  | n + 1, h, hb, ho => by
    unfold unl
    by_cases e : p = n
    · subst e
      rw [if_pos hb, unl_nil (fun s hs => ho s (by omega) (by omega)), List.nil_append]
    · rw [unl_one (by omega) hb (fun s hs => ho s (by omega)), if_neg (by rw [ho n (by omega) (by omega)]; decide), List.append_nil]
theorem unl_one_of {want ls : List Int} {m : Int} {p : Int} : ∀ {n : Nat}, unl want ls m n = [p] → ∃ s : Nat, p = (s : Int) ∧ s < n ∧ bad want ls m s = true ∧ ∀ t, t < n → t ≠ s → bad want ls m t = false := by
  intro n h
  obtain ⟨s, h1, h2, h3⟩ := unl_mem (x := p) (show p ∈ unl want ls m n by rw [h]; simp)
  refine ⟨s, h2, h1, h3, fun t ht hne => ?_⟩
  cases hb : bad want ls m t with
  | false => rfl
  | true =>
    have := unl_has hb ht
    rw [h, List.mem_singleton, h2] at this
    omega
/-- What is to be done: the kind, the slot, the row. -/
structure Dd where
  k : Int
  s : Int
  r : Int
def decV (want ls : List Int) (m : Int) (n : Nat) (told row par : Int) : Dd :=
  if unl want ls m n = [] then ⟨0, 0, 0⟩
  else if told = 0 then ⟨3, 0, 0⟩
  else if unl want ls m n = [par] ∧ ls.getD par.toNat 0 = want.getD par.toNat 0 - 1 then ⟨1, par, row⟩
  else ⟨2, 0, 0⟩
theorem bad_set {want ls : List Int} {m : Nat} {x : Int} {s : Nat} : bad want (ls.set m x) (m : Int) s = bad want ls (m : Int) s := by
  unfold bad
  by_cases h : s = m
  · subst h
    rw [Bool.eq_iff_iff]; simp
  · rw [List.getD_eq_getElem?_getD, List.getElem?_set_ne (by omega), ← List.getD_eq_getElem?_getD]
/-- What the missing slot has makes no difference. -/
theorem dec_set {want ls : List Int} {m n : Nat} {x told row par : Int} : decV want (ls.set m x) (m : Int) n told row par = decV want ls (m : Int) n told row par := by
  have e : unl want (ls.set m x) (m : Int) n = unl want ls (m : Int) n := unl_congr fun s _ => bad_set
  unfold decV
  rw [e]
  by_cases h : unl want ls (m : Int) n = [par]
  · obtain ⟨s, h1, _, h3, _⟩ := unl_one_of h
    have h4 := (of_decide_eq_true h3).1
    rw [List.getD_eq_getElem?_getD, List.getElem?_set_ne (by rw [h1]; omega), ← List.getD_eq_getElem?_getD]
  · simp only [h, false_and]
theorem dec_self {want : List Int} {m : Int} {n : Nat} {told row par : Int} : decV want want m n told row par = ⟨0, 0, 0⟩ := by
  unfold decV
  rw [if_pos (unl_nil fun s _ => by unfold bad; simp)]
end Md
end Go.Proofs.Ytdjdldcpaidmnaa
