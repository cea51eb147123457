/- What the document asks to be done with a zone is what the program finds. -/
import Derived.Test.YtdnedahbghhpgaaMdM
namespace Go.Proofs.Ytdnedahbghhpgaa
namespace Md
open Tl Pl
/-- How many of the first so many suit; the last that does. -/
def cntN (p : Nat → Bool) : Nat → Nat
  | 0 => 0
  | n + 1 => cntN p n + if p n = true then 1 else 0
def lastN (p : Nat → Bool) : Nat → Nat
  | 0 => 0
  | n + 1 => if p n = true then n else lastN p n
theorem cntN_le (p : Nat → Bool) : ∀ n, cntN p n ≤ n
  | 0 => Nat.le_refl _
  | n + 1 => by
    have := cntN_le p n
    unfold cntN
    split <;> omega
theorem lastN_lt (p : Nat → Bool) : ∀ n, 0 < n → lastN p n < n
  | 0, h => absurd h (Nat.lt_irrefl _)
  | n + 1, _ => by
    unfold lastN
    split
    · omega
    · cases n with
      | zero => exact Nat.zero_lt_one
      | succ n => have := lastN_lt p (n + 1) (by omega); omega
theorem cntN_zero {p : Nat → Bool} : ∀ {n}, cntN p n = 0 → ∀ s, s < n → p s = false
  | 0, _, s, h => by cases h
  | n + 1, h, s, hs => by
    unfold cntN at h
    by_cases hp : p n = true
    · rw [if_pos hp] at h; omega
    · rw [if_neg hp] at h
      by_cases e : s = n
      · rw [e]; exact Bool.eq_false_iff.2 hp
      · exact cntN_zero (by omega) s (by omega)
theorem cntN_none {p : Nat → Bool} : ∀ {n}, (∀ s, s < n → p s = false) → cntN p n = 0
  | 0, _ => rfl
  | n + 1, h => by
    unfold cntN
    rw [cntN_none (fun s hs => h s (by omega)), if_neg (by rw [h n (by omega)]; decide)]
theorem cntN_one {p : Nat → Bool} : ∀ {n}, cntN p n = 1 → lastN p n < n ∧ p (lastN p n) = true ∧ ∀ s, s < n → s ≠ lastN p n → p s = false
  | 0, h => by cases h
  | n + 1, h => by
    unfold cntN at h
    unfold lastN
    by_cases hp : p n = true
    · rw [if_pos hp] at h ⊢
      refine ⟨by omega, hp, fun s hs hne => cntN_zero (p := p) (n := n) (by omega) s (by omega)⟩
    · rw [if_neg hp] at h ⊢
      obtain ⟨h1, h2, h3⟩ := cntN_one (p := p) (n := n) (by omega)
      refine ⟨by omega, h2, fun s hs hne => ?_⟩
      by_cases e : s = n
      · rw [e]; exact Bool.eq_false_iff.2 hp
      · exact h3 s (by omega) hne
theorem cntN_single {p : Nat → Bool} {q : Nat} : ∀ {n}, q < n → p q = true → (∀ s, s < n → s ≠ q → p s = false) → cntN p n = 1 ∧ lastN p n = q
  | 0, h, _, _ => by cases h
  | n + 1, h, hq, ho => by
    unfold cntN lastN
    by_cases e : q = n
    · subst e
      rw [if_pos hq, if_pos hq, cntN_none (fun s hs => ho s (by omega) (by omega))]
      exact ⟨rfl, rfl⟩
    · have hn : ¬ p n = true := by rw [ho n (by omega) (fun x => e x.symm)]; decide
      rw [if_neg hn, if_neg hn]
      exact cntN_single (by omega) hq (fun s hs => ho s (by omega))
def moreP (want ls : List Int) (m : Int) (s : Nat) : Bool := decide ((s : Int) ≠ m ∧ want.getD s 0 < ls.getD s 0)
def lessP (want ls : List Int) (m : Int) (s : Nat) : Bool := decide ((s : Int) ≠ m ∧ ls.getD s 0 < want.getD s 0)
theorem bad_or {want ls : List Int} {m : Int} {s : Nat} : bad want ls m s = (moreP want ls m s || lessP want ls m s) := by
  unfold bad moreP lessP
  rw [Bool.eq_iff_iff]
  simp only [decide_eq_true_eq, Bool.or_eq_true]
  omega
theorem more_less {want ls : List Int} {m : Int} {s : Nat} (h : moreP want ls m s = true) : lessP want ls m s = false := by
  have := of_decide_eq_true h
  exact decide_eq_false (by omega)
/-- The document's answer. -/
def refD (want ls : List Int) (m : Int) (n : Nat) (told row pr : Int) : Dd :=
  if cntN (moreP want ls m) n = 0 ∧ cntN (lessP want ls m) n = 0 then ⟨0, 0, 0⟩
  else if told = 0 then ⟨3, 0, 0⟩
  else if 0 < cntN (moreP want ls m) n ∨ 1 < cntN (lessP want ls m) n then ⟨2, 0, 0⟩
  else if 0 ≤ row ∧ pr = (lastN (lessP want ls m) n : Int) ∧ ls.getD (lastN (lessP want ls m) n) 0 + 1 = want.getD (lastN (lessP want ls m) n) 0 then ⟨1, (lastN (lessP want ls m) n : Int), row⟩
  else ⟨2, 0, 0⟩
theorem ref_dec {want ls : List Int} {m : Int} {n : Nat} {told row pr par : Int} (h1 : row < 0 → par = -1) (h2 : 0 ≤ row → par = pr) : refD want ls m n told row pr = decV want ls m n told row par := by
  unfold refD decV
  by_cases h0 : cntN (moreP want ls m) n = 0 ∧ cntN (lessP want ls m) n = 0
  · rw [if_pos h0, if_pos]
    refine unl_nil fun s hs => ?_
    rw [bad_or, cntN_zero h0.1 s hs, cntN_zero h0.2 s hs]; rfl
  · have hn : ¬ unl want ls m n = [] := by
      intro e
      apply h0
      have hb := unl_of_nil e
      constructor
      · refine cntN_none fun s hs => ?_
        have := hb s hs
        rw [bad_or, Bool.or_eq_false_iff] at this
        exact this.1
      · refine cntN_none fun s hs => ?_
        have := hb s hs
        rw [bad_or, Bool.or_eq_false_iff] at this
        exact this.2
    rw [if_neg h0, if_neg hn]
    by_cases ht : told = 0
    · rw [if_pos ht, if_pos ht]
    rw [if_neg ht, if_neg ht]
    by_cases hu : unl want ls m n = [par] ∧ ls.getD par.toNat 0 = want.getD par.toNat 0 - 1
    · rw [if_pos hu]
      obtain ⟨s, e1, e2, e3, e4⟩ := unl_one_of hu.1
      have h3 := hu.2
      rw [e1, Int.toNat_natCast] at h3
      have hm : (s : Int) ≠ m := (of_decide_eq_true e3).1
      have hl : lessP want ls m s = true := decide_eq_true ⟨hm, by omega⟩
      have hmo : ∀ t, t < n → moreP want ls m t = false := fun t ht => by
        by_cases e : t = s
        · rw [e]; exact decide_eq_false (by omega)
        · have := e4 t ht e
          rw [bad_or, Bool.or_eq_false_iff] at this
          exact this.1
      obtain ⟨c1, c2⟩ := cntN_single (p := lessP want ls m) e2 hl (fun t ht hne => by
        have := e4 t ht hne
        rw [bad_or, Bool.or_eq_false_iff] at this
        exact this.2)
      have c0 := cntN_none hmo
      rw [c0, c1, c2]
      have hr : 0 ≤ row := by
        rcases Int.lt_or_le row 0 with h | h
        · have := h1 h; omega
        · exact h
      rw [if_neg (by omega), if_pos ⟨hr, by rw [← h2 hr, e1], by omega⟩, e1]
    · rw [if_neg hu]
      by_cases hc : 0 < cntN (moreP want ls m) n ∨ 1 < cntN (lessP want ls m) n
      · rw [if_pos hc]
      · rw [if_neg hc, if_neg]
        rintro ⟨r1, r2, r3⟩
        apply hu
        have c0 : cntN (moreP want ls m) n = 0 := by omega
        have c1 : cntN (lessP want ls m) n = 1 := by omega
        obtain ⟨l1, l2, l3⟩ := cntN_one c1
        have hp : par = (lastN (lessP want ls m) n : Int) := by rw [h2 r1, r2]
        refine ⟨?_, by rw [hp, Int.toNat_natCast]; omega⟩
        rw [hp]
        refine unl_one l1 (by rw [bad_or, l2]; simp) (fun s hs hne => ?_)
        rw [bad_or, cntN_zero c0 s hs, l3 s hs hne]; rfl
end Md
end Go.Proofs.Ytdnedahbghhpgaa
