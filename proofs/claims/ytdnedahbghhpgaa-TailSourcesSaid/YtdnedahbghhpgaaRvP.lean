/- By what a block is told: the document's way of saying it, plainly. -/
import Derived.Test.YtdnedahbghhpgaaRvC
import Derived.Test.YtdnedahbghhpgaaMdE
import Derived.Test.YtdnedahbghhpgaaTlVi
namespace Go.Proofs.Ytdnedahbghhpgaa
namespace Tl
open Pl Md
theorem lastI_snoc {α : Type} (p : α → Bool) : ∀ (l : List α) (x : α), lastI p (l ++ [x]) = if p x = true then (l.length : Int) else lastI p l
  | [], x => by
    show (if 0 ≤ (-1 : Int) then _ else if p x = true then 0 else -1) = _
    rw [if_neg (by decide)]
    rfl
  | y :: l, x => by
    show (if 0 ≤ lastI p (l ++ [x]) then lastI p (l ++ [x]) + 1 else if p y = true then 0 else -1) = _
    rw [lastI_snoc p l x]
    by_cases hx : p x = true
    · rw [if_pos hx, if_pos hx, if_pos (by omega)]
      show (l.length : Int) + 1 = ((l.length + 1 : Nat) : Int)
      omega
    · rw [if_neg hx, if_neg hx]
      rfl
/-- How a slot is asked about in a row of wd blocks. -/
def gd (v : Vw) (wd z rw idx k : Nat) : Bool := decide (k = idx) || hasB v (rw : Int) (slotK ((wd : Int) + 1) (z : Int) (rw : Int) k)
theorem reach_eq {v : Vw} {wd z rw idx : Nat} (hi : idx < wd) (hm : slotK ((wd : Int) + 1) (z : Int) (rw : Int) idx = v.m) : reach v ((wd : Int) + 1) (z : Int) (rw : Int) = lead (gd v wd z rw idx) wd := by
  unfold reach
  rw [show ((wd : Int) + 1 - 1).toNat = wd by omega]
  refine lead_congr fun k hk => ?_
  unfold gd
  congr 1
  rw [Bool.eq_iff_iff, decide_eq_true_eq, decide_eq_true_eq]
  constructor
  · intro h
    exact slotK_inj (D := (wd : Int) + 1) (zone := (z : Int)) (row := (rw : Int)) (by omega) (by omega) (by omega) (h.trans hm.symm)
  · rintro rfl; exact hm
/-- A note is of use. -/
theorem note_use {v : Vw} {wd z rw idx : Nat} (hi : idx < wd) (hm : slotK ((wd : Int) + 1) (z : Int) (rw : Int) idx = v.m) (n : Int × Int) {c : Nat} (h1 : n.1 = (rw : Int)) (h2 : n.2 = (c : Int)) (h3 : idx < c) (h4 : c ≤ wd) :
    noteP v ((wd : Int) + 1) (z : Int) (rw : Int) (idx : Int) n = true ↔ ∀ k, k < c → gd v wd z rw idx k = true := by
  unfold noteP
  rw [decide_eq_true_eq, reach_eq hi hm]
  constructor
  · rintro ⟨_, _, h⟩ k hk
    exact lead_all (gd v wd z rw idx) wd k (by omega)
  · intro h
    have := lead_ge (n := wd) h4 h
    exact ⟨h1, by omega, by omega⟩
theorem note_no {v : Vw} {wd z rw idx : Nat} (hi : idx < wd) (hm : slotK ((wd : Int) + 1) (z : Int) (rw : Int) idx = v.m) (n : Int × Int) (h : n.1 ≠ (rw : Int) ∨ n.2 ≤ (idx : Int) ∨ (wd : Int) < n.2) :
    noteP v ((wd : Int) + 1) (z : Int) (rw : Int) (idx : Int) n = false := by
  refine decide_eq_false fun hh => ?_
  rw [reach_eq hi hm] at hh
  have := lead_le (gd v wd z rw idx) wd
  omega
/-- All other slots have the row. -/
theorem all_iff {v : Vw} {wd z rw idx : Nat} (hw : 0 < wd) (hi : idx < wd) (hm : slotK ((wd : Int) + 1) (z : Int) (rw : Int) idx = v.m) :
    (∀ s : Nat, s < wd + 1 → (s : Int) ≠ v.m → hasB v (rw : Int) (s : Int) = true) ↔ ((reach v ((wd : Int) + 1) (z : Int) (rw : Int) : Int) = (wd : Int) ∧ hasB v (rw : Int) (par wd z rw) = true) := by
  rw [reach_eq hi hm]
  have hpb := par_bd wd z rw
  have hpn : par wd z rw ≠ v.m := fun e => slotK_par (D := (wd : Int) + 1) (zone := (z : Int)) (row := (rw : Int)) (by omega) (k := idx) (by omega) (hm.trans e.symm)
  constructor
  · intro h
    constructor
    · have : lead (gd v wd z rw idx) wd = wd := lead_eq (Nat.le_refl _) (fun k hk => by
        unfold gd
        rw [Bool.or_eq_true]
        by_cases e : k = idx
        · exact .inl (decide_eq_true e)
        · right
          have hb := slotK_bd (D := (wd : Int) + 1) (zone := (z : Int)) (row := (rw : Int)) (by omega) k
          obtain ⟨s, hs⟩ := Int.eq_ofNat_of_zero_le hb.1
          have := h s (by omega) (by rw [← hs]; exact fun e2 => e (slotK_inj (D := (wd : Int) + 1) (zone := (z : Int)) (row := (rw : Int)) (by omega) (by omega) (by omega) (e2.trans hm.symm)))
          rw [← hs] at this
          exact this) (fun h => absurd h (Nat.lt_irrefl _))
      rw [this]
    · obtain ⟨s, hs⟩ := Int.eq_ofNat_of_zero_le hpb.1
      have := h s (by omega) (by rw [← hs]; exact hpn)
      rw [← hs] at this
      exact this
  · rintro ⟨h1, h2⟩ s hs hne
    rcases slotK_all (D := (wd : Int) + 1) (zone := (z : Int)) (row := (rw : Int)) (s := (s : Int)) (by omega) (by omega) with e | ⟨k, hk, e⟩
    · rw [e]; exact h2
    · have := lead_all (gd v wd z rw idx) wd k (by omega)
      unfold gd at this
      rw [Bool.or_eq_true] at this
      rcases this with h3 | h3
      · rw [of_decide_eq_true h3] at e
        exact absurd (e.symm.trans hm) hne
      · rw [e] at h3; exact h3
end Tl
end Go.Proofs.Ytdnedahbghhpgaa
