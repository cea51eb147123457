/- Where a slot has more, or there is a note more, no fewer blocks are told. -/
import Derived.Test.YtdnedahbghhpgaaTlLn
namespace Go.Proofs.Ytdnedahbghhpgaa
open Go.RowKit
namespace Tl
theorem lastI_neg {α : Type} {p : α → Bool} {l : List α} : lastI p l < 0 ↔ ∀ x ∈ l, p x = false := by
  constructor
  · intro h
    rcases lastI_at p l with ⟨_, h2⟩ | ⟨k, h1, _⟩
    · exact h2
    · omega
  · intro h
    rcases lastI_at p l with ⟨h1, _⟩ | ⟨k, h1, hk, h2, _⟩
    · omega
    · rw [h _ (List.getElem_mem hk)] at h2; cases h2
theorem reach_mono {v v' : Vw} {D zone row : Int} (hm : v.m = v'.m) (hh : ∀ r s, hasB v r s = true → hasB v' r s = true) : reach v D zone row ≤ reach v' D zone row := by
  unfold reach
  refine lead_mono fun k _ h => ?_
  rw [Bool.or_eq_true] at h ⊢
  rcases h with h | h
  · left; rw [← hm]; exact h
  · right; exact hh _ _ h
theorem reach_le (v : Vw) (D zone row : Int) (hD : 1 ≤ D) : (reach v D zone row : Int) ≤ D - 1 := by
  have := lead_le (fun k => decide (slotK D zone row k = v.m) || hasB v row (slotK D zone row k)) (D - 1).toNat
  have e : reach v D zone row ≤ (D - 1).toNat := this
  omega
theorem srcIn_mono {v v' : Vw} {D zone b : Int} (hD : 1 ≤ D) (hm : v.m = v'.m) (hh : ∀ r s, hasB v r s = true → hasB v' r s = true) (hn : ∀ x ∈ v.ns, x ∈ v'.ns) (h : (srcIn D zone v b).1 ≠ 0) : (srcIn D zone v' b).1 ≠ 0 := by
  have hr := reach_mono (D := D) (zone := zone) (row := b / (D - 1)) hm hh
  have hr2 := reach_le v' D zone (b / (D - 1)) hD
  unfold srcIn at h ⊢
  by_cases h1 : hasB v' (b / (D - 1)) (slotK D zone (b / (D - 1)) (b % (D - 1)).toNat) = true
  · rw [if_pos h1]; decide
  · have h1' : ¬ hasB v (b / (D - 1)) (slotK D zone (b / (D - 1)) (b % (D - 1)).toNat) = true := fun e => h1 (hh _ _ e)
    rw [if_neg h1'] at h
    rw [if_neg h1]
    by_cases h2 : slotK D zone (b / (D - 1)) (b % (D - 1)).toNat ≠ v.m
    · rw [if_pos h2] at h; exact absurd rfl h
    · rw [if_neg h2] at h
      rw [if_neg (by rw [← hm]; exact h2)]
      by_cases h3 : (reach v' D zone (b / (D - 1)) : Int) = D - 1 ∧ hasB v' (b / (D - 1)) ((zone + b / (D - 1)) % D) = true
      · rw [if_pos h3]; decide
      · rw [if_neg h3]
        have h3' : ¬ ((reach v D zone (b / (D - 1)) : Int) = D - 1 ∧ hasB v (b / (D - 1)) ((zone + b / (D - 1)) % D) = true) := fun e => h3 ⟨by omega, hh _ _ e.2⟩
        rw [if_neg h3'] at h
        by_cases h4 : lastI (noteP v D zone (b / (D - 1)) (b % (D - 1))) v.ns < 0
        · rw [if_pos h4] at h; exact absurd rfl h
        · have h4' : ¬ lastI (noteP v' D zone (b / (D - 1)) (b % (D - 1))) v'.ns < 0 := by
            intro e
            apply h4
            rw [lastI_neg] at e ⊢
            intro x hx
            have := e x (hn x hx)
            unfold noteP at this ⊢
            have h5 := of_decide_eq_false this
            exact decide_eq_false fun q => h5 ⟨q.1, q.2.1, by omega⟩
          rw [if_neg h4']
          show (3 : Int) ≠ 0
          decide
theorem len_mono {v v' : Vw} {D Z B O A zone : Int} (hm : v.m = v'.m) (hh : ∀ r s, hasB v r s = true → hasB v' r s = true) (hn : ∀ x ∈ v.ns, x ∈ v'.ns) (ho : okB D B v = true → okB D B v' = true) : lenV D Z B O A zone v ≤ lenV D Z B O A zone v' := by
  unfold lenV
  refine lead_mono fun k _ h => ?_
  have h0 := of_decide_eq_true h
  refine decide_eq_true ?_
  unfold srcV at h0 ⊢
  by_cases hc : (plB D Z B O A zone (k : Int) && okB D B v) = true
  · rw [if_pos hc] at h0
    rw [Bool.and_eq_true] at hc
    rw [if_pos (by rw [Bool.and_eq_true]; exact ⟨hc.1, ho hc.2⟩)]
    obtain ⟨hg, _⟩ := plB_true hc.1
    exact srcIn_mono (by have := hg.1; omega) hm hh hn h0
  · rw [if_neg hc] at h0
    exact absurd rfl h0
/-- One slot has a block more. -/
theorem len_more {ls : List Int} {m : Int} {ns : List (Int × Int)} {D Z B O A zone : Int} {s : Nat} (hs : s < ls.length) (hb : ls[s] < B) : lenV D Z B O A zone ⟨ls, m, ns⟩ ≤ lenV D Z B O A zone ⟨ls.set s (ls[s] + 1), m, ns⟩ := by
  refine len_mono rfl (fun r t h => ?_) (fun x hx => hx) (fun h => ?_)
  · have h0 := of_decide_eq_true h
    refine decide_eq_true ⟨h0.1, ?_⟩
    have h1 := h0.2
    unfold lenAt at h1 ⊢
    dsimp only at h1 ⊢
    rw [List.getD_eq_getElem?_getD] at h1 ⊢
    rw [List.getElem?_set]
    by_cases e : s = t.toNat
    · rw [if_pos e, if_pos hs]
      rw [← e, List.getElem?_eq_getElem hs] at h1
      simp only [Option.getD_some] at h1 ⊢
      omega
    · rw [if_neg e]; exact h1
  · have h0 := of_decide_eq_true h
    refine decide_eq_true ⟨by simpa using h0.1, h0.2.1, h0.2.2.1, fun x hx => ?_⟩
    have h3 := h0.2.2.2
    rcases List.mem_or_eq_of_mem_set hx with h | h
    · exact h3 x h
    · have := h3 _ (List.getElem_mem hs)
      omega
/-- A note more. -/
theorem len_note {ls : List Int} {m : Int} {ns : List (Int × Int)} {D Z B O A zone : Int} (n : Int × Int) : lenV D Z B O A zone ⟨ls, m, ns⟩ ≤ lenV D Z B O A zone ⟨ls, m, ns ++ [n]⟩ :=
  len_mono rfl (fun _ _ h => h) (fun _ hx => List.mem_append.2 (.inl hx)) (fun h => h)
end Tl
end Go.Proofs.Ytdnedahbghhpgaa
