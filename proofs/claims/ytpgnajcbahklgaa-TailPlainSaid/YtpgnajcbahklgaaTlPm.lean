/- Where no slot is missing a block is told by itself alone. -/
import Derived.Test.YtpgnajcbahklgaaTlLn
namespace Go.Proofs.Ytpgnajcbahklgaa
open Go.RowKit
namespace Tl
theorem plain_src {D Z B O A zone : Int} {v : Vw} (hm : v.m = -1) (b : Int) : srcV D Z B O A zone v b = (0, 0) ∨ srcV D Z B O A zone v b = (1, 0) := by
  unfold srcV
  split
  · rename_i h
    rw [Bool.and_eq_true] at h
    obtain ⟨hg, _⟩ := plB_true h.1
    have hD := hg.1
    have hs := slotK_bd (D := D) (zone := zone) (row := b / (D - 1)) (by omega) (b % (D - 1)).toNat
    unfold srcIn
    split
    · exact .inr rfl
    · rw [if_pos (by omega)]; exact .inl rfl
  · exact .inl rfl
theorem plain_eq {D Z B O A zone : Int} {ls : List Int} (ns : List (Int × Int)) (b : Int) : srcV D Z B O A zone ⟨ls, -1, ns⟩ b = srcV D Z B O A zone ⟨ls, -1, []⟩ b := by
  unfold srcV
  have e : okB D B ⟨ls, -1, ns⟩ = okB D B ⟨ls, -1, []⟩ := rfl
  rw [e]
  split
  · rename_i h
    rw [Bool.and_eq_true] at h
    obtain ⟨hg, _⟩ := plB_true h.1
    have hD := hg.1
    have hs := slotK_bd (D := D) (zone := zone) (row := b / (D - 1)) (by omega) (b % (D - 1)).toNat
    unfold srcIn
    have e1 : hasB ⟨ls, -1, ns⟩ (b / (D - 1)) (slotK D zone (b / (D - 1)) (b % (D - 1)).toNat) = hasB ⟨ls, -1, []⟩ (b / (D - 1)) (slotK D zone (b / (D - 1)) (b % (D - 1)).toNat) := rfl
    rw [e1]
    split
    · rfl
    · have hne : slotK D zone (b / (D - 1)) (b % (D - 1)).toNat ≠ -1 := by omega
      rw [if_pos hne, if_pos hne]
  · rfl
theorem plain_len {D Z B O A zone : Int} {ls : List Int} (ns : List (Int × Int)) : lenV D Z B O A zone ⟨ls, -1, ns⟩ = lenV D Z B O A zone ⟨ls, -1, []⟩ := by
  unfold lenV
  exact lead_congr fun k _ => by rw [plain_eq ns]
theorem plain_told {D Z B O A zone : Int} {v : Vw} (hm : v.m = -1) {b : Nat} (hb : b < lenV D Z B O A zone v) : srcV D Z B O A zone v (b : Int) = (1, 0) := by
  have h := lead_all _ _ b hb
  rcases plain_src (D := D) (Z := Z) (B := B) (O := O) (A := A) (zone := zone) hm (b : Int) with e | e
  · rw [e] at h; simp at h
  · exact e
theorem len_end {D Z B O A zone : Int} (v : Vw) : srcV D Z B O A zone v (lenV D Z B O A zone v : Int) = (0, 0) ∨ ((lenV D Z B O A zone v : Nat) : Int) = capV D Z B O A ∨ v.m ≠ -1 := by
  by_cases hm : v.m = -1
  · have hV := capV_bd D Z B O A
    have hle := lead_le (fun b => decide ((srcV D Z B O A zone v (b : Int)).1 ≠ 0)) (capV D Z B O A).toNat
    rcases Nat.lt_or_ge (lenV D Z B O A zone v) (capV D Z B O A).toNat with h | h
    · left
      have hs := lead_stop _ _ h
      have hs2 : (srcV D Z B O A zone v (lenV D Z B O A zone v : Int)).1 = 0 := Decidable.not_not.1 (of_decide_eq_false hs)
      rcases plain_src (D := D) (Z := Z) (B := B) (O := O) (A := A) (zone := zone) hm (lenV D Z B O A zone v : Int) with e | e
      · exact e
      · rw [e] at hs2; cases hs2
    · right; left
      have e : lenV D Z B O A zone v = (capV D Z B O A).toNat := Nat.le_antisymm hle h
      rw [e, Int.toNat_of_nonneg hV.1]
  · exact .inr (.inr hm)
end Tl
end Go.Proofs.Ytpgnajcbahklgaa
