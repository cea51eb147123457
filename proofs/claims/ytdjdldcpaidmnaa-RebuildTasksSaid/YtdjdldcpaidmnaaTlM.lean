/- Views of a zone as plain data: by what a block is told, how many are. -/
import Derived.Test.YtdjdldcpaidmnaaMGeo
namespace Go.Proofs.Ytdjdldcpaidmnaa
open Go.RowKit

namespace Tl
/-- A view: how many blocks each slot has, who is missing, the notes. -/
structure Vw where
  ls : List Int
  m : Int
  ns : List (Int × Int)
def lenAt (v : Vw) (s : Int) : Int := v.ls.getD s.toNat 0
def hasB (v : Vw) (row s : Int) : Bool := decide (s ≠ v.m ∧ row < lenAt v s)
def okB (D B : Int) (v : Vw) : Bool := decide ((v.ls.length : Int) = D ∧ -1 ≤ v.m ∧ v.m < D ∧ ∀ x ∈ v.ls, 0 ≤ x ∧ x ≤ B)
/-- The slot of the k-th block of a row. -/
def slotK (D zone row : Int) (k : Nat) : Int := ((zone + row) % D + 1 + (k : Int)) % D
/-- How many, from the first on, suit. -/
def lead (p : Nat → Bool) : Nat → Nat
  | 0 => 0
  | n + 1 => if lead p n = n ∧ p n = true then n + 1 else lead p n
theorem lead_le (p : Nat → Bool) : ∀ n, lead p n ≤ n
  | 0 => Nat.le_refl _
  | n + 1 => by
    have := lead_le p n
    unfold lead
    split <;> omega
theorem lead_all (p : Nat → Bool) : ∀ n k, k < lead p n → p k = true
  | 0, k, h => by cases h
  | n + 1, k, h => by
    unfold lead at h
    split at h
    · rename_i hc
      by_cases hk : k = n
      · rw [hk]; exact hc.2
      · exact lead_all p n k (by omega)
    · exact lead_all p n k h
theorem lead_stop (p : Nat → Bool) : ∀ n, lead p n < n → p (lead p n) = false
  | 0, h => by cases h
  | n + 1, h => by
    unfold lead at h ⊢
    split
    · rename_i hc; rw [if_pos hc] at h; omega
    · rename_i hc
      rw [if_neg hc] at h
      by_cases hn : lead p n = n
      · rw [hn]
        exact Bool.eq_false_iff.2 fun e => hc ⟨hn, e⟩
      · have := lead_le p n
        exact lead_stop p n (by omega)
/-- It is the only such number. -/
theorem lead_eq {p : Nat → Bool} {n r : Nat} (hr : r ≤ n) (h1 : ∀ k, k < r → p k = true) (h2 : r < n → p r = false) : lead p n = r := by
  have hle := lead_le p n
  rcases Nat.lt_trichotomy (lead p n) r with h | h | h
  · have := lead_stop p n (by omega)
    rw [h1 _ h] at this; cases this
  · exact h
  · have := lead_all p n r h
    rw [h2 (by omega)] at this; cases this
theorem lead_ge {p : Nat → Bool} {n r : Nat} (hr : r ≤ n) (h1 : ∀ k, k < r → p k = true) : r ≤ lead p n := by
  rcases Nat.lt_or_ge (lead p n) r with h | h
  · have := lead_stop p n (by omega)
    rw [h1 _ h] at this; cases this
  · exact h
theorem lead_mono {p q : Nat → Bool} {n : Nat} (h : ∀ k, k < n → p k = true → q k = true) : lead p n ≤ lead q n :=
  lead_ge (lead_le p n) fun k hk => h k (Nat.lt_of_lt_of_le hk (lead_le p n)) (lead_all p n k hk)
theorem lead_congr {p q : Nat → Bool} {n : Nat} (h : ∀ k, k < n → p k = q k) : lead p n = lead q n :=
  Nat.le_antisymm (lead_mono fun k hk e => by rw [← h k hk]; exact e) (lead_mono fun k hk e => by rw [h k hk]; exact e)
/-- The last one that suits. -/
def LastAt {α : Type} (p : α → Bool) (l : List α) (i : Int) : Prop := (i = -1 ∧ ∀ x ∈ l, p x = false) ∨ ∃ k : Nat, i = (k : Int) ∧ ∃ h : k < l.length, p l[k] = true ∧ ∀ j (hj : j < l.length), k < j → p l[j] = false
def lastI {α : Type} (p : α → Bool) : List α → Int
  | [] => -1
  | x :: xs => if 0 ≤ lastI p xs then lastI p xs + 1 else if p x = true then 0 else -1
theorem lastI_at {α : Type} (p : α → Bool) : ∀ l : List α, LastAt p l (lastI p l)
  | [] => .inl ⟨rfl, by simp⟩
  | x :: xs => by
    rcases lastI_at p xs with ⟨h1, h2⟩ | ⟨k, h1, hk, h2, h3⟩
    · have e : lastI p (x :: xs) = if p x = true then 0 else -1 := by
        show (if 0 ≤ lastI p xs then lastI p xs + 1 else if p x = true then 0 else -1) = _
        rw [if_neg (by omega)]
      rw [e]
      by_cases hp : p x = true
      · rw [if_pos hp]
        refine .inr ⟨0, rfl, by simp, hp, fun j hj hlt => ?_⟩
        obtain ⟨j', rfl⟩ : ∃ j', j = j' + 1 := ⟨j - 1, by omega⟩
        exact h2 _ (List.getElem_mem _)
      · rw [if_neg hp]
        refine .inl ⟨rfl, fun y hy => ?_⟩
        rcases List.mem_cons.1 hy with rfl | hy
        · exact Bool.eq_false_iff.2 hp
        · exact h2 y hy
    · have e : lastI p (x :: xs) = ((k + 1 : Nat) : Int) := by
        show (if 0 ≤ lastI p xs then lastI p xs + 1 else if p x = true then 0 else -1) = _
        rw [if_pos (by omega), h1]; rfl
      rw [e]
      refine .inr ⟨k + 1, rfl, by simpa using hk, h2, fun j hj hlt => ?_⟩
      obtain ⟨j', rfl⟩ : ∃ j', j = j' + 1 := ⟨j - 1, by omega⟩
      exact h3 j' (by simpa using hj) (by omega)
theorem LastAt.eq {α : Type} {p : α → Bool} {l : List α} {i j : Int} (h : LastAt p l i) (g : LastAt p l j) : i = j := by
  rcases h with ⟨h1, h2⟩ | ⟨k, h1, hk, h2, h3⟩ <;> rcases g with ⟨g1, g2⟩ | ⟨m, g1, hm, g2, g3⟩
  · rw [h1, g1]
  · have := h2 _ (List.getElem_mem hm); rw [g2] at this; cases this
  · have := g2 _ (List.getElem_mem hk); rw [h2] at this; cases this
  · rcases Nat.lt_trichotomy k m with h | h | h
    · have := h3 m hm h; rw [g2] at this; cases this
    · rw [h1, g1, h]
    · have := g3 k hk h; rw [h2] at this; cases this
theorem LastAt.is {α : Type} {p : α → Bool} {l : List α} {i : Int} (h : LastAt p l i) : i = lastI p l := h.eq (lastI_at p l)
theorem LastAt.congr {α : Type} {p q : α → Bool} {l : List α} {i : Int} (h : LastAt p l i) (e : ∀ x ∈ l, p x = q x) : LastAt q l i := by
  rcases h with ⟨h1, h2⟩ | ⟨k, h1, hk, h2, h3⟩
  · exact .inl ⟨h1, fun x hx => by rw [← e x hx]; exact h2 x hx⟩
  · exact .inr ⟨k, h1, hk, by rw [← e _ (List.getElem_mem hk)]; exact h2, fun j hj hlt => by rw [← e _ (List.getElem_mem hj)]; exact h3 j hj hlt⟩

def reach (v : Vw) (D zone row : Int) : Nat := lead (fun k => decide (slotK D zone row k = v.m) || hasB v row (slotK D zone row k)) (D - 1).toNat
def noteP (v : Vw) (D zone row idx : Int) (n : Int × Int) : Bool := decide (n.1 = row ∧ idx < n.2 ∧ n.2 ≤ (reach v D zone row : Int))
/-- By what a block is told that there is, in a view that may be. -/
def srcIn (D zone : Int) (v : Vw) (block : Int) : Int × Int :=
  if hasB v (block / (D - 1)) (slotK D zone (block / (D - 1)) (block % (D - 1)).toNat) = true then (1, 0)
  else if slotK D zone (block / (D - 1)) (block % (D - 1)).toNat ≠ v.m then (0, 0)
  else if (reach v D zone (block / (D - 1)) : Int) = D - 1 ∧ hasB v (block / (D - 1)) ((zone + block / (D - 1)) % D) = true then (2, 0)
  else if lastI (noteP v D zone (block / (D - 1)) (block % (D - 1))) v.ns < 0 then (0, 0)
  else (3, lastI (noteP v D zone (block / (D - 1)) (block % (D - 1))) v.ns)
def srcV (D Z B O A zone : Int) (v : Vw) (block : Int) : Int × Int :=
  if (plB D Z B O A zone block && okB D B v) = true then srcIn D zone v block else (0, 0)
def lenV (D Z B O A zone : Int) (v : Vw) : Nat := lead (fun b => decide ((srcV D Z B O A zone v (b : Int)).1 ≠ 0)) (capV D Z B O A).toNat
theorem slot_pl {D Z B O A zone block : Int} (h : plB D Z B O A zone block = true) : plR D Z B O A zone block = block / (D - 1) ∧ plD D Z B O A zone block = slotK D zone (block / (D - 1)) (block % (D - 1)).toNat := by
  obtain ⟨hg, z1, z2, b1, b2⟩ := plB_true h
  have hrow := row_bd hg.1 b1 b2
  unfold plR plD slotK
  rw [if_pos h, if_pos h, parV_good hg z1 z2 hrow.1 hrow.2.1, Int.toNat_of_nonneg hrow.2.2.1]
  exact ⟨rfl, rfl⟩
theorem slotK_bd {D zone row : Int} (hD : 0 < D) (k : Nat) : 0 ≤ slotK D zone row k ∧ slotK D zone row k < D := ⟨Int.emod_nonneg _ (by omega), Int.emod_lt_of_pos _ hD⟩
/-- Different blocks of a row lie on different drives, none on the parity's. -/
theorem slotK_inj {D zone row : Int} (hD : 0 < D) {j k : Nat} (hj : (j : Int) < D - 1) (hk : (k : Int) < D - 1) (h : slotK D zone row j = slotK D zone row k) : j = k := by
  unfold slotK at h
  have h0 := Int.emod_nonneg (zone + row) (show D ≠ 0 by omega)
  have h1 := Int.emod_lt_of_pos (zone + row) hD
  have h2 := Int.emod_emod_of_dvd
  have e : ((zone + row) % D + 1 + (j : Int)) % D - ((zone + row) % D + 1 + (k : Int)) % D = 0 := by omega
  have e2 := Int.emod_emod_of_dvd
  have e3 : (((zone + row) % D + 1 + (j : Int)) - ((zone + row) % D + 1 + (k : Int))) % D = 0 := by rw [Int.sub_emod, h, Int.sub_self]; rfl
  rw [show ((zone + row) % D + 1 + (j : Int)) - ((zone + row) % D + 1 + (k : Int)) = (j : Int) - (k : Int) by omega] at e3
  obtain ⟨q, hq⟩ := Int.dvd_of_emod_eq_zero e3
  rcases Int.lt_trichotomy q 0 with hn | hn | hn
  · have : D * q ≤ D * (-1) := Int.mul_le_mul_of_nonneg_left (by omega) (by omega)
    omega
  · subst hn; omega
  · have : D * 1 ≤ D * q := Int.mul_le_mul_of_nonneg_left (by omega) (by omega)
    omega
theorem slotK_par {D zone row : Int} (hD : 0 < D) {k : Nat} (hk : (k : Int) < D - 1) : slotK D zone row k ≠ (zone + row) % D := by
  intro h
  unfold slotK at h
  have h0 := Int.emod_nonneg (zone + row) (show D ≠ 0 by omega)
  have h1 := Int.emod_lt_of_pos (zone + row) hD
  generalize (zone + row) % D = p at h h0 h1
  by_cases hc : p + 1 + (k : Int) < D
  · rw [Int.emod_eq_of_lt (by omega) hc] at h; omega
  · have : (p + 1 + (k : Int)) % D = p + 1 + (k : Int) - D := by
      rw [show p + 1 + (k : Int) = p + 1 + (k : Int) - D + D by omega, Int.add_emod_right, Int.emod_eq_of_lt (by omega) (by omega)]; omega
    omega
/-- Each slot is the parity's, or a block's. -/
theorem slotK_all {D zone row s : Int} (h0 : 0 ≤ s) (h1 : s < D) : s = (zone + row) % D ∨ ∃ k : Nat, (k : Int) < D - 1 ∧ slotK D zone row k = s := by
  have hD : 0 < D := by omega
  have p0 := Int.emod_nonneg (zone + row) (show D ≠ 0 by omega)
  have p1 := Int.emod_lt_of_pos (zone + row) hD
  unfold slotK
  generalize (zone + row) % D = p at p0 p1 ⊢
  rcases Int.lt_trichotomy s p with h | h | h
  · right
    refine ⟨(s - p - 1 + D).toNat, by omega, ?_⟩
    rw [Int.toNat_of_nonneg (by omega), show p + 1 + (s - p - 1 + D) = s + D by omega, Int.add_emod_right, Int.emod_eq_of_lt h0 h1]
  · left; exact h
  · right
    refine ⟨(s - p - 1).toNat, by omega, ?_⟩
    rw [Int.toNat_of_nonneg (by omega), show p + 1 + (s - p - 1) = s by omega, Int.emod_eq_of_lt h0 h1]
end Tl
end Go.Proofs.Ytdjdldcpaidmnaa
