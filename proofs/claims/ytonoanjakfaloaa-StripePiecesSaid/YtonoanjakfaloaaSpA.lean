/- What the small functions of stripe do. -/
import Derived.Test.YtonoanjakfaloaaMGeo
namespace Go.Proofs.Ytonoanjakfaloaa
open Go.RowKit Xor

namespace Sp
/-- The cells of a row that is filled: the texts, the rest of the fifteen, how many, for how many. -/
def cellsL (L : List ByteArray) (n : Int) : List Value := L.map Value.string ++ List.replicate (15 - L.length) (.string ⟨#[]⟩) ++ [.int .i64 (L.length : Int), .int .i64 n]
/-- A row as a value. -/
def rowV (L : List ByteArray) (n : Int) : Value := .agg (cellsL L n).toArray
theorem cellsL_len {L : List ByteArray} {n : Int} (h : L.length ≤ 15) : (cellsL L n).length = 17 := by unfold cellsL; simp; omega
theorem seventeen_of {l : List Value} (h : l.length = 17) : ∃ y0 y1 y2 y3 y4 y5 y6 y7 y8 y9 y10 y11 y12 y13 y14 y15 y16, l = [y0, y1, y2, y3, y4, y5, y6, y7, y8, y9, y10, y11, y12, y13, y14, y15, y16] := by
  match l, h with
  | [y0, y1, y2, y3, y4, y5, y6, y7, y8, y9, y10, y11, y12, y13, y14, y15, y16], _ => exact ⟨y0, y1, y2, y3, y4, y5, y6, y7, y8, y9, y10, y11, y12, y13, y14, y15, y16, rfl⟩
theorem cells_str {L : List ByteArray} {n : Int} (_h : L.length ≤ 15) {k : Nat} (hk : k < L.length) : (cellsL L n)[k]? = some (.string L[k]) := by
  unfold cellsL
  rw [List.append_assoc, List.getElem?_append_left (by simpa using hk), List.getElem?_map, List.getElem?_eq_getElem hk]; rfl
theorem cells_no {L : List ByteArray} {n : Int} (h : L.length ≤ 15) {k : Nat} (hk : L.length ≤ k) (h15 : k < 15) : (cellsL L n)[k]? = some (.string ⟨#[]⟩) := by
  unfold cellsL
  rw [List.append_assoc, List.getElem?_append_right (by simpa using hk), List.getElem?_append_left (by simp; omega), List.getElem?_replicate, if_pos (by simp; omega)]
theorem cells_cnt {L : List ByteArray} {n : Int} (h : L.length ≤ 15) : (cellsL L n)[15]? = some (.int .i64 (L.length : Int)) := by
  unfold cellsL
  rw [List.getElem?_append_right (by simp; omega)]
  simp
  rw [show 15 - (L.length + (15 - L.length)) = 0 by omega]; rfl
theorem cells_size {L : List ByteArray} {n : Int} (h : L.length ≤ 15) : (cellsL L n)[16]? = some (.int .i64 n) := by
  unfold cellsL
  rw [List.getElem?_append_right (by simp; omega)]
  simp
  rw [show 16 - (L.length + (15 - L.length)) = 1 by omega]; rfl
theorem cells_add {L : List ByteArray} {n : Int} (h : L.length < 15) (s : ByteArray) : cellsL (L ++ [s]) n = ((cellsL L n).set L.length (.string s)).set 15 (.int .i64 ((L.length : Int) + 1)) := by
  apply List.ext_getElem?
  intro i
  rw [List.getElem?_set, List.getElem?_set]
  have hl := cellsL_len (n := n) (show L.length ≤ 15 by omega)
  have hl2 := cellsL_len (L := L ++ [s]) (n := n) (by simp; omega)
  have e1 : (L ++ [s]).length = L.length + 1 := by simp
  by_cases h15 : 15 = i
  · rw [if_pos h15, ← h15, cells_cnt (by simp; omega), e1]
    simp only [List.length_set, hl]
    rfl
  rw [if_neg h15]
  by_cases hi : L.length = i
  · rw [if_pos hi, ← hi, cells_str (by simp; omega) (by simp), if_pos (by omega)]
    simp
  rw [if_neg hi]
  by_cases h17 : i = 16
  · subst h17
    rw [cells_size (by simp; omega), cells_size (by omega)]
  rcases Nat.lt_or_ge i 17 with hlt | hge
  · rcases Nat.lt_trichotomy i L.length with h1 | h1 | h1
    · rw [cells_str (by simp; omega) (by simp; omega), cells_str (by omega) h1, List.getElem_append_left h1]
    · exact absurd h1.symm hi
    · rw [cells_no (by simp; omega) (by simp; omega) (by omega), cells_no (by omega) (by omega) (by omega)]
  · rw [List.getElem?_eq_none (by omega), List.getElem?_eq_none (by omega)]

/-- What is known of the cells, one by one. -/
theorem opened {L : List ByteArray} {n : Int} (h : L.length ≤ 15) : ∃ y0 y1 y2 y3 y4 y5 y6 y7 y8 y9 y10 y11 y12 y13 y14 y15 y16, cellsL L n = [y0, y1, y2, y3, y4, y5, y6, y7, y8, y9, y10, y11, y12, y13, y14, y15, y16] ∧ y15 = .int .i64 (L.length : Int) ∧ y16 = .int .i64 n ∧ ∀ k (hk : k < L.length), [y0, y1, y2, y3, y4, y5, y6, y7, y8, y9, y10, y11, y12, y13, y14, y15, y16][k]? = some (.string L[k]) := by
  obtain ⟨y0, y1, y2, y3, y4, y5, y6, y7, y8, y9, y10, y11, y12, y13, y14, y15, y16, e⟩ := seventeen_of (cellsL_len (n := n) h)
  have h15 := cells_cnt (n := n) h
  have h16 := cells_size (n := n) h
  have hs := fun k hk => cells_str (n := n) h (k := k) hk
  rw [e] at h15 h16 hs
  exact ⟨y0, y1, y2, y3, y4, y5, y6, y7, y8, y9, y10, y11, y12, y13, y14, y15, y16, e, by simpa using h15, by simpa using h16, hs⟩
theorem rowV_agg {L : List ByteArray} {n : Int} {y0 y1 y2 y3 y4 y5 y6 y7 y8 y9 y10 y11 y12 y13 y14 y15 y16 : Value} (e : cellsL L n = [y0, y1, y2, y3, y4, y5, y6, y7, y8, y9, y10, y11, y12, y13, y14, y15, y16]) : rowV L n = .agg #[y0, y1, y2, y3, y4, y5, y6, y7, y8, y9, y10, y11, y12, y13, y14, y15, y16] := by unfold rowV; rw [e]
end Sp
open Sp

theorem isBlock_any (s : ByteArray) (w : World) (_hs : s.size ≤ maxLen) :
    Calls Try.prog 36 #[.string s] w fun e w' => e = .returned (.bool (decide (s.size = 64))) ∧ w = w' := by
  by_cases h : s.size = 64
  · have h2 : ((s.size : Int) == 64) = true := by rw [h]; rfl
    rw [decide_eq_true h]
    have hH := Lib.hid h
    clear h
    go_enter Try.func36, Try.ntmps36
    go_wp2
    go_ret
    exact ⟨rfl, rfl⟩
  · have h2 : ((s.size : Int) == 64) = false := by rw [beq_eq_false_iff_ne]; omega
    rw [decide_eq_false h]
    clear h
    go_enter Try.func36, Try.ntmps36
    go_wp2
    go_ret
    exact ⟨rfl, rfl⟩

theorem rowV_nil (n : Int) : rowV [] n = .agg #[.string ⟨#[]⟩, .string ⟨#[]⟩, .string ⟨#[]⟩, .string ⟨#[]⟩, .string ⟨#[]⟩, .string ⟨#[]⟩, .string ⟨#[]⟩, .string ⟨#[]⟩, .string ⟨#[]⟩, .string ⟨#[]⟩, .string ⟨#[]⟩, .string ⟨#[]⟩, .string ⟨#[]⟩, .string ⟨#[]⟩, .string ⟨#[]⟩, .int .i64 0, .int .i64 n] := rfl

theorem count_anyS (L : List ByteArray) (n : Int) (w : World) (h : L.length ≤ 15) :
    Calls Try.prog 14 #[rowV L n] w fun e w' => e = .returned (.int .i64 (L.length : Int)) ∧ Below w.heap.size w w' := by
  obtain ⟨y0, y1, y2, y3, y4, y5, y6, y7, y8, y9, y10, y11, y12, y13, y14, y15, y16, e, rfl, rfl, hs⟩ := opened (n := n) h
  rw [rowV_agg e]
  clear e hs
  go_enter Try.func14, Try.ntmps14
  go_wp2
  go_ret
  exact ⟨rfl, (Below.refl _ _).alloc (Nat.le_refl _) _⟩
theorem full_anyS (L : List ByteArray) (n : Int) (w : World) (h : L.length ≤ 15) :
    Calls Try.prog 15 #[rowV L n] w fun e w' => e = .returned (.bool (decide ((L.length : Int) = n))) ∧ Below w.heap.size w w' := by
  obtain ⟨y0, y1, y2, y3, y4, y5, y6, y7, y8, y9, y10, y11, y12, y13, y14, y15, y16, e, rfl, rfl, hs⟩ := opened (n := n) h
  rw [rowV_agg e]
  clear e hs
  by_cases hn : (L.length : Int) = n
  · rw [decide_eq_true hn]
    have h2 : ((L.length : Int) == n) = true := by rw [beq_iff_eq]; exact hn
    clear hn
    go_enter Try.func15, Try.ntmps15
    go_wp2
    go_ret
    exact ⟨rfl, (Below.refl _ _).alloc (Nat.le_refl _) _⟩
  · rw [decide_eq_false hn]
    have h2 : ((L.length : Int) == n) = false := by rw [beq_eq_false_iff_ne]; exact hn
    clear hn
    go_enter Try.func15, Try.ntmps15
    go_wp2
    go_ret
    exact ⟨rfl, (Below.refl _ _).alloc (Nat.le_refl _) _⟩

end Go.Proofs.Ytonoanjakfaloaa
