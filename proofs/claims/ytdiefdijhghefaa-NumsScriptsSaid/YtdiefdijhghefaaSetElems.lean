/- A set's numbers as a rising list, and what With and Without make of it. -/
import Derived.Test.YtdiefdijhghefaaSetNext
import Derived.Test.YtdiefdijhghefaaSetOf
namespace Go.Proofs.Ytdiefdijhghefaa
open Go.RowKit Sets

theorem elems_mem' (s : W4) (x : Int) : x ∈ elems s ↔ s.hasI x = true := by
  unfold elems upto W4.hasI
  rw [List.mem_map]
  constructor
  · rintro ⟨n, hn, rfl⟩
    rw [List.mem_filter] at hn
    simpa using hn.2
  · intro h
    simp only [Bool.and_eq_true, decide_eq_true_iff] at h
    refine ⟨x.toNat, ?_, by show ((x.toNat : Nat) : Int) = x; omega⟩
    rw [List.mem_filter, List.mem_range]
    refine ⟨?_, h.2⟩
    have h2 := h.2
    unfold W4.has at h2
    simp at h2
    omega
theorem elems_sorted' (s : W4) : (elems s).Pairwise (· < ·) := by
  unfold elems upto
  rw [List.pairwise_map]
  refine List.Pairwise.filter _ ?_
  refine List.Pairwise.imp ?_ List.pairwise_lt_range
  intro a b h
  show ((a : Nat) : Int) < ((b : Nat) : Int)
  omega
/-- Rising lists of the same numbers are one. -/
theorem rising_ext : ∀ {xs ys : List Int}, xs.Pairwise (· < ·) → ys.Pairwise (· < ·) → (∀ x, x ∈ xs ↔ x ∈ ys) → xs = ys
  | [], [], _, _, _ => rfl
  | [], y :: ys, _, _, h => by simpa using (h y).2 (by simp)
  | x :: xs, [], _, _, h => by simpa using (h x).1 (by simp)
  | x :: xs, y :: ys, hx, hy, h => by
    rw [List.pairwise_cons] at hx hy
    have e : x = y := by
      have h1 : x ∈ y :: ys := (h x).1 (by simp)
      have h2 : y ∈ x :: xs := (h y).2 (by simp)
      rcases List.mem_cons.1 h1 with e | h1
      · exact e
      · rcases List.mem_cons.1 h2 with e | h2
        · exact e.symm
        · have := hx.1 _ h2; have := hy.1 _ h1; omega
    subst e
    rw [rising_ext hx.2 hy.2 fun z => ?_]
    have hz := h z
    simp only [List.mem_cons] at hz
    constructor
    · intro hm
      rcases hz.1 (.inr hm) with e | hm2
      · subst e; have := hx.1 _ hm; omega
      · exact hm2
    · intro hm
      rcases hz.2 (.inr hm) with e | hm2
      · subst e; have := hy.1 _ hm; omega
      · exact hm2

/-- A number put ahead of the first greater one. -/
def ins (n : Int) : List Int → List Int
  | [] => [n]
  | x :: xs => if n < x then n :: x :: xs else x :: ins n xs
theorem ins_mem (n x : Int) : ∀ xs : List Int, x ∈ ins n xs ↔ x = n ∨ x ∈ xs
  | [] => by simp [ins]
  | y :: ys => by
    unfold ins
    split
    · simp
    · rw [List.mem_cons, ins_mem n x ys, List.mem_cons]
      constructor
      · rintro (h | h | h)
        · exact .inr (.inl h)
        · exact .inl h
        · exact .inr (.inr h)
      · rintro (h | h | h)
        · exact .inr (.inl h)
        · exact .inl h
        · exact .inr (.inr h)
theorem ins_rising (n : Int) : ∀ {xs : List Int}, xs.Pairwise (· < ·) → n ∉ xs → (ins n xs).Pairwise (· < ·)
  | [], _, _ => by simp [ins]
  | y :: ys, h, hn => by
    unfold ins
    rw [List.mem_cons, not_or] at hn
    have h' := List.pairwise_cons.1 h
    split
    · rename_i hlt
      rw [List.pairwise_cons]
      refine ⟨fun z hz => ?_, h⟩
      rcases List.mem_cons.1 hz with e | hz
      · omega
      · have := h'.1 z hz; omega
    · rename_i hlt
      rw [List.pairwise_cons]
      refine ⟨fun z hz => ?_, ins_rising n h'.2 hn.2⟩
      rcases (ins_mem n z ys).1 hz with e | hz
      · have := hn.1; omega
      · exact h'.1 z hz
theorem ins_length (n : Int) : ∀ xs : List Int, (ins n xs).length = xs.length + 1
  | [] => rfl
  | y :: ys => by
    unfold ins
    split
    · simp
    · simp [ins_length n ys]

/-- What With makes of a list. -/
def withL (n : Int) (xs : List Int) : List Int := if n < 0 ∨ 255 < n ∨ n ∈ xs then xs else ins n xs
/-- What Without makes of it. -/
def lessL (n : Int) (xs : List Int) : List Int := xs.filter fun x => x != n

theorem elems_with (s : W4) (n : Int) : elems (s.withI n) = withL n (elems s) := by
  unfold withL
  split
  · rename_i h
    refine rising_ext (elems_sorted' _) (elems_sorted' _) fun x => ?_
    rw [elems_mem', elems_mem', W4.hasI_withI]
    rcases h with h | h | h
    · simp; omega
    · simp; omega
    · rw [elems_mem'] at h
      by_cases e : x = n
      · subst e; simp [h]
      · simp [e]
  · rename_i h
    simp only [not_or] at h
    refine rising_ext (elems_sorted' _) (ins_rising n (elems_sorted' _) h.2.2) fun x => ?_
    rw [elems_mem', ins_mem, elems_mem', W4.hasI_withI, decide_eq_true (show 0 ≤ n ∧ n < 256 by omega)]
    simp [or_comm]
theorem elems_less (s : W4) (n : Int) : elems (s.lessI n) = lessL n (elems s) := by
  refine rising_ext (elems_sorted' _) (List.Pairwise.filter _ (elems_sorted' _)) fun x => ?_
  unfold lessL
  rw [elems_mem', List.mem_filter, elems_mem', W4.hasI_lessI]
  by_cases e : x = n
  · subst e
    simp
    intro h1
    exact W4.hasI_range h1
  · simp [e]
end Go.Proofs.Ytdiefdijhghefaa
