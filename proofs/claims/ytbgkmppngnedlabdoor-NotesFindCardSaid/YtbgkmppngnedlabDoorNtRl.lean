/- The document's Last of notes: plain facts. -/
import Derived.Test.YtbgkmppngnedlabDoorNtSt
namespace Go.Proofs.YtbgkmppngnedlabDoor
open Go.RowKit Rec Go.Maps

theorem lastOf_iff {l : List Nt} {r : Int} {x : Nt} : lastOf l r = some x ↔ x.r = r ∧ ∃ (i : Nat) (h : i < l.length), l[i] = x ∧ ∀ (j : Nat) (hj : j < l.length), i < j → l[j].r ≠ r := by
  unfold lastOf
  rw [List.find?_eq_some_iff_getElem]
  constructor
  · rintro ⟨h1, i, hi, h2, h3⟩
    rw [List.length_reverse] at hi
    rw [List.getElem_reverse] at h2
    refine ⟨by simpa using h1, l.length - 1 - i, by omega, h2, fun j hj hlt => ?_⟩
    have h4 := h3 (l.length - 1 - j) (by omega)
    rw [List.getElem_reverse] at h4
    have e : l.length - 1 - (l.length - 1 - j) = j := by omega
    simp only [e] at h4
    simpa using h4
  · rintro ⟨h1, i, hi, h2, h3⟩
    have e : l.length - 1 - (l.length - 1 - i) = i := by omega
    refine ⟨by simpa using h1, l.length - 1 - i, by rw [List.length_reverse]; omega, by rw [List.getElem_reverse]; simp only [e]; exact h2, fun j hj => ?_⟩
    rw [List.getElem_reverse]
    have h4 := h3 (l.length - 1 - j) (by omega) (by omega)
    simpa using h4
/-- What has been collected of the first k. -/
def InvL (l : List Nt) (k : Nat) (out : List Nt) : Prop := out.Pairwise (fun a b => a.r < b.r) ∧ ∀ x, x ∈ out ↔ ∃ (i : Nat) (h : i < l.length), i < k ∧ l[i] = x ∧ ∀ (j : Nat) (hj : j < l.length), i < j → l[j].r ≠ x.r
theorem InvL.start (l : List Nt) : InvL l 0 [] := ⟨List.Pairwise.nil, fun x => ⟨fun h => (by cases h), fun ⟨i, _, h, _⟩ => absurd h (Nat.not_lt_zero _)⟩⟩
theorem InvL.skip {l out : List Nt} {k : Nat} (h : InvL l k out) (hk : k < l.length) (ha : ∃ (j : Nat) (hj : j < l.length), k < j ∧ l[j].r = l[k].r) : InvL l (k + 1) out := by
  refine ⟨h.1, fun x => (h.2 x).trans ⟨fun ⟨i, hi, h1, h2⟩ => ⟨i, hi, by omega, h2⟩, fun ⟨i, hi, h1, h2, h3⟩ => ?_⟩⟩
  by_cases he : i = k
  · subst he
    obtain ⟨j, hj, h4, h5⟩ := ha
    exact absurd (h5.trans (congrArg Nt.r h2)) (h3 j hj h4)
  · exact ⟨i, hi, by omega, h2, h3⟩
theorem InvL.put {l out : List Nt} {k p : Nat} (h : InvL l k out) (hk : k < l.length) (ha : ∀ (j : Nat) (hj : j < l.length), k < j → l[j].r ≠ l[k].r)
    (hp : p ≤ out.length) (hlo : ∀ (q : Nat) (hq : q < out.length), q < p → out[q].r < l[k].r) (hhi : ∀ hq : p < out.length, ¬ out[p].r < l[k].r) : InvL l (k + 1) (out.take p ++ l[k] :: out.drop p) := by
  have hne : ∀ y ∈ out, y.r ≠ l[k].r := fun y hy e => by
    obtain ⟨i, hi, h1, h2, h3⟩ := (h.2 y).1 hy
    exact h3 k hk h1 e.symm
  have hpw := h.1
  rw [← List.take_append_drop p out] at hpw
  rw [List.pairwise_append] at hpw
  obtain ⟨p1, p2, p3⟩ := hpw
  have hd : ∀ y ∈ out.drop p, l[k].r < y.r := fun y hy => by
    obtain ⟨q, hq, rfl⟩ := List.getElem_of_mem hy
    rw [List.length_drop] at hq
    rw [List.getElem_drop]
    have h1 := hhi (by omega)
    have h2 := hne out[p] (List.getElem_mem (by omega))
    by_cases e : q = 0
    · subst e
      simp only [Nat.add_zero]
      omega
    · have h3 := List.pairwise_iff_getElem.1 h.1 p (p + q) (by omega) (by omega) (by omega)
      omega
  have ht : ∀ y ∈ out.take p, y.r < l[k].r := fun y hy => by
    obtain ⟨q, hq, rfl⟩ := List.getElem_of_mem hy
    rw [List.length_take] at hq
    rw [List.getElem_take]
    exact hlo q (by omega) (by omega)
  refine ⟨?_, fun x => ?_⟩
  · rw [List.pairwise_append]
    refine ⟨p1, List.pairwise_cons.2 ⟨hd, p2⟩, fun a ha2 b hb => ?_⟩
    rcases List.mem_cons.1 hb with rfl | hb
    · exact ht a ha2
    · exact p3 a ha2 b hb
  · have hm : x ∈ out.take p ++ l[k] :: out.drop p ↔ x = l[k] ∨ x ∈ out := by
      have e : x ∈ out ↔ x ∈ out.take p ∨ x ∈ out.drop p := by
        rw [← List.mem_append, List.take_append_drop]
      rw [List.mem_append, List.mem_cons, e]
      constructor
      · rintro (h1 | h1 | h1)
        · exact .inr (.inl h1)
        · exact .inl h1
        · exact .inr (.inr h1)
      · rintro (h1 | h1 | h1)
        · exact .inr (.inl h1)
        · exact .inl h1
        · exact .inr (.inr h1)
    rw [hm, h.2 x]
    constructor
    · rintro (rfl | ⟨i, hi, h1, h2, h3⟩)
      · exact ⟨k, hk, by omega, rfl, ha⟩
      · exact ⟨i, hi, by omega, h2, h3⟩
    · rintro ⟨i, hi, h1, h2, h3⟩
      by_cases he : i = k
      · subst he
        exact .inl h2.symm
      · exact .inr ⟨i, hi, by omega, h2, h3⟩
theorem InvL.last {l out : List Nt} (h : InvL l l.length out) : LastL l out := by
  refine ⟨fun x => ?_, h.1⟩
  rw [h.2 x, lastOf_iff]
  constructor
  · rintro ⟨i, hi, _, h2, h3⟩
    exact ⟨rfl, i, hi, h2, h3⟩
  · rintro ⟨_, i, hi, h2, h3⟩
    exact ⟨i, hi, hi, h2, h3⟩
end Go.Proofs.YtbgkmppngnedlabDoor
