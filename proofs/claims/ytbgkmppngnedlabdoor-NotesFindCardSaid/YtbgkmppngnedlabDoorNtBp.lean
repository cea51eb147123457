/- NotesBack: plain facts. -/
import Derived.Test.YtbgkmppngnedlabDoorNtSo
import Derived.Test.YtbgkmppngnedlabDoorNtMk
namespace Go.Proofs.YtbgkmppngnedlabDoor
open Go.RowKit Rec Go.Maps Crc

/-- The records of notes made one behind the other. -/
def bkL (zone gen : Int) (f : Nat → Nt) (k : Nat) : List Rc := (List.range k).map fun (i : Nat) => mkR (i : Int) zone gen (f i)
theorem bkL_len (zone gen : Int) (f : Nat → Nt) (k : Nat) : (bkL zone gen f k).length = k := by unfold bkL; simp
theorem bkL_succ (zone gen : Int) (f : Nat → Nt) (k : Nat) : bkL zone gen f (k + 1) = bkL zone gen f k ++ [mkR (k : Int) zone gen (f k)] := by unfold bkL; rw [List.range_succ, List.map_append]; rfl
theorem bkL_all (zone gen : Int) (f : Nat → Nt) : ∀ k, notesOf (bkL zone gen f k) (zone, gen) = (List.range k).map f
  | 0 => rfl
  | k + 1 => by
    rw [bkL_succ, notesOf_yes (by unfold isN mkR; simp), bkL_all zone gen f k, List.range_succ, List.map_append]
    rfl
theorem bkL_none (zone gen : Int) (f : Nat → Nt) {u : Int × Int} (h : ¬ (zone = u.1 ∧ gen = u.2)) : ∀ k, notesOf (bkL zone gen f k) u = []
  | 0 => rfl
  | k + 1 => by
    rw [bkL_succ, notesOf_no, bkL_none zone gen f h k]
    exact decide_eq_false (fun h2 => h ⟨h2.2.1, h2.2.2⟩)
theorem bkL_wf {zone gen : Int} (hz : WfI zone) (hg : WfI gen) (f : Nat → Nt) (k : Nat) : ∀ x ∈ bkL zone gen f k, WfI x.a ∧ WfI x.c := fun x hx => by
  unfold bkL at hx
  obtain ⟨i, _, rfl⟩ := List.mem_map.1 hx
  exact ⟨hz, hg⟩
theorem asc_len : ∀ (L l : List Nt), L.Pairwise (fun a b => a.r < b.r) → (∀ x ∈ L, x ∈ l) → L.length ≤ l.length
  | [], l, _, _ => Nat.zero_le _
  | x :: t, l, hp, hm => by
    rw [List.pairwise_cons] at hp
    have h1 := asc_len t (l.filter fun y => decide (x.r < y.r)) hp.2 (fun y hy => List.mem_filter.2 ⟨hm y (List.mem_cons_of_mem _ hy), decide_eq_true (hp.1 y hy)⟩)
    have h2 : (l.filter fun y => decide (x.r < y.r)).length < l.length := by
      rw [List.length_filter_lt_length_iff_exists]
      exact ⟨x, hm x (List.mem_cons_self), by simp⟩
    rw [List.length_cons]
    omega
theorem LastL.len {l L : List Nt} (h : LastL l L) : L.length ≤ l.length := asc_len L l h.2 (fun x hx => (lastOf_row ((h.1 x).1 hx)).2)
theorem LastL.ne {l L : List Nt} (h : LastL l L) (hl : 0 < l.length) : 0 < L.length := by
  have hx : l[0] ∈ l := List.getElem_mem hl
  obtain ⟨y, hy⟩ := lastOf_some hx
  have h1 := (lastOf_row hy).1
  rw [← h1] at hy
  exact List.length_pos_of_mem ((h.1 y).2 hy)
theorem LastL.asc {l L : List Nt} (h : LastL l L) {i j : Nat} (hj : j < L.length) (hij : i < j) : (L[i]'(by omega)).r < L[j].r := List.pairwise_iff_getElem.1 h.2 i j (by omega) hj hij
/-- The answer is one. -/
theorem asc_one : ∀ {L L' : List Nt}, L.Pairwise (fun a b => a.r < b.r) → L'.Pairwise (fun a b => a.r < b.r) → (∀ x, x ∈ L ↔ x ∈ L') → L = L'
  | [], [], _, _, _ => rfl
  | [], y :: t, _, _, h => absurd ((h y).2 (List.mem_cons_self)) (by simp)
  | x :: t, [], _, _, h => absurd ((h x).1 (List.mem_cons_self)) (by simp)
  | x :: t, y :: s, h1, h2, h => by
    rw [List.pairwise_cons] at h1 h2
    have hxy : x = y := by
      rcases List.mem_cons.1 ((h x).1 (List.mem_cons_self)) with e | e
      · exact e
      · rcases List.mem_cons.1 ((h y).2 (List.mem_cons_self)) with e2 | e2
        · exact e2.symm
        · have a := h2.1 x e
          have b := h1.1 y e2
          omega
    subst hxy
    rw [asc_one h1.2 h2.2 (fun z => by
      constructor
      · intro hz
        rcases List.mem_cons.1 ((h z).1 (List.mem_cons_of_mem _ hz)) with e | e
        · have := h1.1 z hz
          rw [e] at this
          omega
        · exact e
      · intro hz
        rcases List.mem_cons.1 ((h z).2 (List.mem_cons_of_mem _ hz)) with e | e
        · have := h2.1 z hz
          rw [e] at this
          omega
        · exact e)]
theorem LastL.one {l L L' : List Nt} (h : LastL l L) (h' : LastL l L') : L = L' := asc_one h.2 h'.2 (fun x => (h.1 x).trans (h'.1 x).symm)
end Go.Proofs.YtbgkmppngnedlabDoor
