/- A row of notes, sorted. -/
import Derived.Test.YtbgkmppngnedlabDoorNtAp
import Derived.Shelf.GgSortFunc.InsertionK
namespace Go.Proofs.YtbgkmppngnedlabDoor
open Go.RowKit Rec Go.Maps Go.Sort Go.Shelf

instance : Inhabited Nt := ⟨⟨0, 0, ⟨#[]⟩⟩⟩
theorem heap_sortedN {w : World} {g n : Nat} {os : Array Obj} {cur : Array Value} {e : TypeId} {fr : Nat × Nat} (F : Array Value) (hb : w.heap[g]? = some (.cells cur e fr)) :
    (grow (putRow id (Sort.ahead w n) g 0 F) os).heap[g]? = some (.cells (putCells id 0 F cur) e fr) := by
  have hg : g < w.heap.size := (Array.getElem?_eq_some_iff.1 hb).1
  rw [heap_grow_old _ _ (by simpa using hg)]
  simp [putRow, mapBlock, Sort.ahead, Array.getElem?_modify, hb, onCells]
theorem grownBy_sortedN {w : World} {g n : Nat} {os : Array Obj} (F : Array Value) : w.grownBy (grow (putRow id (Sort.ahead w n) g 0 F) os) (some g) := by
  refine ⟨rfl, rfl, rfl, by simp, fun k hk hne => ?_⟩
  rw [heap_grow_old _ _ (by simpa using hk)]
  have : g ≠ k := fun e => hne (by rw [e])
  simp [putRow, mapBlock, Sort.ahead, Array.getElem?_modify, this]
theorem take_putCellsN (cur F : Array Value) (h : F.size ≤ cur.size) : (putCells id 0 F cur).toList.take F.size = F.toList := by
  apply List.ext_getElem?
  intro j
  by_cases hj : j < F.size
  · rw [List.getElem?_take_of_lt hj, Array.getElem?_toList]
    simp [putCells, hj, show j < cur.size by omega]
  · rw [List.getElem?_take_eq_none (by omega), List.getElem?_eq_none (by simp; omega)]
theorem flatK_list (d : Array Nt) : (flatK ntE.c 3 d).toList = ntE.flat d.toList := by
  apply List.ext_getElem?
  intro t
  by_cases ht : t < d.size * 3
  · have h1 := get_flatK ntE.c 3 d t ht
    have hd : t / 3 < d.size := by omega
    have hm : t % 3 < 3 := Nat.mod_lt _ (by omega)
    have h2 := ntE.flat_at d.toList (t / 3) (by simpa using hd) (t % 3) hm
    have e : t / 3 * ntE.k + t % 3 = t := by show t / 3 * 3 + t % 3 = t; omega
    rw [e] at h2
    rw [h2]
    have hs : t < (flatK ntE.c 3 d).size := by rw [size_flatK]; exact ht
    rw [getElem!_pos _ t hs, getElem!_pos d _ hd] at h1
    have hl : (ntE.c d[t / 3]).length = 3 := rfl
    rw [getElem!_pos (ntE.c d[t / 3]) _ (by rw [hl]; exact hm)] at h1
    rw [List.getElem?_eq_getElem (by simpa using hs), List.getElem?_eq_getElem (by simp only [Array.getElem_toList]; rw [hl]; exact hm)]
    simp only [Array.getElem_toList, h1]
  · rw [List.getElem?_eq_none (by rw [Array.length_toList, size_flatK]; omega), List.getElem?_eq_none (by rw [ntE.flat_len, Array.length_toList]; show d.size * 3 ≤ t; omega)]
theorem row_sorted {W : World} {base g cap : Nat} {l : List Nt} (hr : ntE.Row W base 45 (some ⟨g, 0, none⟩) cap l) :
    HoldsK ntE.c 3 W g 0 l.toArray ∧ base ≤ g ∧ g < W.heap.size ∧ ∀ (n : Nat) (d' : Array Nt) (os : Array Obj), d'.size = l.length →
      ntE.Row (sortWorldK ntE.c 3 W g 0 n d' os) base 45 (some ⟨g, 0, none⟩) cap d'.toList ∧ W.grownBy (sortWorldK ntE.c 3 W g 0 n d' os) (some g) := by
  rcases hr.2 with ⟨e, _⟩ | ⟨g', cap', cur, e, hb, hh, h1, h2, h3, h4⟩
  · cases e
  · injection e with e1 _ e3
    injection e1 with e1; injection e1 with e1 _ _
    subst e1; subst e3
    have hg : g < W.heap.size := (Array.getElem?_eq_some_iff.1 hh).1
    refine ⟨?_, hb, hg, fun n d' os hs => ⟨?_, grownBy_sortedN _⟩⟩
    · intro j hj
      rw [size_flatK] at hj
      have hj' : j < l.length * 3 := by simpa using hj
      refine ⟨?_, by simp [World.frozen?, hh]⟩
      have hx : (cur.toList.take (l.length * 3))[j]? = (ntE.flat l)[j]? := congrArg (·[j]?) h4
      rw [List.getElem?_take_of_lt hj'] at hx
      have hy := flatK_list l.toArray
      rw [List.toList_toArray] at hy
      rw [← hy] at hx
      have hs : j < (flatK ntE.c 3 l.toArray).size := by rw [size_flatK]; exact hj
      rw [getElem!_pos _ j hs]
      simp only [World.cell?, hh, Nat.zero_add, Option.isSome_none, Bool.false_eq_true, if_false]
      rw [← Array.getElem?_toList, hx, List.getElem?_eq_getElem (by simpa using hs)]
      rfl
    · have hF : (flatK ntE.c 3 d').size = l.length * 3 := by rw [size_flatK, hs]
      have hcur : cur.size = cap * 3 := h3
      have hcs : (flatK ntE.c 3 d').size ≤ cur.size := by rw [hF, hcur]; omega
      have h5 := take_putCellsN cur (flatK ntE.c 3 d') hcs
      rw [flatK_list, hF, ← hs] at h5
      unfold Enc.Row
      rw [Array.length_toList]
      refine ⟨by rw [ntE.flat_len, Array.length_toList], .inr ⟨g, cap, _, rfl, hb, heap_sortedN _ hh, by rw [hs]; exact h1, h2, ?_, h5⟩⟩
      simp [putCells, hcur]
      rfl
/-- What Last answers: the last note of each row, by rows. -/
def LastL (l L : List Nt) : Prop := (∀ x, x ∈ L ↔ lastOf l x.r = some x) ∧ L.Pairwise (fun a b => a.r < b.r)
theorem LastL.of {l L : List Nt} {ps : List (Int × Nt)} (h : AllOf (dOf l) ps) (hp : L.Perm (ps.map (·.2))) (hs : L.Pairwise (fun a b => ¬ b.r < a.r)) : LastL l L := by
  have hl := h.last
  have hr : ∀ p ∈ ps, p.2.r = p.1 := fun p hp => (lastOf_row (hl p hp)).1
  refine ⟨fun x => ?_, ?_⟩
  · rw [hp.mem_iff, List.mem_map]
    constructor
    · rintro ⟨p, hp1, rfl⟩
      rw [hr p hp1]
      exact hl p hp1
    · intro hx
      have h1 : has (dOf l) (.int .i64 x.r) = true := by rw [dOf_has, hx]; rfl
      obtain ⟨p, hp1, hp2⟩ := List.mem_map.1 ((h.2.1 x.r).2 h1)
      refine ⟨p, hp1, ?_⟩
      have h2 := hl p hp1
      rw [hp2, hx] at h2
      exact (Option.some.inj h2).symm
  · have hnd : (L.map (·.r)).Nodup := by
      have e : (ps.map (·.2)).map (·.r) = ps.map (·.1) := by
        rw [List.map_map]
        exact List.map_congr_left (fun p hp1 => hr p hp1)
      have h1 := (hp.map (·.r)).nodup_iff
      rw [e] at h1
      exact h1.2 h.1
    have h2 : L.Pairwise (fun a b => a.r ≠ b.r) := by
      have := hnd
      unfold List.Nodup at this
      rwa [List.pairwise_map] at this
    exact (hs.and h2).imp (fun ⟨h3, h4⟩ => by omega)
theorem perm_of {d d' : Array Nt} (h : PermIn 0 d.size d d') : d'.size = d.size ∧ d'.toList.Perm d.toList := by
  obtain ⟨h1, _, h3⟩ := h
  rw [← h1] at h3
  rw [Array.extract_size, h1, Array.extract_size] at h3
  exact ⟨h1, h3⟩
theorem sorted_of {d : Array Nt} (h : SortedIn (fun x y : Nt => decide (x.r < y.r)) 0 d.size d) : d.toList.Pairwise (fun a b => ¬ b.r < a.r) := by
  rw [List.pairwise_iff_getElem]
  intro i j hi hj hij
  have hi' : i < d.size := by simpa using hi
  have hj' : j < d.size := by simpa using hj
  have h1 := h i j (Nat.zero_le _) hij hj'
  rw [getElem!_pos d i hi', getElem!_pos d j hj'] at h1
  simpa using h1
end Go.Proofs.YtbgkmppngnedlabDoor
