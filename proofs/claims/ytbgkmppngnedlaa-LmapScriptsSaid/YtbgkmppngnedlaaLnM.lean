/- The newest entry of a block by its place, and who lives in a zone, as the document tells them: plain facts. -/
import Derived.Test.YtbgkmppngnedlaaLmU
namespace Go.Proofs.Ytbgkmppngnedlaa
open Go.RowKit

def adAt (l : List Ad) (i : Nat) : Ad := l.getD i default
theorem adAt_eq {l : List Ad} {i : Nat} (h : i < l.length) : adAt l i = l[i] := by unfold adAt; rw [List.getD_eq_getElem?_getD, List.getElem?_eq_getElem h]; rfl
/-- The place of a block's newest entry among the first k. -/
def nwK (l : List Ad) (b : Int) : Nat → Option Nat
  | 0 => none
  | k + 1 => if ((adAt l k).b == b && (match nwK l b k with | none => true | some p => decide ((adAt l p).s ≤ (adAt l k).s))) = true then some k else nwK l b k
def nwT (l : List Ad) (b : Int) (k : Nat) : Bool := (adAt l k).b == b && (match nwK l b k with | none => true | some p => decide ((adAt l p).s ≤ (adAt l k).s))
def optI (o : Option Nat) : Int := match o with | none => -1 | some p => (p : Int)
theorem nwK_succ (l : List Ad) (b : Int) (k : Nat) : nwK l b (k + 1) = if nwT l b k = true then some k else nwK l b k := rfl
theorem nwK_is (l : List Ad) (b : Int) : ∀ k p, nwK l b k = some p → p < k ∧ (adAt l p).b = b
  | 0, p, h => by cases h
  | k + 1, p, h => by
    rw [nwK_succ] at h
    split at h
    · rename_i h1
      injection h with h
      subst h
      unfold nwT at h1
      rw [Bool.and_eq_true, beq_iff_eq] at h1
      exact ⟨by omega, h1.1⟩
    · obtain ⟨h1, h2⟩ := nwK_is l b k p h
      exact ⟨by omega, h2⟩
theorem nw_new (l : List Ad) (b : Int) : ∀ k, k ≤ l.length → newF (l.take k) b = (nwK l b k).map fun p => enOf (adAt l p)
  | 0, _ => rfl
  | k + 1, h => by
    have ih := nw_new l b k (by omega)
    rw [List.take_succ_eq_append_getElem (by omega), newF_snoc, addE_at, nwK_succ, ← adAt_eq (by omega : k < l.length)]
    unfold nwT
    by_cases hb : b = (adAt l k).b
    · have hbb : ((adAt l k).b == b) = true := by simp [hb]
      rw [if_pos hb, ih, hbb, Bool.true_and]
      unfold opE
      cases hn : nwK l b k with
      | none => simp [newer]
      | some p =>
        have e : newer (Option.map (fun p => enOf (adAt l p)) (some p)) (enOf (adAt l k)).s = decide ((adAt l p).s ≤ (adAt l k).s) := rfl
        simp only [e]
        split <;> rfl
    · have hbb : ((adAt l k).b == b) = false := by simp only [beq_eq_false_iff_ne]; exact fun e => hb e.symm
      rw [if_neg hb, ih, hbb, Bool.false_and, if_neg (by simp)]
theorem nw_newF (l : List Ad) (b : Int) : newF l b = (nwK l b l.length).map fun p => enOf (adAt l p) := by
  have h := nw_new l b l.length (Nat.le_refl _)
  rwa [List.take_length] at h
/-- Is the entry at place i the newest of its block, in that zone? -/
def inL (l : List Ad) (z : Int) (i : Nat) : Bool := (adAt l i).z == z && nwK l (adAt l i).b l.length == some i
/-- Who lives in a zone, among the first k. -/
def lvK (l : List Ad) (z : Int) : Nat → List Ad
  | 0 => []
  | k + 1 => if inL l z k = true then lvK l z k ++ [adAt l k] else lvK l z k
theorem lvK_len (l : List Ad) (z : Int) : ∀ k, (lvK l z k).length ≤ k
  | 0 => Nat.le_refl _
  | k + 1 => by
    have := lvK_len l z k
    unfold lvK
    split
    · rw [List.length_append]; show _ + 1 ≤ _; omega
    · omega
theorem lvK_mem (l : List Ad) (z : Int) : ∀ k x, x ∈ lvK l z k ↔ ∃ i, i < k ∧ inL l z i = true ∧ adAt l i = x
  | 0, x => ⟨fun h => (by cases h), fun ⟨i, h, _⟩ => absurd h (Nat.not_lt_zero _)⟩
  | k + 1, x => by
    unfold lvK
    by_cases h : inL l z k = true
    · rw [if_pos h, List.mem_append, List.mem_singleton, lvK_mem l z k x]
      constructor
      · rintro (⟨i, h1, h2, h3⟩ | h1)
        · exact ⟨i, by omega, h2, h3⟩
        · exact ⟨k, by omega, h, h1.symm⟩
      · rintro ⟨i, h1, h2, h3⟩
        by_cases e : i = k
        · subst e; exact .inr h3.symm
        · exact .inl ⟨i, by omega, h2, h3⟩
    · rw [if_neg h, lvK_mem l z k x]
      constructor
      · rintro ⟨i, h1, h2, h3⟩
        exact ⟨i, by omega, h2, h3⟩
      · rintro ⟨i, h1, h2, h3⟩
        by_cases e : i = k
        · subst e; exact absurd h2 h
        · exact ⟨i, by omega, h2, h3⟩
/-- Entries stand in the order of their groups, and in these. -/
def adLt (x y : Ad) : Prop := x.a < y.a ∨ (x.a = y.a ∧ x.e < y.e)
def SortA (l : List Ad) : Prop := l.Pairwise adLt
theorem SortA.at_ {l : List Ad} (h : SortA l) {i j : Nat} (hij : i < j) (hj : j < l.length) : adLt (adAt l i) (adAt l j) := by
  rw [adAt_eq (by omega), adAt_eq hj]
  exact List.pairwise_iff_getElem.1 h i j (by omega) hj hij
theorem lvK_sort {l : List Ad} (h : SortA l) (z : Int) : ∀ k, k ≤ l.length → (lvK l z k).Pairwise adLt
  | 0, _ => List.Pairwise.nil
  | k + 1, hk => by
    unfold lvK
    split
    · rw [List.pairwise_append]
      refine ⟨lvK_sort h z k (by omega), by simp, fun x hx y hy => ?_⟩
      rw [List.mem_singleton] at hy
      subst hy
      obtain ⟨i, h1, _, rfl⟩ := (lvK_mem l z k x).1 hx
      exact h.at_ h1 (by omega)
    · exact lvK_sort h z k (by omega)
/-- All that live there already stand ahead of the next one. -/
theorem lvK_before {l : List Ad} (h : SortA l) (z : Int) {k : Nat} (hk : k < l.length) {x : Ad} (hx : x ∈ lvK l z k) : adLt x (adAt l k) := by
  obtain ⟨i, h1, _, rfl⟩ := (lvK_mem l z k x).1 hx
  exact h.at_ h1 hk
theorem adL_sort (z a s : Int) : ∀ (j : Nat) (t : List (Int × Bool)), (adL z a s j t).Pairwise adLt ∧ ∀ x ∈ adL z a s j t, x.a = a ∧ (j : Int) ≤ x.e
  | j, [] => ⟨List.Pairwise.nil, fun x h => (by cases h)⟩
  | j, y :: t => by
    obtain ⟨h1, h2⟩ := adL_sort z a s (j + 1) t
    refine ⟨?_, fun x h => ?_⟩
    · show (_ :: adL z a s (j + 1) t).Pairwise adLt
      rw [List.pairwise_cons]
      refine ⟨fun x hx => .inr ⟨(h2 x hx).1.symm, ?_⟩, h1⟩
      have := (h2 x hx).2
      show (j : Int) < x.e
      omega
    · have h' : x = ⟨z, a, (j : Int), s, y.1, y.2⟩ ∨ x ∈ adL z a s (j + 1) t := List.mem_cons.1 h
      rcases h' with rfl | h'
      · exact ⟨rfl, Int.le_refl _⟩
      · have := h2 x h'
        exact ⟨this.1, by omega⟩
theorem adM_sort (l : List GA) : ∀ k, SortA (adM l k) ∧ ∀ x ∈ adM l k, x.a < (k : Int)
  | 0 => ⟨List.Pairwise.nil, fun x h => (by cases h)⟩
  | k + 1 => by
    obtain ⟨h1, h2⟩ := adM_sort l k
    cases hc : l[k]? with
    | none =>
      have e : adM l (k + 1) = adM l k := by
        show adM l k ++ (match l[k]? with | some c => adL (c.z % 8) (k : Int) (seqM c) 0 (esM c 10) | none => []) = _
        rw [hc]
        exact List.append_nil _
      rw [e]
      exact ⟨h1, fun x hx => by have := h2 x hx; omega⟩
    | some c =>
      have e : adM l (k + 1) = adM l k ++ adL (c.z % 8) (k : Int) (seqM c) 0 (esM c 10) := by
        show adM l k ++ (match l[k]? with | some c => adL (c.z % 8) (k : Int) (seqM c) 0 (esM c 10) | none => []) = _
        rw [hc]
      obtain ⟨g1, g2⟩ := adL_sort (c.z % 8) (k : Int) (seqM c) 0 (esM c 10)
      rw [e]
      refine ⟨?_, fun x hx => ?_⟩
      · unfold SortA
        rw [List.pairwise_append]
        exact ⟨h1, g1, fun x hx y hy => .inl (by have := h2 x hx; have := (g2 y hy).1; omega)⟩
      · rcases List.mem_append.1 hx with h | h
        · have := h2 x h; omega
        · have := (g2 x h).1; omega
def toLv (x : Ad) : Lv := ⟨x.b, x.t, x.z, x.a, x.e⟩
theorem LiveL.mem {f : Mp} {z : Int} {L : List Lv} (h : LiveL f z L) {b : Int} {y : En} (hy : f b = some y) (hz : y.z = z) : (⟨b, y.t, y.z, y.a, y.e⟩ : Lv) ∈ L := by
  obtain ⟨⟨ps, h1, h2, h3⟩, _⟩ := h
  rw [h3.mem_iff]
  have hk : b ∈ ps.map (·.1) := (h1.2 b).2 (by rw [hy]; rfl)
  obtain ⟨p, hp, e⟩ := List.mem_map.1 hk
  have hf := (h2 p hp).1
  rw [e, hy] at hf
  injection hf with hf
  unfold inZ
  refine List.mem_map.2 ⟨p, List.mem_filter.2 ⟨hp, by rw [← hf]; simpa using hz⟩, ?_⟩
  rw [hf, ← e]
  rfl
theorem LiveL.nodup {f : Mp} {z : Int} {L : List Lv} (h : LiveL f z L) : L.Nodup := by
  obtain ⟨⟨ps, h1, h2, h3⟩, _⟩ := h
  rw [h3.nodup_iff]
  have hn : (ps.map (·.1)).Nodup := h1.1
  unfold inZ
  have h4 : (ps.filter fun p => p.2.z == z).Pairwise (fun a b => a.1 ≠ b.1) := by
    have h5 : ps.Pairwise (fun a b => a.1 ≠ b.1) := List.pairwise_map.1 hn
    exact h5.filter _
  show ((ps.filter fun p => p.2.z == z).map mkL).Pairwise (· ≠ ·)
  rw [List.pairwise_map]
  exact h4.imp fun {a b} hab e => hab (congrArg Lv.b e)
/-- Who lives in a zone of a map of these entries is who the document says. -/
theorem live_eq {l : List Ad} (hs : SortA l) {z : Int} {L : List Lv} (h : LiveL (newF l) z L) : L = (lvK l z l.length).map toLv := by
  have hsort := lvK_sort hs z l.length (Nat.le_refl _)
  have hmem : ∀ x, x ∈ L ↔ x ∈ (lvK l z l.length).map toLv := fun x => by
    constructor
    · intro hx
      obtain ⟨s, hf, hz, _⟩ := h.at_ hx
      rw [nw_newF, Option.map_eq_some_iff] at hf
      obtain ⟨p, hp, e⟩ := hf
      obtain ⟨h1, h2⟩ := nwK_is l x.b l.length p hp
      have e1 := congrArg En.t e
      have e2 := congrArg En.z e
      have e3 := congrArg En.a e
      have e4 := congrArg En.e e
      refine List.mem_map.2 ⟨adAt l p, (lvK_mem l z _ _).2 ⟨p, h1, ?_, rfl⟩, ?_⟩
      · unfold inL
        rw [h2, hp]
        have e2' : (adAt l p).z = x.z := e2
        simp [e2', hz]
      · unfold toLv
        rw [h2]
        show (⟨x.b, (enOf (adAt l p)).t, (enOf (adAt l p)).z, (enOf (adAt l p)).a, (enOf (adAt l p)).e⟩ : Lv) = x
        rw [e1, e2, e3, e4]
    · intro hx
      obtain ⟨y, hy, rfl⟩ := List.mem_map.1 hx
      obtain ⟨i, hi, hin, rfl⟩ := (lvK_mem l z _ _).1 hy
      unfold inL at hin
      rw [Bool.and_eq_true, beq_iff_eq, beq_iff_eq] at hin
      have hf : newF l (adAt l i).b = some (enOf (adAt l i)) := by rw [nw_newF, hin.2]; rfl
      exact h.mem hf hin.1
  have hnd : ((lvK l z l.length).map toLv).Pairwise (fun a b => lvLt a b) := by
    rw [List.pairwise_map]
    exact hsort.imp fun {a b} hab => by
      unfold adLt at hab
      show a.a < b.a ∨ (a.a = b.a ∧ (a.e < b.e ∨ (a.e = b.e ∧ a.b < b.b)))
      rcases hab with h | ⟨h, h2⟩
      · exact .inl h
      · exact .inr ⟨h, .inl h2⟩
  have hnd2 : ((lvK l z l.length).map toLv).Nodup := hnd.imp fun {a b} hab e => by subst e; unfold lvLt at hab; omega
  have hp : L.Perm ((lvK l z l.length).map toLv) := (List.perm_ext_iff_of_nodup h.nodup hnd2).2 hmem
  refine List.Perm.eq_of_pairwise (le := fun a b => ¬ lvLt b a) ?_ h.2 (hnd.imp fun {a b} hab h2 => by unfold lvLt at hab h2; omega) hp
  intro a b ha hb h1 h2
  have hb1 := (hmem b).2 hb
  obtain ⟨s, hfa, _, _⟩ := h.at_ ha
  obtain ⟨s', hfb, _, _⟩ := h.at_ hb1
  unfold lvLt at h1 h2
  have e : a.b = b.b := by omega
  rw [e, hfb] at hfa
  injection hfa with hfa
  cases a; cases b
  simp only [En.mk.injEq, Lv.mk.injEq] at *
  exact ⟨e, hfa.2.1.symm, hfa.2.2.1.symm, hfa.2.2.2.1.symm, hfa.2.2.2.2.symm⟩
theorem lvK_eq (l : List Ad) (z : Int) : ∀ k, lvK l z k = ((List.range k).filter (inL l z)).map (adAt l)
  | 0 => rfl
  | k + 1 => by
    rw [List.range_succ, List.filter_append, List.map_append, ← lvK_eq l z k, List.filter_cons]
    unfold lvK
    by_cases h : inL l z k = true
    · rw [if_pos h, if_pos h]
      cases k <;> rfl
    · rw [if_neg h, if_neg h]
      cases k
      · rfl
      · exact (List.append_nil _).symm
/-- Is the entry at place i the newest of its block? -/
def isNw (l : List Ad) (i : Nat) : Bool := nwK l (adAt l i).b l.length == some i
def nwB (l : List Ad) : List Int := ((List.range l.length).filter (isNw l)).map fun i => (adAt l i).b
theorem nwB_keys (l : List Ad) : KeysOf (newF l) (nwB l) := by
  constructor
  · show (((List.range l.length).filter (isNw l)).map fun i => (adAt l i).b).Pairwise (· ≠ ·)
    rw [List.pairwise_map]
    have h1 : ((List.range l.length).filter (isNw l)).Nodup := List.nodup_range.filter _
    refine List.Pairwise.imp_of_mem (fun {a b} ha hb hab e => hab ?_) h1
    have h2 := (List.mem_filter.1 ha).2
    have h3 := (List.mem_filter.1 hb).2
    unfold isNw at h2 h3
    rw [beq_iff_eq] at h2 h3
    rw [e] at h2
    have := h2.symm.trans h3
    injection this
  · intro k
    unfold nwB
    rw [List.mem_map, nw_newF, Option.isSome_map]
    constructor
    · rintro ⟨i, hi, rfl⟩
      have h2 := (List.mem_filter.1 hi).2
      unfold isNw at h2
      rw [beq_iff_eq] at h2
      rw [h2]
      rfl
    · intro h
      cases hn : nwK l k l.length with
      | none => rw [hn] at h; cases h
      | some p =>
        obtain ⟨h1, h2⟩ := nwK_is l k l.length p hn
        refine ⟨p, List.mem_filter.2 ⟨List.mem_range.2 h1, ?_⟩, h2⟩
        unfold isNw
        rw [h2, hn]
        simp
theorem live_cnt (l : List Ad) {z : Int} {K : List Int} (hK : KeysOf (newF l) K) : cntZ (newF l) K z = (lvK l z l.length).length := by
  rw [hK.cnt (nwB_keys l) z, lvK_eq, List.length_map]
  unfold cntZ nwB
  rw [List.filter_map, List.length_map, List.filter_filter]
  congr 1
  refine List.filter_congr fun i hi => ?_
  have e : zoneIs (newF l) z (adAt l i).b = (isNw l i && ((adAt l i).z == z)) ∨ isNw l i = false := by
    cases hn : isNw l i with
    | false => exact .inr rfl
    | true =>
      left
      have h2 := hn
      unfold isNw at h2
      rw [beq_iff_eq] at h2
      unfold zoneIs
      rw [nw_newF, h2]
      simp [enOf]
  show (zoneIs (newF l) z (adAt l i).b && isNw l i) = inL l z i
  unfold inL
  show _ = ((adAt l i).z == z && isNw l i)
  rcases e with e | e
  · rw [e]
    cases isNw l i <;> cases ((adAt l i).z == z) <;> rfl
  · rw [e, Bool.and_false, Bool.and_false]
end Go.Proofs.Ytbgkmppngnedlaa
