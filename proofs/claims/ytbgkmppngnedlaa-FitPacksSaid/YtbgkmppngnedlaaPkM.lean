/- Which zone is cleaned, which are empty, how entries are packed: plain facts. -/
import Derived.Test.YtbgkmppngnedlaaOBase
import Derived.Test.YtbgkmppngnedlaaOKRow
namespace Go.Proofs.Ytbgkmppngnedlaa
open Go.RowKit

/-- A zone as the cleaner sees it: its length, its live entries, being written? -/
structure Pz where
  l : Int
  v : Int
  o : Bool
instance : Inhabited Pz := ⟨⟨0, 0, false⟩⟩
def Pz.w (z : Pz) : Bool := decide (0 < z.l)
def Pz.e (z : Pz) : Bool := z.l == 0
/-- Is one cleaned ahead of another? -/
def betterZ (a b : Pz) : Bool := decide (a.v < b.v) || (a.v == b.v && decide (b.l < a.l))
def cmpIZ (a b : Int) : Int := if a < b then -1 else if b < a then 1 else 0
/-- What MinFunc is told of two. -/
def cmpZ (a b : Pz) : Int := if cmpIZ a.v b.v ≠ 0 then cmpIZ a.v b.v else cmpIZ b.l a.l
theorem cmpZ_lt (a b : Pz) : decide (cmpZ a b < 0) = betterZ a b := by
  unfold cmpZ betterZ cmpIZ
  by_cases h1 : a.v < b.v
  · simp [h1]
  · by_cases h2 : b.v < a.v
    · have : ¬ a.v = b.v := by omega
      simp [h1, h2, this]
    · have h3 : a.v = b.v := by omega
      by_cases h4 : b.l < a.l
      · simp [h3, h4]
      · by_cases h5 : a.l < b.l <;> simp [h3, h4, h5]
def zAt (l : List Pz) (i : Nat) : Pz := l.getD i default
theorem zAt_eq {l : List Pz} {i : Nat} (h : i < l.length) : zAt l i = l[i] := by unfold zAt; rw [List.getD_eq_getElem?_getD, List.getElem?_eq_getElem h]; rfl
/-- The places of those of the first k that aren't being written and match. -/
def clK (p : Pz → Bool) (l : List Pz) (k : Nat) : List Nat := (List.range k).filter fun i => !(zAt l i).o && p (zAt l i)
theorem clK_succ (p : Pz → Bool) (l : List Pz) (k : Nat) : clK p l (k + 1) = if (!(zAt l k).o && p (zAt l k)) = true then clK p l k ++ [k] else clK p l k := by
  unfold clK
  rw [List.range_succ, List.filter_append, List.filter_cons]
  by_cases h : (!(zAt l k).o && p (zAt l k)) = true
  · rw [if_pos h, if_pos h]; rfl
  · rw [if_neg h, if_neg h]; exact List.append_nil _
theorem clK_lt {p : Pz → Bool} {l : List Pz} {k i : Nat} (h : i ∈ clK p l k) : i < k := List.mem_range.1 (List.mem_filter.1 h).1
theorem clK_ok {p : Pz → Bool} {l : List Pz} {k i : Nat} (h : i ∈ clK p l k) : (!(zAt l i).o && p (zAt l i)) = true := (List.mem_filter.1 h).2
theorem clK_len (p : Pz → Bool) (l : List Pz) (k : Nat) : (clK p l k).length ≤ k := by
  have := List.length_filter_le (fun i => !(zAt l i).o && p (zAt l i)) (List.range k)
  rw [List.length_range] at this
  exact this
/-- The least of a row of places, the first of equal ones. -/
def minZ (l : List Pz) (x : Nat) (t : List Nat) : Nat := t.foldl (fun m b => if betterZ (zAt l b) (zAt l m) = true then b else m) x
theorem minZ_snoc (l : List Pz) (x : Nat) (t : List Nat) (b : Nat) : minZ l x (t ++ [b]) = if betterZ (zAt l b) (zAt l (minZ l x t)) = true then b else minZ l x t := by unfold minZ; rw [List.foldl_append]; rfl
/-- The victim among the first k. -/
def vicK (l : List Pz) : Nat → Option Nat
  | 0 => none
  | k + 1 => if (!(zAt l k).o && (zAt l k).w) = true then (match vicK l k with | none => some k | some b => if betterZ (zAt l k) (zAt l b) = true then some k else some b) else vicK l k
def minO (l : List Pz) : List Nat → Option Nat
  | [] => none
  | x :: t => some (minZ l x t)
theorem vicK_min (l : List Pz) : ∀ k, vicK l k = minO l (clK Pz.w l k)
  | 0 => rfl
  | k + 1 => by
    rw [clK_succ]
    unfold vicK
    rw [vicK_min l k]
    split
    · cases h : clK Pz.w l k with
      | nil => rfl
      | cons x t =>
        show (match some (minZ l x t) with | none => some k | some b => if betterZ (zAt l k) (zAt l b) = true then some k else some b) = some (minZ l x (t ++ [k]))
        rw [minZ_snoc]
        simp only
        split <;> rfl
    · rfl
def vicI (o : Option Nat) : Int := match o with | none => -1 | some b => (b : Int)
def headI (o : List Nat) : Int := match o with | [] => -1 | b :: _ => (b : Int)
theorem betterZ_self (a : Pz) : betterZ a a = false := by unfold betterZ; simp
theorem betterZ_tr {a b c : Pz} (h1 : betterZ a b = true) (h2 : betterZ c b = false) : betterZ c a = false := by
  unfold betterZ at *
  simp only [Bool.or_eq_true, Bool.and_eq_true, decide_eq_true_eq, beq_iff_eq, Bool.or_eq_false_iff, Bool.and_eq_false_iff, decide_eq_false_iff_not, beq_eq_false_iff_ne] at *
  omega
/-- The victim is one of those that may be, and none is better. -/
theorem vicK_is (l : List Pz) : ∀ k, (vicK l k = none → ∀ i, i < k → (!(zAt l i).o && (zAt l i).w) = false) ∧
    ∀ b, vicK l k = some b → b < k ∧ (!(zAt l b).o && (zAt l b).w) = true ∧ ∀ i, i < k → (!(zAt l i).o && (zAt l i).w) = true → betterZ (zAt l i) (zAt l b) = false
  | 0 => ⟨fun _ i h => absurd h (Nat.not_lt_zero _), fun b h => by cases h⟩
  | k + 1 => by
    obtain ⟨h1, h2⟩ := vicK_is l k
    by_cases hm : (!(zAt l k).o && (zAt l k).w) = true
    · cases hv : vicK l k with
      | none =>
        have e : vicK l (k + 1) = some k := by show (if _ then _ else _) = _; rw [if_pos hm, hv]
        rw [e]
        refine ⟨fun h => (by cases h), fun b h => ?_⟩
        injection h with h
        subst h
        refine ⟨by omega, hm, fun i hi hi2 => ?_⟩
        by_cases hik : i = k
        · subst hik; exact betterZ_self _
        · rw [h1 hv i (by omega)] at hi2; cases hi2
      | some b =>
        obtain ⟨g1, g2, g3⟩ := h2 b hv
        cases hb : betterZ (zAt l k) (zAt l b) with
        | true =>
          have e : vicK l (k + 1) = some k := by show (if _ then _ else _) = _; rw [if_pos hm, hv]; simp only; rw [if_pos hb]
          rw [e]
          refine ⟨fun h => (by cases h), fun c h => ?_⟩
          injection h with h
          subst h
          refine ⟨by omega, hm, fun i hi hi2 => ?_⟩
          by_cases hik : i = k
          · subst hik; exact betterZ_self _
          · exact betterZ_tr hb (g3 i (by omega) hi2)
        | false =>
          have e : vicK l (k + 1) = some b := by show (if _ then _ else _) = _; rw [if_pos hm, hv]; simp only; rw [if_neg (by rw [hb]; simp)]
          rw [e]
          refine ⟨fun h => (by cases h), fun c h => ?_⟩
          injection h with h
          subst h
          refine ⟨by omega, g2, fun i hi hi2 => ?_⟩
          by_cases hik : i = k
          · subst hik; exact hb
          · exact g3 i (by omega) hi2
    · have e : vicK l (k + 1) = vicK l k := by show (if _ then _ else _) = _; rw [if_neg hm]
      rw [e]
      refine ⟨fun h i hi => ?_, fun b h => ?_⟩
      · by_cases hik : i = k
        · subst hik; simpa using hm
        · exact h1 h i (by omega)
      · obtain ⟨g1, g2, g3⟩ := h2 b h
        refine ⟨by omega, g2, fun i hi hi2 => ?_⟩
        by_cases hik : i = k
        · subst hik; exact absurd hi2 hm
        · exact g3 i (by omega) hi2
/-- Of the same zones in another order the victims are alike. -/
theorem vic_alike {l m : List Pz} (h : ∀ z, z ∈ l ↔ z ∈ m) : (vicK l l.length = none ↔ vicK m m.length = none) ∧
    ∀ a b, vicK l l.length = some a → vicK m m.length = some b → zAt l a = zAt m b := by
  obtain ⟨h1, h2⟩ := vicK_is l l.length
  obtain ⟨g1, g2⟩ := vicK_is m m.length
  have tr : ∀ {x y : List Pz}, (∀ z, z ∈ x → z ∈ y) → ∀ a, a < x.length → ∃ b, b < y.length ∧ zAt y b = zAt x a := fun {x y} hm a ha => by
    obtain ⟨b, hb, e⟩ := List.mem_iff_getElem.1 (hm _ (List.getElem_mem ha))
    exact ⟨b, hb, by rw [zAt_eq hb, zAt_eq ha, e]⟩
  constructor
  · constructor
    · intro hn
      cases hv : vicK m m.length with
      | none => rfl
      | some b =>
        obtain ⟨k1, k2, _⟩ := g2 b hv
        obtain ⟨a, ha, e⟩ := tr (fun z hz => (h z).2 hz) b k1
        have := h1 hn a ha
        rw [e, k2] at this
        cases this
    · intro hn
      cases hv : vicK l l.length with
      | none => rfl
      | some b =>
        obtain ⟨k1, k2, _⟩ := h2 b hv
        obtain ⟨a, ha, e⟩ := tr (fun z hz => (h z).1 hz) b k1
        have := g1 hn a ha
        rw [e, k2] at this
        cases this
  · intro a b ha hb
    obtain ⟨k1, k2, k3⟩ := h2 a ha
    obtain ⟨j1, j2, j3⟩ := g2 b hb
    obtain ⟨a', ha', ea⟩ := tr (fun z hz => (h z).1 hz) a k1
    obtain ⟨b', hb', eb⟩ := tr (fun z hz => (h z).2 hz) b j1
    have n1 := j3 a' ha' (by rw [ea]; exact k2)
    have n2 := k3 b' hb' (by rw [eb]; exact j2)
    rw [ea] at n1
    rw [eb] at n2
    generalize zAt l a = x at *
    generalize zAt m b = y at *
    unfold betterZ at n1 n2
    simp only [Bool.and_eq_true, Bool.not_eq_true', Bool.or_eq_false_iff, Bool.and_eq_false_iff, decide_eq_false_iff_not, beq_eq_false_iff_ne] at n1 n2 k2 j2
    cases x; cases y
    simp only [Pz.mk.injEq] at *
    refine ⟨by omega, by omega, ?_⟩
    rw [k2.1, j2.1]
/-- How many of a row's zones match. -/
def cntP (p : Pz → Bool) (l : List Pz) : Nat := (l.filter fun z => !z.o && p z).length
theorem clK_cnt (p : Pz → Bool) (l : List Pz) : ∀ k, k ≤ l.length → (clK p l k).length = cntP p (l.take k)
  | 0, _ => rfl
  | k + 1, h => by
    rw [clK_succ, List.take_succ_eq_append_getElem (by omega)]
    unfold cntP
    rw [List.filter_append, List.length_append, zAt_eq (by omega : k < l.length), List.filter_cons]
    have ih := clK_cnt p l k (by omega)
    unfold cntP at ih
    by_cases h1 : (!l[k].o && p l[k]) = true
    · rw [if_pos h1, if_pos h1, List.length_append, ih]; rfl
    · rw [if_neg h1, if_neg h1, ih]; rfl
theorem cntP_app (p : Pz → Bool) (a b : List Pz) : cntP p (a ++ b) = cntP p (b ++ a) := by unfold cntP; rw [List.filter_append, List.filter_append, List.length_append, List.length_append, Nat.add_comm]
/-- The live entries of those that may be cleaned. -/
def sumV (l : List Pz) : Nat → Int
  | 0 => 0
  | k + 1 => if (!(zAt l k).o && (zAt l k).w) = true then sumV l k + (zAt l k).v else sumV l k
theorem sumV_ge {l : List Pz} {x : Int} : ∀ k, (∀ i, i < k → (!(zAt l i).o && (zAt l i).w) = true → x ≤ (zAt l i).v) → x * ((clK Pz.w l k).length : Int) ≤ sumV l k
  | 0, _ => by show x * ((0 : Nat) : Int) ≤ 0; simp
  | k + 1, h => by
    have ih := sumV_ge k (fun i hi => h i (by omega))
    rw [clK_succ]
    unfold sumV
    by_cases hm : (!(zAt l k).o && (zAt l k).w) = true
    · rw [if_pos hm, if_pos hm, List.length_append]
      have := h k (by omega) hm
      show x * (((clK Pz.w l k).length + 1 : Nat) : Int) ≤ _
      rw [Int.natCast_add, Int.mul_add]
      omega
    · rw [if_neg hm, if_neg hm]
      exact ih
/-- The victim's live entries are at most its share. -/
theorem vic_share (l : List Pz) {b : Nat} (h : vicK l l.length = some b) : (zAt l b).v * ((clK Pz.w l l.length).length : Int) ≤ sumV l l.length := by
  obtain ⟨_, _, h3⟩ := (vicK_is l l.length).2 b h
  refine sumV_ge l.length fun i hi hm => ?_
  have := h3 i hi hm
  unfold betterZ at this
  simp only [Bool.or_eq_false_iff, decide_eq_false_iff_not] at this
  omega
/-- The sizes of groups. -/
def spl (n : Nat) : List Int := List.replicate ((n - 1) / 6) 6 ++ [((n - (n - 1) / 6 * 6 : Nat) : Int)]
theorem spl_len (n : Nat) (h : 1 ≤ n) : (spl n).length = (n + 5) / 6 := by unfold spl; rw [List.length_append, List.length_replicate]; show (n - 1) / 6 + 1 = _; omega
/-- The blocks of so many writes. -/
def pkN (n : Nat) : Nat := n + (n + 5) / 6
theorem pkN_mono {a b : Nat} (h : a < b) : pkN a < pkN b := by unfold pkN; omega
/-- So many writes fit, and no more. -/
def EntIs (b : Nat) (n : Nat) : Prop := pkN n ≤ b ∧ b < pkN (n + 1)
theorem EntIs.one {b n m : Nat} (h : EntIs b n) (h' : EntIs b m) : n = m := by unfold EntIs pkN at *; omega
def ent (b : Nat) : Nat := b - (b + 6) / 7
theorem ent_is (b : Nat) : EntIs b (ent b) := by unfold EntIs ent pkN; omega
theorem ent_le (b : Nat) : ent b ≤ b := by unfold ent; omega
end Go.Proofs.Ytbgkmppngnedlaa
