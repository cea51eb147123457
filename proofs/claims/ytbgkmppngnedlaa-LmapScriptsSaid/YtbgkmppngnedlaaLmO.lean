/- Groups added to a map in any order: plain facts. -/
import Derived.Test.YtbgkmppngnedlaaLmM
namespace Go.Proofs.Ytbgkmppngnedlaa
open Go.RowKit Go.Maps

/-- The last of a group's entries that has a block: its index, a Trim? -/
def lastIn (k : Int) : Nat → List (Int × Bool) → Option (Nat × Bool)
  | _, [] => none
  | i, x :: t => match lastIn k (i + 1) t with
    | some y => some y
    | none => if x.1 = k then some (i, x.2) else none
/-- An entry, and a newer one. -/
def opE (y x : Option En) : Option En := match x with
  | none => y
  | some x => if newer y x.s = true then some x else y
theorem addE_at (f : Mp) (b : Int) (x : En) (k : Int) : addE f b x k = if k = b then opE (f k) (some x) else f k := by
  unfold addE opE
  by_cases h : k = b
  · subst h
    rw [if_pos rfl]
    cases hb : beats f k x.s with
    | true => rw [if_pos rfl, setE_same]; unfold beats at hb; simp only; rw [if_pos hb]
    | false => rw [if_neg (by simp)]; unfold beats at hb; simp only; rw [if_neg (by rw [hb]; simp)]
  · rw [if_neg h]
    split
    · exact setE_other x h
    · rfl
theorem opE_again {y : Option En} {x z : En} (h : x.s = z.s) : opE (opE y (some x)) (some z) = opE y (some z) := by
  unfold opE newer
  cases y with
  | none => simp [h]
  | some y =>
    by_cases h1 : y.s ≤ x.s
    · simp [h, show y.s ≤ z.s by omega]
    · simp [h1, show ¬ y.s ≤ z.s by omega]
theorem addL_at (z a s k : Int) : ∀ (l : List (Int × Bool)) (i : Nat) (f : Mp), addL f z a s i l k = opE (f k) ((lastIn k i l).map fun p => ⟨s, p.2, z, a, (p.1 : Int)⟩)
  | [], i, f => rfl
  | x :: t, i, f => by
    show addL (addE f x.1 ⟨s, x.2, z, a, (i : Int)⟩) z a s (i + 1) t k = _
    rw [addL_at z a s k t (i + 1), addE_at]
    show _ = opE (f k) (Option.map _ (match lastIn k (i + 1) t with | some y => some y | none => if x.1 = k then some (i, x.2) else none))
    by_cases h : k = x.1
    · rw [if_pos h]
      cases hl : lastIn k (i + 1) t with
      | none =>
        simp only [Option.map_none]
        rw [if_pos h.symm]
        rfl
      | some y =>
        simp only [Option.map_some]
        exact opE_again rfl
    · rw [if_neg h]
      cases hl : lastIn k (i + 1) t with
      | none =>
        simp only [Option.map_none]
        rw [if_neg (fun e => h e.symm)]
        rfl
      | some y => rfl
theorem opE_comm {x y : Option En} (z : Option En) (h : ∀ a b, x = some a → y = some b → a.s ≠ b.s) : opE (opE z x) y = opE (opE z y) x := by
  cases x with
  | none => rfl
  | some a =>
    cases y with
    | none => rfl
    | some b =>
      have hab := h a b rfl rfl
      unfold opE newer
      cases z with
      | none =>
        by_cases h1 : a.s ≤ b.s
        · simp [h1, show ¬ b.s ≤ a.s by omega]
        · simp [h1, show b.s ≤ a.s by omega]
      | some c =>
        by_cases h1 : c.s ≤ a.s
        · by_cases h2 : c.s ≤ b.s
          · by_cases h3 : a.s ≤ b.s
            · simp [h1, h2, h3, show ¬ b.s ≤ a.s by omega]
            · simp [h1, h2, h3, show b.s ≤ a.s by omega]
          · simp [h1, h2, show ¬ a.s ≤ b.s by omega]
        · by_cases h2 : c.s ≤ b.s
          · simp [h1, h2, show ¬ b.s ≤ a.s by omega]
          · simp [h1, h2]
/-- A map as a whole: the newest entries, the greatest Seq, whether a group was added. -/
structure Lm where
  f : Mp
  q : Int
  b : Bool
def Lm.new : Lm := ⟨fun _ => none, 0, false⟩
def Lm.add (m : Lm) (z a s : Int) (l : List (Int × Bool)) : Lm := ⟨addL m.f z a s 0 l, if m.b = false ∨ m.q < s then s else m.q, true⟩
theorem Lm.add_comm (m : Lm) {z a s z' a' s' : Int} {l l' : List (Int × Bool)} (h : s ≠ s') : (m.add z a s l).add z' a' s' l' = (m.add z' a' s' l').add z a s l := by
  unfold Lm.add
  congr 1
  · funext k
    simp only [addL_at]
    refine opE_comm _ fun x y hx hy => ?_
    rw [Option.map_eq_some_iff] at hx hy
    obtain ⟨_, _, rfl⟩ := hx
    obtain ⟨_, _, rfl⟩ := hy
    exact h
  · cases hb : m.b with
    | false =>
      simp only [true_or, if_true, Bool.true_eq_false, false_or]
      split <;> split <;> omega
    | true =>
      simp only [Bool.true_eq_false, false_or]
      by_cases h1 : m.q < s <;> by_cases h2 : m.q < s' <;> simp only [h1, h2, if_true, if_false] <;> (try split) <;> (try split) <;> omega
/-- So many groups, in this order. -/
def Lm.all (g : Nat → Int × List (Int × Bool)) (m : Lm) (J : List Nat) : Lm := J.foldl (fun m i => m.add (g i).1 (i : Int) (7 * (i : Int) + 3) (g i).2) m
theorem Lm.all_snoc (g : Nat → Int × List (Int × Bool)) (m : Lm) (J : List Nat) (i : Nat) : Lm.all g m (J ++ [i]) = (Lm.all g m J).add (g i).1 (i : Int) (7 * (i : Int) + 3) (g i).2 := by unfold Lm.all; rw [List.foldl_append]; rfl
theorem Lm.all_perm (g : Nat → Int × List (Int × Bool)) (m : Lm) {J K : List Nat} (h : J.Perm K) : Lm.all g m J = Lm.all g m K := by
  unfold Lm.all
  refine h.foldl_eq' (fun x _ y _ z => ?_) _
  by_cases e : x = y
  · subst e; rfl
  · exact Lm.add_comm _ (by omega)
/-- The numbers below n, turned round by some places. -/
def turnL (by_ n k : Nat) : List Nat := (List.range k).map fun i => (i + by_) % n
theorem turnL_succ (by_ n k : Nat) : turnL by_ n (k + 1) = turnL by_ n k ++ [(k + by_) % n] := by unfold turnL; rw [List.range_succ, List.map_append]; rfl
theorem turnL_perm {by_ n : Nat} (h : by_ < n) : (turnL by_ n n).Perm (List.range n) := by
  have e : turnL by_ n n = (List.range n).drop by_ ++ (List.range n).take by_ := by
    apply List.ext_getElem
    · simp [turnL]; omega
    · intro i h1 h2
      have hi : i < n := by simpa [turnL] using h1
      have e1 : (turnL by_ n n)[i] = (i + by_) % n := by simp [turnL]
      rw [e1, List.getElem_append]
      simp only [List.length_drop, List.length_range, List.getElem_drop, List.getElem_range, List.getElem_take]
      split
      · rw [Nat.mod_eq_of_lt (by omega)]; omega
      · have : i + by_ - n < n := by omega
        rw [Nat.mod_eq_sub_mod (by omega), Nat.mod_eq_of_lt this]; omega
  rw [e]
  exact (List.perm_append_comm).trans (by rw [List.take_append_drop])
end Go.Proofs.Ytbgkmppngnedlaa
