/- How many blocks a map has in each zone: plain facts. -/
import Derived.Test.YtbgkmppngnedlaaLmO
namespace Go.Proofs.Ytbgkmppngnedlaa
open Go.RowKit Go.Maps

theorem len_le_of_sub : ∀ {l l' : List Int}, l.Nodup → (∀ x ∈ l, x ∈ l') → l.length ≤ l'.length
  | [], _, _, _ => Nat.zero_le _
  | x :: t, l', h, hm => by
    rw [List.nodup_cons] at h
    have h1 := len_le_of_sub (l := t) (l' := l'.filter (· != x)) h.2 (fun y hy => List.mem_filter.2 ⟨hm y (List.mem_cons_of_mem _ hy), by simp only [bne_iff_ne]; rintro rfl; exact h.1 hy⟩)
    have h2 : (l'.filter (· != x)).length < l'.length := by
      rw [List.length_filter_lt_length_iff_exists]
      exact ⟨x, hm x (List.mem_cons_self), by simp⟩
    rw [List.length_cons]
    omega
theorem len_eq_of_nodup {l l' : List Int} (h : l.Nodup) (h' : l'.Nodup) (hm : ∀ x, x ∈ l ↔ x ∈ l') : l.length = l'.length :=
  Nat.le_antisymm (len_le_of_sub h (fun x hx => (hm x).1 hx)) (len_le_of_sub h' (fun x hx => (hm x).2 hx))
/-- All blocks of a map, each once. -/
def KeysOf (f : Mp) (K : List Int) : Prop := K.Nodup ∧ ∀ k, k ∈ K ↔ (f k).isSome = true
theorem KeysOf.len {f : Mp} {K K' : List Int} (h : KeysOf f K) (h' : KeysOf f K') : K.length = K'.length := len_eq_of_nodup h.1 h'.1 (fun x => (h.2 x).trans (h'.2 x).symm)
def zoneIs (f : Mp) (z : Int) (k : Int) : Bool := match f k with | none => false | some x => x.z == z
/-- So many blocks of a map are in a zone. -/
def cntZ (f : Mp) (K : List Int) (z : Int) : Nat := (K.filter (zoneIs f z)).length
theorem KeysOf.cnt {f : Mp} {K K' : List Int} (h : KeysOf f K) (h' : KeysOf f K') (z : Int) : cntZ f K z = cntZ f K' z :=
  len_eq_of_nodup (h.1.filter _) (h'.1.filter _) (fun x => by rw [List.mem_filter, List.mem_filter, h.2, h'.2])
/-- The sum over the first zones. -/
def sumZ (f : Mp) (K : List Int) : Nat → Nat
  | 0 => 0
  | n + 1 => sumZ f K n + cntZ f K (n : Int)
theorem sumZ_cons (f : Mp) (k : Int) (K : List Int) : ∀ n, sumZ f (k :: K) n = sumZ f K n + (if ∃ z : Nat, z < n ∧ zoneIs f (z : Int) k = true then 1 else 0)
  | 0 => by
    rw [if_neg (by rintro ⟨z, h, _⟩; omega)]
    rfl
  | n + 1 => by
    show sumZ f (k :: K) n + cntZ f (k :: K) (n : Int) = sumZ f K n + cntZ f K (n : Int) + _
    rw [sumZ_cons f k K n]
    have hc : cntZ f (k :: K) (n : Int) = cntZ f K (n : Int) + (if zoneIs f (n : Int) k = true then 1 else 0) := by
      unfold cntZ
      cases hz : zoneIs f (n : Int) k with
      | true => rw [List.filter_cons_of_pos hz]; simp
      | false => rw [List.filter_cons_of_neg (by simp [hz])]; simp
    rw [hc]
    have huniq : ∀ a b : Nat, zoneIs f (a : Int) k = true → zoneIs f (b : Int) k = true → a = b := fun a b h1 h2 => by
      unfold zoneIs at h1 h2
      cases hf : f k with
      | none => rw [hf] at h1; cases h1
      | some x =>
        rw [hf] at h1 h2
        simp only [beq_iff_eq] at h1 h2
        omega
    by_cases h1 : ∃ z : Nat, z < n ∧ zoneIs f (z : Int) k = true
    · obtain ⟨z, hz, hzz⟩ := h1
      have hnn : ¬ zoneIs f (n : Int) k = true := fun e => by have := huniq z n hzz e; omega
      rw [if_pos ⟨z, hz, hzz⟩, if_neg hnn, if_pos ⟨z, by omega, hzz⟩]
      omega
    · rw [if_neg h1]
      by_cases h2 : zoneIs f (n : Int) k = true
      · rw [if_pos h2, if_pos ⟨n, by omega, h2⟩]
        omega
      · have h3 : ¬ ∃ z : Nat, z < n + 1 ∧ zoneIs f (z : Int) k = true := by
          rintro ⟨z, hz, hzz⟩
          by_cases e : z = n
          · subst e; exact h2 hzz
          · exact h1 ⟨z, by omega, hzz⟩
        rw [if_neg h2, if_neg h3]
        omega
/-- Where every zone is one of the first n, the sum is all. -/
theorem sumZ_all {f : Mp} {n : Nat} (hz : ∀ k x, f k = some x → 0 ≤ x.z ∧ x.z < (n : Int)) : ∀ K : List Int, (∀ k ∈ K, (f k).isSome = true) → sumZ f K n = K.length
  | [], _ => by
    have : ∀ m, sumZ f [] m = 0 := fun m => by induction m with
      | zero => rfl
      | succ m ih => show sumZ f [] m + 0 = 0; omega
    exact this n
  | k :: K, h => by
    rw [sumZ_cons, sumZ_all hz K (fun x hx => h x (List.mem_cons_of_mem _ hx)), if_pos]
    · rfl
    · have h1 := h k (List.mem_cons_self)
      cases hf : f k with
      | none => rw [hf] at h1; cases h1
      | some x =>
        have h2 := hz k x hf
        refine ⟨x.z.toNat, by omega, ?_⟩
        unfold zoneIs
        rw [hf]
        simp only [beq_iff_eq]
        omega
/-- The blocks that come up, each where it does first. -/
def firstsL : List Int → Nat → Nat
  | _, 0 => 0
  | bs, n + 1 => firstsL bs n + (if ∀ k, k < n → bs.getD k 0 ≠ bs.getD n 0 then 1 else 0)
def uniqL (bs : List Int) : Nat → List Int
  | 0 => []
  | n + 1 => if ∀ k, k < n → bs.getD k 0 ≠ bs.getD n 0 then uniqL bs n ++ [bs.getD n 0] else uniqL bs n
theorem uniqL_len (bs : List Int) : ∀ n, (uniqL bs n).length = firstsL bs n
  | 0 => rfl
  | n + 1 => by
    unfold uniqL firstsL
    split
    · rw [List.length_append, uniqL_len bs n]; rfl
    · exact uniqL_len bs n
theorem uniqL_mem (bs : List Int) : ∀ (n : Nat) (x : Int), x ∈ uniqL bs n ↔ ∃ k, k < n ∧ bs.getD k 0 = x
  | 0, x => ⟨fun h => (by cases h), fun ⟨k, h, _⟩ => absurd h (Nat.not_lt_zero _)⟩
  | n + 1, x => by
    unfold uniqL
    split
    · rename_i h
      rw [List.mem_append, List.mem_singleton, uniqL_mem bs n x]
      constructor
      · rintro (⟨k, hk, e⟩ | e)
        · exact ⟨k, by omega, e⟩
        · exact ⟨n, by omega, e.symm⟩
      · rintro ⟨k, hk, e⟩
        by_cases hkn : k = n
        · subst hkn; exact .inr e.symm
        · exact .inl ⟨k, by omega, e⟩
    · rename_i h
      rw [uniqL_mem bs n x]
      constructor
      · rintro ⟨k, hk, e⟩
        exact ⟨k, by omega, e⟩
      · rintro ⟨k, hk, e⟩
        by_cases hkn : k = n
        · subst hkn
          exact Classical.byContradiction fun hc => h fun j hj h1 => hc ⟨j, hj, h1.trans e⟩
        · exact ⟨k, by omega, e⟩
theorem uniqL_nodup (bs : List Int) : ∀ n, (uniqL bs n).Nodup
  | 0 => List.nodup_nil
  | n + 1 => by
    unfold uniqL
    split
    · rename_i h
      rw [List.nodup_append]
      refine ⟨uniqL_nodup bs n, by simp, fun a ha b hb => ?_⟩
      rw [List.mem_singleton] at hb
      subst hb
      obtain ⟨k, hk, e⟩ := (uniqL_mem bs n a).1 ha
      intro e2
      exact h k hk (e.trans e2)
    · exact uniqL_nodup bs n
end Go.Proofs.Ytbgkmppngnedlaa
