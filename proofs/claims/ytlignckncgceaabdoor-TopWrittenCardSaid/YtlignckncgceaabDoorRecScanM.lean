/- What Scan finds: a relation; what is read of records that stand one behind the other, cut off anywhere. -/
import Derived.Test.YtlignckncgceaabDoorRecDecP
namespace Go.Proofs.YtlignckncgceaabDoor
open Go.RowKit Rec Crc Num

inductive Scans : ByteArray → List Rc → Nat → Prop
  | stop {s : ByteArray} (h : (dec s).2.2 ≠ 0) : Scans s [] 0
  | more {s : ByteArray} {r : Rc} {n k : Nat} {l : List Rc} (h : dec s = (r, (n : Int), 0)) (t : Scans (s.extract (64 * n) s.size) l k) : Scans s (r :: l) (n + k)
theorem Scans.uniq {s : ByteArray} {l : List Rc} {k : Nat} (h : Scans s l k) : ∀ {l' : List Rc} {k' : Nat}, Scans s l' k' → l = l' ∧ k = k' := by
  induction h with
  | stop h =>
    intro l' k' h'
    cases h' with
    | stop _ => exact ⟨rfl, rfl⟩
    | more h2 _ => rw [h2] at h; exact absurd rfl h
  | more h t ih =>
    intro l' k' h'
    cases h' with
    | stop h2 => rw [h] at h2; exact absurd rfl h2
    | more h2 t2 =>
      rw [h] at h2
      obtain ⟨e1, e2⟩ := Prod.mk.inj h2
      obtain ⟨e3, _⟩ := Prod.mk.inj e2
      have e4 := Int.ofNat.inj e3
      subst e1; subst e4
      obtain ⟨f1, f2⟩ := ih t2
      subst f1; subst f2
      exact ⟨rfl, rfl⟩
/-- Where Decode tells a record it has room. -/
theorem dec_ok {s : ByteArray} (h : (dec s).2.2 = 0) : ∃ n : Nat, dec s = (withBody s, (n : Int), 0) ∧ 1 ≤ n ∧ n ≤ 2 ∧ 64 * n ≤ s.size := by
  unfold dec at h ⊢
  by_cases c1 : s = ⟨#[]⟩
  · rw [if_pos c1] at h; cases h
  rw [if_neg c1] at h ⊢
  cases c2 : parseOk s with
  | false => rw [c2] at h; cases h
  | true =>
    rw [c2] at h
    simp only [Bool.true_eq_false, if_false] at h ⊢
    by_cases c3 : s.size < nBlocks (numsR s 6).k * 64
    · rw [if_pos c3] at h; cases h
    rw [if_neg c3] at h ⊢
    by_cases c4 : s.extract 21 25 = sumS (s.extract 0 21) (withBody s).body
    · rw [if_pos c4]
      unfold parseOk at c2
      simp only [Bool.and_eq_true] at c2
      have := nBlocks_pos (numOk_iff.1 c2.2)
      exact ⟨_, rfl, this.1, this.2, by omega⟩
    · rw [if_neg c4] at h; cases h
theorem cut_cut (s : ByteArray) (a b : Nat) : (s.extract a s.size).extract b (s.extract a s.size).size = s.extract (a + b) s.size := by
  apply ByteArray.ext
  rw [ByteArray.data_extract, ByteArray.data_extract, ByteArray.data_extract, ByteArray.size_extract]
  apply Array.ext'
  rw [Array.toList_extract, Array.toList_extract, Array.toList_extract]
  simp only [List.extract]
  have hs : s.size = s.data.toList.length := (body_len s).symm
  rw [hs]
  generalize s.data.toList = l
  rw [List.take_of_length_le (l := l.drop a) (by rw [List.length_drop]; omega), List.drop_drop, List.take_of_length_le (by rw [List.length_drop]; omega), List.take_of_length_le (by rw [List.length_drop]; omega)]
theorem cut_zero (s : ByteArray) : s.extract 0 s.size = s := by simp
/-- One step of Scan, at a place. -/
theorem scan_step {s : ByteArray} {a n : Nat} {r : Rc} {l l' : List Rc} {k k' : Nat} (hd : dec (s.extract a s.size) = (r, (n : Int), 0)) (h : ∀ l' k', Scans (s.extract a s.size) l' k' → Scans s (l ++ l') (k + k'))
    (h2 : Scans (s.extract (a + 64 * n) s.size) l' k') : Scans s (l ++ [r] ++ l') (k + n + k') := by
  rw [List.append_assoc, Nat.add_assoc]
  exact h _ _ (.more hd (by rw [cut_cut]; exact h2))
theorem scan_done {s : ByteArray} {a : Nat} {l : List Rc} {k : Nat} (hd : (dec (s.extract a s.size)).2.2 ≠ 0) (h : ∀ l' k', Scans (s.extract a s.size) l' k' → Scans s (l ++ l') (k + k')) : Scans s l k := by
  have h1 := h [] 0 (.stop hd)
  rwa [List.append_nil] at h1
theorem Scans.len {s : ByteArray} {l : List Rc} {k : Nat} (h : Scans s l k) : 64 * k ≤ s.size ∧ l.length ≤ k := by
  induction h with
  | stop _ => exact ⟨by omega, by simp⟩
  | more h t ih =>
    rename_i s r n k l
    obtain ⟨n', h1, h2, h3, h4⟩ := dec_ok (s := s) (by rw [h])
    rw [h] at h1
    have e := congrArg (fun x : Rc × Int × Int => x.2.1) h1
    simp only at e
    rw [ByteArray.size_extract] at ih
    rw [List.length_cons]
    omega
end Go.Proofs.YtlignckncgceaabDoor
