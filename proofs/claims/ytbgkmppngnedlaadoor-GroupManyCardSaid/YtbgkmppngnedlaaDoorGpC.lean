/- Groups that stand one behind the other, cut off anywhere; groups of which some bytes were changed: plain facts. -/
import Derived.Test.YtbgkmppngnedlaaDoorGpM
namespace Go.Proofs.YtbgkmppngnedlaaDoor
open Go.RowKit Rec Crc Num Xor

/-- Where Decode tells a group it has room. -/
theorem decG_ok {s : ByteArray} (h : (decG s).2.2 = 0) : ∃ n : Nat, decG s = (grpS s, (n : Int), 0) ∧ n = blkE (entS s (cnt s)) ∧ 1 ≤ n ∧ n ≤ 7 ∧ 64 * n ≤ s.size := by
  unfold decG at h ⊢
  by_cases c1 : s = ⟨#[]⟩
  · rw [if_pos c1] at h; cases h
  rw [if_neg c1] at h ⊢
  cases c2 : formG s with
  | false => rw [c2] at h; cases h
  | true =>
    rw [c2] at h
    simp only [Bool.true_eq_false, if_false] at h ⊢
    by_cases c3 : s.size < 64 * blkE (entS s (cnt s))
    · rw [if_pos c3] at h; cases h
    rw [if_neg c3] at h ⊢
    by_cases c4 : s.extract (9 + 4 * cnt s) (13 + 4 * cnt s) = sumS (s.extract 0 (9 + 4 * cnt s)) (datS s)
    · rw [if_pos c4]
      have hb := blkE_le (entS s (cnt s))
      rw [entS_len] at hb
      have h6 : cnt s ≤ 6 := by
        unfold formG at c2
        simp only [Bool.and_eq_true] at c2
        exact (of_decide_eq_true c2.2.1).2.2
      exact ⟨_, rfl, rfl, hb.1, by omega, by omega⟩
    · rw [if_neg c4] at h; cases h
theorem decG_len {s : ByteArray} (h : (decG s).2.2 = 0) : 64 ≤ s.size ∧ (grpS s).es.length ≤ 6 := by
  obtain ⟨n, h1, h2, h3, _, h4⟩ := decG_ok h
  refine ⟨by omega, ?_⟩
  unfold decG at h
  by_cases c1 : s = ⟨#[]⟩
  · rw [if_pos c1] at h; cases h
  rw [if_neg c1] at h
  cases c2 : formG s with
  | false => rw [c2] at h; cases h
  | true =>
    unfold formG at c2
    simp only [Bool.and_eq_true] at c2
    show (entS s (cnt s)).length ≤ 6
    rw [entS_len]
    exact (of_decide_eq_true c2.2.1).2.2
inductive ScansG : ByteArray → List Gp → List Nat → Nat → Prop
  | stop {s : ByteArray} {b : Nat} (h : (decG s).2.2 ≠ 0) : ScansG s [] [] b
  | more {s : ByteArray} {g : Gp} {n b : Nat} {l : List Gp} {at_ : List Nat} (h : decG s = (g, (n : Int), 0)) (t : ScansG (s.extract (64 * n) s.size) l at_ (b + n)) : ScansG s (g :: l) (b :: at_) b
theorem ScansG.uniq {s : ByteArray} {l : List Gp} {a : List Nat} {b : Nat} (h : ScansG s l a b) : ∀ {l' : List Gp} {a' : List Nat}, ScansG s l' a' b → l = l' ∧ a = a' := by
  induction h with
  | stop h =>
    intro l' k' h'
    cases h' with
    | stop _ => exact ⟨rfl, rfl⟩
    | more h2 _ => rw [h2] at h; exact absurd rfl h
  | more h t ih =>
    intro l' k' h'
    cases h' with
    | stop h2 => rw [h] at h2; exact absurd rfl h2
    | more h2 t2 =>
      rw [h] at h2
      obtain ⟨e1, e2⟩ := Prod.mk.inj h2
      obtain ⟨e3, _⟩ := Prod.mk.inj e2
      have e4 := Int.ofNat.inj e3
      subst e1; subst e4
      obtain ⟨f1, f2⟩ := ih t2
      subst f1; subst f2
      exact ⟨rfl, rfl⟩
theorem ScansG.lens {s : ByteArray} {l : List Gp} {a : List Nat} {b : Nat} (h : ScansG s l a b) : a.length = l.length ∧ 64 * l.length ≤ s.size := by
  induction h with
  | stop _ => exact ⟨rfl, by simp⟩
  | more h t ih =>
    rename_i s g n b l at_
    obtain ⟨n', h1, _, h2, _, h4⟩ := decG_ok (s := s) (by rw [h])
    rw [h] at h1
    have e := congrArg (fun x : Gp × Int × Int => x.2.1) h1
    simp only at e
    rw [ByteArray.size_extract] at ih
    rw [List.length_cons, List.length_cons]
    omega
theorem cutG (s : ByteArray) (a b : Nat) : (s.extract a s.size).extract b (s.extract a s.size).size = s.extract (a + b) s.size := by
  apply ByteArray.ext
  rw [ByteArray.data_extract, ByteArray.data_extract, ByteArray.data_extract, ByteArray.size_extract]
  apply Array.ext'
  rw [Array.toList_extract, Array.toList_extract, Array.toList_extract]
  simp only [List.extract]
  have hs : s.size = s.data.toList.length := (body_len s).symm
  rw [hs]
  generalize s.data.toList = l
  rw [List.take_of_length_le (l := l.drop a) (by rw [List.length_drop]; omega), List.drop_drop, List.take_of_length_le (by rw [List.length_drop]; omega), List.take_of_length_le (by rw [List.length_drop]; omega)]
theorem cutG_zero (s : ByteArray) : s.extract 0 s.size = s := by simp
/-- One step of Scan, at a place. -/
theorem scanG_step {s : ByteArray} {a n b : Nat} {g : Gp} {l l' : List Gp} {k k' : List Nat} (hd : decG (s.extract a s.size) = (g, (n : Int), 0)) (h : ∀ l' k', ScansG (s.extract a s.size) l' k' b → ScansG s (l ++ l') (k ++ k') 0)
    (h2 : ScansG (s.extract (a + 64 * n) s.size) l' k' (b + n)) : ScansG s (l ++ [g] ++ l') (k ++ [b] ++ k') 0 := by
  rw [List.append_assoc, List.append_assoc]
  exact h _ _ (.more hd (by rw [cutG]; exact h2))
theorem scanG_done {s : ByteArray} {a b : Nat} {l : List Gp} {k : List Nat} (hd : (decG (s.extract a s.size)).2.2 ≠ 0) (h : ∀ l' k', ScansG (s.extract a s.size) l' k' b → ScansG s (l ++ l') (k ++ k') 0) : ScansG s l k 0 := by
  have h1 := h [] [] (.stop hd)
  rwa [List.append_nil, List.append_nil] at h1
def catG : List Gp → List UInt8
  | [] => []
  | q :: qs => encG q ++ catG qs
def blkG : List Gp → Nat
  | [] => 0
  | q :: qs => blkE q.es + blkG qs
theorem catG_append : ∀ (a b : List Gp), catG (a ++ b) = catG a ++ catG b
  | [], _ => rfl
  | q :: a, b => by show encG q ++ catG (a ++ b) = encG q ++ catG a ++ catG b; rw [catG_append a b, List.append_assoc]
theorem blkG_append : ∀ (a b : List Gp), blkG (a ++ b) = blkG a + blkG b
  | [], _ => (Nat.zero_add _).symm
  | q :: a, b => by show blkE q.es + blkG (a ++ b) = blkE q.es + blkG a + blkG b; rw [blkG_append a b, Nat.add_assoc]
theorem catG_len : ∀ {qs : List Gp}, (∀ q ∈ qs, GoodG q) → (catG qs).length = 64 * blkG qs
  | [], _ => rfl
  | q :: qs, h => by
    show (encG q ++ catG qs).length = 64 * (blkE q.es + blkG qs)
    rw [List.length_append, encG_len (h q (by simp)), catG_len (fun x hx => h x (by simp [hx])), Nat.mul_add]
theorem blkG_le : ∀ {qs : List Gp}, (∀ q ∈ qs, GoodG q) → blkG qs ≤ 7 * qs.length
  | [], _ => Nat.le_refl _
  | q :: qs, h => by
    have h0 := blkG_le (qs := qs) (fun x hx => h x (by simp [hx]))
    have h1 := blkE_le q.es
    have h2 := (h q (by simp)).1.2.2
    show blkE q.es + blkG qs ≤ 7 * (qs.length + 1)
    omega
theorem blkG_take : ∀ (qs : List Gp) (k : Nat), blkG (qs.take k) ≤ blkG qs
  | [], k => by simp [blkG]
  | q :: qs, 0 => Nat.zero_le _
  | q :: qs, k + 1 => by
    have := blkG_take qs k
    show blkE q.es + blkG (qs.take k) ≤ blkE q.es + blkG qs
    omega
theorem blkG_take_succ {qs : List Gp} {k : Nat} (h : k < qs.length) : blkG (qs.take (k + 1)) = blkG (qs.take k) + blkE qs[k].es := by
  rw [List.take_succ_eq_append_getElem h, blkG_append]
  rfl
/-- A beginning of a group is none. -/
theorem decG_short {s : ByteArray} {q : Gp} {rest : List UInt8} {c : Nat} (hg : GoodG q) (hc : c < 64 * blkE q.es) (h : TextOf s ((encG q ++ rest).take c)) : (decG s).2.2 ≠ 0 := by
  intro h0
  obtain ⟨n, _, h1, _, _, h3⟩ := decG_ok h0
  have hl := encG_len hg
  have hn6 := hg.1.2
  have hsz : s.size = c := by rw [h.size, List.length_take, List.length_append, hl]; omega
  have hH := headG_len q
  have h4 : (encG q ++ rest).take c = headG q ++ ((encG q ++ rest).take c).drop (9 + 4 * q.es.length) := by
    have h5 : ((encG q ++ rest).take c).take (9 + 4 * q.es.length) = headG q := by
      rw [List.take_take, show min (9 + 4 * q.es.length) c = 9 + 4 * q.es.length by omega, List.take_append_of_le_length (by omega)]
      unfold encG
      simp only [List.append_assoc]
      rw [List.take_append_of_le_length (by omega), List.take_of_length_le (by omega)]
    have h6 := List.take_append_drop (9 + 4 * q.es.length) ((encG q ++ rest).take c)
    rw [h5] at h6
    exact h6.symm
  rw [h4] at h
  obtain ⟨hcn, he, _, _⟩ := ents_of hg.1 (good_bd hg) h
  rw [hcn, he] at h1
  omega
theorem decG_none {s : ByteArray} (h : TextOf s []) : (decG s).2.2 ≠ 0 := by
  have e : s = ⟨#[]⟩ := h.eq
  unfold decG
  rw [if_pos e]
  decide
theorem decG_zeros {s : ByteArray} {k : Nat} (h : TextOf s (List.replicate k 0)) : (decG s).2.2 ≠ 0 := by
  by_cases h0 : s = ⟨#[]⟩
  · exact decG_none (by rw [h0]; rfl)
  · have hf : formG s = false := by
      unfold formG headOk
      by_cases h1 : 64 ≤ s.size
      · have h2 : ¬ s.extract 0 2 = ⟨#[67, 71]⟩ := fun e => by
          have h3 : TextOf (s.extract 0 2) (List.replicate 2 0) := cut_of (A := []) (B := List.replicate 2 0) (C := List.replicate (k - 2) 0) (by
            have : k = s.size := by rw [h.size]; simp
            have e2 : List.replicate k (0 : UInt8) = [] ++ List.replicate 2 0 ++ List.replicate (k - 2) 0 := by
              rw [List.nil_append, List.replicate_append_replicate]
              congr 1
              omega
            rw [← e2]; exact h) rfl rfl
          rw [e] at h3
          exact absurd (show ([67, 71] : List UInt8) = [0, 0] from h3) (by decide)
        rw [decide_eq_false h2]
        simp
      · rw [decide_eq_false h1]
        simp
    unfold decG
    rw [if_neg h0, if_pos hf]
    decide
/-- Of groups that stand one behind the other, cut off at c, those are read that are whole. -/
def begsG : Nat → List Gp → List Nat
  | _, [] => []
  | b, q :: qs => b :: begsG (b + blkE q.es) qs
theorem begsG_snoc : ∀ (b : Nat) (qs : List Gp) (q : Gp), begsG b (qs ++ [q]) = begsG b qs ++ [b + blkG qs]
  | b, [], q => rfl
  | b, p :: qs, q => by
    show b :: begsG (b + blkE p.es) (qs ++ [q]) = b :: (begsG (b + blkE p.es) qs ++ [b + (blkE p.es + blkG qs)])
    rw [begsG_snoc, Nat.add_assoc]
theorem begsG_len : ∀ (b : Nat) (qs : List Gp), (begsG b qs).length = qs.length
  | _, [] => rfl
  | b, q :: qs => by show (begsG (b + blkE q.es) qs).length + 1 = qs.length + 1; rw [begsG_len]
theorem scanG_cat : ∀ (qs : List Gp) (k c : Nat) (s : ByteArray) (b : Nat), (∀ q ∈ qs, GoodG q) → k ≤ qs.length → 64 * blkG (qs.take k) ≤ c → (k < qs.length → c < 64 * blkG (qs.take (k + 1))) → (k = qs.length → c ≤ 64 * blkG qs) →
    TextOf s ((catG qs).take c) → ScansG s (qs.take k) (begsG b (qs.take k)) b
  | [], k, c, s, b, _, hk, _, _, _, h => by
    obtain rfl : k = 0 := by simpa using hk
    exact .stop (decG_none (by simpa [catG] using h))
  | q :: qs, 0, c, s, b, hg, _, _, hlt, _, h => by
    have h1 := hlt (by simp)
    simp only [Nat.zero_add, List.take_succ_cons, List.take_zero, blkG, Nat.add_zero] at h1
    exact .stop (decG_short (hg q (by simp)) h1 h)
  | q :: qs, k + 1, c, s, b, hg, hk, hle, hlt, hend, h => by
    have hq := hg q (by simp)
    have hl := encG_len hq
    simp only [List.take_succ_cons, blkG] at hle hlt hend ⊢
    have hc : 64 * blkE q.es ≤ c := by omega
    have hsz : s.size = min c (64 * blkE q.es + (catG qs).length) := by
      rw [h.size, List.length_take]
      show min c (encG q ++ catG qs).length = _
      rw [List.length_append, hl]
    have h1 : TextOf s (encG q ++ (catG qs).take (c - 64 * blkE q.es)) := by
      have e : (catG (q :: qs)).take c = encG q ++ (catG qs).take (c - 64 * blkE q.es) := by
        show (encG q ++ catG qs).take c = _
        rw [List.take_append, List.take_of_length_le (by omega), hl]
      rw [← e]; exact h
    have h2 := dec_encG hq _ h1
    refine .more h2 (scanG_cat qs k (c - 64 * blkE q.es) _ _ (fun x hx => hg x (by simp [hx])) (by simpa using hk) (by omega) (fun hk' => ?_) (fun hk' => ?_) ?_)
    · have h3 := hlt (by simpa using hk')
      omega
    · have h3 := hend (by simp [hk'])
      omega
    · have h4 : TextOf s (encG q ++ (catG qs).take (c - 64 * blkE q.es) ++ []) := by rw [List.append_nil]; exact h1
      exact cut_of h4 hl (by rw [List.length_take, hsz]; omega)
/-- With noughts behind them they are all read. -/
theorem scanG_zeros : ∀ (qs : List Gp) (k : Nat) (s : ByteArray) (b : Nat), (∀ q ∈ qs, GoodG q) → TextOf s (catG qs ++ List.replicate k 0) → ScansG s qs (begsG b qs) b
  | [], k, s, b, _, h => .stop (decG_zeros (by simpa [catG] using h))
  | q :: qs, k, s, b, hg, h => by
    have hq := hg q (by simp)
    have hl := encG_len hq
    have h1 : TextOf s (encG q ++ (catG qs ++ List.replicate k 0)) := by
      rw [← List.append_assoc]; exact h
    refine .more (dec_encG hq _ h1) (scanG_zeros qs k _ _ (fun x hx => hg x (by simp [hx])) ?_)
    have h4 : TextOf s (encG q ++ (catG qs ++ List.replicate k 0) ++ []) := by rw [List.append_nil]; exact h1
    exact cut_of h4 hl (by rw [h1.size]; simp only [List.length_append, hl])
/-- A group with another head (of the same entries) or other data, and not the sum of these. -/
theorem decG_rot {s : ByteArray} {g : Gp} {q : List UInt8} {B S : List UInt8} (hg : GoodG g) (hq : q.length = 6) (h : TextOf s ([67, 71] ++ q ++ putL g.es.length 1 ++ numsL g.es ++ S ++ List.replicate (51 - 4 * g.es.length) 0 ++ B)) (hS : S.length = 4) (hB : B.length + 64 = 64 * blkE g.es)
    (hne : S ≠ sumB ([67, 71] ++ q ++ putL g.es.length 1 ++ numsL g.es ++ B)) : ∃ e : Int, e ≠ 0 ∧ decG s = (zG, 0, e) := by
  have hn6 := hg.1.2
  have hHl : ([67, 71] ++ q ++ putL g.es.length 1 ++ numsL g.es).length = 9 + 4 * g.es.length := by simp only [List.length_append, putL_length, numsL_len, hq]; rfl
  obtain ⟨hc, he, _, _⟩ := ents_of6 (rest := S ++ List.replicate (51 - 4 * g.es.length) 0 ++ B) hq hn6.2 (good_bd hg) (by simpa only [List.append_assoc] using h)
  generalize [67, 71] ++ q ++ putL g.es.length 1 ++ numsL g.es = H at h hne hHl
  have hsz : s.size = 64 * blkE g.es := by
    rw [h.size]
    simp only [List.length_append, List.length_replicate, hHl, hS]
    omega
  have h1 : s.extract 0 (9 + 4 * g.es.length) = ⟨H.toArray⟩ := (cut_of (A := []) (C := S ++ List.replicate (51 - 4 * g.es.length) 0 ++ B) (by simpa only [List.append_assoc, List.nil_append] using h) rfl (by rw [hHl]; exact Nat.zero_add _)).eq
  have h2 : s.extract (9 + 4 * g.es.length) (13 + 4 * g.es.length) = ⟨S.toArray⟩ := (cut_of (A := H) (C := List.replicate (51 - 4 * g.es.length) 0 ++ B) (by simpa only [List.append_assoc] using h) hHl (by omega)).eq
  have h3 : s.extract 64 (64 * blkE g.es) = ⟨B.toArray⟩ := (cut_of (A := H ++ S ++ List.replicate (51 - 4 * g.es.length) 0) (C := []) (by rw [List.append_nil]; exact h) (by simp only [List.length_append, List.length_replicate, hHl, hS]; omega) (by omega)).eq
  have hb := blkE_le g.es
  have hne' : ¬ s.extract (9 + 4 * g.es.length) (13 + 4 * g.es.length) = sumS (s.extract 0 (9 + 4 * g.es.length)) (s.extract 64 (64 * blkE g.es)) := by
    unfold sumS
    rw [h1, h2, h3]
    intro e
    have e2 := congrArg (fun x : ByteArray => x.data.toList) e
    exact hne e2
  unfold decG datS
  by_cases c1 : s = ⟨#[]⟩
  · rw [if_pos c1]; exact ⟨13, by decide, rfl⟩
  rw [if_neg c1]
  by_cases c2 : formG s = false
  · rw [if_pos c2]; exact ⟨10, by decide, rfl⟩
  rw [if_neg c2, hc, he, if_neg (by omega), if_neg hne']
  exact ⟨11, by decide, rfl⟩
end Go.Proofs.YtbgkmppngnedlaaDoor
