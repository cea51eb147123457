/- Records that stand one behind the other, cut off anywhere: those that are whole are read. -/
import Derived.Test.YtlignckncgceaabDoorRecScanM
namespace Go.Proofs.YtlignckncgceaabDoor
open Go.RowKit Rec Crc Num

def catL : List Rc → List UInt8
  | [] => []
  | q :: qs => encL q ++ catL qs
def blk : List Rc → Nat
  | [] => 0
  | q :: qs => nBlocks q.k + blk qs
theorem catL_append : ∀ (a b : List Rc), catL (a ++ b) = catL a ++ catL b
  | [], _ => rfl
  | q :: a, b => by show encL q ++ catL (a ++ b) = encL q ++ catL a ++ catL b; rw [catL_append a b, List.append_assoc]
theorem blk_append : ∀ (a b : List Rc), blk (a ++ b) = blk a + blk b
  | [], _ => (Nat.zero_add _).symm
  | q :: a, b => by show nBlocks q.k + blk (a ++ b) = nBlocks q.k + blk a + blk b; rw [blk_append a b, Nat.add_assoc]
theorem catL_len : ∀ {qs : List Rc}, (∀ q ∈ qs, Rec.Good q) → (catL qs).length = 64 * blk qs
  | [], _ => rfl
  | q :: qs, h => by
    show (encL q ++ catL qs).length = 64 * (nBlocks q.k + blk qs)
    rw [List.length_append, encL_len (h q (by simp)), catL_len (fun x hx => h x (by simp [hx])), Nat.mul_add]
theorem blk_le : ∀ (qs : List Rc), blk qs ≤ 2 * qs.length
  | [] => Nat.le_refl _
  | q :: qs => by
    have h := blk_le qs
    have h1 : nBlocks q.k ≤ 2 := by unfold nBlocks; split; omega; split <;> omega
    show nBlocks q.k + blk qs ≤ 2 * (qs.length + 1)
    omega
theorem blk_take : ∀ (qs : List Rc) (k : Nat), blk (qs.take k) ≤ blk qs
  | [], k => by simp [blk]
  | q :: qs, 0 => Nat.zero_le _
  | q :: qs, k + 1 => by
    have := blk_take qs k
    show nBlocks q.k + blk (qs.take k) ≤ nBlocks q.k + blk qs
    omega

theorem kind_of {s : ByteArray} {r : Rc} {rest : List UInt8} (hn : 1 ≤ r.k ∧ r.k ≤ 6) (h : TextOf s ([67, 66] ++ putL r.k.toNat 1 ++ rest)) : (numsR s 6).k = r.k :=
  getN_put (cut_of (a := 2) (b := 3) h rfl (by rw [putL_length])) (by omega) (by omega) (by omega) (by omega)
theorem dec_blocks {s : ByteArray} (h : (dec s).2.2 = 0) : nBlocks (numsR s 6).k * 64 ≤ s.size := by
  unfold dec at h
  by_cases c1 : s = ⟨#[]⟩
  · rw [if_pos c1] at h; cases h
  rw [if_neg c1] at h
  cases c2 : parseOk s with
  | false => rw [c2] at h; cases h
  | true =>
    rw [c2] at h
    simp only [Bool.true_eq_false, if_false] at h
    by_cases c3 : s.size < nBlocks (numsR s 6).k * 64
    · rw [if_pos c3] at h; cases h
    · omega
/-- A beginning of a record is none. -/
theorem dec_short {s : ByteArray} {q : Rc} {rest : List UInt8} {c : Nat} (hg : Rec.Good q) (hc : c < 64 * nBlocks q.k) (h : TextOf s ((encL q ++ rest).take c)) : (dec s).2.2 ≠ 0 := by
  intro h0
  have hp := nBlocks_pos hg.1
  obtain ⟨n, _, h1, _, h3⟩ := dec_ok h0
  have hl := encL_len hg
  have hsz : s.size = c := by rw [h.size, List.length_take, List.length_append, hl]; omega
  have hk : (numsR s 6).k = q.k := by
    have h4 : (encL q ++ rest).take c = [67, 66] ++ putL q.k.toNat 1 ++ ((encL q ++ rest).take c).drop 3 := by
      have h5 : ((encL q ++ rest).take c).take 3 = [67, 66] ++ putL q.k.toNat 1 := by
        rw [List.take_take, show min 3 c = 3 by omega, List.take_append_of_le_length (by omega)]
        unfold encL headL
        simp only [List.append_assoc]
        rw [← List.append_assoc, List.take_append_of_le_length (by simp [putL_length]), List.take_of_length_le (by simp [putL_length])]
      rw [← h5, List.take_append_drop]
    exact kind_of hg.1.1 (by rw [← h4]; exact h)
  have h6 := dec_blocks h0
  rw [hk] at h6
  omega
theorem dec_none {s : ByteArray} (h : TextOf s []) : (dec s).2.2 ≠ 0 := by
  have e : s = ⟨#[]⟩ := h.eq
  unfold dec
  rw [if_pos e]
  decide

/-- Of records that stand one behind the other, cut off at c, those are read that are whole. -/
theorem scan_cat : ∀ (qs : List Rc) (k c : Nat) (s : ByteArray), (∀ q ∈ qs, Rec.Good q) → k ≤ qs.length → 64 * blk (qs.take k) ≤ c → (k < qs.length → c < 64 * blk (qs.take (k + 1))) → (k = qs.length → c ≤ 64 * blk qs) →
    TextOf s ((catL qs).take c) → Scans s (qs.take k) (blk (qs.take k))
  | [], k, c, s, _, hk, _, _, _, h => by
    obtain rfl : k = 0 := by simpa using hk
    exact .stop (dec_none (by simpa [catL] using h))
  | q :: qs, 0, c, s, hg, _, _, hlt, _, h => by
    have h1 := hlt (by simp)
    simp only [Nat.zero_add, List.take_succ_cons, List.take_zero, blk, Nat.add_zero] at h1
    exact .stop (dec_short (hg q (by simp)) h1 h)
  | q :: qs, k + 1, c, s, hg, hk, hle, hlt, hend, h => by
    have hq := hg q (by simp)
    have hl := encL_len hq
    simp only [List.take_succ_cons, blk] at hle hlt hend ⊢
    have hc : 64 * nBlocks q.k ≤ c := by omega
    have hsz : s.size = min c (64 * nBlocks q.k + (catL qs).length) := by
      rw [h.size, List.length_take]
      show min c (encL q ++ catL qs).length = _
      rw [List.length_append, hl]
    have h1 : TextOf s (encL q ++ (catL qs).take (c - 64 * nBlocks q.k)) := by
      have e : (catL (q :: qs)).take c = encL q ++ (catL qs).take (c - 64 * nBlocks q.k) := by
        show (encL q ++ catL qs).take c = _
        rw [List.take_append, List.take_of_length_le (by omega), hl]
      rw [← e]; exact h
    have h2 := dec_enc hq _ h1
    refine .more h2 (scan_cat qs k (c - 64 * nBlocks q.k) _ (fun x hx => hg x (by simp [hx])) (by simpa using hk) (by omega) (fun hk' => ?_) (fun hk' => ?_) ?_)
    · have h3 := hlt (by simpa using hk')
      omega
    · have h3 := hend (by simp [hk'])
      omega
    · have h4 : TextOf s (encL q ++ (catL qs).take (c - 64 * nBlocks q.k) ++ []) := by rw [List.append_nil]; exact h1
      exact cut_of h4 hl (by rw [List.length_take, hsz]; omega)
theorem blk_take_succ {qs : List Rc} {k : Nat} (h : k < qs.length) : blk (qs.take (k + 1)) = blk (qs.take k) + nBlocks qs[k].k := by
  rw [List.take_succ_eq_append_getElem h, blk_append]
  rfl
end Go.Proofs.YtlignckncgceaabDoor
