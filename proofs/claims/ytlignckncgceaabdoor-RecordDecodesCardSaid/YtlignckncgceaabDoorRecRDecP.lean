/- The reference's answer to Decode, as it reckons it, is the same. -/
import Derived.Test.YtlignckncgceaabDoorRecScanM
import Derived.Test.YtlignckncgceaabDoorRecCat
namespace Go.Proofs.YtlignckncgceaabDoor
open Go.RowKit Rec Crc Num Xor

theorem putL_high (c m : Nat) : ∀ (k j : Nat), k ≤ j → putL (c * 256 ^ j + m) k = putL m k
  | 0, _, _ => rfl
  | k + 1, j, h => by
    show UInt8.ofNat ((c * 256 ^ j + m) / 256 ^ k % 256) :: putL (c * 256 ^ j + m) k = UInt8.ofNat (m / 256 ^ k % 256) :: putL m k
    rw [putL_high c m k j (by omega)]
    have e : c * 256 ^ j = (c * 256 ^ (j - k - 1) * 256) * 256 ^ k := by
      rw [Nat.mul_assoc, Nat.mul_assoc, ← Nat.pow_succ', ← Nat.pow_add]
      congr 2
      omega
    rw [e, Nat.add_comm, Nat.add_mul_div_right _ _ (Nat.pow_pos (by decide)), Nat.add_mul_mod_self_right]
/-- The bytes of the number that bytes make are these bytes. -/
theorem put_num : ∀ l : List UInt8, putL (numL l) l.length = l
  | [] => rfl
  | b :: l => by
    have hlt := numL_lt l
    show UInt8.ofNat (numL (b :: l) / 256 ^ l.length % 256) :: putL (numL (b :: l)) l.length = b :: l
    rw [numL_cons, putL_high _ _ _ _ (Nat.le_refl _), put_num l]
    congr 1
    rw [Nat.add_comm, Nat.add_mul_div_right _ _ (Nat.pow_pos (by decide)), Nat.div_eq_of_lt hlt, Nat.zero_add]
    have := b.toNat_lt
    rw [Nat.mod_eq_of_lt (by omega)]
    apply UInt8.toNat_inj.1
    rw [UInt8.toNat_ofNat']; omega
theorem put_get {t : ByteArray} {k : Nat} (h : t.size = k) (h1 : 1 ≤ k) (h7 : k ≤ 7) : putL (getN t).toNat k = t.data.toList := by
  unfold getN
  rw [if_pos (by omega), Int.toNat_natCast]
  have e : k = t.data.toList.length := by rw [body_len]; exact h.symm
  rw [e]
  exact put_num _

def rbody (s : ByteArray) : ByteArray := if (numsR s 6).k = 4 then s.extract 64 128 else ⟨#[]⟩
def rrec (s : ByteArray) : Rc := { numsR s 6 with body := rbody s }
def rdec (s : ByteArray) : Rc × Int × Int :=
  if s = ⟨#[]⟩ then (zeroR, 0, 13) else if s.size < 64 then (zeroR, 0, 10) else if (numsR s 6).k = 4 ∧ s.size < 128 then (zeroR, 0, 10) else
    if encS (rrec s) = ByteArray.empty then (zeroR, 0, 10) else if s.extract 0 21 ≠ (encS (rrec s)).extract 0 21 then (zeroR, 0, 10) else if s.extract 25 64 ≠ (encS (rrec s)).extract 25 64 then (zeroR, 0, 10) else
      if s.extract 21 25 ≠ (encS (rrec s)).extract 21 25 then (zeroR, 0, 11) else (rrec s, if (numsR s 6).k = 4 then 2 else 1, 0)

theorem cut_join (s : ByteArray) (a b c : Nat) (h1 : a ≤ b) (h2 : b ≤ c) : (s.extract a b).data.toList ++ (s.extract b c).data.toList = (s.extract a c).data.toList := by
  rw [ByteArray.data_extract, ByteArray.data_extract, ByteArray.data_extract, Array.toList_extract, Array.toList_extract, Array.toList_extract]
  simp only [List.extract]
  generalize s.data.toList = l
  have e : List.drop b l = List.drop (b - a) (List.drop a l) := by rw [List.drop_drop]; congr 1; omega
  rw [e, show c - a = (b - a) + (c - b) by omega, List.take_add]
theorem cut_size (s : ByteArray) (a b : Nat) (h1 : a ≤ b) (h2 : b ≤ s.size) : (s.extract a b).size = b - a := by rw [ByteArray.size_extract]; omega
def tailL (r : Rc) : List UInt8 := putL r.k.toNat 1 ++ putL r.s.toNat 6 ++ putL r.a.toNat 2 ++ putL r.b.toNat 2 ++ putL r.c.toNat 6 ++ putL r.d.toNat 2
theorem headL_tail (r : Rc) : headL r = [67, 66] ++ tailL r := by unfold headL tailL; simp only [List.append_assoc]
theorem tail_of {s : ByteArray} (h : 64 ≤ s.size) (r : Rc) (hk : r.k = getN (s.extract 2 3)) (hs : r.s = getN (s.extract 3 9)) (ha : r.a = getN (s.extract 9 11)) (hb : r.b = getN (s.extract 11 13)) (hc : r.c = getN (s.extract 13 19)) (hd : r.d = getN (s.extract 19 21)) : (s.extract 0 21).data.toList = (s.extract 0 2).data.toList ++ tailL r := by
  have e : tailL r = (s.extract 2 21).data.toList := by
    unfold tailL
    rw [hk, hs, ha, hb, hc, hd, put_get (k := 1) (cut_size s 2 3 (by omega) (by omega)) (by omega) (by omega), put_get (k := 6) (cut_size s 3 9 (by omega) (by omega)) (by omega) (by omega), put_get (k := 2) (cut_size s 9 11 (by omega) (by omega)) (by omega) (by omega), put_get (k := 2) (cut_size s 11 13 (by omega) (by omega)) (by omega) (by omega), put_get (k := 6) (cut_size s 13 19 (by omega) (by omega)) (by omega) (by omega), put_get (k := 2) (cut_size s 19 21 (by omega) (by omega)) (by omega) (by omega)]
    rw [cut_join s 2 3 9 (by omega) (by omega), cut_join s 2 9 11 (by omega) (by omega), cut_join s 2 11 13 (by omega) (by omega), cut_join s 2 13 19 (by omega) (by omega), cut_join s 2 19 21 (by omega) (by omega)]
  rw [e, cut_join s 0 2 21 (by omega) (by omega)]
theorem head_of {s : ByteArray} (h : 64 ≤ s.size) (b : ByteArray) : (s.extract 0 21).data.toList = (s.extract 0 2).data.toList ++ tailL { numsR s 6 with body := b } :=
  tail_of h _ (by simp only [numsR]) (by simp only [numsR]) (by simp only [numsR]) (by simp only [numsR]) (by simp only [numsR]) (by simp only [numsR])
theorem numOk_body (r : Rc) (b : ByteArray) : NumOk { r with body := b } ↔ NumOk r := Iff.rfl
theorem text_eq {s t : ByteArray} (h : s.data.toList = t.data.toList) : s = t := ByteArray.ext (Array.ext' h)
theorem empty_iff {t : ByteArray} : emptyB t = true ↔ t.data.toList = List.replicate t.size 0 := by
  constructor
  · intro h
    have h1 := of_decide_eq_true h
    apply List.ext_getElem
    · rw [List.length_replicate, body_len]
    · intro i h2 h3
      have h4 := h1 i (by rw [← body_len]; exact h2)
      unfold byteAt at h4
      rw [List.getElem_replicate, ← h4]
      show t.data.toList[i] = (t.data.toList[i]?).getD 0
      rw [List.getElem?_eq_getElem h2]
      rfl
  · intro h
    exact empty_zeros (k := t.size) h

theorem rdec_dec (s : ByteArray) : rdec s = dec s := by
  have hh0 : 64 ≤ s.size → ∀ b, (s.extract 0 21).data.toList = (s.extract 0 2).data.toList ++ tailL { numsR s 6 with body := b } := fun h b => head_of h b
  unfold rdec dec withBody rrec rbody parseOk
  generalize numsR s 6 = r0 at hh0 ⊢
  by_cases c1 : s = ⟨#[]⟩
  · rw [if_pos c1, if_pos c1]
  rw [if_neg c1, if_neg c1]
  by_cases c2 : s.size < 64
  · have hp : (formOk s && numOk r0) = false := by unfold formOk; rw [decide_eq_false (by omega)]; rfl
    rw [if_pos c2, if_pos hp]
  rw [if_neg c2]
  have h64 : 64 ≤ s.size := by omega
  by_cases c3 : r0.k = 4 ∧ s.size < 128
  · rw [if_pos c3]
    by_cases hp : (formOk s && numOk r0) = false
    · rw [if_pos hp]
    · rw [if_neg hp, if_pos (by rw [c3.1]; exact c3.2)]
  rw [if_neg c3]
  obtain ⟨bd, hbd⟩ : ∃ bd, bd = if r0.k = 4 then s.extract 64 128 else (⟨#[]⟩ : ByteArray) := ⟨_, rfl⟩
  rw [← hbd]
  by_cases hno : NumOk r0
  case neg =>
    have hp : (formOk s && numOk r0) = false := by unfold numOk; rw [decide_eq_false hno, Bool.and_false]
    have he : encS { r0 with body := bd } = ByteArray.empty := encS_bad fun h => hno ((numOk_body _ _).1 h.1)
    rw [if_pos he, if_pos hp]
  have hnb := nBlocks_pos hno
  have hkk := hno.1
  have hg : Rec.Good { r0 with body := bd } := by
    refine ⟨(numOk_body _ _).2 hno, ?_⟩
    show bd.size = (nBlocks r0.k - 1) * 64
    rw [hbd]
    unfold nBlocks
    by_cases h4 : r0.k = 4
    · rw [if_pos h4, if_neg (by omega), if_pos h4, cut_size _ _ _ (by omega) (by omega)]
    · rw [if_neg h4, if_neg (by omega), if_neg h4]; rfl
  have hwb : s.extract 64 (nBlocks r0.k * 64) = bd := by
    rw [hbd]
    unfold nBlocks
    by_cases h4 : r0.k = 4
    · rw [if_pos h4, if_neg (by omega), if_pos h4]
    · rw [if_neg h4, if_neg (by omega), if_neg h4]; simp; rfl
  have hnn : ((nBlocks r0.k : Nat) : Int) = if r0.k = 4 then 2 else 1 := by
    unfold nBlocks
    rw [if_neg (by omega)]
    split <;> rfl
  have hroom : ¬ s.size < nBlocks r0.k * 64 := by
    unfold nBlocks
    rw [if_neg (by omega)]
    split <;> omega
  rw [if_neg (encS_ne hg), hwb]
  have hh' := hh0 h64 bd
  obtain ⟨r, hr⟩ : ∃ r : Rc, r = { r0 with body := bd } := ⟨_, rfl⟩
  rw [← hr] at hg hh' ⊢
  have ht : TextOf (encS r) (encL r) := by rw [encS_good hg]; rfl
  have w1 : (encS r).extract 0 21 = ⟨(headL r).toArray⟩ := (cut_of (A := []) (B := headL r) (C := sumB (headL r ++ r.body.data.toList) ++ List.replicate 39 0 ++ r.body.data.toList) (by unfold encL at ht; simpa only [List.append_assoc, List.nil_append] using ht) rfl (by rw [headL_len]; rfl)).eq
  have w2 : (encS r).extract 21 25 = ⟨(sumB (headL r ++ r.body.data.toList)).toArray⟩ := (cut_of (A := headL r) (C := List.replicate 39 0 ++ r.body.data.toList) (by unfold encL at ht; simpa only [List.append_assoc] using ht) (headL_len _) (by rw [sumB_len])).eq
  have w3 : (encS r).extract 25 64 = ⟨(List.replicate 39 (0 : UInt8)).toArray⟩ := (cut_of (A := headL r ++ sumB (headL r ++ r.body.data.toList)) (C := r.body.data.toList) (by unfold encL at ht; exact ht) (by rw [List.length_append, headL_len, sumB_len]) (by rw [List.length_replicate])).eq
  rw [w1, w2, w3]
  have hhd := headL_tail r
  have hcb : s.extract 0 21 = ⟨(headL r).toArray⟩ ↔ s.extract 0 2 = ⟨#[67, 66]⟩ := by
    constructor
    · intro e
      have e1 := congrArg (fun x : ByteArray => x.data.toList) e
      simp only at e1
      rw [hh', hhd] at e1
      exact text_eq (List.append_cancel_right e1)
    · intro e
      apply text_eq
      rw [hh', e]
      exact hhd.symm
  have hz39 : s.extract 25 64 = ⟨(List.replicate 39 (0 : UInt8)).toArray⟩ ↔ emptyB (s.extract 25 64) = true := by
    rw [empty_iff, cut_size s 25 64 (by omega) (by omega)]
    constructor
    · intro e; exact congrArg (fun x : ByteArray => x.data.toList) e
    · intro e; exact text_eq e
  have hpo : (formOk s && numOk r0) = (decide (s.extract 0 2 = ⟨#[67, 66]⟩) && emptyB (s.extract 25 64)) := by
    unfold formOk
    rw [decide_eq_true h64, show numOk r0 = true from decide_eq_true hno, Bool.true_and, Bool.and_true]
  by_cases c5 : s.extract 0 2 = ⟨#[67, 66]⟩
  case neg =>
    rw [if_pos (fun h => c5 (hcb.1 h)), if_pos (by rw [hpo, decide_eq_false c5]; rfl)]
  rw [if_neg (fun h => h (hcb.2 c5))]
  cases c6 : emptyB (s.extract 25 64) with
  | false =>
    have h1 : s.extract 25 64 ≠ ⟨(List.replicate 39 (0 : UInt8)).toArray⟩ := fun h => by rw [hz39.1 h] at c6; cases c6
    rw [if_pos h1, if_pos (by rw [hpo, c6, Bool.and_false])]
  | true =>
    rw [if_neg (fun h => h (hz39.2 c6)), if_neg (show ¬ (formOk s && numOk r0) = false by rw [hpo, c6, decide_eq_true c5]; simp), if_neg hroom]
    have hs : sumS (s.extract 0 21) r.body = ⟨(sumB (headL r ++ r.body.data.toList)).toArray⟩ := by
      unfold sumS
      rw [hcb.2 c5]
    rw [hs, hnn]
    by_cases c7 : s.extract 21 25 = ⟨(sumB (headL r ++ r.body.data.toList)).toArray⟩
    · rw [if_neg (fun h => h c7), if_pos c7]
    · rw [if_pos c7, if_neg c7]
end Go.Proofs.YtlignckncgceaabDoor
