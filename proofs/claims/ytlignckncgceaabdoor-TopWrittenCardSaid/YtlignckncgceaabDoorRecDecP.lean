/- The pure answer of Decode; what Encode has written is read. -/
import Derived.Test.YtlignckncgceaabDoorRecDecM
import Derived.Test.YtlignckncgceaabDoorRecEncode
namespace Go.Proofs.YtlignckncgceaabDoor
open Go.RowKit Rec Crc Num Xor

def sumS (h b : ByteArray) : ByteArray := ⟨(sumB (h.data.toList ++ b.data.toList)).toArray⟩
/-- The record that a text begins with, its blocks, the error's number. -/
def withBody (s : ByteArray) : Rc := { numsR s 6 with body := s.extract 64 (nBlocks (numsR s 6).k * 64) }
def dec (s : ByteArray) : Rc × Int × Int :=
  if s = ⟨#[]⟩ then (zeroR, 0, 13) else if parseOk s = false then (zeroR, 0, 10) else if s.size < nBlocks (numsR s 6).k * 64 then (zeroR, 0, 10) else
    if s.extract 21 25 = sumS (s.extract 0 21) (withBody s).body then (withBody s, (nBlocks (numsR s 6).k : Int), 0) else (zeroR, 0, 11)

theorem TextOf.inj {s t : ByteArray} {l : List UInt8} (h : TextOf s l) (k : TextOf t l) : s = t := h.eq.trans k.eq.symm
theorem cut_of {s : ByteArray} {A B C : List UInt8} {a b : Nat} (h : TextOf s (A ++ B ++ C)) (ha : A.length = a) (hb : a + B.length = b) : TextOf (s.extract a b) B := by
  unfold TextOf at *
  rw [ByteArray.data_extract, Array.toList_extract, h]
  subst ha; subst hb
  simp [List.extract]
theorem getN_put {t : ByteArray} {n : Int} {k : Nat} (h : TextOf t (putL n.toNat k)) (hn : 0 ≤ n) (hk : 1 ≤ k) (hk7 : k ≤ 7) (hm : n < ((256 ^ k : Nat) : Int)) : getN t = n := by
  have hs : t.size = k := by rw [h.size, putL_length]
  unfold getN
  rw [if_pos (by omega), show t.data.toList = putL n.toNat k from h, num_put_of _ _ (by omega)]
  omega
theorem empty_zeros {t : ByteArray} {k : Nat} (h : TextOf t (List.replicate k 0)) : emptyB t = true := by
  unfold emptyB
  apply decide_eq_true
  intro i hi
  unfold byteAt
  have e := h.eq
  subst e
  have hi' : i < k := by rw [ofList_size, List.length_replicate] at hi; exact hi
  simp [hi']

/-- What Encode has written is read, whatever follows. -/
theorem nums_enc {s : ByteArray} {r : Rc} (hg : Rec.Good r) (rest : List UInt8) (h : TextOf s (encL r ++ rest)) : numsR s 6 = { r with body := ⟨#[]⟩ } := by
  obtain ⟨n0, n1, n2, n3, n4, n5⟩ := hg.1
  unfold encL headL at h
  have e0 := getN_put (cut_of (s := s) (A := [67, 66]) (B := putL r.k.toNat 1) (a := 2) (b := 3) (C := _) (by simpa only [List.append_assoc] using h) rfl (by rw [putL_length])) (by omega) (by omega) (by omega) (by omega)
  have e1 := getN_put (cut_of (s := s) (A := [67, 66] ++ putL r.k.toNat 1) (B := putL r.s.toNat 6) (a := 3) (b := 9) (C := _) (by simpa only [List.append_assoc] using h) (by simp [putL_length]) (by rw [putL_length])) (by omega) (by omega) (by omega) (by omega)
  have e2 := getN_put (cut_of (s := s) (A := [67, 66] ++ putL r.k.toNat 1 ++ putL r.s.toNat 6) (B := putL r.a.toNat 2) (a := 9) (b := 11) (C := _) (by simpa only [List.append_assoc] using h) (by simp [putL_length]) (by rw [putL_length])) (by omega) (by omega) (by omega) (by omega)
  have e3 := getN_put (cut_of (s := s) (A := [67, 66] ++ putL r.k.toNat 1 ++ putL r.s.toNat 6 ++ putL r.a.toNat 2) (B := putL r.b.toNat 2) (a := 11) (b := 13) (C := _) (by simpa only [List.append_assoc] using h) (by simp [putL_length]) (by rw [putL_length])) (by omega) (by omega) (by omega) (by omega)
  have e4 := getN_put (cut_of (s := s) (A := [67, 66] ++ putL r.k.toNat 1 ++ putL r.s.toNat 6 ++ putL r.a.toNat 2 ++ putL r.b.toNat 2) (B := putL r.c.toNat 6) (a := 13) (b := 19) (C := _) (by simpa only [List.append_assoc] using h) (by simp [putL_length]) (by rw [putL_length])) (by omega) (by omega) (by omega) (by omega)
  have e5 := getN_put (cut_of (s := s) (A := [67, 66] ++ putL r.k.toNat 1 ++ putL r.s.toNat 6 ++ putL r.a.toNat 2 ++ putL r.b.toNat 2 ++ putL r.c.toNat 6) (B := putL r.d.toNat 2) (a := 19) (b := 21) (C := _) (by simpa only [List.append_assoc] using h) (by simp [putL_length]) (by rw [putL_length])) (by omega) (by omega) (by omega) (by omega)
  unfold numsR
  rw [e0, e1, e2, e3, e4, e5]
  rfl
theorem dec_enc {s : ByteArray} {r : Rc} (hg : Rec.Good r) (rest : List UInt8) (h : TextOf s (encL r ++ rest)) : dec s = (r, (nBlocks r.k : Int), 0) := by
  have hn := nums_enc hg rest h
  have hp := nBlocks_pos hg.1
  have hsz : s.size = 64 * nBlocks r.k + rest.length := by rw [h.size, List.length_append, encL_len hg]
  have hne : ¬ s = ⟨#[]⟩ := fun e => by rw [e] at hsz; have : (⟨#[]⟩ : ByteArray).size = 0 := rfl; omega
  have hform : formOk s = true := by
    unfold formOk
    rw [decide_eq_true (show 64 ≤ s.size by omega)]
    have h1 : s.extract 0 2 = ⟨#[67, 66]⟩ := (cut_of (A := []) (B := [67, 66]) (C := _) (by unfold encL headL at h; simpa only [List.append_assoc, List.nil_append] using h) rfl rfl).eq
    rw [decide_eq_true h1]
    have h2 := empty_zeros (cut_of (s := s) (a := 25) (b := 64) (A := headL r ++ sumB (headL r ++ r.body.data.toList)) (B := List.replicate 39 0) (C := r.body.data.toList ++ rest) (by unfold encL at h; simpa only [List.append_assoc] using h) (by rw [List.length_append, headL_len, sumB_len]) (by rw [List.length_replicate]))
    rw [h2]; rfl
  have hok : parseOk s = true := by
    unfold parseOk
    rw [hform, hn]
    exact decide_eq_true (show NumOk { r with body := ⟨#[]⟩ } from hg.1)
  have hbody : s.extract 64 (nBlocks r.k * 64) = r.body := by
    have h1 := cut_of (s := s) (a := 64) (b := nBlocks r.k * 64) (A := headL r ++ sumB (headL r ++ r.body.data.toList) ++ List.replicate 39 0) (B := r.body.data.toList) (C := rest) (by unfold encL at h; simpa only [List.append_assoc] using h) (by rw [List.length_append, List.length_append, headL_len, sumB_len, List.length_replicate]) (by rw [body_len, hg.2]; omega)
    exact h1.inj rfl
  have hwb : withBody s = r := by unfold withBody; rw [hn]; show (⟨r.k, r.s, r.a, r.b, r.c, r.d, s.extract 64 (nBlocks r.k * 64)⟩ : Rc) = r; rw [hbody]
  have hsum : s.extract 21 25 = sumS (s.extract 0 21) r.body := by
    have h1 := cut_of (s := s) (a := 21) (b := 25) (A := headL r) (B := sumB (headL r ++ r.body.data.toList)) (C := List.replicate 39 0 ++ r.body.data.toList ++ rest) (by unfold encL at h; simpa only [List.append_assoc] using h) (headL_len r) (by rw [sumB_len])
    have h2 := cut_of (s := s) (a := 0) (b := 21) (A := []) (B := headL r) (C := sumB (headL r ++ r.body.data.toList) ++ List.replicate 39 0 ++ r.body.data.toList ++ rest) (by unfold encL at h; simpa only [List.append_assoc, List.nil_append] using h) rfl (by rw [headL_len])
    unfold sumS
    rw [show (s.extract 0 21).data.toList = headL r from h2]
    exact h1.eq
  unfold dec
  rw [if_neg hne, if_neg (by rw [hok]; simp), hn, if_neg (by show ¬ s.size < nBlocks r.k * 64; omega), hwb, if_pos hsum]
end Go.Proofs.YtlignckncgceaabDoor
