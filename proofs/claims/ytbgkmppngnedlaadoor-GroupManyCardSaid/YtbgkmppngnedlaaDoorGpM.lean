/- Groups as plain data: what Encode writes, what Decode reads. -/
import Derived.Test.YtbgkmppngnedlaaDoorOTx
namespace Go.Proofs.YtbgkmppngnedlaaDoor
open Go.RowKit Rec Crc Num Xor

/-- A group: its Seq, its entries (a block, a Trim?), its data. -/
structure Gp where
  q : Int
  es : List (Int × Bool)
  ds : List ByteArray
instance : Inhabited Gp := ⟨⟨0, [], []⟩⟩
def num1 (x : Int × Bool) : Int := if x.2 then x.1 + 2147483648 else x.1
def wr1 (x : Int × Bool) : Nat := if x.2 then 0 else 1
def len1 (x : Int × Bool) : Nat := if x.2 then 0 else 64
theorem len1_wr (x : Int × Bool) : len1 x = 64 * wr1 x := by unfold len1 wr1; split <;> rfl
theorem wr1_le (x : Int × Bool) : wr1 x ≤ 1 := by unfold wr1; split <;> omega
def blkE (l : List (Int × Bool)) : Nat := 1 + (l.map wr1).sum
theorem blkE_nil : blkE [] = 1 := rfl
theorem blkE_snoc (l : List (Int × Bool)) (x : Int × Bool) : blkE (l ++ [x]) = blkE l + wr1 x := by unfold blkE; simp; omega
theorem blkE_cons (x : Int × Bool) (l : List (Int × Bool)) : blkE (x :: l) = blkE l + wr1 x := by unfold blkE; simp; omega
theorem blkE_le : ∀ l : List (Int × Bool), 1 ≤ blkE l ∧ blkE l ≤ 1 + l.length
  | [] => ⟨Nat.le_refl _, Nat.le_refl _⟩
  | x :: l => by
    have h := blkE_le l
    have h1 := wr1_le x
    rw [blkE_cons, List.length_cons]
    omega
def numsL (l : List (Int × Bool)) : List UInt8 := (l.map fun x => putL (num1 x).toNat 4).flatten
theorem numsL_nil : numsL [] = [] := rfl
theorem numsL_cons (x : Int × Bool) (l : List (Int × Bool)) : numsL (x :: l) = putL (num1 x).toNat 4 ++ numsL l := rfl
theorem numsL_append (a b : List (Int × Bool)) : numsL (a ++ b) = numsL a ++ numsL b := by unfold numsL; simp
theorem numsL_snoc (l : List (Int × Bool)) (x : Int × Bool) : numsL (l ++ [x]) = numsL l ++ putL (num1 x).toNat 4 := by rw [numsL_append, numsL_cons, numsL_nil, List.append_nil]
theorem numsL_len : ∀ l : List (Int × Bool), (numsL l).length = 4 * l.length
  | [] => rfl
  | x :: l => by rw [numsL_cons, List.length_append, putL_length, numsL_len l, List.length_cons]; omega
def headG (g : Gp) : List UInt8 := [67, 71] ++ putL g.q.toNat 6 ++ putL g.es.length 1 ++ numsL g.es
theorem headG_len (g : Gp) : (headG g).length = 9 + 4 * g.es.length := by unfold headG; simp only [List.length_append, putL_length, numsL_len]; rfl
def dataG (g : Gp) : List UInt8 := flat g.ds
def encG (g : Gp) : List UInt8 := headG g ++ sumB (headG g ++ dataG g) ++ List.replicate (51 - 4 * g.es.length) 0 ++ dataG g
def permOk (q : Int) (n : Nat) : Prop := (0 ≤ q ∧ q ≤ 1099511627776) ∧ (1 ≤ n ∧ n ≤ 6)
instance (q : Int) (n : Nat) : Decidable (permOk q n) := by unfold permOk; infer_instance
def fit1 (x : Int × Bool) (d : ByteArray) : Prop := (0 ≤ x.1 ∧ x.1 < 2147483648) ∧ d.size = len1 x
instance (x : Int × Bool) (d : ByteArray) : Decidable (fit1 x d) := by unfold fit1; infer_instance
def fits : List (Int × Bool) → List ByteArray → Bool
  | [], [] => true
  | x :: t, d :: u => decide (fit1 x d) && fits t u
  | _, _ => false
def GoodG (g : Gp) : Prop := permOk g.q g.es.length ∧ fits g.es g.ds = true
instance (g : Gp) : Decidable (GoodG g) := by unfold GoodG; infer_instance
theorem fits_len : ∀ {t : List (Int × Bool)} {u : List ByteArray}, fits t u = true → u.length = t.length
  | [], [], _ => rfl
  | x :: t, d :: u, h => by
    unfold fits at h
    rw [Bool.and_eq_true] at h
    rw [List.length_cons, List.length_cons, fits_len h.2]
theorem fits_at : ∀ {t : List (Int × Bool)} {u : List ByteArray}, fits t u = true → ∀ i (h : i < t.length) (h2 : i < u.length), fit1 t[i] u[i]
  | x :: t, d :: u, h, 0, _, _ => by
    unfold fits at h
    rw [Bool.and_eq_true] at h
    exact of_decide_eq_true h.1
  | x :: t, d :: u, h, i + 1, h1, h2 => by
    unfold fits at h
    rw [Bool.and_eq_true] at h
    exact fits_at h.2 i (by simpa using h1) (by simpa using h2)
theorem fits_of : ∀ {t : List (Int × Bool)} {u : List ByteArray}, u.length = t.length → (∀ i (h : i < t.length) (h2 : i < u.length), fit1 t[i] u[i]) → fits t u = true
  | [], [], _, _ => rfl
  | [], d :: u, h, _ => by simp at h
  | x :: t, [], h, _ => by simp at h
  | x :: t, d :: u, h, h1 => by
    unfold fits
    rw [Bool.and_eq_true]
    exact ⟨decide_eq_true (h1 0 (by simp) (by simp)), fits_of (by simpa using h) (fun i a b => h1 (i + 1) (by simpa using a) (by simpa using b))⟩
theorem flat_cons (d : ByteArray) (u : List ByteArray) : flat (d :: u) = d.data.toList ++ flat u := rfl
theorem flat_len : ∀ {t : List (Int × Bool)} {u : List ByteArray}, fits t u = true → (flat u).length + 64 = 64 * blkE t
  | [], [], _ => rfl
  | x :: t, d :: u, h => by
    unfold fits at h
    rw [Bool.and_eq_true] at h
    have h1 := (of_decide_eq_true h.1).2
    have h2 := flat_len h.2
    rw [len1_wr] at h1
    rw [flat_cons, List.length_append, body_len, blkE_cons, Nat.mul_add]
    omega
theorem encG_len {g : Gp} (h : GoodG g) : (encG g).length = 64 * blkE g.es := by
  have h1 := flat_len h.2
  have h2 := h.1.2
  unfold encG
  simp only [List.length_append, headG_len, sumB_len, List.length_replicate]
  unfold dataG
  omega
def encGS (g : Gp) : ByteArray := if GoodG g then ⟨(encG g).toArray⟩ else ⟨#[]⟩
theorem encGS_good {g : Gp} (h : GoodG g) : encGS g = ⟨(encG g).toArray⟩ := if_pos h
theorem encGS_bad {g : Gp} (h : ¬ GoodG g) : encGS g = ⟨#[]⟩ := if_neg h
theorem encGS_size {g : Gp} (h : GoodG g) : (encGS g).size = 64 * blkE g.es := by
  rw [encGS_good h, ofList_size]; exact encG_len h

/-- What Decode reads. -/
def numAt (s : ByteArray) (i : Nat) : Int := getN (s.extract (9 + 4 * i) (13 + 4 * i))
def entOf (n : Int) : Int × Bool := (n % 2147483648, decide (2147483648 ≤ n))
def entS (s : ByteArray) (k : Nat) : List (Int × Bool) := (List.range k).map fun i => entOf (numAt s i)
theorem entS_len (s : ByteArray) (k : Nat) : (entS s k).length = k := by unfold entS; simp
theorem entS_succ (s : ByteArray) (k : Nat) : entS s (k + 1) = entS s k ++ [entOf (numAt s k)] := by unfold entS; rw [List.range_succ, List.map_append]; rfl
def cnt (s : ByteArray) : Nat := (byteAt s 8).toNat
def seqS (s : ByteArray) : Int := getN (s.extract 2 8)
def headOk (s : ByteArray) : Bool := decide (64 ≤ s.size) && decide (s.extract 0 2 = ⟨#[67, 71]⟩)
def formG (s : ByteArray) : Bool := headOk s && (decide (permOk (seqS s) (cnt s)) && emptyB (s.extract (13 + 4 * cnt s) 64))
def cutE : List (Int × Bool) → ByteArray → List ByteArray
  | [], _ => []
  | x :: t, d => d.extract 0 (len1 x) :: cutE t (d.extract (len1 x) d.size)
def datS (s : ByteArray) : ByteArray := s.extract 64 (64 * blkE (entS s (cnt s)))
def grpS (s : ByteArray) : Gp := ⟨seqS s, entS s (cnt s), cutE (entS s (cnt s)) (datS s)⟩
def zG : Gp := ⟨0, [], []⟩
def decG (s : ByteArray) : Gp × Int × Int :=
  if s = ⟨#[]⟩ then (zG, 0, 13) else if formG s = false then (zG, 0, 10) else if s.size < 64 * blkE (entS s (cnt s)) then (zG, 0, 10) else
    if s.extract (9 + 4 * cnt s) (13 + 4 * cnt s) = sumS (s.extract 0 (9 + 4 * cnt s)) (datS s) then (grpS s, (blkE (entS s (cnt s)) : Int), 0) else (zG, 0, 11)

theorem num1_bd {x : Int × Bool} (h : 0 ≤ x.1 ∧ x.1 < 2147483648) : 0 ≤ num1 x ∧ num1 x < 4294967296 := by unfold num1; split <;> omega
theorem entOf_num {x : Int × Bool} (h : 0 ≤ x.1 ∧ x.1 < 2147483648) : entOf (num1 x) = x := by
  obtain ⟨b, t⟩ := x
  unfold entOf num1
  simp only at h
  cases t with
  | true =>
    simp only [if_true]
    rw [show (b + 2147483648) % 2147483648 = b by omega, decide_eq_true (by omega)]
  | false =>
    simp only [Bool.false_eq_true, if_false]
    rw [show b % 2147483648 = b by omega, decide_eq_false (by omega)]
theorem byteAt_of {s : ByteArray} {A C : List UInt8} {b : UInt8} {k : Nat} (h : TextOf s (A ++ b :: C)) (hk : A.length = k) : byteAt s k = b := by
  have e := h.eq
  subst e
  subst hk
  unfold byteAt
  simp
/-- A block that begins as a group's does. -/
theorem ents_of6 {s : ByteArray} {es : List (Int × Bool)} {q rest : List UInt8} (hq : q.length = 6) (hn : es.length ≤ 6) (hb : ∀ i (h : i < es.length), 0 ≤ es[i].1 ∧ es[i].1 < 2147483648) (h : TextOf s ([67, 71] ++ q ++ putL es.length 1 ++ numsL es ++ rest)) :
    cnt s = es.length ∧ entS s es.length = es ∧ TextOf (s.extract 2 8) q ∧ s.extract 0 2 = ⟨#[67, 71]⟩ := by
  refine ⟨?_, ?_, ?_, ?_⟩
  · have h1 : putL es.length 1 = [UInt8.ofNat (es.length % 256)] := by simp [putL]
    rw [h1] at h
    have h2 := byteAt_of (A := [67, 71] ++ q) (C := numsL es ++ rest) (b := UInt8.ofNat (es.length % 256)) (k := 8) (by simpa only [List.append_assoc, List.cons_append, List.nil_append] using h) (by simp [hq])
    unfold cnt
    rw [h2, UInt8.toNat_ofNat']
    omega
  · apply List.ext_getElem
    · rw [entS_len]
    · intro i h1 h2
      have h3 : (entS s es.length)[i] = entOf (numAt s i) := by simp [entS]
      rw [h3]
      have hsp : es = es.take i ++ es[i] :: es.drop (i + 1) := by
        rw [← List.drop_eq_getElem_cons h2, List.take_append_drop]
      have h4 : numsL es = numsL (es.take i) ++ (putL (num1 es[i]).toNat 4 ++ numsL (es.drop (i + 1))) := by
        have h5 := congrArg numsL hsp
        rwa [numsL_append, numsL_cons] at h5
      rw [h4] at h
      have hbi := num1_bd (hb i h2)
      have h5 := getN_put (cut_of (s := s) (A := [67, 71] ++ q ++ putL es.length 1 ++ numsL (es.take i)) (B := putL (num1 es[i]).toNat 4) (C := numsL (es.drop (i + 1)) ++ rest) (a := 9 + 4 * i) (b := 13 + 4 * i) (by simpa only [List.append_assoc] using h)
        (by simp only [List.length_append, putL_length, numsL_len, List.length_take, Nat.min_eq_left (Nat.le_of_lt h2), hq]; rfl) (by rw [putL_length]; omega)) hbi.1 (by omega) (by omega) (by have := hbi.2; omega)
      unfold numAt
      rw [h5, entOf_num (hb i h2)]
  · exact cut_of (s := s) (A := [67, 71]) (B := q) (C := putL es.length 1 ++ numsL es ++ rest) (a := 2) (b := 8) (by simpa only [List.append_assoc] using h) rfl (by rw [hq])
  · exact (cut_of (A := []) (B := [67, 71]) (C := q ++ putL es.length 1 ++ numsL es ++ rest) (by simpa only [List.append_assoc, List.nil_append] using h) rfl rfl).eq
theorem ents_of {s : ByteArray} {g : Gp} {rest : List UInt8} (hp : permOk g.q g.es.length) (hb : ∀ i (h : i < g.es.length), 0 ≤ g.es[i].1 ∧ g.es[i].1 < 2147483648) (h : TextOf s (headG g ++ rest)) :
    cnt s = g.es.length ∧ entS s g.es.length = g.es ∧ seqS s = g.q ∧ s.extract 0 2 = ⟨#[67, 71]⟩ := by
  obtain ⟨⟨q0, q1⟩, n1, n6⟩ := hp
  obtain ⟨h1, h2, h3, h4⟩ := ents_of6 (q := putL g.q.toNat 6) (putL_length _ _) n6 hb h
  exact ⟨h1, h2, getN_put h3 q0 (by omega) (by omega) (by omega), h4⟩
theorem good_bd {g : Gp} (h : GoodG g) : ∀ i (hi : i < g.es.length), 0 ≤ g.es[i].1 ∧ g.es[i].1 < 2147483648 := fun i hi => (fits_at h.2 i hi (by rw [fits_len h.2]; exact hi)).1
theorem cutE_flat : ∀ {t : List (Int × Bool)} {u : List ByteArray} {d : ByteArray}, fits t u = true → TextOf d (flat u) → cutE t d = u
  | [], [], _, _, _ => rfl
  | x :: t, e :: u, d, h, hd => by
    unfold fits at h
    rw [Bool.and_eq_true] at h
    have h1 := (of_decide_eq_true h.1).2
    rw [flat_cons] at hd
    have hs : d.size = len1 x + (flat u).length := by rw [hd.size, List.length_append, body_len, h1]
    have e1 : d.extract 0 (len1 x) = e := (cut_of (A := []) (B := e.data.toList) (C := flat u) (by simpa using hd) rfl (by rw [body_len, h1]; exact Nat.zero_add _)).inj rfl
    have e2 : TextOf (d.extract (len1 x) d.size) (flat u) := cut_of (A := e.data.toList) (B := flat u) (C := []) (by simpa using hd) (by rw [body_len, h1]) (by rw [hs])
    show d.extract 0 (len1 x) :: cutE t (d.extract (len1 x) d.size) = e :: u
    rw [e1, cutE_flat h.2 e2]
/-- What Encode has written is read, whatever follows. -/
theorem dec_encG {s : ByteArray} {g : Gp} (hg : GoodG g) (rest : List UInt8) (h : TextOf s (encG g ++ rest)) : decG s = (g, (blkE g.es : Int), 0) := by
  have hl := encG_len hg
  have hf := flat_len hg.2
  have hn6 := hg.1.2
  have hbp := blkE_le g.es
  have hsz : s.size = 64 * blkE g.es + rest.length := by rw [h.size, List.length_append, hl]
  have hne : ¬ s = ⟨#[]⟩ := fun e => by rw [e] at hsz; have : (⟨#[]⟩ : ByteArray).size = 0 := rfl; omega
  have h' := h
  unfold encG at h'
  obtain ⟨hc, he, hq, hm⟩ := ents_of (rest := sumB (headG g ++ dataG g) ++ List.replicate (51 - 4 * g.es.length) 0 ++ dataG g ++ rest) hg.1 (good_bd hg) (by simpa only [List.append_assoc] using h')
  have hsumAt := cut_of (s := s) (a := 9 + 4 * g.es.length) (b := 13 + 4 * g.es.length) (A := headG g) (B := sumB (headG g ++ dataG g)) (C := List.replicate (51 - 4 * g.es.length) 0 ++ dataG g ++ rest) (by simpa only [List.append_assoc] using h') (headG_len g) (by rw [sumB_len]; omega)
  have hhead := cut_of (s := s) (a := 0) (b := 9 + 4 * g.es.length) (A := []) (B := headG g) (C := sumB (headG g ++ dataG g) ++ List.replicate (51 - 4 * g.es.length) 0 ++ dataG g ++ rest) (by simpa only [List.append_assoc, List.nil_append] using h') rfl (by rw [headG_len]; omega)
  have hz := empty_zeros (cut_of (s := s) (a := 13 + 4 * g.es.length) (b := 64) (A := headG g ++ sumB (headG g ++ dataG g)) (B := List.replicate (51 - 4 * g.es.length) 0) (C := dataG g ++ rest) (by simpa only [List.append_assoc] using h') (by rw [List.length_append, headG_len, sumB_len]; omega) (by rw [List.length_replicate]; omega))
  have hdat := cut_of (s := s) (a := 64) (b := 64 * blkE g.es) (A := headG g ++ sumB (headG g ++ dataG g) ++ List.replicate (51 - 4 * g.es.length) 0) (B := dataG g) (C := rest) (by simpa only [List.append_assoc] using h') (by rw [List.length_append, List.length_append, headG_len, sumB_len, List.length_replicate]; omega) (by unfold dataG; omega)
  have hform : formG s = true := by
    unfold formG headOk
    rw [decide_eq_true (show 64 ≤ s.size by omega), decide_eq_true hm, hq, hc, decide_eq_true hg.1, hz]
    rfl
  have hsum : s.extract (9 + 4 * g.es.length) (13 + 4 * g.es.length) = sumS (s.extract 0 (9 + 4 * g.es.length)) (s.extract 64 (64 * blkE g.es)) := by
    unfold sumS
    rw [show (s.extract 0 (9 + 4 * g.es.length)).data.toList = headG g from hhead, show (s.extract 64 (64 * blkE g.es)).data.toList = dataG g from hdat]
    exact hsumAt.eq
  unfold decG grpS datS
  rw [if_neg hne, if_neg (by rw [hform]; simp), hc, he, if_neg (by omega), if_pos hsum, hq, cutE_flat hg.2 hdat]
end Go.Proofs.YtbgkmppngnedlaaDoor
