/- The plain mathematics of numbers, sums, parities and records. -/
namespace Go.Proofs.YtbgkmppngnedlabDoor.Crc
def poly : BitVec 32 := 0x82F63B78#32
def stp (r : BitVec 32) : BitVec 32 := (r >>> 1) ^^^ (if r.getLsbD 0 then poly else 0#32)
def n4 (r : BitVec 32) : BitVec 32 := stp (stp (stp (stp r)))
def n8 (r : BitVec 32) : BitVec 32 := n4 (n4 r)
def wd (b : UInt8) : BitVec 32 := BitVec.ofNat 32 b.toNat
def nx (r : BitVec 32) (b : UInt8) : BitVec 32 := n8 (r ^^^ wd b)
def reg (r : BitVec 32) (l : List UInt8) : BitVec 32 := l.foldl nx r
def zs : Nat → BitVec 32 → BitVec 32
  | 0, r => r
  | k + 1, r => n8 (zs k r)
theorem xor4 (a b c d : BitVec 32) : (a ^^^ b) ^^^ (c ^^^ d) = (a ^^^ c) ^^^ (b ^^^ d) := by
  apply BitVec.eq_of_getLsbD_eq; intro i _; simp only [BitVec.getLsbD_xor]
  cases a.getLsbD i <;> cases b.getLsbD i <;> cases c.getLsbD i <;> cases d.getLsbD i <;> rfl
theorem stp_xor (a b : BitVec 32) : stp (a ^^^ b) = stp a ^^^ stp b := by
  unfold stp
  rw [BitVec.ushiftRight_xor_distrib, BitVec.getLsbD_xor]
  cases a.getLsbD 0 <;> cases b.getLsbD 0
  · simp
  · simp [BitVec.xor_assoc]
  · simp [BitVec.xor_assoc, BitVec.xor_comm poly]
  · rw [xor4]; simp
theorem stp_zero : stp 0#32 = 0#32 := by decide
theorem stp_inj {r : BitVec 32} (h : stp r = 0#32) : r = 0#32 := by
  unfold stp at h
  cases h0 : r.getLsbD 0
  · rw [h0] at h
    simp at h
    apply BitVec.eq_of_getLsbD_eq
    intro i hi
    cases i with
    | zero => rw [h0]; simp
    | succ j =>
      have := congrArg (fun x => x.getLsbD j) h
      simp at this
      rw [show j + 1 = 1 + j by omega, this]; simp
  · rw [h0] at h
    have := congrArg (fun x => x.getLsbD 31) h
    simp [poly] at this
theorem n4_xor (a b : BitVec 32) : n4 (a ^^^ b) = n4 a ^^^ n4 b := by unfold n4; simp only [stp_xor]
theorem n4_zero : n4 0#32 = 0#32 := by unfold n4; simp only [stp_zero]
theorem n4_inj {r : BitVec 32} (h : n4 r = 0#32) : r = 0#32 := stp_inj (stp_inj (stp_inj (stp_inj h)))
theorem n8_xor (a b : BitVec 32) : n8 (a ^^^ b) = n8 a ^^^ n8 b := by unfold n8; simp only [n4_xor]
theorem n8_zero : n8 0#32 = 0#32 := by unfold n8; simp only [n4_zero]
theorem n8_inj {r : BitVec 32} (h : n8 r = 0#32) : r = 0#32 := n4_inj (n4_inj h)
theorem stp_shl (x : BitVec 32) (k : Nat) (h : ∀ i, 32 ≤ i + k + 1 → x.getLsbD i = false) : stp (x <<< (k + 1)) = x <<< k := by
  unfold stp
  have h0 : (x <<< (k + 1)).getLsbD 0 = false := by simp
  rw [h0]
  apply BitVec.eq_of_getLsbD_eq
  intro i hi
  simp only [BitVec.getLsbD_xor, BitVec.getLsbD_ushiftRight, BitVec.getLsbD_shiftLeft]
  by_cases h1 : i < k
  · simp [show 1 + i < k + 1 by omega, h1]
  · by_cases h2 : 1 + i < 32
    · simp [show ¬ 1 + i < k + 1 by omega, h1, h2, hi, show 1 + i - (k + 1) = i - k by omega]
    · simp [show ¬ 1 + i < k + 1 by omega, h1, h2, hi]
      exact h (i - k) (by omega)
/-- Four steps of a word whose highest four bits are free, shifted up by four. -/
theorem n4_shl (x : BitVec 32) (h : ∀ i, 28 ≤ i → x.getLsbD i = false) : n4 (x <<< 4) = x := by
  unfold n4
  rw [stp_shl x 3 (fun i hi => h i (by omega)), stp_shl x 2 (fun i hi => h i (by omega)), stp_shl x 1 (fun i hi => h i (by omega)), stp_shl x 0 (fun i hi => h i (by omega))]
  simp
theorem n8_shl (x : BitVec 32) (h : ∀ i, 24 ≤ i → x.getLsbD i = false) : n8 (x <<< 8) = x := by
  unfold n8
  have e : x <<< 8 = (x <<< 4) <<< 4 := by rw [← BitVec.shiftLeft_add]
  rw [e, n4_shl _ (fun i hi => by
    rw [BitVec.getLsbD_shiftLeft]
    by_cases h1 : i < 32
    · rw [h (i - 4) (by omega)]; simp
    · simp [h1]), n4_shl _ (fun i hi => h i (by omega))]
theorem split16 (r : BitVec 32) : r = ((r >>> 4) <<< 4) ^^^ (r &&& 15#32) := by
  apply BitVec.eq_of_getLsbD_eq
  intro i hi
  have e15 : (15#32 : BitVec 32).getLsbD i = decide (i < 4) := by
    have : ∀ j : Fin 32, (15#32 : BitVec 32).getLsbD j.1 = decide (j.1 < 4) := by decide
    exact this ⟨i, hi⟩
  simp only [BitVec.getLsbD_xor, BitVec.getLsbD_and, BitVec.getLsbD_shiftLeft, BitVec.getLsbD_ushiftRight, e15]
  by_cases h : i < 4
  · simp [h, hi]
  · simp [h, hi, show 4 + (i - 4) = i by omega]
/-- The table's sixteen words are what four steps make of the sixteen numbers. -/
def tbl : List Nat := [0, 274646895, 549293790, 820201905, 1098587580, 1361435347, 1640403810, 1905808397, 2197175160, 2460548119, 2722870694, 2987750089, 3280807620, 3553878443, 3811616794, 4084100981]
theorem tbl_eq : ∀ i : Fin 16, n4 (BitVec.ofNat 32 i.1) = BitVec.ofNat 32 (tbl.getD i.1 0) := by decide
theorem tbl_lt : ∀ i : Fin 16, tbl.getD i.1 0 < 4294967296 := by decide
theorem and15 (r : BitVec 32) : (r &&& 15#32).toNat = r.toNat % 16 := by
  rw [BitVec.toNat_and]; exact Nat.and_two_pow_sub_one_eq_mod r.toNat 4
theorem n4_tbl (r : BitVec 32) : n4 r = (r >>> 4) ^^^ BitVec.ofNat 32 (tbl.getD (r.toNat % 16) 0) := by
  have h16 : r.toNat % 16 < 16 := Nat.mod_lt _ (by omega)
  conv => lhs; rw [split16 r]
  rw [n4_xor, n4_shl _ (fun i hi => by rw [BitVec.getLsbD_ushiftRight]; exact BitVec.getLsbD_of_ge _ _ (by omega))]
  congr 1
  have e : r &&& 15#32 = BitVec.ofNat 32 (r.toNat % 16) := by
    apply BitVec.eq_of_toNat_eq
    rw [and15, BitVec.toNat_ofNat, Nat.mod_eq_of_lt (a := r.toNat % 16) (by omega)]
  rw [e]
  exact tbl_eq ⟨_, h16⟩
theorem wd_xor (a b : UInt8) : wd (a ^^^ b) = wd a ^^^ wd b := by
  unfold wd
  apply BitVec.eq_of_toNat_eq
  have ha := a.toNat_lt; have hb := b.toNat_lt
  have hx : a.toNat ^^^ b.toNat < 2 ^ 8 := Nat.xor_lt_two_pow (by omega) (by omega)
  rw [BitVec.toNat_xor, BitVec.toNat_ofNat, BitVec.toNat_ofNat, BitVec.toNat_ofNat, UInt8.toNat_xor, Nat.mod_eq_of_lt (a := a.toNat) (by omega), Nat.mod_eq_of_lt (a := b.toNat) (by omega), Nat.mod_eq_of_lt (by omega)]
theorem wd_zero : wd 0 = 0#32 := rfl
theorem wd_inj {a : UInt8} (h : wd a = 0#32) : a = 0 := by
  have ha := a.toNat_lt
  have := congrArg BitVec.toNat h
  unfold wd at this
  rw [BitVec.toNat_ofNat, Nat.mod_eq_of_lt (by omega)] at this
  exact UInt8.toNat_inj.1 this
theorem nx_add (r d : BitVec 32) (a b : UInt8) : nx (r ^^^ d) (a ^^^ b) = nx r a ^^^ nx d b := by
  unfold nx; rw [wd_xor, xor4, n8_xor]
theorem nx_zero (r : BitVec 32) : nx r 0 = n8 r := by unfold nx; rw [wd_zero]; simp
theorem reg_nil (r : BitVec 32) : reg r [] = r := rfl
theorem reg_cons (r : BitVec 32) (b : UInt8) (l : List UInt8) : reg r (b :: l) = reg (nx r b) l := rfl
theorem reg_append (r : BitVec 32) (k l : List UInt8) : reg r (k ++ l) = reg (reg r k) l := List.foldl_append
theorem reg_snoc (r : BitVec 32) (l : List UInt8) (b : UInt8) : reg r (l ++ [b]) = nx (reg r l) b := by rw [reg_append]; rfl
theorem zs_n8 (k : Nat) (r : BitVec 32) : zs k (n8 r) = n8 (zs k r) := by
  induction k with
  | zero => rfl
  | succ k ih => show n8 (zs k (n8 r)) = n8 (n8 (zs k r)); rw [ih]
theorem zs_xor (k : Nat) (a b : BitVec 32) : zs k (a ^^^ b) = zs k a ^^^ zs k b := by
  induction k with
  | zero => rfl
  | succ k ih => show n8 (zs k _) = n8 (zs k a) ^^^ n8 (zs k b); rw [ih, n8_xor]
theorem zs_zero (k : Nat) : zs k 0#32 = 0#32 := by
  induction k with
  | zero => rfl
  | succ k ih => show n8 (zs k _) = _; rw [ih, n8_zero]
theorem zs_inj (k : Nat) {r : BitVec 32} (h : zs k r = 0#32) : r = 0#32 := by
  induction k with
  | zero => exact h
  | succ k ih => exact ih (n8_inj h)
theorem zs_add (j k : Nat) (r : BitVec 32) : zs (j + k) r = zs j (zs k r) := by
  induction j with
  | zero => rw [Nat.zero_add]; rfl
  | succ j ih => rw [Nat.succ_add]; show n8 (zs (j + k) r) = n8 (zs j (zs k r)); rw [ih]
/-- Both the register and the bytes add up. -/
theorem reg_add (l m : List UInt8) : ∀ (r d : BitVec 32), l.length = m.length → reg (r ^^^ d) (List.zipWith (· ^^^ ·) l m) = reg r l ^^^ reg d m := by
  induction l generalizing m with
  | nil => intro r d h; cases m with
    | nil => rfl
    | cons _ _ => simp at h
  | cons a l ih => intro r d h; cases m with
    | nil => simp at h
    | cons b m => rw [List.zipWith_cons_cons, reg_cons, nx_add, ih m _ _ (by simpa using h), reg_cons, reg_cons]
theorem reg_diff (l : List UInt8) : ∀ (r d : BitVec 32), reg (r ^^^ d) l = reg r l ^^^ zs l.length d := by
  induction l with
  | nil => intro r d; rfl
  | cons a l ih =>
    intro r d
    rw [reg_cons, reg_cons]
    have : nx (r ^^^ d) a = nx r a ^^^ n8 d := by
      have := nx_add r d a 0
      rw [nx_zero] at this
      simpa using this
    rw [this, ih, zs_n8]; rfl
/-- One byte turned. -/
theorem reg_turn (r : BitVec 32) (p q : List UInt8) (c y : UInt8) : reg r (p ++ (c ^^^ y) :: q) = reg r (p ++ c :: q) ^^^ zs q.length (nx 0#32 y) := by
  rw [reg_append, reg_append, reg_cons, reg_cons]
  have : nx (reg r p) (c ^^^ y) = nx (reg r p) c ^^^ nx 0#32 y := by
    have := nx_add (reg r p) 0#32 c y
    simpa using this
  rw [this, reg_diff]
theorem nx0 (y : UInt8) : nx 0#32 y = n8 (wd y) := by unfold nx; simp
theorem turn_add (k : Nat) (a b : UInt8) : zs k (nx 0#32 (a ^^^ b)) = zs k (nx 0#32 a) ^^^ zs k (nx 0#32 b) := by
  rw [nx0, nx0, nx0, wd_xor, n8_xor, zs_xor]
theorem turn_zero (k : Nat) : zs k (nx 0#32 0) = 0#32 := by rw [nx0, wd_zero, n8_zero, zs_zero]
theorem turn_inj (k : Nat) {a : UInt8} (h : zs k (nx 0#32 a) = 0#32) : a = 0 := by
  rw [nx0] at h; exact wd_inj (n8_inj (zs_inj k h))
theorem not_xor (a b : BitVec 32) : ~~~(a ^^^ b) = ~~~a ^^^ b := by
  apply BitVec.eq_of_getLsbD_eq; intro i hi; simp only [BitVec.getLsbD_xor, BitVec.getLsbD_not]
  cases a.getLsbD i <;> cases b.getLsbD i <;> simp [hi]
/-- The document's own way, bit by bit: what the register is with j bits of a byte taken in. -/
def stpN : Nat → BitVec 32 → BitVec 32
  | 0, r => r
  | k + 1, r => stp (stpN k r)
def cj (r y : BitVec 32) (j : Nat) : BitVec 32 := stpN j (r ^^^ y) ^^^ (y >>> j)
theorem cj_zero (r y : BitVec 32) : cj r y 0 = r := by
  show (r ^^^ y) ^^^ (y >>> 0) = r
  rw [BitVec.ushiftRight_zero, BitVec.xor_assoc, BitVec.xor_self, BitVec.xor_zero]
theorem cj_succ (r y : BitVec 32) (j : Nat) : cj r y (j + 1) = (cj r y j >>> 1) ^^^ (if (y >>> j).getLsbD 0 = (cj r y j).getLsbD 0 then 0#32 else poly) := by
  have e : (cj r y j).getLsbD 0 = ((stpN j (r ^^^ y)).getLsbD 0 ^^ (y >>> j).getLsbD 0) := by unfold cj; rw [BitVec.getLsbD_xor]
  have hs : (cj r y j >>> 1) = (stpN j (r ^^^ y)) >>> 1 ^^^ (y >>> (j + 1)) := by
    unfold cj; rw [BitVec.ushiftRight_xor_distrib, ← BitVec.shiftRight_add]
  rw [hs, e]
  show stp (stpN j (r ^^^ y)) ^^^ (y >>> (j + 1)) = _
  generalize stpN j (r ^^^ y) = s
  unfold stp
  rw [BitVec.xor_assoc, BitVec.xor_comm _ (y >>> (j + 1)), ← BitVec.xor_assoc]
  congr 1
  cases s.getLsbD 0 <;> cases (y >>> j).getLsbD 0 <;> simp
theorem cj_eight (r : BitVec 32) (y : UInt8) : cj r (wd y) 8 = nx r y := by
  have h8 : wd y >>> 8 = 0#32 := by
    apply BitVec.eq_of_toNat_eq
    have := y.toNat_lt
    unfold wd
    rw [BitVec.toNat_ushiftRight, BitVec.toNat_ofNat, Nat.mod_eq_of_lt (by omega), Nat.shiftRight_eq_div_pow]
    simp; omega
  unfold cj; rw [h8, BitVec.xor_zero]; rfl
theorem lsb_iff (x : BitVec 32) : x.getLsbD 0 = decide (x.toNat % 2 = 1) := by
  rw [BitVec.getLsbD_eq_getElem (by omega : 0 < 32), BitVec.getElem_eq_testBit_toNat, Nat.testBit_zero]
/-- One bit of the document's way, in numbers: the two tests and the two outcomes. -/
theorem cj_num (r y : BitVec 32) (j : Nat) :
    (y.toNat / 2 ^ j % 2 = (cj r y j).toNat % 2 → (cj r y (j + 1)).toNat = (cj r y j).toNat / 2) ∧
    (y.toNat / 2 ^ j % 2 ≠ (cj r y j).toNat % 2 → cj r y (j + 1) = BitVec.ofNat 32 ((cj r y j).toNat / 2) ^^^ poly) := by
  have hy : (y >>> j).toNat = y.toNat / 2 ^ j := by rw [BitVec.toNat_ushiftRight, Nat.shiftRight_eq_div_pow]
  have hh : (cj r y j >>> 1).toNat = (cj r y j).toNat / 2 := by rw [BitVec.toNat_ushiftRight, Nat.shiftRight_eq_div_pow]
  have h2 : BitVec.ofNat 32 ((cj r y j).toNat / 2) = cj r y j >>> 1 := by
    apply BitVec.eq_of_toNat_eq
    have := (cj r y j).isLt
    rw [BitVec.toNat_ofNat, hh]; omega
  rw [cj_succ, lsb_iff, lsb_iff, hy, h2]
  constructor
  · intro h
    rw [h, if_pos rfl, BitVec.xor_zero, hh]
  · intro h
    rw [if_neg]
    intro e
    rw [decide_eq_decide] at e
    omega
theorem zs_eq (k : Nat) {a b : BitVec 32} (h : zs k a = zs k b) : a = b := by
  have : zs k (a ^^^ b) = 0#32 := by rw [zs_xor, h, BitVec.xor_self]
  have := zs_inj k this
  exact BitVec.xor_eq_zero_iff.1 this
/-- The turn of one bit of four bytes. -/
def bitOf (a : Nat) : UInt8 := UInt8.ofNat (2 ^ (a % 8))
theorem bitOf_toNat (a : Nat) : (bitOf a).toNat = 2 ^ (a % 8) := by
  have : ∀ i : Fin 8, (UInt8.ofNat (2 ^ i.1)).toNat = 2 ^ i.1 := by decide
  exact this ⟨a % 8, Nat.mod_lt _ (by omega)⟩
theorem bitOf_ne (a : Nat) : bitOf a ≠ 0 := by
  intro h
  have := congrArg UInt8.toNat h
  rw [bitOf_toNat] at this
  have h2 : 0 < 2 ^ (a % 8) := Nat.two_pow_pos _
  rw [this] at h2
  exact absurd h2 (by decide)
theorem bits_inj : ∀ a b : Fin 32, zs (a.1 / 8) (nx 0#32 (bitOf a.1)) = zs (b.1 / 8) (nx 0#32 (bitOf b.1)) → a = b := by decide +kernel
theorem bits_apart (m a b : Nat) (ha : a < 32) (hb : b < 32) : zs (m + a / 8) (nx 0#32 (bitOf a)) = zs (m + b / 8) (nx 0#32 (bitOf b)) ↔ a = b := by
  constructor
  · intro h
    rw [zs_add, zs_add] at h
    have := bits_inj ⟨a, ha⟩ ⟨b, hb⟩ (zs_eq m h)
    exact congrArg Fin.val this
  · rintro rfl; rfl
theorem reg_set (r : BitVec 32) (l : List UInt8) (p : Nat) (hp : p < l.length) (y : UInt8) : reg r (l.set p (l[p] ^^^ y)) = reg r l ^^^ zs (l.length - 1 - p) (nx 0#32 y) := by
  have e1 : l.set p (l[p] ^^^ y) = l.take p ++ (l[p] ^^^ y) :: l.drop (p + 1) := by rw [List.set_eq_take_append_cons_drop, if_pos hp]
  have e2 : l = l.take p ++ l[p] :: l.drop (p + 1) := by rw [List.getElem_cons_drop, List.take_append_drop]
  rw [e1, reg_turn]
  rw [← e2]
  congr 2
  rw [List.length_drop]; omega
/-- Bytes of a list turned, one behind the other, from a place on. -/
def upd : List UInt8 → Nat → List UInt8 → List UInt8
  | l, _, [] => l
  | l, p, b :: m => upd (l.set p (l.getD p 0 ^^^ b)) (p + 1) m
theorem upd_length : ∀ (m l : List UInt8) (p : Nat), (upd l p m).length = l.length
  | [], _, _ => rfl
  | b :: m, l, p => by show (upd (l.set p _) (p + 1) m).length = _; rw [upd_length m, List.length_set]
theorem upd_snoc : ∀ (m l : List UInt8) (p : Nat) (b : UInt8), upd l p (m ++ [b]) = (upd l p m).set (p + m.length) ((upd l p m).getD (p + m.length) 0 ^^^ b)
  | [], _, _, _ => rfl
  | c :: m, l, p, b => by
    show upd (l.set p _) (p + 1) (m ++ [b]) = (upd (l.set p _) (p + 1) m).set (p + (m.length + 1)) ((upd (l.set p _) (p + 1) m).getD (p + (m.length + 1)) 0 ^^^ b)
    rw [upd_snoc m, show p + (m.length + 1) = p + 1 + m.length by omega]
theorem reg_upd (r : BitVec 32) : ∀ (m l : List UInt8) (p : Nat), p + m.length ≤ l.length → reg r (upd l p m) = reg r l ^^^ zs (l.length - p - m.length) (reg 0#32 m)
  | [], l, p, _ => by show reg r l = reg r l ^^^ zs _ 0#32; rw [zs_zero, BitVec.xor_zero]
  | b :: m, l, p, h => by
    simp only [List.length_cons] at h
    have hp : p < l.length := by omega
    show reg r (upd (l.set p (l.getD p 0 ^^^ b)) (p + 1) m) = _
    rw [reg_upd r m _ (p + 1) (by rw [List.length_set]; omega), List.length_set]
    have e : l.getD p 0 = l[p] := by simp [List.getD, hp]
    rw [e, reg_set r l p hp b, BitVec.xor_assoc]
    congr 1
    rw [reg_cons]
    have e2 : nx 0#32 b = 0#32 ^^^ nx 0#32 b := by simp
    rw [show reg (nx 0#32 b) m = reg 0#32 m ^^^ zs m.length (nx 0#32 b) by rw [← reg_diff, BitVec.zero_xor], zs_xor, ← zs_add, BitVec.xor_comm]
    simp only [List.length_cons]
    rw [show l.length - p - (m.length + 1) + m.length = l.length - 1 - p by omega, show l.length - (p + 1) - m.length = l.length - p - (m.length + 1) by omega]
/-- Up to four bytes as one word. -/
def word : List UInt8 → BitVec 32
  | [] => 0#32
  | b :: m => wd b ^^^ (word m <<< 8)
theorem wd_high (b : UInt8) (i : Nat) (hi : 8 ≤ i) : (wd b).getLsbD i = false := by
  have hb := b.toNat_lt
  have h1 : (wd b).toNat = b.toNat := by unfold wd; rw [BitVec.toNat_ofNat]; exact Nat.mod_eq_of_lt (by omega)
  rw [← BitVec.testBit_toNat, h1]
  have : 2 ^ 8 ≤ 2 ^ i := Nat.pow_le_pow_right (by omega) hi
  exact Nat.testBit_lt_two_pow (by omega)
theorem word_high : ∀ (m : List UInt8) (i : Nat), 8 * m.length ≤ i → (word m).getLsbD i = false
  | [], i, _ => by simp [word]
  | b :: m, i, h => by
    simp only [List.length_cons] at h
    show (wd b ^^^ (word m <<< 8)).getLsbD i = false
    rw [BitVec.getLsbD_xor, BitVec.getLsbD_shiftLeft, wd_high b i (by omega), word_high m (i - 8) (by omega)]
    simp
theorem reg_word : ∀ (m : List UInt8), m.length ≤ 4 → reg 0#32 m = zs m.length (word m)
  | [], _ => rfl
  | b :: m, h => by
    simp only [List.length_cons] at h
    rw [reg_cons, show reg (nx 0#32 b) m = reg 0#32 m ^^^ zs m.length (nx 0#32 b) by rw [← reg_diff, BitVec.zero_xor], reg_word m (by omega), nx0]
    show _ = zs (m.length + 1) (wd b ^^^ (word m <<< 8))
    rw [zs_xor, zs_add m.length 1 (wd b), zs_add m.length 1 (word m <<< 8)]
    show _ = zs m.length (n8 (wd b)) ^^^ zs m.length (n8 (word m <<< 8))
    rw [n8_shl (word m) (fun i hi => word_high m i (by omega)), BitVec.xor_comm]
theorem word_zero : ∀ (m : List UInt8), m.length ≤ 4 → word m = 0#32 → ∀ b ∈ m, b = 0
  | [], _, _ => by simp
  | b :: m, hm, h => by
    simp only [List.length_cons] at hm
    have hb : wd b = 0#32 := by
      apply BitVec.eq_of_getLsbD_eq
      intro i hi
      by_cases h8 : i < 8
      · have := congrArg (fun x => x.getLsbD i) h
        simp only [word, BitVec.getLsbD_xor, BitVec.getLsbD_shiftLeft] at this
        simpa [h8] using this
      · rw [wd_high b i (by omega)]; simp
    have hw : word m = 0#32 := by
      apply BitVec.eq_of_getLsbD_eq
      intro i hi
      by_cases h24 : i < 24
      · have := congrArg (fun x => x.getLsbD (i + 8)) h
        simp only [word, BitVec.getLsbD_xor, BitVec.getLsbD_shiftLeft, hb] at this
        simpa [show i + 8 < 32 by omega] using this
      · rw [word_high m i (by omega)]; simp
    intro c hc
    rcases List.mem_cons.1 hc with rfl | hc
    · exact wd_inj hb
    · exact word_zero m (by omega) hw c hc
theorem reg_tells (m : List UInt8) (hm : m.length ≤ 4) (k : Nat) : zs k (reg 0#32 m) = 0#32 ↔ m.any (· != 0) = false := by
  constructor
  · intro h
    have h1 := zs_inj k h
    rw [reg_word m hm] at h1
    have h2 := word_zero m hm (zs_inj _ h1)
    simpa using h2
  · intro h
    have h2 : ∀ b ∈ m, b = 0 := by simpa using h
    have : ∀ (m : List UInt8), (∀ b ∈ m, b = 0) → reg 0#32 m = 0#32 := by
      intro m
      induction m with
      | nil => intro _; rfl
      | cons b m ih =>
        intro h
        rw [reg_cons, h b (by simp), nx0, wd_zero, n8_zero]
        exact ih (fun c hc => h c (by simp [hc]))
    rw [this m h2, zs_zero]
end Go.Proofs.YtbgkmppngnedlabDoor.Crc
namespace Go.Proofs.YtbgkmppngnedlabDoor.Num
def putL (n : Nat) : Nat → List UInt8
  | 0 => []
  | k + 1 => UInt8.ofNat (n / 256 ^ k % 256) :: putL n k
def numL (l : List UInt8) : Nat := l.foldl (fun n b => n * 256 + b.toNat) 0
theorem putL_length (n : Nat) : ∀ k, (putL n k).length = k
  | 0 => rfl
  | k + 1 => by show (putL n k).length + 1 = k + 1; rw [putL_length n k]
theorem numL_snoc (l : List UInt8) (b : UInt8) : numL (l ++ [b]) = numL l * 256 + b.toNat := by unfold numL; rw [List.foldl_append]; rfl
theorem fold_at (l : List UInt8) : ∀ a : Nat, l.foldl (fun n b => n * 256 + b.toNat) a = a * 256 ^ l.length + numL l := by
  unfold numL
  induction l with
  | nil => intro a; simp
  | cons b l ih =>
    intro a
    rw [List.foldl_cons, ih, List.foldl_cons, ih (0 * 256 + b.toNat), List.length_cons, Nat.pow_succ]
    rw [Nat.add_mul, Nat.mul_assoc a, Nat.mul_comm 256, Nat.zero_mul, Nat.zero_add, Nat.add_assoc]
theorem numL_cons (b : UInt8) (l : List UInt8) : numL (b :: l) = b.toNat * 256 ^ l.length + numL l := by
  show List.foldl _ (0 * 256 + b.toNat) l = _
  rw [fold_at]; simp
theorem numL_lt : ∀ l : List UInt8, numL l < 256 ^ l.length
  | [] => by show 0 < 1; omega
  | b :: l => by
    rw [numL_cons, List.length_cons, Nat.pow_succ]
    have h := numL_lt l
    have hb := b.toNat_lt
    generalize 256 ^ l.length = P at *
    have : b.toNat * P ≤ 255 * P := Nat.mul_le_mul_right _ (by omega)
    omega
theorem num_put (n : Nat) : ∀ k, numL (putL n k) = n % 256 ^ k
  | 0 => by show 0 = n % 1; omega
  | k + 1 => by
    show numL (UInt8.ofNat (n / 256 ^ k % 256) :: putL n k) = _
    have e : (UInt8.ofNat (n / 256 ^ k % 256)).toNat = n / 256 ^ k % 256 := by rw [UInt8.toNat_ofNat']; omega
    rw [numL_cons, putL_length, num_put n k, e, show 256 ^ (k + 1) = 256 ^ k * 256 from Nat.pow_succ .., Nat.mod_mul, Nat.mul_comm, Nat.add_comm]
theorem num_put_of (n k : Nat) (h : n < 256 ^ k) : numL (putL n k) = n := by rw [num_put, Nat.mod_eq_of_lt h]
/-- A byte more of room is a byte 0 ahead. -/
theorem put_wide (n k : Nat) (h : n < 256 ^ k) : putL n (k + 1) = 0 :: putL n k := by
  show UInt8.ofNat (n / 256 ^ k % 256) :: _ = _
  rw [Nat.div_eq_of_lt h]; rfl
theorem num_zero (l : List UInt8) : numL (0 :: l) = numL l := by rw [numL_cons]; simp
theorem put_inj {a b k : Nat} (ha : a < 256 ^ k) (hb : b < 256 ^ k) (h : putL a k = putL b k) : a = b := by
  rw [← num_put_of a k ha, ← num_put_of b k hb, h]
/-- What the bytes are with the lowest k digits laid. -/
def fill (n w k : Nat) : List UInt8 := List.replicate (w - k) 0 ++ putL n k
theorem fill_length (n w k : Nat) (h : k ≤ w) : (fill n w k).length = w := by unfold fill; rw [List.length_append, List.length_replicate, putL_length]; omega
theorem fill_step (n w k : Nat) (h : k < w) : (fill n w k).set (w - 1 - k) (UInt8.ofNat (n / 256 ^ k % 256)) = fill n w (k + 1) := by
  unfold fill
  rw [show w - k = (w - 1 - k) + 1 by omega, List.replicate_succ', List.append_assoc, List.set_append_right _ _ (by simp)]
  rw [List.length_replicate, Nat.sub_self, show w - (k + 1) = w - 1 - k by omega]
  rfl
theorem fill_end (n w : Nat) : fill n w w = putL n w := by unfold fill; simp
theorem fill_start (n w : Nat) : fill n w 0 = List.replicate w 0 := by unfold fill; simp [putL]
theorem pow8 (k : Nat) : 2 ^ (8 * k) = 256 ^ k := by rw [Nat.pow_mul]
theorem byte_digit (n k : Nat) : (UInt8.ofNat (n / 256 ^ k % 256)).toNat = n / 256 ^ k % 256 := by rw [UInt8.toNat_ofNat']; omega
theorem pow_le7 {k : Nat} (h : k ≤ 7) : 256 ^ k ≤ 72057594037927936 := by
  have := Nat.pow_le_pow_right (n := 256) (by omega) h
  simpa using this
end Go.Proofs.YtbgkmppngnedlabDoor.Num
namespace Go.Proofs.YtbgkmppngnedlabDoor.Xor
/-- Byte i of a text, 00 behind its end. -/
def byteAt (s : ByteArray) (i : Nat) : UInt8 := s.data.toList.getD i 0
/-- Byte i of the parity of texts. -/
def xorAt : List ByteArray → Nat → UInt8
  | [], _ => 0
  | p :: ps, i => byteAt p i ^^^ xorAt ps i
def longest : List ByteArray → Nat
  | [] => 0
  | p :: ps => max p.size (longest ps)
/-- The first n bytes of a row of bytes. -/
def textOf (f : Nat → UInt8) (n : Nat) : ByteArray := ⟨((List.range n).map f).toArray⟩
/-- The parity of texts. -/
def foldS (ps : List ByteArray) : ByteArray := textOf (xorAt ps) (longest ps)
theorem xorAt_snoc (ps : List ByteArray) (p : ByteArray) (i : Nat) : xorAt (ps ++ [p]) i = xorAt ps i ^^^ byteAt p i := by
  induction ps with
  | nil => show byteAt p i ^^^ 0 = 0 ^^^ byteAt p i; rw [UInt8.xor_zero, UInt8.zero_xor]
  | cons q ps ih => show byteAt q i ^^^ xorAt (ps ++ [p]) i = _; rw [ih, ← UInt8.xor_assoc]; rfl
theorem longest_snoc (ps : List ByteArray) (p : ByteArray) : longest (ps ++ [p]) = max (longest ps) p.size := by
  induction ps with
  | nil => show max p.size 0 = max 0 p.size; omega
  | cons q ps ih => show max q.size (longest (ps ++ [p])) = max (max q.size (longest ps)) p.size; rw [ih]; omega
theorem longest_ge {ps : List ByteArray} {p : ByteArray} (h : p ∈ ps) : p.size ≤ longest ps := by
  induction ps with
  | nil => cases h
  | cons q ps ih =>
    show p.size ≤ max q.size (longest ps)
    rcases List.mem_cons.1 h with rfl | h
    · omega
    · have := ih h; omega
theorem longest_le {ps : List ByteArray} {n : Nat} (h : ∀ p ∈ ps, p.size ≤ n) : longest ps ≤ n := by
  induction ps with
  | nil => exact Nat.zero_le _
  | cons q ps ih =>
    show max q.size (longest ps) ≤ n
    have h1 := h q (List.mem_cons_self ..)
    have h2 := ih fun p hp => h p (List.mem_cons_of_mem _ hp)
    omega
theorem byteAt_ge {s : ByteArray} {i : Nat} (h : s.size ≤ i) : byteAt s i = 0 := by
  unfold byteAt
  rw [List.getD_eq_getElem?_getD, List.getElem?_eq_none (by simpa using h)]; rfl
theorem byteAt_lt {s : ByteArray} {i : Nat} (h : i < s.size) : byteAt s i = s[i] := by
  unfold byteAt
  rw [List.getD_eq_getElem?_getD, List.getElem?_eq_getElem (by simpa using h)]; rfl
theorem size_textOf (f : Nat → UInt8) (n : Nat) : (textOf f n).size = n := by show ((List.range n).map f).toArray.size = n; simp
theorem toList_textOf (f : Nat → UInt8) (n : Nat) : (textOf f n).data.toList = (List.range n).map f := rfl
theorem byteAt_textOf (f : Nat → UInt8) (n i : Nat) : byteAt (textOf f n) i = if i < n then f i else 0 := by
  unfold byteAt
  rw [toList_textOf, List.getD_eq_getElem?_getD]
  by_cases h : i < n
  · rw [if_pos h, List.getElem?_eq_getElem (by simpa using h)]; simp
  · rw [if_neg h, List.getElem?_eq_none (by simpa using h)]; rfl
theorem xorAt_ge {ps : List ByteArray} {i : Nat} (h : longest ps ≤ i) : xorAt ps i = 0 := by
  induction ps with
  | nil => rfl
  | cons q ps ih =>
    have h' : max q.size (longest ps) ≤ i := h
    show byteAt q i ^^^ xorAt ps i = 0
    rw [byteAt_ge (by omega), ih (by omega)]; rfl
theorem size_foldS (ps : List ByteArray) : (foldS ps).size = longest ps := size_textOf _ _
theorem byteAt_foldS (ps : List ByteArray) (i : Nat) : byteAt (foldS ps) i = xorAt ps i := by
  unfold foldS
  rw [byteAt_textOf]
  by_cases h : i < longest ps
  · rw [if_pos h]
  · rw [if_neg h, xorAt_ge (by omega)]
/-- Texts of the same bytes are the same. -/
theorem text_ext {s t : ByteArray} (hs : s.size = t.size) (h : ∀ i, i < s.size → byteAt s i = byteAt t i) : s = t := by
  have e : s.data.toList = t.data.toList := by
    apply List.ext_getElem
    · simpa using hs
    · intro i h1 h2
      have h3 := h i (by simpa using h1)
      rw [byteAt_lt (by simpa using h1), byteAt_lt (by simpa using h2)] at h3
      exact h3
  rcases s with ⟨⟨s⟩⟩; rcases t with ⟨⟨t⟩⟩
  simpa using e
/-- A row of bytes as a number, the first one lowest. -/
def pack (f : Nat → UInt8) : Nat → Nat
  | 0 => 0
  | n + 1 => (f 0).toNat + 256 * pack (fun i => f (i + 1)) n
theorem pack_lt : ∀ (n : Nat) (f : Nat → UInt8), pack f n < 256 ^ n
  | 0, _ => by show 0 < 1; omega
  | n + 1, f => by
    show (f 0).toNat + 256 * pack (fun i => f (i + 1)) n < 256 ^ (n + 1)
    have h := pack_lt n (fun i => f (i + 1))
    have hb := (f 0).toNat_lt
    rw [Nat.pow_succ]; omega
theorem pack_snoc : ∀ (n : Nat) (f : Nat → UInt8), pack f (n + 1) = pack f n + (f n).toNat * 256 ^ n
  | 0, f => by show (f 0).toNat + 256 * 0 = 0 + (f 0).toNat * 1; omega
  | n + 1, f => by
    show (f 0).toNat + 256 * pack (fun i => f (i + 1)) (n + 1) = (f 0).toNat + 256 * pack (fun i => f (i + 1)) n + (f (n + 1)).toNat * 256 ^ (n + 1)
    rw [pack_snoc n (fun i => f (i + 1)), Nat.pow_succ, Nat.mul_add, ← Nat.mul_assoc _ (256 ^ n) 256, Nat.mul_comm 256 ((f (n + 1)).toNat * 256 ^ n), Nat.add_assoc]
theorem xor_join (a b x y : Nat) (ha : a < 256) (hb : b < 256) : (a + 256 * x) ^^^ (b + 256 * y) = (a ^^^ b) + 256 * (x ^^^ y) := by
  have hab : a ^^^ b < 256 := Nat.xor_lt_two_pow (n := 8) ha hb
  have h1 : ((a + 256 * x) ^^^ (b + 256 * y)) % 2 ^ 8 = a ^^^ b := by
    rw [Nat.xor_mod_two_pow]
    congr 1 <;> omega
  have h2 : ((a + 256 * x) ^^^ (b + 256 * y)) / 2 ^ 8 = x ^^^ y := by
    rw [Nat.xor_div_two_pow]
    congr 1 <;> omega
  omega
theorem pack_xor : ∀ (n : Nat) (f g : Nat → UInt8), pack f n ^^^ pack g n = pack (fun i => f i ^^^ g i) n
  | 0, _, _ => by simp [pack]
  | n + 1, f, g => by
    show ((f 0).toNat + 256 * pack (fun i => f (i + 1)) n) ^^^ ((g 0).toNat + 256 * pack (fun i => g (i + 1)) n) = (f 0 ^^^ g 0).toNat + 256 * pack (fun i => f (i + 1) ^^^ g (i + 1)) n
    rw [xor_join _ _ _ _ (f 0).toNat_lt (g 0).toNat_lt, pack_xor n, UInt8.toNat_xor]
theorem pack_byte : ∀ (i n : Nat) (f : Nat → UInt8), i < n → pack f n / 256 ^ i % 256 = (f i).toNat
  | 0, n + 1, f, _ => by
    show ((f 0).toNat + 256 * pack (fun i => f (i + 1)) n) / 1 % 256 = (f 0).toNat
    have hb := (f 0).toNat_lt
    omega
  | i + 1, n + 1, f, h => by
    show ((f 0).toNat + 256 * pack (fun i => f (i + 1)) n) / 256 ^ (i + 1) % 256 = (f (i + 1)).toNat
    have hb := (f 0).toNat_lt
    rw [show 256 ^ (i + 1) = 256 * 256 ^ i by rw [Nat.pow_succ, Nat.mul_comm], ← Nat.div_div_eq_div_mul, show ((f 0).toNat + 256 * pack (fun i => f (i + 1)) n) / 256 = pack (fun i => f (i + 1)) n by omega]
    exact pack_byte i n (fun i => f (i + 1)) (by omega)
theorem pack_congr : ∀ (n : Nat) (f g : Nat → UInt8), (∀ i, i < n → f i = g i) → pack f n = pack g n
  | 0, _, _, _ => rfl
  | n + 1, f, g, h => by
    show (f 0).toNat + 256 * pack (fun i => f (i + 1)) n = (g 0).toNat + 256 * pack (fun i => g (i + 1)) n
    rw [h 0 (by omega), pack_congr n (fun i => f (i + 1)) (fun i => g (i + 1)) fun i hi => h (i + 1) (by omega)]
theorem pack_short (f : Nat → UInt8) (m n : Nat) (hmn : m ≤ n) (h : ∀ i, m ≤ i → i < n → f i = 0) : pack f n = pack f m := by
  induction n with
  | zero => have : m = 0 := by omega
            rw [this]
  | succ n ih =>
    by_cases e : m = n + 1
    · rw [e]
    · rw [pack_snoc, h n (by omega) (by omega), ih (by omega) fun i h1 h2 => h i h1 (by omega)]; simp
theorem pack_lt8 (f : Nat → UInt8) : pack f 8 < 18446744073709551616 := by
  have := pack_lt 8 f
  simpa using this
theorem byteAt_extract (s : ByteArray) (k i : Nat) : byteAt (s.extract k s.size) i = byteAt s (k + i) := by
  unfold byteAt
  rw [ByteArray.data_extract, Array.toList_extract, List.getD_eq_getElem?_getD, List.getD_eq_getElem?_getD]
  simp only [List.extract]
  congr 1
  rw [List.take_of_length_le (by rw [List.length_drop, Array.length_toList]; exact Nat.le_refl _), List.getElem?_drop]
end Go.Proofs.YtbgkmppngnedlabDoor.Xor
