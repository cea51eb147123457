/- Plain facts on the register of CRC-32C, as words of 32 bits: one step, eight steps, a list of bytes; that all of it adds up by exclusive or, that no step loses anything, and what four bytes in a row do. Nothing of the program stands here. -/
namespace Go.Proofs.YtlignckncgceaabDoor.Crc

def poly : BitVec 32 := 0x82F63B78#32
def stp (r : BitVec 32) : BitVec 32 := (r >>> 1) ^^^ (if r.getLsbD 0 then poly else 0#32)
def n4 (r : BitVec 32) : BitVec 32 := stp (stp (stp (stp r)))
def n8 (r : BitVec 32) : BitVec 32 := n4 (n4 r)
def wd (b : UInt8) : BitVec 32 := BitVec.ofNat 32 b.toNat
def nx (r : BitVec 32) (b : UInt8) : BitVec 32 := n8 (r ^^^ wd b)
def reg (r : BitVec 32) (l : List UInt8) : BitVec 32 := l.foldl nx r
def zs : Nat → BitVec 32 → BitVec 32
  | 0, r => r
  | k + 1, r => n8 (zs k r)

theorem xor4 (a b c d : BitVec 32) : (a ^^^ b) ^^^ (c ^^^ d) = (a ^^^ c) ^^^ (b ^^^ d) := by
  apply BitVec.eq_of_getLsbD_eq; intro i _; simp only [BitVec.getLsbD_xor]
  cases a.getLsbD i <;> cases b.getLsbD i <;> cases c.getLsbD i <;> cases d.getLsbD i <;> rfl

theorem stp_xor (a b : BitVec 32) : stp (a ^^^ b) = stp a ^^^ stp b := by
  unfold stp
  rw [BitVec.ushiftRight_xor_distrib, BitVec.getLsbD_xor]
  cases a.getLsbD 0 <;> cases b.getLsbD 0
  · simp
  · simp [BitVec.xor_assoc]
  · simp [BitVec.xor_assoc, BitVec.xor_comm poly]
  · rw [xor4]; simp

theorem stp_zero : stp 0#32 = 0#32 := by decide

theorem stp_inj {r : BitVec 32} (h : stp r = 0#32) : r = 0#32 := by
  unfold stp at h
  cases h0 : r.getLsbD 0
  · rw [h0] at h
    simp at h
    apply BitVec.eq_of_getLsbD_eq
    intro i hi
    cases i with
    | zero => rw [h0]; simp
    | succ j =>
      have := congrArg (fun x => x.getLsbD j) h
      simp at this
      rw [show j + 1 = 1 + j by omega, this]; simp
  · rw [h0] at h
    have := congrArg (fun x => x.getLsbD 31) h
    simp [poly] at this

theorem n4_xor (a b : BitVec 32) : n4 (a ^^^ b) = n4 a ^^^ n4 b := by unfold n4; simp only [stp_xor]
theorem n4_zero : n4 0#32 = 0#32 := by unfold n4; simp only [stp_zero]
theorem n4_inj {r : BitVec 32} (h : n4 r = 0#32) : r = 0#32 := stp_inj (stp_inj (stp_inj (stp_inj h)))
theorem n8_xor (a b : BitVec 32) : n8 (a ^^^ b) = n8 a ^^^ n8 b := by unfold n8; simp only [n4_xor]
theorem n8_zero : n8 0#32 = 0#32 := by unfold n8; simp only [n4_zero]
theorem n8_inj {r : BitVec 32} (h : n8 r = 0#32) : r = 0#32 := n4_inj (n4_inj h)

theorem stp_shl (x : BitVec 32) (k : Nat) (h : ∀ i, 32 ≤ i + k + 1 → x.getLsbD i = false) : stp (x <<< (k + 1)) = x <<< k := by
  unfold stp
  have h0 : (x <<< (k + 1)).getLsbD 0 = false := by simp
  rw [h0]
  apply BitVec.eq_of_getLsbD_eq
  intro i hi
  simp only [BitVec.getLsbD_xor, BitVec.getLsbD_ushiftRight, BitVec.getLsbD_shiftLeft]
  by_cases h1 : i < k
  · simp [show 1 + i < k + 1 by omega, h1]
  · by_cases h2 : 1 + i < 32
    · simp [show ¬ 1 + i < k + 1 by omega, h1, h2, hi, show 1 + i - (k + 1) = i - k by omega]
    · simp [show ¬ 1 + i < k + 1 by omega, h1, h2, hi]
      exact h (i - k) (by omega)

/-- Four steps of a word whose highest four bits are free, shifted up by four. -/
theorem n4_shl (x : BitVec 32) (h : ∀ i, 28 ≤ i → x.getLsbD i = false) : n4 (x <<< 4) = x := by
  unfold n4
  rw [stp_shl x 3 (fun i hi => h i (by omega)), stp_shl x 2 (fun i hi => h i (by omega)), stp_shl x 1 (fun i hi => h i (by omega)), stp_shl x 0 (fun i hi => h i (by omega))]
  simp

theorem n8_shl (x : BitVec 32) (h : ∀ i, 24 ≤ i → x.getLsbD i = false) : n8 (x <<< 8) = x := by
  unfold n8
  have e : x <<< 8 = (x <<< 4) <<< 4 := by rw [← BitVec.shiftLeft_add]
  rw [e, n4_shl _ (fun i hi => by
    rw [BitVec.getLsbD_shiftLeft]
    by_cases h1 : i < 32
    · rw [h (i - 4) (by omega)]; simp
    · simp [h1]), n4_shl _ (fun i hi => h i (by omega))]

theorem split16 (r : BitVec 32) : r = ((r >>> 4) <<< 4) ^^^ (r &&& 15#32) := by
  apply BitVec.eq_of_getLsbD_eq
  intro i hi
  have e15 : (15#32 : BitVec 32).getLsbD i = decide (i < 4) := by
    have : ∀ j : Fin 32, (15#32 : BitVec 32).getLsbD j.1 = decide (j.1 < 4) := by decide
    exact this ⟨i, hi⟩
  simp only [BitVec.getLsbD_xor, BitVec.getLsbD_and, BitVec.getLsbD_shiftLeft, BitVec.getLsbD_ushiftRight, e15]
  by_cases h : i < 4
  · simp [h, hi]
  · simp [h, hi, show 4 + (i - 4) = i by omega]

/-- The table's sixteen words are what four steps make of the sixteen numbers. -/
def tbl : List Nat := [0, 274646895, 549293790, 820201905, 1098587580, 1361435347, 1640403810, 1905808397, 2197175160, 2460548119, 2722870694, 2987750089, 3280807620, 3553878443, 3811616794, 4084100981]
theorem tbl_eq : ∀ i : Fin 16, n4 (BitVec.ofNat 32 i.1) = BitVec.ofNat 32 (tbl.getD i.1 0) := by decide
theorem tbl_lt : ∀ i : Fin 16, tbl.getD i.1 0 < 4294967296 := by decide

theorem and15 (r : BitVec 32) : (r &&& 15#32).toNat = r.toNat % 16 := by
  rw [BitVec.toNat_and]; exact Nat.and_two_pow_sub_one_eq_mod r.toNat 4

theorem n4_tbl (r : BitVec 32) : n4 r = (r >>> 4) ^^^ BitVec.ofNat 32 (tbl.getD (r.toNat % 16) 0) := by
  have h16 : r.toNat % 16 < 16 := Nat.mod_lt _ (by omega)
  conv => lhs; rw [split16 r]
  rw [n4_xor, n4_shl _ (fun i hi => by rw [BitVec.getLsbD_ushiftRight]; exact BitVec.getLsbD_of_ge _ _ (by omega))]
  congr 1
  have e : r &&& 15#32 = BitVec.ofNat 32 (r.toNat % 16) := by
    apply BitVec.eq_of_toNat_eq
    rw [and15, BitVec.toNat_ofNat, Nat.mod_eq_of_lt (a := r.toNat % 16) (by omega)]
  rw [e]
  exact tbl_eq ⟨_, h16⟩

theorem wd_xor (a b : UInt8) : wd (a ^^^ b) = wd a ^^^ wd b := by
  unfold wd
  apply BitVec.eq_of_toNat_eq
  have ha := a.toNat_lt; have hb := b.toNat_lt
  have hx : a.toNat ^^^ b.toNat < 2 ^ 8 := Nat.xor_lt_two_pow (by omega) (by omega)
  rw [BitVec.toNat_xor, BitVec.toNat_ofNat, BitVec.toNat_ofNat, BitVec.toNat_ofNat, UInt8.toNat_xor, Nat.mod_eq_of_lt (a := a.toNat) (by omega), Nat.mod_eq_of_lt (a := b.toNat) (by omega), Nat.mod_eq_of_lt (by omega)]
theorem wd_zero : wd 0 = 0#32 := rfl
theorem wd_inj {a : UInt8} (h : wd a = 0#32) : a = 0 := by
  have ha := a.toNat_lt
  have := congrArg BitVec.toNat h
  unfold wd at this
  rw [BitVec.toNat_ofNat, Nat.mod_eq_of_lt (by omega)] at this
  exact UInt8.toNat_inj.1 this

theorem nx_add (r d : BitVec 32) (a b : UInt8) : nx (r ^^^ d) (a ^^^ b) = nx r a ^^^ nx d b := by
  unfold nx; rw [wd_xor, xor4, n8_xor]
theorem nx_zero (r : BitVec 32) : nx r 0 = n8 r := by unfold nx; rw [wd_zero]; simp

theorem reg_nil (r : BitVec 32) : reg r [] = r := rfl
theorem reg_cons (r : BitVec 32) (b : UInt8) (l : List UInt8) : reg r (b :: l) = reg (nx r b) l := rfl
theorem reg_append (r : BitVec 32) (k l : List UInt8) : reg r (k ++ l) = reg (reg r k) l := List.foldl_append
theorem reg_snoc (r : BitVec 32) (l : List UInt8) (b : UInt8) : reg r (l ++ [b]) = nx (reg r l) b := by rw [reg_append]; rfl

theorem zs_n8 (k : Nat) (r : BitVec 32) : zs k (n8 r) = n8 (zs k r) := by
  induction k with
  | zero => rfl
  | succ k ih => show n8 (zs k (n8 r)) = n8 (n8 (zs k r)); rw [ih]
theorem zs_xor (k : Nat) (a b : BitVec 32) : zs k (a ^^^ b) = zs k a ^^^ zs k b := by
  induction k with
  | zero => rfl
  | succ k ih => show n8 (zs k _) = n8 (zs k a) ^^^ n8 (zs k b); rw [ih, n8_xor]
theorem zs_zero (k : Nat) : zs k 0#32 = 0#32 := by
  induction k with
  | zero => rfl
  | succ k ih => show n8 (zs k _) = _; rw [ih, n8_zero]
theorem zs_inj (k : Nat) {r : BitVec 32} (h : zs k r = 0#32) : r = 0#32 := by
  induction k with
  | zero => exact h
  | succ k ih => exact ih (n8_inj h)
theorem zs_add (j k : Nat) (r : BitVec 32) : zs (j + k) r = zs j (zs k r) := by
  induction j with
  | zero => rw [Nat.zero_add]; rfl
  | succ j ih => rw [Nat.succ_add]; show n8 (zs (j + k) r) = n8 (zs j (zs k r)); rw [ih]

/-- Both the register and the bytes add up. -/
theorem reg_add (l m : List UInt8) : ∀ (r d : BitVec 32), l.length = m.length → reg (r ^^^ d) (List.zipWith (· ^^^ ·) l m) = reg r l ^^^ reg d m := by
  induction l generalizing m with
  | nil => intro r d h; cases m with
    | nil => rfl
    | cons _ _ => simp at h
  | cons a l ih => intro r d h; cases m with
    | nil => simp at h
    | cons b m => rw [List.zipWith_cons_cons, reg_cons, nx_add, ih m _ _ (by simpa using h), reg_cons, reg_cons]

theorem reg_diff (l : List UInt8) : ∀ (r d : BitVec 32), reg (r ^^^ d) l = reg r l ^^^ zs l.length d := by
  induction l with
  | nil => intro r d; rfl
  | cons a l ih =>
    intro r d
    rw [reg_cons, reg_cons]
    have : nx (r ^^^ d) a = nx r a ^^^ n8 d := by
      have := nx_add r d a 0
      rw [nx_zero] at this
      simpa using this
    rw [this, ih, zs_n8]; rfl

/-- One byte turned. -/
theorem reg_turn (r : BitVec 32) (p q : List UInt8) (c y : UInt8) : reg r (p ++ (c ^^^ y) :: q) = reg r (p ++ c :: q) ^^^ zs q.length (nx 0#32 y) := by
  rw [reg_append, reg_append, reg_cons, reg_cons]
  have : nx (reg r p) (c ^^^ y) = nx (reg r p) c ^^^ nx 0#32 y := by
    have := nx_add (reg r p) 0#32 c y
    simpa using this
  rw [this, reg_diff]

theorem nx0 (y : UInt8) : nx 0#32 y = n8 (wd y) := by unfold nx; simp
theorem turn_add (k : Nat) (a b : UInt8) : zs k (nx 0#32 (a ^^^ b)) = zs k (nx 0#32 a) ^^^ zs k (nx 0#32 b) := by
  rw [nx0, nx0, nx0, wd_xor, n8_xor, zs_xor]
theorem turn_zero (k : Nat) : zs k (nx 0#32 0) = 0#32 := by rw [nx0, wd_zero, n8_zero, zs_zero]
theorem turn_inj (k : Nat) {a : UInt8} (h : zs k (nx 0#32 a) = 0#32) : a = 0 := by
  rw [nx0] at h; exact wd_inj (n8_inj (zs_inj k h))

theorem not_xor (a b : BitVec 32) : ~~~(a ^^^ b) = ~~~a ^^^ b := by
  apply BitVec.eq_of_getLsbD_eq; intro i hi; simp only [BitVec.getLsbD_xor, BitVec.getLsbD_not]
  cases a.getLsbD i <;> cases b.getLsbD i <;> simp [hi]

/-- The document's own way, bit by bit: what the register is with j bits of a byte taken in. -/
def stpN : Nat → BitVec 32 → BitVec 32
  | 0, r => r
  | k + 1, r => stp (stpN k r)
def cj (r y : BitVec 32) (j : Nat) : BitVec 32 := stpN j (r ^^^ y) ^^^ (y >>> j)
theorem cj_zero (r y : BitVec 32) : cj r y 0 = r := by
  show (r ^^^ y) ^^^ (y >>> 0) = r
  rw [BitVec.ushiftRight_zero, BitVec.xor_assoc, BitVec.xor_self, BitVec.xor_zero]
theorem cj_succ (r y : BitVec 32) (j : Nat) : cj r y (j + 1) = (cj r y j >>> 1) ^^^ (if (y >>> j).getLsbD 0 = (cj r y j).getLsbD 0 then 0#32 else poly) := by
  have e : (cj r y j).getLsbD 0 = ((stpN j (r ^^^ y)).getLsbD 0 ^^ (y >>> j).getLsbD 0) := by unfold cj; rw [BitVec.getLsbD_xor]
  have hs : (cj r y j >>> 1) = (stpN j (r ^^^ y)) >>> 1 ^^^ (y >>> (j + 1)) := by
    unfold cj; rw [BitVec.ushiftRight_xor_distrib, ← BitVec.shiftRight_add]
  rw [hs, e]
  show stp (stpN j (r ^^^ y)) ^^^ (y >>> (j + 1)) = _
  generalize stpN j (r ^^^ y) = s
  unfold stp
  rw [BitVec.xor_assoc, BitVec.xor_comm _ (y >>> (j + 1)), ← BitVec.xor_assoc]
  congr 1
  cases s.getLsbD 0 <;> cases (y >>> j).getLsbD 0 <;> simp
theorem cj_eight (r : BitVec 32) (y : UInt8) : cj r (wd y) 8 = nx r y := by
  have h8 : wd y >>> 8 = 0#32 := by
    apply BitVec.eq_of_toNat_eq
    have := y.toNat_lt
    unfold wd
    rw [BitVec.toNat_ushiftRight, BitVec.toNat_ofNat, Nat.mod_eq_of_lt (by omega), Nat.shiftRight_eq_div_pow]
    simp; omega
  unfold cj; rw [h8, BitVec.xor_zero]; rfl
theorem lsb_iff (x : BitVec 32) : x.getLsbD 0 = decide (x.toNat % 2 = 1) := by
  rw [BitVec.getLsbD_eq_getElem (by omega : 0 < 32), BitVec.getElem_eq_testBit_toNat, Nat.testBit_zero]
/-- One bit of the document's way, in numbers: the two tests and the two outcomes. -/
theorem cj_num (r y : BitVec 32) (j : Nat) :
    (y.toNat / 2 ^ j % 2 = (cj r y j).toNat % 2 → (cj r y (j + 1)).toNat = (cj r y j).toNat / 2) ∧
    (y.toNat / 2 ^ j % 2 ≠ (cj r y j).toNat % 2 → cj r y (j + 1) = BitVec.ofNat 32 ((cj r y j).toNat / 2) ^^^ poly) := by
  have hy : (y >>> j).toNat = y.toNat / 2 ^ j := by rw [BitVec.toNat_ushiftRight, Nat.shiftRight_eq_div_pow]
  have hh : (cj r y j >>> 1).toNat = (cj r y j).toNat / 2 := by rw [BitVec.toNat_ushiftRight, Nat.shiftRight_eq_div_pow]
  have h2 : BitVec.ofNat 32 ((cj r y j).toNat / 2) = cj r y j >>> 1 := by
    apply BitVec.eq_of_toNat_eq
    have := (cj r y j).isLt
    rw [BitVec.toNat_ofNat, hh]; omega
  rw [cj_succ, lsb_iff, lsb_iff, hy, h2]
  constructor
  · intro h
    rw [h, if_pos rfl, BitVec.xor_zero, hh]
  · intro h
    rw [if_neg]
    intro e
    rw [decide_eq_decide] at e
    omega

theorem zs_eq (k : Nat) {a b : BitVec 32} (h : zs k a = zs k b) : a = b := by
  have : zs k (a ^^^ b) = 0#32 := by rw [zs_xor, h, BitVec.xor_self]
  have := zs_inj k this
  exact BitVec.xor_eq_zero_iff.1 this
/-- The turn of one bit of four bytes. -/
def bitOf (a : Nat) : UInt8 := UInt8.ofNat (2 ^ (a % 8))
theorem bitOf_toNat (a : Nat) : (bitOf a).toNat = 2 ^ (a % 8) := by
  have : ∀ i : Fin 8, (UInt8.ofNat (2 ^ i.1)).toNat = 2 ^ i.1 := by decide
  exact this ⟨a % 8, Nat.mod_lt _ (by omega)⟩
theorem bitOf_ne (a : Nat) : bitOf a ≠ 0 := by
  intro h
  have := congrArg UInt8.toNat h
  rw [bitOf_toNat] at this
  have h2 : 0 < 2 ^ (a % 8) := Nat.two_pow_pos _
  rw [this] at h2
  exact absurd h2 (by decide)
theorem bits_inj : ∀ a b : Fin 32, zs (a.1 / 8) (nx 0#32 (bitOf a.1)) = zs (b.1 / 8) (nx 0#32 (bitOf b.1)) → a = b := by decide +kernel
theorem bits_apart (m a b : Nat) (ha : a < 32) (hb : b < 32) : zs (m + a / 8) (nx 0#32 (bitOf a)) = zs (m + b / 8) (nx 0#32 (bitOf b)) ↔ a = b := by
  constructor
  · intro h
    rw [zs_add, zs_add] at h
    have := bits_inj ⟨a, ha⟩ ⟨b, hb⟩ (zs_eq m h)
    exact congrArg Fin.val this
  · rintro rfl; rfl

theorem reg_set (r : BitVec 32) (l : List UInt8) (p : Nat) (hp : p < l.length) (y : UInt8) : reg r (l.set p (l[p] ^^^ y)) = reg r l ^^^ zs (l.length - 1 - p) (nx 0#32 y) := by
  have e1 : l.set p (l[p] ^^^ y) = l.take p ++ (l[p] ^^^ y) :: l.drop (p + 1) := by rw [List.set_eq_take_append_cons_drop, if_pos hp]
  have e2 : l = l.take p ++ l[p] :: l.drop (p + 1) := by rw [List.getElem_cons_drop, List.take_append_drop]
  rw [e1, reg_turn]
  rw [← e2]
  congr 2
  rw [List.length_drop]; omega

/-- Bytes of a list turned, one behind the other, from a place on. -/
def upd : List UInt8 → Nat → List UInt8 → List UInt8
  | l, _, [] => l
  | l, p, b :: m => upd (l.set p (l.getD p 0 ^^^ b)) (p + 1) m
theorem upd_length : ∀ (m l : List UInt8) (p : Nat), (upd l p m).length = l.length
  | [], _, _ => rfl
  | b :: m, l, p => by show (upd (l.set p _) (p + 1) m).length = _; rw [upd_length m, List.length_set]
theorem upd_snoc : ∀ (m l : List UInt8) (p : Nat) (b : UInt8), upd l p (m ++ [b]) = (upd l p m).set (p + m.length) ((upd l p m).getD (p + m.length) 0 ^^^ b)
  | [], _, _, _ => rfl
  | c :: m, l, p, b => by
    show upd (l.set p _) (p + 1) (m ++ [b]) = (upd (l.set p _) (p + 1) m).set (p + (m.length + 1)) ((upd (l.set p _) (p + 1) m).getD (p + (m.length + 1)) 0 ^^^ b)
    rw [upd_snoc m, show p + (m.length + 1) = p + 1 + m.length by omega]
theorem reg_upd (r : BitVec 32) : ∀ (m l : List UInt8) (p : Nat), p + m.length ≤ l.length → reg r (upd l p m) = reg r l ^^^ zs (l.length - p - m.length) (reg 0#32 m)
  | [], l, p, _ => by show reg r l = reg r l ^^^ zs _ 0#32; rw [zs_zero, BitVec.xor_zero]
  | b :: m, l, p, h => by
    simp only [List.length_cons] at h
    have hp : p < l.length := by omega
    show reg r (upd (l.set p (l.getD p 0 ^^^ b)) (p + 1) m) = _
    rw [reg_upd r m _ (p + 1) (by rw [List.length_set]; omega), List.length_set]
    have e : l.getD p 0 = l[p] := by simp [List.getD, hp]
    rw [e, reg_set r l p hp b, BitVec.xor_assoc]
    congr 1
    rw [reg_cons]
    have e2 : nx 0#32 b = 0#32 ^^^ nx 0#32 b := by simp
    rw [show reg (nx 0#32 b) m = reg 0#32 m ^^^ zs m.length (nx 0#32 b) by rw [← reg_diff, BitVec.zero_xor], zs_xor, ← zs_add, BitVec.xor_comm]
    simp only [List.length_cons]
    rw [show l.length - p - (m.length + 1) + m.length = l.length - 1 - p by omega, show l.length - (p + 1) - m.length = l.length - p - (m.length + 1) by omega]

/-- Up to four bytes as one word. -/
def word : List UInt8 → BitVec 32
  | [] => 0#32
  | b :: m => wd b ^^^ (word m <<< 8)
theorem wd_high (b : UInt8) (i : Nat) (hi : 8 ≤ i) : (wd b).getLsbD i = false := by
  have hb := b.toNat_lt
  have h1 : (wd b).toNat = b.toNat := by unfold wd; rw [BitVec.toNat_ofNat]; exact Nat.mod_eq_of_lt (by omega)
  rw [← BitVec.testBit_toNat, h1]
  have : 2 ^ 8 ≤ 2 ^ i := Nat.pow_le_pow_right (by omega) hi
  exact Nat.testBit_lt_two_pow (by omega)
theorem word_high : ∀ (m : List UInt8) (i : Nat), 8 * m.length ≤ i → (word m).getLsbD i = false
  | [], i, _ => by simp [word]
  | b :: m, i, h => by
    simp only [List.length_cons] at h
    show (wd b ^^^ (word m <<< 8)).getLsbD i = false
    rw [BitVec.getLsbD_xor, BitVec.getLsbD_shiftLeft, wd_high b i (by omega), word_high m (i - 8) (by omega)]
    simp
theorem reg_word : ∀ (m : List UInt8), m.length ≤ 4 → reg 0#32 m = zs m.length (word m)
  | [], _ => rfl
  | b :: m, h => by
    simp only [List.length_cons] at h
    rw [reg_cons, show reg (nx 0#32 b) m = reg 0#32 m ^^^ zs m.length (nx 0#32 b) by rw [← reg_diff, BitVec.zero_xor], reg_word m (by omega), nx0]
    show _ = zs (m.length + 1) (wd b ^^^ (word m <<< 8))
    rw [zs_xor, zs_add m.length 1 (wd b), zs_add m.length 1 (word m <<< 8)]
    show _ = zs m.length (n8 (wd b)) ^^^ zs m.length (n8 (word m <<< 8))
    rw [n8_shl (word m) (fun i hi => word_high m i (by omega)), BitVec.xor_comm]
theorem word_zero : ∀ (m : List UInt8), m.length ≤ 4 → word m = 0#32 → ∀ b ∈ m, b = 0
  | [], _, _ => by simp
  | b :: m, hm, h => by
    simp only [List.length_cons] at hm
    have hb : wd b = 0#32 := by
      apply BitVec.eq_of_getLsbD_eq
      intro i hi
      by_cases h8 : i < 8
      · have := congrArg (fun x => x.getLsbD i) h
        simp only [word, BitVec.getLsbD_xor, BitVec.getLsbD_shiftLeft] at this
        simpa [h8] using this
      · rw [wd_high b i (by omega)]; simp
    have hw : word m = 0#32 := by
      apply BitVec.eq_of_getLsbD_eq
      intro i hi
      by_cases h24 : i < 24
      · have := congrArg (fun x => x.getLsbD (i + 8)) h
        simp only [word, BitVec.getLsbD_xor, BitVec.getLsbD_shiftLeft, hb] at this
        simpa [show i + 8 < 32 by omega] using this
      · rw [word_high m i (by omega)]; simp
    intro c hc
    rcases List.mem_cons.1 hc with rfl | hc
    · exact wd_inj hb
    · exact word_zero m (by omega) hw c hc
theorem reg_tells (m : List UInt8) (hm : m.length ≤ 4) (k : Nat) : zs k (reg 0#32 m) = 0#32 ↔ m.any (· != 0) = false := by
  constructor
  · intro h
    have h1 := zs_inj k h
    rw [reg_word m hm] at h1
    have h2 := word_zero m hm (zs_inj _ h1)
    simpa using h2
  · intro h
    have h2 : ∀ b ∈ m, b = 0 := by simpa using h
    have : ∀ (m : List UInt8), (∀ b ∈ m, b = 0) → reg 0#32 m = 0#32 := by
      intro m
      induction m with
      | nil => intro _; rfl
      | cons b m ih =>
        intro h
        rw [reg_cons, h b (by simp), nx0, wd_zero, n8_zero]
        exact ih (fun c hc => h c (by simp [hc]))
    rw [this m h2, zs_zero]

end Go.Proofs.YtlignckncgceaabDoor.Crc
