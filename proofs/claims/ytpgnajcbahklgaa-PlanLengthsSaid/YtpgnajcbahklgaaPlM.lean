/- The steps of a write and what they leave, plainly. -/
import Derived.Test.YtpgnajcbahklgaaSpPie
import Derived.Test.YtpgnajcbahklgaaTlM
namespace Go.Proofs.Ytpgnajcbahklgaa
namespace Pl
open Tl
/-- A step: its kind, slot, row, block and count. -/
structure St where
  k : Int
  s : Int
  r : Int
  b : Int
  c : Int
/-- The slot of a block, of rows of w blocks on w + 1 drives. -/
def sl (w z b : Nat) : Int := slotK ((w : Int) + 1) (z : Int) ((b / w : Nat) : Int) (b % w)
/-- The slot of a row's parity. -/
def par (w z r : Nat) : Int := ((z : Int) + (r : Int)) % ((w : Int) + 1)
def dat (w z b : Nat) : St := ⟨1, sl w z b, ((b / w : Nat) : Int), (b : Int), 0⟩
/-- What comes behind a block. -/
def beh (w z e b : Nat) : List St :=
  if b % w + 1 = w then [⟨2, par w z (b / w), ((b / w : Nat) : Int), 0, 0⟩] else if b + 1 = e then [⟨3, par w z (b / w), ((b / w : Nat) : Int), 0, ((b % w + 1 : Nat) : Int)⟩] else []
/-- The steps from a block on. -/
def steps (w z e : Nat) : Nat → Nat → List St
  | _, 0 => []
  | f, n + 1 => dat w z f :: (beh w z e f ++ steps w z e (f + 1) n)
def dats (w z : Nat) : Nat → Nat → List St
  | _, 0 => []
  | f, n + 1 => dat w z f :: dats w z (f + 1) n
theorem dats_len {w z : Nat} : ∀ (n f : Nat), (dats w z f n).length = n
  | 0, _ => rfl
  | n + 1, f => by rw [dats, List.length_cons, dats_len n]
theorem dats_at {w z : Nat} : ∀ (n f i : Nat) (h : i < (dats w z f n).length), (dats w z f n)[i] = dat w z (f + i)
  | 0, _, _, h => by simp [dats] at h
  | n + 1, f, 0, _ => rfl
  | n + 1, f, i + 1, h => by
    have h' : i < (dats w z (f + 1) n).length := by rw [dats_len] at h ⊢; omega
    show (dats w z (f + 1) n)[i] = _
    rw [dats_at n (f + 1) i h', show f + 1 + i = f + (i + 1) by omega]
theorem steps_add {w z e : Nat} : ∀ (a f n : Nat), steps w z e f (a + n) = steps w z e f a ++ steps w z e (f + a) n
  | 0, f, n => by rw [Nat.zero_add]; rfl
  | a + 1, f, n => by
    rw [show a + 1 + n = (a + n) + 1 by omega, steps, steps, steps_add a (f + 1) n, show f + 1 + a = f + (a + 1) by omega]
    simp only [List.cons_append, List.append_assoc]
theorem steps_len {w z e : Nat} : ∀ (n f : Nat), (steps w z e f n).length ≤ 2 * n
  | 0, _ => by simp [steps]
  | n + 1, f => by
    have h := steps_len (w := w) (z := z) (e := e) n (f + 1)
    have hb : (beh w z e f).length ≤ 1 := by unfold beh; split <;> (try split) <;> simp
    rw [steps, List.length_cons, List.length_append]
    omega
/-- The step behind a row's piece. -/
def pst (w z a c : Nat) : St := if a % w + c < w then ⟨3, par w z (a / w), ((a / w : Nat) : Int), 0, ((a % w + c : Nat) : Int)⟩ else ⟨2, par w z (a / w), ((a / w : Nat) : Int), 0, 0⟩
theorem in_row {w a c i : Nat} (h : a % w + c ≤ w) (hi : i < c) : (a + i) / w = a / w ∧ (a + i) % w = a % w + i := by
  have hw : 0 < w := by omega
  have e : a + i = w * (a / w) + (a % w + i) := by have := Nat.div_add_mod a w; omega
  constructor
  · rw [e, Nat.mul_add_div hw, Nat.div_eq_of_lt (show a % w + i < w by omega), Nat.add_zero]
  · rw [e, Nat.mul_add_mod, Nat.mod_eq_of_lt (show a % w + i < w by omega)]
/-- A piece of a row: its blocks, and what comes behind them. -/
theorem steps_piece {w z e a : Nat} : ∀ (c i : Nat), 0 < c → a % w + i + c ≤ w → (a % w + i + c = w ∨ a + i + c = e) → a + i + c ≤ e → steps w z e (a + i) c = dats w z (a + i) c ++ [pst w z a (i + c)]
  | 1, i, _, h, hl, he => by
    obtain ⟨e1, e2⟩ := in_row (w := w) (a := a) (c := i + 1) (i := i) (by omega) (by omega)
    show dat w z (a + i) :: (beh w z e (a + i) ++ []) = dat w z (a + i) :: [pst w z a (i + 1)]
    rw [List.append_nil]
    congr 1
    unfold beh pst
    rw [e1, e2]
    by_cases hf : a % w + i + 1 = w
    · rw [if_pos hf, if_neg (by omega)]
    · rw [if_neg hf, if_pos (by omega), if_pos (by omega)]
      rfl
  | c + 2, i, _, h, hl, he => by
    obtain ⟨e1, e2⟩ := in_row (w := w) (a := a) (c := i + 1) (i := i) (by omega) (by omega)
    have ih := steps_piece (w := w) (z := z) (e := e) (a := a) (c + 1) (i + 1) (by omega) (by omega) (by omega) (by omega)
    have hb : beh w z e (a + i) = [] := by
      unfold beh
      rw [e2, if_neg (by omega), if_neg (by omega)]
    rw [steps, dats, hb, List.nil_append, List.cons_append, show a + i + 1 = a + (i + 1) by omega, ih, show i + 1 + (c + 1) = i + (c + 2) by omega]
/-- Whether a slot has one of the first m blocks of a row. -/
def inRow (w z r m : Nat) (s : Int) : Bool := (List.range m).any fun k => decide (slotK ((w : Int) + 1) (z : Int) (r : Int) k = s)
theorem inRow_iff {w z r m : Nat} {s : Int} : inRow w z r m s = true ↔ ∃ k, k < m ∧ slotK ((w : Int) + 1) (z : Int) (r : Int) k = s := by
  unfold inRow
  rw [List.any_eq_true]
  constructor
  · rintro ⟨k, hk, h⟩; exact ⟨k, List.mem_range.1 hk, of_decide_eq_true h⟩
  · rintro ⟨k, hk, h⟩; exact ⟨k, List.mem_range.2 hk, decide_eq_true h⟩
/-- How many blocks a slot has when so many of the zone's were written. -/
def len (w z b : Nat) (s : Int) : Int := ((b / w : Nat) : Int) + if inRow w z (b / w) (b % w) s = true then 1 else 0
theorem sl_bd (w z b : Nat) : 0 ≤ sl w z b ∧ sl w z b < (w : Int) + 1 := slotK_bd (by omega) _
theorem par_bd (w z r : Nat) : 0 ≤ par w z r ∧ par w z r < (w : Int) + 1 := ⟨Int.emod_nonneg _ (by omega), Int.emod_lt_of_pos _ (by omega)⟩
/-- A block lies just behind what its slot has. -/
theorem len_sl {w z b : Nat} (hw : 0 < w) : len w z b (sl w z b) = ((b / w : Nat) : Int) := by
  have hm := Nat.mod_lt b hw
  unfold len
  rw [if_neg, Int.add_zero]
  intro h
  obtain ⟨k, hk, e⟩ := inRow_iff.1 h
  have := slotK_inj (D := (w : Int) + 1) (by omega) (j := k) (k := b % w) (by omega) (by omega) e
  omega
theorem len_par {w z b : Nat} (hw : 0 < w) : len w z b (par w z (b / w)) = ((b / w : Nat) : Int) := by
  have hm := Nat.mod_lt b hw
  unfold len
  rw [if_neg, Int.add_zero]
  intro h
  obtain ⟨k, hk, e⟩ := inRow_iff.1 h
  exact slotK_par (D := (w : Int) + 1) (by omega) (k := k) (by omega) e
theorem par_ne {w z b : Nat} (hw : 0 < w) : sl w z b ≠ par w z (b / w) := slotK_par (by omega) (by have := Nat.mod_lt b hw; omega)
theorem div_next {w b : Nat} (h : b % w + 1 < w) : (b + 1) / w = b / w ∧ (b + 1) % w = b % w + 1 := in_row (w := w) (a := b) (c := 2) (i := 1) (by omega) (by omega)
theorem div_full {w b : Nat} (hw : 0 < w) (h : b % w + 1 = w) : (b + 1) / w = b / w + 1 ∧ (b + 1) % w = 0 := by
  have e : b + 1 = w * (b / w + 1) := by have := Nat.div_add_mod b w; rw [Nat.mul_add]; omega
  rw [e]
  exact ⟨Nat.mul_div_cancel_left _ hw, Nat.mul_mod_right _ _⟩
/-- One block more in a row that isn't full by it. -/
theorem len_next {w z b : Nat} (hw : 0 < w) (h : b % w + 1 < w) (s : Int) : len w z (b + 1) s = len w z b s + if s = sl w z b then 1 else 0 := by
  obtain ⟨e1, e2⟩ := div_next h
  by_cases hs : s = sl w z b
  · subst hs
    rw [len_sl hw, if_pos rfl]
    unfold len
    have : inRow w z (b / w) (b % w + 1) (sl w z b) = true := inRow_iff.2 ⟨b % w, by omega, rfl⟩
    rw [e1, e2, if_pos this]
  · rw [if_neg hs, Int.add_zero]
    unfold len
    rw [e1, e2]
    have : inRow w z (b / w) (b % w + 1) s = inRow w z (b / w) (b % w) s := by
      rw [Bool.eq_iff_iff, inRow_iff, inRow_iff]
      constructor
      · rintro ⟨k, hk, e⟩
        refine ⟨k, ?_, e⟩
        rcases Nat.lt_or_ge k (b % w) with h2 | h2
        · exact h2
        · exact absurd (show s = sl w z b by rw [← e]; unfold sl; rw [show k = b % w by omega]) hs
      · rintro ⟨k, hk, e⟩; exact ⟨k, by omega, e⟩
    rw [this]
/-- The last block of a row, and its parity. -/
theorem len_full {w z b : Nat} (hw : 0 < w) (h : b % w + 1 = w) {s : Int} (h0 : 0 ≤ s) (h1 : s < (w : Int) + 1) :
    len w z (b + 1) s = len w z b s + (if s = sl w z b then 1 else 0) + if s = par w z (b / w) then 1 else 0 := by
  obtain ⟨e1, e2⟩ := div_full hw h
  have hl : len w z (b + 1) s = ((b / w : Nat) : Int) + 1 := by
    unfold len
    rw [e1, e2, if_neg (by rw [inRow_iff]; rintro ⟨k, hk, _⟩; omega)]
    omega
  rw [hl]
  have hne := par_ne (z := z) (b := b) hw
  by_cases hs : s = sl w z b
  · subst hs
    rw [len_sl hw, if_pos rfl, if_neg hne]; omega
  · rw [if_neg hs]
    by_cases hp : s = par w z (b / w)
    · subst hp
      rw [len_par hw, if_pos rfl]; omega
    · rw [if_neg hp]
      have : inRow w z (b / w) (b % w) s = true := by
        rw [inRow_iff]
        rcases slotK_all (D := (w : Int) + 1) (zone := (z : Int)) (row := ((b / w : Nat) : Int)) h0 h1 with e | ⟨k, hk, e⟩
        · exact absurd e hp
        · refine ⟨k, ?_, e⟩
          rcases Nat.lt_or_ge k (b % w) with h2 | h2
          · exact h2
          · exact absurd (show s = sl w z b by rw [← e]; unfold sl; rw [show k = b % w by omega]) hs
      unfold len
      rw [if_pos this]; omega
theorem len_zero (w z : Nat) (s : Int) : len w z 0 s = 0 := by
  unfold len
  rw [Nat.zero_div, Nat.zero_mod, if_neg (by rw [inRow_iff]; rintro ⟨k, hk, _⟩; omega)]; rfl
/-- Of a row that has begun each slot has the rows that are full, or one more. -/
theorem len_bd (w z b : Nat) (s : Int) : ((b / w : Nat) : Int) ≤ len w z b s ∧ len w z b s ≤ ((b / w : Nat) : Int) + if b % w = 0 then 0 else 1 := by
  unfold len
  by_cases h : inRow w z (b / w) (b % w) s = true
  · rw [if_pos h]
    obtain ⟨k, hk, _⟩ := inRow_iff.1 h
    rw [if_neg (by omega)]; omega
  · rw [if_neg h]; split <;> omega
/-- All slots' lengths. -/
def lens (w z b : Nat) : List Int := (List.range (w + 1)).map fun (s : Nat) => len w z b (s : Int)
theorem lens_len (w z b : Nat) : (lens w z b).length = w + 1 := by unfold lens; simp
theorem lens_at {w z b s : Nat} (h : s < (lens w z b).length) : (lens w z b)[s] = len w z b (s : Int) := by
  refine (List.getElem_eq_iff h).2 ?_
  rw [lens_len] at h
  unfold lens
  rw [List.getElem?_map, List.getElem?_range h]; rfl
/-- One more at a slot. -/
def bump (l : List Int) (s : Int) : List Int := l.set s.toNat (l.getD s.toNat 0 + 1)
theorem bump_len (l : List Int) (s : Int) : (bump l s).length = l.length := by unfold bump; simp
theorem bump_at {l : List Int} {s : Int} (h0 : 0 ≤ s) {i : Nat} (hi : i < (bump l s).length) (hi2 : i < l.length) : (bump l s)[i] = l[i] + if (i : Int) = s then 1 else 0 := by
  refine (List.getElem_eq_iff hi).2 ?_
  unfold bump
  by_cases h : s.toNat = i
  · subst h
    rw [List.getElem?_set_self hi2, if_pos (by omega), List.getD_eq_getElem?_getD, List.getElem?_eq_getElem hi2]; rfl
  · rw [List.getElem?_set_ne h, List.getElem?_eq_getElem hi2, if_neg (by omega), Int.add_zero]
theorem lens_next {w z b : Nat} (hw : 0 < w) (h : b % w + 1 < w) : lens w z (b + 1) = bump (lens w z b) (sl w z b) := by
  apply List.ext_getElem
  · rw [bump_len, lens_len, lens_len]
  · intro i h1 h2
    have h3 : i < (lens w z b).length := by rw [lens_len] at h1 ⊢; exact h1
    rw [lens_at h1, bump_at (sl_bd w z b).1 h2 h3, lens_at h3, len_next hw h]
theorem lens_full {w z b : Nat} (hw : 0 < w) (h : b % w + 1 = w) : lens w z (b + 1) = bump (bump (lens w z b) (sl w z b)) (par w z (b / w)) := by
  apply List.ext_getElem
  · rw [bump_len, bump_len, lens_len, lens_len]
  · intro i h1 h2
    have h3 : i < (lens w z b).length := by rw [lens_len] at h1 ⊢; exact h1
    have h4 : i < (bump (lens w z b) (sl w z b)).length := by rw [bump_len]; exact h3
    rw [lens_at h1, bump_at (par_bd w z _).1 h2 h4, bump_at (sl_bd w z b).1 h4 h3, lens_at h3, len_full hw h (by omega) (by rw [lens_len] at h1; omega)]
theorem lens_zero (w z : Nat) : lens w z 0 = List.replicate (w + 1) 0 := by
  apply List.ext_getElem
  · rw [lens_len, List.length_replicate]
  · intro i h1 h2
    rw [lens_at h1, len_zero, List.getElem_replicate]
theorem lens_rows {w z b : Nat} (h : b % w = 0) : lens w z b = List.replicate (w + 1) ((b / w : Nat) : Int) := by
  apply List.ext_getElem
  · rw [lens_len, List.length_replicate]
  · intro i h1 h2
    have := len_bd w z b (i : Int)
    rw [if_pos h] at this
    rw [lens_at h1, List.getElem_replicate]; omega
/-- The sum of a list. -/
def sum : List Int → Int
  | [] => 0
  | x :: l => x + sum l
theorem sum_set : ∀ (l : List Int) (i : Nat) (h : i < l.length) (v : Int), sum (l.set i v) = sum l - l[i] + v
  | x :: l, 0, _, v => by show v + sum l = x + sum l - x + v; omega
  | x :: l, i + 1, h, v => by
    have h' : i < l.length := by simpa using h
    show x + sum (l.set i v) = x + sum l - l[i] + v
    rw [sum_set l i h' v]; omega
theorem sum_bump {l : List Int} {s : Int} (h0 : 0 ≤ s) (h : s < l.length) : sum (bump l s) = sum l + 1 := by
  have hi : s.toNat < l.length := by omega
  unfold bump
  rw [sum_set l _ hi, List.getD_eq_getElem?_getD, List.getElem?_eq_getElem hi]
  show sum l - l[s.toNat] + (l[s.toNat] + 1) = _
  omega
theorem sum_append : ∀ (a b : List Int), sum (a ++ b) = sum a + sum b
  | [], b => by show sum b = 0 + sum b; omega
  | x :: a, b => by show x + sum (a ++ b) = x + sum a + sum b; rw [sum_append a b]; omega
theorem sum_zero : ∀ n, sum (List.replicate n 0) = 0
  | 0 => rfl
  | n + 1 => by rw [List.replicate_succ]; show 0 + sum _ = 0; rw [sum_zero n]; rfl
/-- All blocks that the slots have: the zone's, and a parity for each full row. -/
theorem sum_lens {w z : Nat} (hw : 0 < w) : ∀ b, sum (lens w z b) = (b : Int) + ((b / w : Nat) : Int)
  | 0 => by rw [lens_zero, sum_zero, Nat.zero_div]; rfl
  | b + 1 => by
    have hs := sl_bd w z b
    have hm := Nat.mod_lt b hw
    rcases Nat.lt_or_ge (b % w + 1) w with h | h
    · rw [lens_next hw h, sum_bump hs.1 (by rw [lens_len]; omega), sum_lens hw b, (div_next h).1]; omega
    · have hp := par_bd w z (b / w)
      rw [lens_full hw (by omega), sum_bump hp.1 (by rw [bump_len, lens_len]; omega), sum_bump hs.1 (by rw [lens_len]; omega), sum_lens hw b, (div_full hw (by omega)).1]; omega
end Pl
end Go.Proofs.Ytpgnajcbahklgaa
