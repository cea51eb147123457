/- The steps of a write, plainly. -/
import Derived.Test.YtdjdldcpaidmnaaMKRow
import Derived.Test.YtdjdldcpaidmnaaMGeo
import Derived.Lib.MinMax
import Derived.Test.YtdjdldcpaidmnaaMBase
import Derived.Test.YtdjdldcpaidmnaaFreshC
import Derived.Test.YtdjdldcpaidmnaaTlM
namespace Go.Proofs.Ytdjdldcpaidmnaa
open Go.RowKit
/-- A piece: the row, the first, how many. -/
structure Pc where
  r : Int
  f : Int
  c : Int
def pcE : Enc Pc := ⟨fun p => [.int .i64 p.r, .int .i64 p.f, .int .i64 p.c], 3, fun _ => rfl, fun x u hu => by
  simp only [List.mem_cons, List.not_mem_nil, or_false] at hu
  rcases hu with rfl | rfl | rfl <;> rfl⟩
/-- The pieces of a range. -/
def pcs (b : Nat) (hb : 0 < b) (at_ n : Nat) : List Pc :=
  if _h : n = 0 then [] else
    ⟨((at_ / b : Nat) : Int), ((at_ % b : Nat) : Int), ((min n (b - at_ % b) : Nat) : Int)⟩ :: pcs b hb (at_ + min n (b - at_ % b)) (n - min n (b - at_ % b))
termination_by n
decreasing_by have := Nat.mod_lt at_ hb; omega
theorem pcs_zero {b : Nat} {hb : 0 < b} (at_ : Nat) : pcs b hb at_ 0 = [] := by unfold pcs; rw [dif_pos rfl]
theorem pcs_step {b : Nat} {hb : 0 < b} {at_ n : Nat} (h : 0 < n) : pcs b hb at_ n = ⟨((at_ / b : Nat) : Int), ((at_ % b : Nat) : Int), ((min n (b - at_ % b) : Nat) : Int)⟩ :: pcs b hb (at_ + min n (b - at_ % b)) (n - min n (b - at_ % b)) := by
  rw [pcs, dif_neg (by omega)]
theorem pcs_len {b : Nat} {hb : 0 < b} : ∀ (n at_ : Nat), (pcs b hb at_ n).length ≤ n := by
  intro n
  induction n using Nat.strongRecOn with
  | ind n ih =>
    intro at_
    by_cases h : n = 0
    · subst h; rw [pcs_zero]; exact Nat.le_refl _
    · rw [pcs_step (by omega), List.length_cons]
      have hm := Nat.mod_lt at_ hb
      have := ih (n - min n (b - at_ % b)) (by omega) (at_ + min n (b - at_ % b))
      omega
theorem grown1 (W : World) (g o : Nat) (v : Value) : W.grownBy (W.setCell ⟨g, o, none⟩ v) (some g) := ⟨rfl, rfl, rfl, by simp [World.setCell], fun k _ hk => Below.heap_setCell _ _ _ _ (fun e => hk (by rw [e]))⟩
end Go.Proofs.Ytdjdldcpaidmnaa
namespace Go.Proofs.Ytdjdldcpaidmnaa
namespace Pl
open Tl
/-- A step: its kind, slot, row, block and count. -/
structure St where
  k : Int
  s : Int
  r : Int
  b : Int
  c : Int
/-- The slot of a block, of rows of w blocks on w + 1 drives. -/
def sl (w z b : Nat) : Int := slotK ((w : Int) + 1) (z : Int) ((b / w : Nat) : Int) (b % w)
/-- The slot of a row's parity. -/
def par (w z r : Nat) : Int := ((z : Int) + (r : Int)) % ((w : Int) + 1)
def dat (w z b : Nat) : St := ⟨1, sl w z b, ((b / w : Nat) : Int), (b : Int), 0⟩
/-- What comes behind a block. -/
def beh (w z e b : Nat) : List St :=
  if b % w + 1 = w then [⟨2, par w z (b / w), ((b / w : Nat) : Int), 0, 0⟩] else if b + 1 = e then [⟨3, par w z (b / w), ((b / w : Nat) : Int), 0, ((b % w + 1 : Nat) : Int)⟩] else []
/-- The steps from a block on. -/
def steps (w z e : Nat) : Nat → Nat → List St
  | _, 0 => []
  | f, n + 1 => dat w z f :: (beh w z e f ++ steps w z e (f + 1) n)
def dats (w z : Nat) : Nat → Nat → List St
  | _, 0 => []
  | f, n + 1 => dat w z f :: dats w z (f + 1) n
theorem dats_len {w z : Nat} : ∀ (n f : Nat), (dats w z f n).length = n
  | 0, _ => rfl
  | n + 1, f => by rw [dats, List.length_cons, dats_len n]
theorem dats_at {w z : Nat} : ∀ (n f i : Nat) (h : i < (dats w z f n).length), (dats w z f n)[i] = dat w z (f + i)
  | 0, _, _, h => by simp [dats] at h
  | n + 1, f, 0, _ => rfl
  | n + 1, f, i + 1, h => by
    have h' : i < (dats w z (f + 1) n).length := by rw [dats_len] at h ⊢; omega
    show (dats w z (f + 1) n)[i] = _
    rw [dats_at n (f + 1) i h', show f + 1 + i = f + (i + 1) by omega]
theorem steps_add {w z e : Nat} : ∀ (a f n : Nat), steps w z e f (a + n) = steps w z e f a ++ steps w z e (f + a) n
  | 0, f, n => by rw [Nat.zero_add]; rfl
  | a + 1, f, n => by
    rw [show a + 1 + n = (a + n) + 1 by omega, steps, steps, steps_add a (f + 1) n, show f + 1 + a = f + (a + 1) by omega]
    simp only [List.cons_append, List.append_assoc]
theorem steps_len {w z e : Nat} : ∀ (n f : Nat), (steps w z e f n).length ≤ 2 * n
  | 0, _ => by simp [steps]
  | n + 1, f => by
    have h := steps_len (w := w) (z := z) (e := e) n (f + 1)
    have hb : (beh w z e f).length ≤ 1 := by unfold beh; split <;> (try split) <;> simp
    rw [steps, List.length_cons, List.length_append]
    omega
/-- The step behind a row's piece. -/
def pst (w z a c : Nat) : St := if a % w + c < w then ⟨3, par w z (a / w), ((a / w : Nat) : Int), 0, ((a % w + c : Nat) : Int)⟩ else ⟨2, par w z (a / w), ((a / w : Nat) : Int), 0, 0⟩
theorem in_row {w a c i : Nat} (h : a % w + c ≤ w) (hi : i < c) : (a + i) / w = a / w ∧ (a + i) % w = a % w + i := by
  have hw : 0 < w := by omega
  have e : a + i = w * (a / w) + (a % w + i) := by have := Nat.div_add_mod a w; omega
  constructor
  · rw [e, Nat.mul_add_div hw, Nat.div_eq_of_lt (show a % w + i < w by omega), Nat.add_zero]
  · rw [e, Nat.mul_add_mod, Nat.mod_eq_of_lt (show a % w + i < w by omega)]
/-- A piece of a row: its blocks, and what comes behind them. -/
theorem steps_piece {w z e a : Nat} : ∀ (c i : Nat), 0 < c → a % w + i + c ≤ w → (a % w + i + c = w ∨ a + i + c = e) → a + i + c ≤ e → steps w z e (a + i) c = dats w z (a + i) c ++ [pst w z a (i + c)]
  | 1, i, _, h, hl, he => by
    obtain ⟨e1, e2⟩ := in_row (w := w) (a := a) (c := i + 1) (i := i) (by omega) (by omega)
    show dat w z (a + i) :: (beh w z e (a + i) ++ []) = dat w z (a + i) :: [pst w z a (i + 1)]
    rw [List.append_nil]
    congr 1
    unfold beh pst
    rw [e1, e2]
    by_cases hf : a % w + i + 1 = w
    · rw [if_pos hf, if_neg (by omega)]
    · rw [if_neg hf, if_pos (by omega), if_pos (by omega)]
      rfl
  | c + 2, i, _, h, hl, he => by
    obtain ⟨e1, e2⟩ := in_row (w := w) (a := a) (c := i + 1) (i := i) (by omega) (by omega)
    have ih := steps_piece (w := w) (z := z) (e := e) (a := a) (c + 1) (i + 1) (by omega) (by omega) (by omega) (by omega)
    have hb : beh w z e (a + i) = [] := by
      unfold beh
      rw [e2, if_neg (by omega), if_neg (by omega)]
    rw [steps, dats, hb, List.nil_append, List.cons_append, show a + i + 1 = a + (i + 1) by omega, ih, show i + 1 + (c + 1) = i + (c + 2) by omega]
/-- Whether a slot has one of the first m blocks of a row. -/
def inRow (w z r m : Nat) (s : Int) : Bool := (List.range m).any fun k => decide (slotK ((w : Int) + 1) (z : Int) (r : Int) k = s)
theorem inRow_iff {w z r m : Nat} {s : Int} : inRow w z r m s = true ↔ ∃ k, k < m ∧ slotK ((w : Int) + 1) (z : Int) (r : Int) k = s := by
  unfold inRow
  rw [List.any_eq_true]
  constructor
  · rintro ⟨k, hk, h⟩; exact ⟨k, List.mem_range.1 hk, of_decide_eq_true h⟩
  · rintro ⟨k, hk, h⟩; exact ⟨k, List.mem_range.2 hk, decide_eq_true h⟩
/-- How many blocks a slot has when so many of the zone's were written. -/
def len (w z b : Nat) (s : Int) : Int := ((b / w : Nat) : Int) + if inRow w z (b / w) (b % w) s = true then 1 else 0
theorem sl_bd (w z b : Nat) : 0 ≤ sl w z b ∧ sl w z b < (w : Int) + 1 := slotK_bd (by omega) _
theorem par_bd (w z r : Nat) : 0 ≤ par w z r ∧ par w z r < (w : Int) + 1 := ⟨Int.emod_nonneg _ (by omega), Int.emod_lt_of_pos _ (by omega)⟩
/-- A block lies just behind what its slot has. -/
theorem len_sl {w z b : Nat} (hw : 0 < w) : len w z b (sl w z b) = ((b / w : Nat) : Int) := by
  have hm := Nat.mod_lt b hw
  unfold len
  rw [if_neg, Int.add_zero]
  intro h
  obtain ⟨k, hk, e⟩ := inRow_iff.1 h
  have := slotK_inj (D := (w : Int) + 1) (by omega) (j := k) (k := b % w) (by omega) (by omega) e
  omega
theorem len_par {w z b : Nat} (hw : 0 < w) : len w z b (par w z (b / w)) = ((b / w : Nat) : Int) := by
  have hm := Nat.mod_lt b hw
  unfold len
  rw [if_neg, Int.add_zero]
  intro h
  obtain ⟨k, hk, e⟩ := inRow_iff.1 h
  exact slotK_par (D := (w : Int) + 1) (by omega) (k := k) (by omega) e
theorem par_ne {w z b : Nat} (hw : 0 < w) : sl w z b ≠ par w z (b / w) := slotK_par (by omega) (by have := Nat.mod_lt b hw; omega)
theorem div_next {w b : Nat} (h : b % w + 1 < w) : (b + 1) / w = b / w ∧ (b + 1) % w = b % w + 1 := in_row (w := w) (a := b) (c := 2) (i := 1) (by omega) (by omega)
theorem div_full {w b : Nat} (hw : 0 < w) (h : b % w + 1 = w) : (b + 1) / w = b / w + 1 ∧ (b + 1) % w = 0 := by
  have e : b + 1 = w * (b / w + 1) := by have := Nat.div_add_mod b w; rw [Nat.mul_add]; omega
  rw [e]
  exact ⟨Nat.mul_div_cancel_left _ hw, Nat.mul_mod_right _ _⟩
/-- One block more in a row that isn't full by it. -/
theorem len_next {w z b : Nat} (hw : 0 < w) (h : b % w + 1 < w) (s : Int) : len w z (b + 1) s = len w z b s + if s = sl w z b then 1 else 0 := by
  obtain ⟨e1, e2⟩ := div_next h
  by_cases hs : s = sl w z b
  · subst hs
    rw [len_sl hw, if_pos rfl]
    unfold len
    have : inRow w z (b / w) (b % w + 1) (sl w z b) = true := inRow_iff.2 ⟨b % w, by omega, rfl⟩
    rw [e1, e2, if_pos this]
  · rw [if_neg hs, Int.add_zero]
    unfold len
    rw [e1, e2]
    have : inRow w z (b / w) (b % w + 1) s = inRow w z (b / w) (b % w) s := by
      rw [Bool.eq_iff_iff, inRow_iff, inRow_iff]
      constructor
      · rintro ⟨k, hk, e⟩
        refine ⟨k, ?_, e⟩
        rcases Nat.lt_or_ge k (b % w) with h2 | h2
        · exact h2
        · exact absurd (show s = sl w z b by rw [← e]; unfold sl; rw [show k = b % w by omega]) hs
      · rintro ⟨k, hk, e⟩; exact ⟨k, by omega, e⟩
    rw [this]
/-- The last block of a row, and its parity. -/
theorem len_full {w z b : Nat} (hw : 0 < w) (h : b % w + 1 = w) {s : Int} (h0 : 0 ≤ s) (h1 : s < (w : Int) + 1) :
    len w z (b + 1) s = len w z b s + (if s = sl w z b then 1 else 0) + if s = par w z (b / w) then 1 else 0 := by
  obtain ⟨e1, e2⟩ := div_full hw h
  have hl : len w z (b + 1) s = ((b / w : Nat) : Int) + 1 := by
    unfold len
    rw [e1, e2, if_neg (by rw [inRow_iff]; rintro ⟨k, hk, _⟩; omega)]
    omega
  rw [hl]
  have hne := par_ne (z := z) (b := b) hw
  by_cases hs : s = sl w z b
  · subst hs
    rw [len_sl hw, if_pos rfl, if_neg hne]; omega
  · rw [if_neg hs]
    by_cases hp : s = par w z (b / w)
    · subst hp
      rw [len_par hw, if_pos rfl]; omega
    · rw [if_neg hp]
      have : inRow w z (b / w) (b % w) s = true := by
        rw [inRow_iff]
        rcases slotK_all (D := (w : Int) + 1) (zone := (z : Int)) (row := ((b / w : Nat) : Int)) h0 h1 with e | ⟨k, hk, e⟩
        · exact absurd e hp
        · refine ⟨k, ?_, e⟩
          rcases Nat.lt_or_ge k (b % w) with h2 | h2
          · exact h2
          · exact absurd (show s = sl w z b by rw [← e]; unfold sl; rw [show k = b % w by omega]) hs
      unfold len
      rw [if_pos this]; omega
theorem len_zero (w z : Nat) (s : Int) : len w z 0 s = 0 := by
  unfold len
  rw [Nat.zero_div, Nat.zero_mod, if_neg (by rw [inRow_iff]; rintro ⟨k, hk, _⟩; omega)]; rfl
/-- Of a row that has begun each slot has the rows that are full, or one more. -/
theorem len_bd (w z b : Nat) (s : Int) : ((b / w : Nat) : Int) ≤ len w z b s ∧ len w z b s ≤ ((b / w : Nat) : Int) + if b % w = 0 then 0 else 1 := by
  unfold len
  by_cases h : inRow w z (b / w) (b % w) s = true
  · rw [if_pos h]
    obtain ⟨k, hk, _⟩ := inRow_iff.1 h
    rw [if_neg (by omega)]; omega
  · rw [if_neg h]; split <;> omega
/-- All slots' lengths. -/
def lens (w z b : Nat) : List Int := (List.range (w + 1)).map fun (s : Nat) => len w z b (s : Int)
theorem lens_len (w z b : Nat) : (lens w z b).length = w + 1 := by unfold lens; simp
theorem lens_at {w z b s : Nat} (h : s < (lens w z b).length) : (lens w z b)[s] = len w z b (s : Int) := by
  refine (List.getElem_eq_iff h).2 ?_
  rw [lens_len] at h
  unfold lens
  rw [List.getElem?_map, List.getElem?_range h]; rfl
/-- One more at a slot. -/
def bump (l : List Int) (s : Int) : List Int := l.set s.toNat (l.getD s.toNat 0 + 1)
theorem bump_len (l : List Int) (s : Int) : (bump l s).length = l.length := by unfold bump; simp
theorem bump_at {l : List Int} {s : Int} (h0 : 0 ≤ s) {i : Nat} (hi : i < (bump l s).length) (hi2 : i < l.length) : (bump l s)[i] = l[i] + if (i : Int) = s then 1 else 0 := by
  refine (List.getElem_eq_iff hi).2 ?_
  unfold bump
  by_cases h : s.toNat = i
  · subst h
    rw [List.getElem?_set_self hi2, if_pos (by omega), List.getD_eq_getElem?_getD, List.getElem?_eq_getElem hi2]; rfl
  · rw [List.getElem?_set_ne h, List.getElem?_eq_getElem hi2, if_neg (by omega), Int.add_zero]
theorem lens_next {w z b : Nat} (hw : 0 < w) (h : b % w + 1 < w) : lens w z (b + 1) = bump (lens w z b) (sl w z b) := by
  apply List.ext_getElem
  · rw [bump_len, lens_len, lens_len]
  · intro i h1 h2
    have h3 : i < (lens w z b).length := by rw [lens_len] at h1 ⊢; exact h1
    rw [lens_at h1, bump_at (sl_bd w z b).1 h2 h3, lens_at h3, len_next hw h]
theorem lens_full {w z b : Nat} (hw : 0 < w) (h : b % w + 1 = w) : lens w z (b + 1) = bump (bump (lens w z b) (sl w z b)) (par w z (b / w)) := by
  apply List.ext_getElem
  · rw [bump_len, bump_len, lens_len, lens_len]
  · intro i h1 h2
    have h3 : i < (lens w z b).length := by rw [lens_len] at h1 ⊢; exact h1
    have h4 : i < (bump (lens w z b) (sl w z b)).length := by rw [bump_len]; exact h3
    rw [lens_at h1, bump_at (par_bd w z _).1 h2 h4, bump_at (sl_bd w z b).1 h4 h3, lens_at h3, len_full hw h (by omega) (by rw [lens_len] at h1; omega)]
theorem lens_zero (w z : Nat) : lens w z 0 = List.replicate (w + 1) 0 := by
  apply List.ext_getElem
  · rw [lens_len, List.length_replicate]
  · intro i h1 h2
    rw [lens_at h1, len_zero, List.getElem_replicate]
theorem lens_rows {w z b : Nat} (h : b % w = 0) : lens w z b = List.replicate (w + 1) ((b / w : Nat) : Int) := by
  apply List.ext_getElem
  · rw [lens_len, List.length_replicate]
  · intro i h1 h2
    have := len_bd w z b (i : Int)
    rw [if_pos h] at this
    rw [lens_at h1, List.getElem_replicate]; omega
/-- The sum of a list. -/
def sum : List Int → Int
  | [] => 0
  | x :: l => x + sum l
theorem sum_set : ∀ (l : List Int) (i : Nat) (h : i < l.length) (v : Int), sum (l.set i v) = sum l - l[i] + v
  | x :: l, 0, _, v => by show v + sum l = x + sum l - x + v; omega
  | x :: l, i + 1, h, v => by
    have h' : i < l.length := by simpa using h
    show x + sum (l.set i v) = x + sum l - l[i] + v
    rw [sum_set l i h' v]; omega
theorem sum_bump {l : List Int} {s : Int} (h0 : 0 ≤ s) (h : s < l.length) : sum (bump l s) = sum l + 1 := by
  have hi : s.toNat < l.length := by omega
  unfold bump
  rw [sum_set l _ hi, List.getD_eq_getElem?_getD, List.getElem?_eq_getElem hi]
  show sum l - l[s.toNat] + (l[s.toNat] + 1) = _
  omega
theorem sum_append : ∀ (a b : List Int), sum (a ++ b) = sum a + sum b
  | [], b => by show sum b = 0 + sum b; omega
  | x :: a, b => by show x + sum (a ++ b) = x + sum a + sum b; rw [sum_append a b]; omega
theorem sum_zero : ∀ n, sum (List.replicate n 0) = 0
  | 0 => rfl
  | n + 1 => by rw [List.replicate_succ]; show 0 + sum _ = 0; rw [sum_zero n]; rfl
/-- All blocks that the slots have: the zone's, and a parity for each full row. -/
theorem sum_lens {w z : Nat} (hw : 0 < w) : ∀ b, sum (lens w z b) = (b : Int) + ((b / w : Nat) : Int)
  | 0 => by rw [lens_zero, sum_zero, Nat.zero_div]; rfl
  | b + 1 => by
    have hs := sl_bd w z b
    have hm := Nat.mod_lt b hw
    rcases Nat.lt_or_ge (b % w + 1) w with h | h
    · rw [lens_next hw h, sum_bump hs.1 (by rw [lens_len]; omega), sum_lens hw b, (div_next h).1]; omega
    · have hp := par_bd w z (b / w)
      rw [lens_full hw (by omega), sum_bump hp.1 (by rw [bump_len, lens_len]; omega), sum_bump hs.1 (by rw [lens_len]; omega), sum_lens hw b, (div_full hw (by omega)).1]; omega
end Pl
end Go.Proofs.Ytdjdldcpaidmnaa
namespace Go.Proofs.Ytdjdldcpaidmnaa
namespace Pl
open Tl
def pStep (w z b : Nat) : St := ⟨2, par w z (b / w), ((b / w : Nat) : Int), 0, 0⟩
def nStep (w z b : Nat) : St := ⟨3, par w z (b / w), ((b / w : Nat) : Int), 0, ((b % w + 1 : Nat) : Int)⟩
/-- Ahead of a block's step. -/
def Aft (w z e : Nat) (L : List St) (i b : Nat) : Prop := b ≤ e ∧ L.drop i = steps w z e b (e - b) ∧ (b = e → e % w = 0)
/-- Between a block's step and what comes behind it. -/
def Mid (w z e : Nat) (L : List St) (i b : Nat) : Prop := b < e ∧ L.drop i = beh w z e b ++ steps w z e (b + 1) (e - (b + 1)) ∧ beh w z e b ≠ []
theorem aft_start {w z f n : Nat} (hn : 0 < n) : Aft w z (f + n) (steps w z (f + n) f n) 0 f := ⟨by omega, by rw [List.drop_zero, Nat.add_sub_cancel_left], fun h => by omega⟩
theorem drop_at {α : Type} {L : List α} {i : Nat} {x : α} {r : List α} (h : L.drop i = x :: r) : ∃ hi : i < L.length, L[i] = x ∧ L.drop (i + 1) = r := by
  have hi : i < L.length := by
    rcases Nat.lt_or_ge i L.length with h1 | h1
    · exact h1
    · rw [List.drop_eq_nil_of_le h1] at h; cases h
  rw [List.drop_eq_getElem_cons hi] at h
  injection h with h1 h2
  exact ⟨hi, h1, h2⟩
theorem beh_nil {w z e b : Nat} (h : beh w z e b = []) : b % w + 1 ≠ w ∧ b + 1 ≠ e := by
  unfold beh at h
  by_cases h1 : b % w + 1 = w
  · rw [if_pos h1] at h; cases h
  · rw [if_neg h1] at h
    by_cases h2 : b + 1 = e
    · rw [if_pos h2] at h; cases h
    · exact ⟨h1, h2⟩
theorem Aft.next {w z e : Nat} {L : List St} {i b : Nat} (h : Aft w z e L i b) (hi : i < L.length) :
    b < e ∧ L[i] = dat w z b ∧ ((Aft w z e L (i + 1) (b + 1) ∧ b % w + 1 ≠ w ∧ b + 1 < e) ∨ Mid w z e L (i + 1) b) := by
  obtain ⟨h1, h2, h3⟩ := h
  have hlt : b < e := by
    rcases Nat.lt_or_ge b e with h4 | h4
    · exact h4
    · rw [show e - b = 0 by omega, steps, List.drop_eq_nil_iff] at h2; omega
  rw [show e - b = (e - (b + 1)) + 1 by omega, steps] at h2
  obtain ⟨hi', e1, e2⟩ := drop_at h2
  refine ⟨hlt, e1, ?_⟩
  by_cases hb : beh w z e b = []
  · left
    obtain ⟨n1, n2⟩ := beh_nil hb
    exact ⟨⟨by omega, by rw [e2, hb, List.nil_append], fun h => by omega⟩, n1, by omega⟩
  · right; exact ⟨hlt, e2, hb⟩
theorem Aft.done {w z e : Nat} {L : List St} {i b : Nat} (h : Aft w z e L i b) (hi : ¬ i < L.length) : b = e ∧ e % w = 0 := by
  obtain ⟨h1, h2, h3⟩ := h
  rcases Nat.lt_or_ge b e with h4 | h4
  · rw [List.drop_eq_nil_of_le (by omega), show e - b = (e - (b + 1)) + 1 by omega, steps] at h2; cases h2
  · exact ⟨by omega, h3 (by omega)⟩
theorem Mid.next {w z e : Nat} {L : List St} {i b : Nat} (h : Mid w z e L i b) :
    ∃ hi : i < L.length, b < e ∧ ((L[i] = pStep w z b ∧ b % w + 1 = w ∧ Aft w z e L (i + 1) (b + 1)) ∨ (L[i] = nStep w z b ∧ b % w + 1 ≠ w ∧ b + 1 = e ∧ i + 1 = L.length)) := by
  obtain ⟨h1, h2, h3⟩ := h
  unfold beh at h2 h3
  by_cases hf : b % w + 1 = w
  · rw [if_pos hf] at h2
    obtain ⟨hi, e1, e2⟩ := drop_at h2
    refine ⟨hi, h1, .inl ⟨e1, hf, by omega, e2, fun h => ?_⟩⟩
    rw [← h]
    exact (div_full (by omega) hf).2
  · rw [if_neg hf] at h2 h3
    by_cases hl : b + 1 = e
    · rw [if_pos hl] at h2
      obtain ⟨hi, e1, e2⟩ := drop_at h2
      refine ⟨hi, h1, .inr ⟨e1, hf, hl, ?_⟩⟩
      rw [show e - (b + 1) = 0 by omega, steps] at e2
      have := List.drop_eq_nil_iff.1 e2
      omega
    · rw [if_neg hl] at h3; exact absurd rfl h3
/-- Without notes. -/
def nn (l : List St) : List St := l.filter fun s => decide (s.k ≠ 3)
theorem nn_append (a b : List St) : nn (a ++ b) = nn a ++ nn b := List.filter_append a b
theorem nn_beh (w z e e' b : Nat) : nn (beh w z e b) = nn (beh w z e' b) := by
  unfold beh nn
  by_cases h1 : b % w + 1 = w
  · rw [if_pos h1, if_pos h1]
  · rw [if_neg h1, if_neg h1]
    split <;> split <;> rfl
theorem nn_steps (w z e e' : Nat) : ∀ n f, nn (steps w z e f n) = nn (steps w z e' f n)
  | 0, _ => rfl
  | n + 1, f => by
    have h1 : ∀ e, steps w z e f (n + 1) = [dat w z f] ++ (beh w z e f ++ steps w z e (f + 1) n) := fun e => rfl
    rw [h1, h1, nn_append, nn_append, nn_append, nn_append, nn_beh w z e e', nn_steps w z e e' n (f + 1)]
/-- Written as two it is the same, but for a note. -/
theorem nn_two (w z f a n : Nat) : nn (steps w z (f + a + n) f (a + n)) = nn (steps w z (f + a) f a ++ steps w z (f + a + n) (f + a) n) := by
  rw [steps_add, nn_append, nn_append, nn_steps w z (f + a + n) (f + a) a f]
theorem steps_pos {w z e n f : Nat} (h : 0 < n) : 0 < (steps w z e f n).length := by
  cases n with
  | zero => omega
  | succ n => rw [steps, List.length_cons]; omega
theorem last_two {w z f a n : Nat} (hn : 0 < n) :
    ∃ (h1 : (steps w z (f + a + n) f (a + n)).length - 1 < (steps w z (f + a + n) f (a + n)).length) (h2 : (steps w z (f + a + n) (f + a) n).length - 1 < (steps w z (f + a + n) (f + a) n).length),
      (steps w z (f + a + n) f (a + n))[(steps w z (f + a + n) f (a + n)).length - 1] = (steps w z (f + a + n) (f + a) n)[(steps w z (f + a + n) (f + a) n).length - 1] := by
  have hp := steps_pos (w := w) (z := z) (e := f + a + n) (n := n) (f := f + a) hn
  have hL : (steps w z (f + a + n) f (a + n)) = steps w z (f + a + n) f a ++ steps w z (f + a + n) (f + a) n := steps_add a f n
  have hl := congrArg List.length hL
  rw [List.length_append] at hl
  have h1 : (steps w z (f + a + n) f (a + n)).length - 1 < (steps w z (f + a + n) f (a + n)).length := by omega
  have h2 : (steps w z (f + a + n) (f + a) n).length - 1 < (steps w z (f + a + n) (f + a) n).length := by omega
  refine ⟨h1, h2, (List.getElem_eq_iff h1).2 ?_⟩
  rw [hl]
  rw [hL, List.getElem?_append_right (by omega), show (steps w z (f + a + n) f a).length + (steps w z (f + a + n) (f + a) n).length - 1 - (steps w z (f + a + n) f a).length = (steps w z (f + a + n) (f + a) n).length - 1 by omega]
  exact List.getElem?_eq_getElem h2
end Pl
end Go.Proofs.Ytdjdldcpaidmnaa
namespace Go.Proofs.Ytdjdldcpaidmnaa
open Go.RowKit Pl Tl
theorem pexists_any (D Z B O A zone : Int) (w : World) :
    Calls Try.prog 73 #[.agg #[.int .i64 D, .int .i64 Z, .int .i64 B, .int .i64 O, .int .i64 A], .int .i64 zone] w fun e w' => e = .returned (.bool (exB D Z B O A zone)) ∧ Below w.heap.size w w' := by
  have c1 := fun W => zones_any D Z B O A W
  have hV := zonesV_bd D Z B O A
  unfold exB
  generalize zonesV D Z B O A = V at c1 hV ⊢
  have hB0 : Below w.heap.size w (w.alloc (.cells #[.int .i64 D, .int .i64 Z, .int .i64 B, .int .i64 O, .int .i64 A] 30)) := (Below.refl _ _).alloc (Nat.le_refl _) _
  have hBH := Lib.hid hB0
  have c1H := Lib.hid c1
  clear hB0 c1
  by_cases h0 : zone < 0
  · have e : betB zone 0 (V - 1) = false := decide_eq_false (fun h => by omega)
    rw [e]
    have k1 : ¬ (0 ≤ zone) := by omega
    clear e
    go_enter Try.func73, Try.ntmps73
    go_wp2
    go_ret
    exact ⟨rfl, hBH.out⟩
  have k1 : 0 ≤ zone := by omega
  by_cases h1 : zone < V
  · have e : betB zone 0 (V - 1) = true := decide_eq_true ⟨k1, by omega⟩
    rw [e]
    clear e
    go_enter Try.func73, Try.ntmps73
    go_wp2_with fail
    refine (c1H.out _).mono ?_
    rintro e w1 ⟨rfl, hb1⟩
    go_wp2
    go_ret
    exact ⟨by simp, bmore hBH.out hb1⟩
  · have e : betB zone 0 (V - 1) = false := decide_eq_false (fun h => by omega)
    rw [e]
    clear e
    go_enter Try.func73, Try.ntmps73
    go_wp2_with fail
    refine (c1H.out _).mono ?_
    rintro e w1 ⟨rfl, hb1⟩
    go_wp2
    go_ret
    exact ⟨by simp [h1], bmore hBH.out hb1⟩
theorem pperRow_any (D Z B O A : Int) (w : World) (h : 3 ≤ D ∧ D ≤ 16) :
    Calls Try.prog 74 #[.agg #[.int .i64 D, .int .i64 Z, .int .i64 B, .int .i64 O, .int .i64 A]] w fun e w' => e = .returned (.int .i64 (D - 1)) ∧ Below w.heap.size w w' := by
  obtain ⟨h1, h2⟩ := h
  go_enter Try.func74, Try.ntmps74
  go_wp2
  go_ret
  exact ⟨rfl, (Below.refl _ _).alloc (Nat.le_refl _) _⟩
/-- Steps in their cells. -/
def stE : Enc St := ⟨fun s => [.int .i64 s.k, .int .i64 s.s, .int .i64 s.r, .int .i64 s.b, .int .i64 s.c], 5, fun _ => rfl, fun x u hu => by
  simp only [List.mem_cons, List.not_mem_nil, or_false] at hu
  rcases hu with rfl | rfl | rfl | rfl | rfl <;> rfl⟩
def st0 : St := ⟨0, 0, 0, 0, 0⟩
theorem flat_st0 : ∀ n : Nat, stE.flat (List.replicate n st0) = List.replicate (n * 5) (.int .i64 0)
  | 0 => rfl
  | n + 1 => by
    show stE.c st0 ++ stE.flat (List.replicate n st0) = _
    rw [flat_st0 n, Nat.add_mul, Nat.one_mul]
    rfl
theorem store_st (W : World) (G p : Nat) (s : St) : Enc.storeAt W G p (stE.c s) = ((((W.setCell ⟨G, p, none⟩ (.int .i64 s.k)).setCell ⟨G, p + 1, none⟩ (.int .i64 s.s)).setCell ⟨G, p + 2, none⟩ (.int .i64 s.r)).setCell ⟨G, p + 3, none⟩ (.int .i64 s.b)).setCell ⟨G, p + 4, none⟩ (.int .i64 s.c) := rfl
theorem dats_fill {w z a : Nat} {l : List St} {i : Nat} (h : ∀ j (hj : j < l.length), j < i → l[j] = dat w z (a + j)) :
    ∀ j (hj : j < (l.set i (dat w z (a + i))).length), j < i + 1 → (l.set i (dat w z (a + i)))[j] = dat w z (a + j) := by
  intro j hj hlt
  have hj' : j < l.length := by rw [List.length_set] at hj; exact hj
  rw [List.getElem_set]
  split
  · rename_i e; rw [e]
  · exact h j hj' (by omega)
theorem dats_done {w z a c : Nat} {l : List St} (hl : l.length = c) (h : ∀ j (hj : j < l.length), j < c → l[j] = dat w z (a + j)) : l = dats w z a c := by
  apply List.ext_getElem
  · rw [dats_len, hl]
  · intro j h1 h2
    rw [dats_at, h j h1 (by omega)]
/-- The place of a block, as the steps have it. -/
theorem place_dat {D Z B O A : Int} {wd z b : Nat} (hD : D = (wd : Int) + 1) (hg : GoodP D Z B O A) (hz : (z : Int) ≤ Z - 4) (hb : (b : Int) < (D - 1) * B) :
    plR D Z B O A (z : Int) (b : Int) = ((b / wd : Nat) : Int) ∧ plD D Z B O A (z : Int) (b : Int) = sl wd z b := by
  have hp := plB_mk hg (Int.natCast_nonneg z) hz (Int.natCast_nonneg b) hb
  obtain ⟨e1, e2⟩ := slot_pl hp
  subst hD
  rw [show (wd : Int) + 1 - 1 = (wd : Int) by omega] at e1 e2
  refine ⟨by rw [e1]; rfl, ?_⟩
  rw [e2]
  show slotK _ _ _ _ = slotK _ _ _ _
  congr 1
end Go.Proofs.Ytdjdldcpaidmnaa
