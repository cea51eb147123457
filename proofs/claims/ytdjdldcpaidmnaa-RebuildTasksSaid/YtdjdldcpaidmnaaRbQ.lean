/- What lies at a spot, and how many blocks were seen, plainly. -/
import Derived.Test.YtdjdldcpaidmnaaRbM
import Derived.Test.YtdjdldcpaidmnaaRbL
namespace Go.Proofs.Ytdjdldcpaidmnaa
open Go.RowKit Pl Tl
namespace Rb
theorem parV_is {wd z i : Nat} {D Z B O A : Int} (hD : D = (wd : Int) + 1) (hg : GoodP D Z B O A) (hz : (z : Int) ≤ Z - 4) (hi : (i : Int) < B) : parV D Z B O A (z : Int) (i : Int) = par wd z i := by
  unfold parV par
  have e1 : exB D Z B O A (z : Int) = true := by
    unfold exB betB
    rw [zonesV_good hg]
    exact decide_eq_true ⟨by omega, by omega⟩
  have e2 : betB (i : Int) 0 (B - 1) = true := decide_eq_true ⟨by omega, by omega⟩
  rw [e1, e2, if_pos (by rfl), hD]
theorem bk_par {wd z i s : Nat} {D Z B O A : Int} (hD : D = (wd : Int) + 1) (hg : GoodP D Z B O A) (hz : (z : Int) ≤ Z - 4) (hi : (i : Int) < B) (hp : par wd z i = (s : Int)) : bkB D Z B O A (z : Int) (i : Int) (s : Int) = false ∧ bkV D Z B O A (z : Int) (i : Int) (s : Int) = 0 := by
  have h : bkB D Z B O A (z : Int) (i : Int) (s : Int) = false := by
    unfold bkB
    rw [parV_is hD hg hz hi, hp]
    simp
  refine ⟨h, ?_⟩
  unfold bkV
  rw [h, if_neg (by decide)]
theorem bk_blk {wd z i s k : Nat} {D Z B O A : Int} (hD : D = (wd : Int) + 1) (hg : GoodP D Z B O A) (hz : (z : Int) ≤ Z - 4) (hi : (i : Int) < B) (hs : s < wd + 1) (hp : par wd z i ≠ (s : Int)) (hk : k < wd) (hsl : slotK ((wd : Int) + 1) (z : Int) (i : Int) k = (s : Int)) : bkB D Z B O A (z : Int) (i : Int) (s : Int) = true ∧ bkV D Z B O A (z : Int) (i : Int) (s : Int) = ((i * wd + k : Nat) : Int) := by
  have hb := par_bd wd z i
  have h : bkB D Z B O A (z : Int) (i : Int) (s : Int) = true := by
    unfold bkB
    rw [parV_is hD hg hz hi, decide_eq_true (show 0 ≤ par wd z i from hb.1), decide_eq_true (show (s : Int) ≠ par wd z i from fun e => hp e.symm)]
    unfold betB
    rw [decide_eq_true (show 0 ≤ (s : Int) ∧ (s : Int) ≤ D - 1 by omega)]
    rfl
  refine ⟨h, ?_⟩
  unfold bkV
  rw [h, if_pos rfl, parV_is hD hg hz hi]
  unfold slotK at hsl
  have hpe : ((z : Int) + (i : Int)) % ((wd : Int) + 1) = par wd z i := rfl
  rw [hpe] at hsl
  generalize par wd z i = p at hb hsl hp
  have hD1 : D - 1 = (wd : Int) := by omega
  have hm : ((s : Int) - p - 1 + D) % D = (k : Int) := by
    rw [hD]
    by_cases hlt : p + 1 + (k : Int) < (wd : Int) + 1
    · rw [Int.emod_eq_of_lt (by omega) hlt] at hsl
      rw [show (s : Int) - p - 1 + ((wd : Int) + 1) = (k : Int) + ((wd : Int) + 1) by omega, Int.add_emod_right, Int.emod_eq_of_lt (by omega) (by omega)]
    · have e : p + 1 + (k : Int) = (p + 1 + (k : Int) - ((wd : Int) + 1)) + ((wd : Int) + 1) := by omega
      rw [e, Int.add_emod_right, Int.emod_eq_of_lt (by omega) (by omega)] at hsl
      rw [show (s : Int) - p - 1 + ((wd : Int) + 1) = (k : Int) by omega, Int.emod_eq_of_lt (by omega) (by omega)]
  rw [hm, hD1, Int.natCast_add, Int.natCast_mul]
/-- A row whose slot has something of the zone is one of the zone. -/
theorem row_lt_B {wd z r i : Nat} {s : Int} {D B : Int} (hw : 0 < wd) (hD : D = (wd : Int) + 1) (hr : (r : Int) ≤ (D - 1) * B) (hi : (i : Int) < len wd z r s) : (i : Int) < B := by
  have h1 := len_rows (z := z) hw (by rw [hD, show (wd : Int) + 1 - 1 = (wd : Int) by omega] at hr; exact hr) s
  omega
/-- How many blocks were seen. -/
def cntB (wd z r s i : Nat) : Nat := (List.range r).countP (seenB wd z r s i)
theorem count_le (p : Nat → Bool) (x : Nat) : ∀ r, r ≤ x → (List.range r).countP (fun b => p b || decide (b = x)) = (List.range r).countP p
  | 0, _ => rfl
  | r + 1, h => by
    rw [List.range_succ, List.countP_append, List.countP_append, count_le p x r (by omega), List.countP_singleton, List.countP_singleton, decide_eq_false (show ¬ r = x by omega), Bool.or_false]
theorem count_add (p : Nat → Bool) (x : Nat) (hx : p x = false) : ∀ r, x < r → (List.range r).countP (fun b => p b || decide (b = x)) = (List.range r).countP p + 1
  | 0, h => absurd h (Nat.not_lt_zero _)
  | r + 1, h => by
    rw [List.range_succ, List.countP_append, List.countP_append, List.countP_singleton, List.countP_singleton]
    by_cases e : x = r
    · subst e
      rw [count_le p x x (Nat.le_refl _), hx, decide_eq_true rfl]
      rfl
    · rw [count_add p x hx r (by omega), decide_eq_false (show ¬ r = x by omega), Bool.or_false]
      omega
theorem cnt_start (wd z r : Nat) : cntB wd z r 0 0 = 0 := by
  unfold cntB
  rw [List.countP_eq_zero]
  intro b _
  rw [seen_zero]
  decide
theorem cnt_slot {wd z r s n : Nat} (hn : len wd z r (s : Int) = (n : Int)) : cntB wd z r s n = cntB wd z r (s + 1) 0 := by
  unfold cntB
  exact List.countP_congr fun b _ => by rw [seen_slot hn]
theorem cnt_par {wd z r s i : Nat} (hw : 0 < wd) (hp : par wd z i = (s : Int)) : cntB wd z r s (i + 1) = cntB wd z r s i := by
  unfold cntB
  exact List.countP_congr fun b _ => by rw [seen_par hw hp]
theorem cnt_blk {wd z r s i k : Nat} (hw : 0 < wd) (hk : k < wd) (hs : slotK ((wd : Int) + 1) (z : Int) (i : Int) k = (s : Int)) (hr : i * wd + k < r) : cntB wd z r s (i + 1) = cntB wd z r s i + 1 := by
  unfold cntB
  rw [← count_add (seenB wd z r s i) (i * wd + k) (seen_new hw hk hs) r hr]
  exact List.countP_congr fun b _ => by rw [seen_blk hw hk hs hr]
theorem cnt_end (wd z r : Nat) : cntB wd z r (wd + 1) 0 = r := by
  unfold cntB
  have h : (List.range r).countP (seenB wd z r (wd + 1) 0) = (List.range r).length := by
    rw [List.countP_eq_length]
    intro b hb
    have hbl := List.mem_range.1 hb
    have h1 := sl_bd wd z b
    exact decide_eq_true ⟨hbl, .inl (by omega)⟩
  rw [h, List.length_range]
theorem cnt_bd (wd z r s i : Nat) : cntB wd z r s i ≤ r := by
  have := List.countP_le_length (l := List.range r) (p := seenB wd z r s i)
  rw [List.length_range] at this
  exact this
/-- A task: its row, whether it is a parity, its block. -/
structure Tk where
  r : Int
  p : Bool
  b : Int
def tk0 : Tk := ⟨0, false, 0⟩
def tkA (D Z B O A z s : Int) (i : Nat) : Tk := ⟨(i : Int), !bkB D Z B O A z (i : Int) s, bkV D Z B O A z (i : Int) s⟩
/-- The first i tasks of n. -/
def tkL (f : Nat → Tk) (n i : Nat) : List Tk := (List.range n).map fun j => if j < i then f j else tk0
theorem tkL_len (f : Nat → Tk) (n i : Nat) : (tkL f n i).length = n := by unfold tkL; simp
theorem tkL_get {f : Nat → Tk} {n i j : Nat} (h : j < (tkL f n i).length) : (tkL f n i)[j] = if j < i then f j else tk0 := by simp [tkL]
theorem tkL_zero (f : Nat → Tk) (n : Nat) : tkL f n 0 = List.replicate n tk0 := by
  apply List.ext_getElem
  · rw [tkL_len, List.length_replicate]
  · intro j h1 h2
    rw [tkL_get, List.getElem_replicate, if_neg (Nat.not_lt_zero _)]
theorem tkL_set (f : Nat → Tk) (n i : Nat) : (tkL f n i).set i (f i) = tkL f n (i + 1) := by
  apply List.ext_getElem
  · rw [List.length_set, tkL_len, tkL_len]
  · intro j h1 h2
    rw [List.getElem_set, tkL_get, tkL_get]
    by_cases e : i = j
    · subst e
      rw [if_pos rfl, if_pos (by omega)]
    · rw [if_neg e]
      by_cases h : j < i
      · rw [if_pos h, if_pos (by omega)]
      · rw [if_neg h, if_neg (by omega)]
theorem tkL_at {f : Nat → Tk} {n i : Nat} (h : i < (tkL f n n).length) : (tkL f n n)[i] = f i := by
  rw [tkL_get, if_pos (by rw [tkL_len] at h; exact h)]
/-- A table of bools by a function. -/
def bsL (f : Nat → Bool) (n : Nat) : List Bool := (List.range n).map f
theorem bsL_len (f : Nat → Bool) (n : Nat) : (bsL f n).length = n := by unfold bsL; simp
theorem bsL_at {f : Nat → Bool} {n i : Nat} (h : i < (bsL f n).length) : (bsL f n)[i] = f i := by simp [bsL]
theorem bsL_congr {f g : Nat → Bool} (h : ∀ b, f b = g b) (n : Nat) : bsL f n = bsL g n := by rw [show f = g from funext h]
theorem bsL_set (f : Nat → Bool) (n x : Nat) : (bsL f n).set x true = bsL (fun b => f b || decide (b = x)) n := by
  apply List.ext_getElem
  · rw [List.length_set, bsL_len, bsL_len]
  · intro j h1 h2
    rw [List.getElem_set, bsL_at]
    by_cases e : x = j
    · subst e
      rw [if_pos rfl, bsL_at, decide_eq_true rfl, Bool.or_true]
    · rw [if_neg e, bsL_at, decide_eq_false (fun h => e h.symm), Bool.or_false]
end Rb
open Rb
def tkE : Enc Tk := ⟨fun x => [.int .i64 x.r, .bool x.p, .int .i64 x.b], 3, fun _ => rfl, fun _ u hu => by
  simp only [List.mem_cons, List.not_mem_nil, or_false] at hu
  rcases hu with rfl | rfl | rfl <;> rfl⟩
def blE : Enc Bool := ⟨fun x => [.bool x], 1, fun _ => rfl, fun _ u hu => by
  simp only [List.mem_cons, List.not_mem_nil, or_false] at hu
  rcases hu with rfl; rfl⟩
theorem flat_made {α : Type} (E : Enc α) (x0 : α) (arr : Array Value) (harr : arr.toList = E.c x0) (hk : 0 < E.k) (n : Nat) : (madeCells arr (n * E.k)).toList = E.flat (List.replicate n x0) := by
  have hs : arr.size = E.k := by rw [← Array.length_toList, harr, E.len]
  apply List.ext_getElem?
  intro j
  by_cases hj : j < n * E.k
  · have hq : j / E.k < n := Nat.div_lt_of_lt_mul (by rw [Nat.mul_comm]; exact hj)
    have hm := Nat.mod_lt j hk
    have e : j = (j / E.k) * E.k + j % E.k := by have := Nat.div_add_mod j E.k; rw [Nat.mul_comm] at this; exact this.symm
    have h1 := E.flat_at (List.replicate n x0) (j / E.k) (by rw [List.length_replicate]; exact hq) (j % E.k) hm
    rw [← e] at h1
    rw [h1, List.getElem_replicate, ← harr]
    simp only [madeCells, Array.toList_map, Array.toList_range, List.getElem?_map]
    rw [List.getElem?_range hj]
    show some (arr[j % arr.size]!) = _
    rw [hs, getElem!_pos arr (j % E.k) (by rw [hs]; exact hm), Array.getElem?_toList]
    rw [Array.getElem?_eq_getElem (by rw [hs]; exact hm)]
  · rw [List.getElem?_eq_none (by rw [Array.length_toList, size_madeCells]; omega), List.getElem?_eq_none (by rw [E.flat_len, List.length_replicate]; omega)]
theorem made_row {α : Type} (E : Enc α) (x0 : α) (arr : Array Value) (harr : arr.toList = E.c x0) (hk : 0 < E.k) (W : World) (n : Nat) (hn : n ≤ 100000) (t : TypeId) : E.Row (W.alloc (.cells (madeCells arr (n * E.k)) t)) W.heap.size t (some ⟨W.heap.size, 0, none⟩) n (List.replicate n x0) := by
  have h := World.ownsRow_lit (base := W.heap.size) (size := E.k) (e := t) W (madeCells arr (n * E.k)) n (Nat.le_refl _) (by unfold maxLen; omega) (size_madeCells _ _)
  rw [flat_made E x0 arr harr hk n] at h
  unfold Enc.Row
  rw [List.length_replicate]
  exact h
end Go.Proofs.Ytdjdldcpaidmnaa
