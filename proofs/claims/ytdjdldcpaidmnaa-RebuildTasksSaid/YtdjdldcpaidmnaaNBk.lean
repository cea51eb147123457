/- The book, plainly. -/
import Derived.Test.YtdjdldcpaidmnaaNRc
namespace Go.Proofs.Ytdjdldcpaidmnaa.Bk
open Rec
/-- Where a zone lies, its generation, its state. -/
structure Zo where
  p : Int
  g : Int
  s : Int
/-- A book: its Seq, its zones, its members, the slot that is rebuilt, the cursor. -/
structure Bo where
  q : Int
  zs : List Zo
  ms : List Int
  sl : Int
  cu : Int
instance : Inhabited Zo := ⟨⟨0, 0, 0⟩⟩
def takeB (b : Bo) (x : Rc) : Bo :=
  if x.k = 3 ∧ 0 ≤ x.a ∧ x.a < b.zs.length then { b with zs := b.zs.set x.a.toNat ⟨x.b, x.c, x.d⟩ }
  else if x.k = 5 ∧ 0 ≤ x.a ∧ x.a < b.ms.length then { b with ms := b.ms.set x.a.toNat x.b }
  else if x.k = 6 then { b with sl := if x.a = 65535 then -1 else x.a, cu := x.b }
  else b
def noteB (b : Bo) (x : Rc) : Bo := takeB { b with q := max b.q x.s } x
theorem takeB_zl (b : Bo) (x : Rc) : (takeB b x).zs.length = b.zs.length := by
  unfold takeB
  split
  · simp
  split
  · rfl
  split <;> rfl
theorem takeB_ml (b : Bo) (x : Rc) : (takeB b x).ms.length = b.ms.length := by
  unfold takeB
  split
  · rfl
  split
  · simp
  split <;> rfl
theorem takeB_q (b : Bo) (x : Rc) : (takeB b x).q = b.q := by
  unfold takeB
  split
  · rfl
  split
  · rfl
  split <;> rfl
theorem noteB_zl (b : Bo) (x : Rc) : (noteB b x).zs.length = b.zs.length := takeB_zl _ x
theorem noteB_ml (b : Bo) (x : Rc) : (noteB b x).ms.length = b.ms.length := takeB_ml _ x
theorem noteB_q (b : Bo) (x : Rc) : (noteB b x).q = max b.q x.s := takeB_q _ x
/-- The book of an array that was never written: n zones, m members. -/
def newZ (n : Nat) : List Zo := (List.range n).map fun z : Nat => ⟨(z : Int) + 2, 1, 0⟩
def newMs (m : Nat) : List Int := (List.range m).map fun s : Nat => (s : Int)
def newBk (n m : Nat) : Bo := ⟨0, newZ n, newMs m, -1, 0⟩
theorem newZ_len (n : Nat) : (newZ n).length = n := by unfold newZ; simp
theorem newMs_len (n : Nat) : (newMs n).length = n := by unfold newMs; simp
theorem newZ_succ (n : Nat) : newZ (n + 1) = newZ n ++ [⟨(n : Int) + 2, 1, 0⟩] := by unfold newZ; rw [List.range_succ, List.map_append]; rfl
theorem newMs_succ (n : Nat) : newMs (n + 1) = newMs n ++ [(n : Int)] := by unfold newMs; rw [List.range_succ, List.map_append]; rfl
/-- Its records, without their Seqs. -/
def curR (b : Bo) : Rc := if b.sl < 0 then ⟨6, 0, 65535, 0, 0, 0, ⟨#[]⟩⟩ else ⟨6, 0, b.sl, b.cu, 0, 0, ⟨#[]⟩⟩
def mems (i : Nat) : List Int → List Rc
  | [] => []
  | d :: l => ⟨5, 0, (i : Int), d, 0, 0, ⟨#[]⟩⟩ :: mems (i + 1) l
def maps (i : Nat) : List Zo → List Rc
  | [] => []
  | z :: l => ⟨3, 0, (i : Int), z.p, z.g, z.s, ⟨#[]⟩⟩ :: maps (i + 1) l
def numb (q : Int) : List Rc → List Rc
  | [] => []
  | r :: l => { r with s := q + 1 } :: numb (q + 1) l
def bare (b : Bo) : List Rc := mems 0 b.ms ++ maps 0 b.zs ++ [curR b]
def recsB (b : Bo) : List Rc := numb b.q (bare b)
def nextB (b : Bo) : Bo := { b with q := b.q + (bare b).length }
theorem mems_len (i : Nat) : ∀ l : List Int, (mems i l).length = l.length
  | [] => rfl
  | _ :: l => congrArg (· + 1) (mems_len (i + 1) l)
theorem maps_len (i : Nat) : ∀ l : List Zo, (maps i l).length = l.length
  | [] => rfl
  | _ :: l => congrArg (· + 1) (maps_len (i + 1) l)
theorem numb_len : ∀ (q : Int) (l : List Rc), (numb q l).length = l.length
  | _, [] => rfl
  | q, _ :: l => congrArg (· + 1) (numb_len (q + 1) l)
theorem bare_len (b : Bo) : (bare b).length = b.ms.length + b.zs.length + 1 := by
  unfold bare; rw [List.length_append, List.length_append, mems_len, maps_len]; rfl
theorem recsB_len (b : Bo) : (recsB b).length = b.ms.length + b.zs.length + 1 := by unfold recsB; rw [numb_len, bare_len]
theorem mems_snoc (i : Nat) : ∀ (l : List Int) (d : Int), mems i (l ++ [d]) = mems i l ++ [⟨5, 0, ((i + l.length : Nat) : Int), d, 0, 0, ⟨#[]⟩⟩]
  | [], d => rfl
  | x :: l, d => by
    show _ :: mems (i + 1) (l ++ [d]) = _ :: (mems (i + 1) l ++ _)
    rw [mems_snoc (i + 1) l d, List.length_cons, show i + 1 + l.length = i + (l.length + 1) by omega]
theorem maps_snoc (i : Nat) : ∀ (l : List Zo) (z : Zo), maps i (l ++ [z]) = maps i l ++ [⟨3, 0, ((i + l.length : Nat) : Int), z.p, z.g, z.s, ⟨#[]⟩⟩]
  | [], z => rfl
  | x :: l, z => by
    show _ :: maps (i + 1) (l ++ [z]) = _ :: (maps (i + 1) l ++ _)
    rw [maps_snoc (i + 1) l z, List.length_cons, show i + 1 + l.length = i + (l.length + 1) by omega]
theorem mems_get (i : Nat) : ∀ (l : List Int) (j : Nat) (h : j < l.length), (mems i l)[j]? = some ⟨5, 0, ((i + j : Nat) : Int), l[j], 0, 0, ⟨#[]⟩⟩
  | x :: l, 0, _ => rfl
  | x :: l, j + 1, h => by
    have h' : j < l.length := by simpa using h
    have := mems_get (i + 1) l j h'
    rw [show i + 1 + j = i + (j + 1) by omega] at this
    exact this
theorem maps_get (i : Nat) : ∀ (l : List Zo) (j : Nat) (h : j < l.length), (maps i l)[j]? = some ⟨3, 0, ((i + j : Nat) : Int), l[j].p, l[j].g, l[j].s, ⟨#[]⟩⟩
  | x :: l, 0, _ => rfl
  | x :: l, j + 1, h => by
    have h' : j < l.length := by simpa using h
    have := maps_get (i + 1) l j h'
    rw [show i + 1 + j = i + (j + 1) by omega] at this
    exact this
theorem numb_get : ∀ (q : Int) (l : List Rc) (j : Nat) (h : j < l.length), (numb q l)[j]? = some { l[j] with s := q + 1 + j }
  | q, r :: l, 0, _ => by
    show some ({ r with s := q + 1 } : Rc) = _
    simp
  | q, r :: l, j + 1, h => by
    have h' : j < l.length := by simpa using h
    have := numb_get (q + 1) l j h'
    show (numb (q + 1) l)[j]? = _
    rw [this]
    simp only [List.getElem_cons_succ]
    congr 2
    push_cast
    omega
/-- f is the least place in which no zone lies; -1 if there is none. -/
def IsFree (zs : List Zo) (Z f : Int) : Prop := (f = -1 ∧ ∀ p, 2 ≤ p → p < Z → ∃ z ∈ zs, z.p = p) ∨ (2 ≤ f ∧ f < Z ∧ (∀ z ∈ zs, z.p ≠ f) ∧ ∀ p, 2 ≤ p → p < f → ∃ z ∈ zs, z.p = p)
theorem IsFree.uniq {zs : List Zo} {Z f f' : Int} (h : IsFree zs Z f) (h' : IsFree zs Z f') : f = f' := by
  rcases h with ⟨rfl, h⟩ | ⟨h1, h2, h3, h4⟩ <;> rcases h' with ⟨rfl, k⟩ | ⟨k1, k2, k3, k4⟩
  · rfl
  · obtain ⟨z, hz, e⟩ := h f' k1 k2
    exact absurd e (k3 z hz)
  · obtain ⟨z, hz, e⟩ := k f h1 h2
    exact absurd e (h3 z hz)
  · by_cases e : f < f'
    · obtain ⟨z, hz, e⟩ := k4 f h1 e
      exact absurd e (h3 z hz)
    · by_cases e' : f' < f
      · obtain ⟨z, hz, e⟩ := h4 f' k1 e'
        exact absurd e (k3 z hz)
      · omega
def hasZ (zs : List Zo) (p : Int) : Bool := zs.any fun z => z.p == p
theorem hasZ_iff {zs : List Zo} {p : Int} : hasZ zs p = true ↔ ∃ z ∈ zs, z.p = p := by unfold hasZ; simp
theorem hasZ_not {zs : List Zo} {p : Int} : hasZ zs p = false ↔ ∀ z ∈ zs, z.p ≠ p := by unfold hasZ; simp
def hasB (b : Bo) (s p : Int) : Bool := decide (0 ≤ s ∧ s < b.ms.length ∧ (s ≠ b.sl ∨ p < b.cu))
/-- The record with the greatest Seq among those that meet p, of equal ones the first. -/
def better (acc : Option Rc) (x : Rc) : Option Rc := match acc with
  | none => some x
  | some y => if y.s < x.s then some x else some y
def bestF (p : Rc → Bool) (acc : Option Rc) (x : Rc) : Option Rc := if p x = true then better acc x else acc
def best (p : Rc → Bool) (l : List Rc) : Option Rc := l.foldl (bestF p) none
theorem best_snoc (p : Rc → Bool) (l : List Rc) (x : Rc) : best p (l ++ [x]) = bestF p (best p l) x := by unfold best; simp
def sub (x : Rc) : Int × Int := if x.k = 6 then (6, 0) else (x.k, x.a)
def about (u : Int × Int) (x : Rc) : Bool := decide (sub x = u)
def found (l : List Rc) (u : Int × Int) : Option Rc := best (about u) l
def maxQ (l : List Rc) : Int := l.foldl (fun m x => max m x.s) 0
theorem maxQ_snoc (l : List Rc) (x : Rc) : maxQ (l ++ [x]) = max (maxQ l) x.s := by unfold maxQ; simp
theorem bestF_p {p : Rc → Bool} {acc : Option Rc} {x y : Rc} (ha : ∀ z, acc = some z → p z = true) (h : bestF p acc x = some y) : p y = true := by
  unfold bestF better at h
  split at h
  · rename_i hx
    split at h
    · cases h; exact hx
    · split at h
      · cases h; exact hx
      · cases h; exact ha _ rfl
  · exact ha y h
theorem best_ind {p : Rc → Bool} {P : Rc → Prop} : ∀ (l : List Rc) (acc : Option Rc) (y : Rc), (∀ x ∈ l, p x = true → P x) → (∀ z, acc = some z → P z) → l.foldl (bestF p) acc = some y → P y
  | [], acc, y, _, ha, h => ha y h
  | x :: l, acc, y, hl, ha, h => by
    refine best_ind l (bestF p acc x) y (fun z hz => hl z (List.mem_cons_of_mem _ hz)) (fun z hz => ?_) h
    unfold bestF better at hz
    split at hz
    · rename_i hx
      have hP := hl x (List.mem_cons_self ..) hx
      split at hz
      · cases hz; exact hP
      · split at hz
        · cases hz; exact hP
        · cases hz; exact ha _ rfl
    · exact ha z hz
theorem best_of {p : Rc → Bool} {P : Rc → Prop} {l : List Rc} {y : Rc} (hl : ∀ x ∈ l, p x = true → P x) (h : best p l = some y) : P y :=
  best_ind l none y hl (fun _ h => by cases h) h
def possP (D Z : Int) (x : Rc) : Prop :=
  if x.k = 3 then 2 ≤ x.b ∧ x.b < Z ∧ 0 ≤ x.d ∧ x.d ≤ 2
  else if x.k = 5 then 0 ≤ x.b ∧ x.b < D + 1
  else if x.a = 65535 then x.b = 0
  else 0 ≤ x.a ∧ x.a < D ∧ 0 ≤ x.b ∧ x.b ≤ Z
instance (D Z : Int) (x : Rc) : Decidable (possP D Z x) := by unfold possP; infer_instance
def possB (D Z : Int) (x : Rc) : Bool := decide (possP D Z x)
/-- What a book has a record of: n zones, m slots. -/
def subs (n m : Nat) : List (Int × Int) := (6, 0) :: (List.range n).map (fun z : Nat => (3, (z : Int))) ++ (List.range m).map (fun s : Nat => (5, (s : Int)))
theorem subs_len (n m : Nat) : (subs n m).length = 1 + n + m := by unfold subs; simp; omega
theorem subs_get (n m k : Nat) (h : k < (subs n m).length) : (subs n m)[k] = if k = 0 then (6, 0) else if k < n + 1 then (3, ((k - 1 : Nat) : Int)) else (5, ((k - 1 - n : Nat) : Int)) := by
  unfold subs at h ⊢
  cases k with
  | zero => rfl
  | succ k =>
    rw [if_neg (by omega)]
    by_cases hk : k < n
    · rw [if_pos (by omega)]
      rw [List.getElem_append_left (by simp; omega)]
      simp
    · rw [if_neg (by omega)]
      rw [List.getElem_append_right (by simp; omega)]
      simp
def goodAt (D Z : Int) (l : List Rc) (u : Int × Int) : Prop := ∃ x, found l u = some x ∧ possP D Z x
instance (D Z : Int) (l : List Rc) (u : Int × Int) : Decidable (goodAt D Z l u) := by
  unfold goodAt
  cases h : found l u with
  | none => exact isFalse (by rintro ⟨x, e, _⟩; cases e)
  | some x => exact decidable_of_iff (possP D Z x) ⟨fun h => ⟨x, rfl, h⟩, fun ⟨y, e, h⟩ => by cases e; exact h⟩
def fnd (l : List Rc) (u : Int × Int) : Rc := (found l u).getD ⟨0, 0, 0, 0, 0, 0, ⟨#[]⟩⟩
def zoF (x : Rc) : Zo := ⟨x.b, x.c, x.d⟩
/-- The book of which the first k subjects have been taken. -/
def partB (n m : Nat) (l : List Rc) (k : Nat) : Bo :=
  ⟨0, (List.range n).map (fun z => if z + 1 < k then zoF (fnd l (3, (z : Int))) else ⟨(z : Int) + 2, 1, 0⟩), (List.range m).map (fun s => if s + 1 + n < k then (fnd l (5, (s : Int))).b else (s : Int)),
    if k = 0 then -1 else if (fnd l (6, 0)).a = 65535 then -1 else (fnd l (6, 0)).a, if k = 0 then 0 else (fnd l (6, 0)).b⟩
theorem partB_zero (n m : Nat) (l : List Rc) : partB n m l 0 = newBk n m := by
  unfold partB newBk newZ newMs
  congr 1
theorem about_zone {z : Int} {x : Rc} : about (3, z) x = true ↔ x.k = 3 ∧ x.a = z := by
  unfold about sub
  rw [decide_eq_true_eq]
  split
  · rename_i h; rw [Prod.mk.injEq]; omega
  · rw [Prod.mk.injEq]
theorem about_mem {z : Int} {x : Rc} : about (5, z) x = true ↔ x.k = 5 ∧ x.a = z := by
  unfold about sub
  rw [decide_eq_true_eq]
  split
  · rename_i h; rw [Prod.mk.injEq]; omega
  · rw [Prod.mk.injEq]
theorem about_cur {x : Rc} : about (6, 0) x = true ↔ x.k = 6 := by
  unfold about sub
  rw [decide_eq_true_eq]
  split
  · rename_i h; simp [h]
  · rename_i h; rw [Prod.mk.injEq]; omega
theorem fnd_some {l : List Rc} {u : Int × Int} {x : Rc} (h : found l u = some x) : fnd l u = x := by unfold fnd; rw [h]; rfl
theorem partB_step (n m : Nat) (l : List Rc) (k : Nat) (hk : k < (subs n m).length) {x : Rc} (hx : found l (subs n m)[k] = some x) : takeB (partB n m l k) x = partB n m l (k + 1) := by
  have hp : about (subs n m)[k] x = true := best_of (P := fun x => about (subs n m)[k] x = true) (fun _ _ h => h) hx
  have hf := fnd_some hx
  rw [subs_get] at hp hf
  rw [subs_len] at hk
  have hzl : (partB n m l k).zs.length = n := by show (List.map _ _).length = n; simp
  have hml : (partB n m l k).ms.length = m := by show (List.map _ _).length = m; simp
  by_cases h0 : k = 0
  · subst h0
    rw [if_pos rfl] at hp hf
    have hk6 := about_cur.1 hp
    unfold takeB
    rw [if_neg (by omega), if_neg (by omega), if_pos hk6]
    unfold partB
    simp only [hf]
    congr 1
    refine List.map_congr_left fun s _ => ?_
    rw [if_neg (by omega), if_neg (by omega)]
  rw [if_neg h0] at hp hf
  by_cases h1 : k < n + 1
  · rw [if_pos h1] at hp hf
    obtain ⟨a1, a2⟩ := about_zone.1 hp
    unfold takeB
    rw [if_pos ⟨a1, by omega, by rw [hzl]; omega⟩]
    unfold partB
    simp only [if_neg h0, if_neg (show ¬ k + 1 = 0 by omega)]
    congr 1
    · apply List.ext_getElem
      · simp
      · intro i hi1 hi2
        rw [List.getElem_set]
        simp only [List.getElem_map, List.getElem_range]
        have hia : x.a.toNat = k - 1 := by omega
        rw [hia]
        by_cases e : k - 1 = i
        · subst e
          rw [if_pos rfl, if_pos (by omega), hf]
          rfl
        · rw [if_neg e]
          by_cases e2 : i + 1 < k
          · rw [if_pos e2, if_pos (by omega)]
          · rw [if_neg e2, if_neg (by omega)]
    · refine List.map_congr_left fun s _ => ?_
      rw [if_neg (by omega), if_neg (by omega)]
  · rw [if_neg h1] at hp hf
    obtain ⟨a1, a2⟩ := about_mem.1 hp
    unfold takeB
    rw [if_neg (by omega), if_pos ⟨a1, by omega, by rw [hml]; omega⟩]
    unfold partB
    simp only [if_neg h0, if_neg (show ¬ k + 1 = 0 by omega)]
    congr 1
    · refine List.map_congr_left fun z hz => ?_
      have := List.mem_range.1 hz
      rw [if_pos (by omega), if_pos (by omega)]
    · apply List.ext_getElem
      · simp
      · intro i hi1 hi2
        rw [List.getElem_set]
        simp only [List.getElem_map, List.getElem_range]
        have hia : x.a.toNat = k - 1 - n := by omega
        rw [hia]
        by_cases e : k - 1 - n = i
        · subst e
          rw [if_pos rfl, if_pos (by omega), hf]
        · rw [if_neg e]
          by_cases e2 : i + 1 + n < k
          · rw [if_pos e2, if_pos (by omega)]
          · rw [if_neg e2, if_neg (by omega)]
/-- The book that is read, but for its Seq. -/
def fullB (n m : Nat) (l : List Rc) : Bo :=
  ⟨0, (List.range n).map (fun z : Nat => zoF (fnd l (3, (z : Int)))), (List.range m).map (fun s : Nat => (fnd l (5, (s : Int))).b), if (fnd l (6, 0)).a = 65535 then -1 else (fnd l (6, 0)).a, (fnd l (6, 0)).b⟩
theorem partB_full (n m : Nat) (l : List Rc) : partB n m l (subs n m).length = fullB n m l := by
  rw [subs_len]
  unfold partB fullB
  simp only [if_neg (show ¬ 1 + n + m = 0 by omega)]
  congr 1
  · refine List.map_congr_left fun z hz => ?_
    have := List.mem_range.1 hz
    rw [if_pos (by omega)]
  · refine List.map_congr_left fun s hs => ?_
    have := List.mem_range.1 hs
    rw [if_pos (by omega)]
/-- What the lists say is a book. -/
structure SaysB (D Z : Int) (n m : Nat) (l : List Rc) : Prop where
  all : ∀ u ∈ subs n m, goodAt D Z l u
  ps : ((fullB n m l).zs.map Zo.p).Nodup
  ms : (fullB n m l).ms.Nodup
instance (D Z : Int) (n m : Nat) (l : List Rc) : Decidable (SaysB D Z n m l) := decidable_of_iff ((∀ u ∈ subs n m, goodAt D Z l u) ∧ ((fullB n m l).zs.map Zo.p).Nodup ∧ (fullB n m l).ms.Nodup) ⟨fun ⟨a, b, c⟩ => ⟨a, b, c⟩, fun ⟨a, b, c⟩ => ⟨a, b, c⟩⟩
def readB (n m : Nat) (l : List Rc) : Bo := { fullB n m l with q := maxQ l }
def noB : Bo := ⟨0, [], [], 0, 0⟩
end Go.Proofs.Ytdjdldcpaidmnaa.Bk
