/- Drives as plain data. -/
import Derived.Test.YtpmhfalhieinjaaGreatDoorMZm
namespace Go.Proofs.YtpmhfalhieinjaaGreatDoor.Drv
open Zon
/-- A drive: its machine, the bytes of each zone, how many blocks of each last, whether it died. -/
structure Dr where
  m : Mc
  cs : List (List UInt8)
  ls : List Nat
  dead : Bool
def at_ {α : Type} (l : List α) (i : Nat) (d : α) : α := l.getD i d
theorem at_get {α : Type} {l : List α} {i : Nat} (h : i < l.length) (d : α) : at_ l i d = l[i] := by
  unfold at_; rw [List.getD_eq_getElem?_getD, List.getElem?_eq_getElem h]; rfl
theorem at_set {α : Type} {l : List α} {i : Nat} (h : i < l.length) (x d : α) : at_ (l.set i x) i d = x := by
  unfold at_; simp [List.getD, h]
theorem at_set_ne {α : Type} {l : List α} {i j : Nat} (h : i ≠ j) (x d : α) : at_ (l.set i x) j d = at_ l j d := by
  unfold at_; simp [List.getD, List.getElem?_set_ne h]
theorem at_ext {α : Type} {l r : List α} (d : α) (hl : l.length = r.length) (h : ∀ i, i < l.length → at_ l i d = at_ r i d) : l = r := by
  refine List.ext_getElem hl fun i h1 h2 => ?_
  have := h i h1
  rwa [at_get h1, at_get h2] at this
def Dr.c (D : Dr) (i : Nat) : List UInt8 := at_ D.cs i []
def Dr.l (D : Dr) (i : Nat) : Nat := at_ D.ls i 0
/-- As it may be. -/
structure Dr.Ok (D : Dr) : Prop where
  m : D.m.Ok
  cl : D.cs.length = D.m.zs.length
  ll : D.ls.length = D.m.zs.length
  cz : ∀ i, i < D.m.zs.length → ((D.c i).length : Int) = 64 * (zAt D.m.zs i).l
  lz : ∀ i, i < D.m.zs.length → (D.l i : Int) ≤ (zAt D.m.zs i).l
def writesB (k : Int) : Bool := k == 1 || k == 2
/-- May c be given data of that length? -/
def fits (k n : Int) (len : Nat) : Bool := if writesB k = true ∧ 0 ≤ n then decide (len % 64 = 0 ∧ ((len / 64 : Nat) : Int) = n) else decide (len = 0)
def cut (l : List UInt8) (a n : Int) : List UInt8 := (l.drop (64 * a).toNat).take (64 * n).toNat
def turned (D : Dr) (k : Int) (i : Nat) (zs : List Zn) (data : List UInt8) : Dr :=
  { m := D.m.with zs
    cs := if writesB k = true then D.cs.set i (D.c i ++ data) else if k = 3 then D.cs.set i [] else D.cs
    ls := if k = 3 then D.ls.set i 0 else if k = 4 then D.ls.set i ((D.c i).length / 64) else D.ls
    dead := D.dead }
/-- What is read, the block, the error; the drive. -/
def exec (D : Dr) (k zz a n : Int) (data : List UInt8) : (List UInt8 × Int × Int) × Dr :=
  if (doM D.m k zz a n).2.1 = 0 then ((if k = 7 then cut (D.c zz.toNat) (doM D.m k zz a n).1 n else [], (doM D.m k zz a n).1, 0), turned D k zz.toNat (doM D.m k zz a n).2.2 data)
  else (([], 0, (doM D.m k zz a n).2.1), D)
def doD (D : Dr) (k zz a n : Int) (data : List UInt8) : (List UInt8 × Int × Int) × Dr :=
  if D.dead = true then (([], 0, 7), D) else if fits k n data.length = true then exec D k zz a n data else (([], 0, 1), D)
def settle (D : Dr) (i : Nat) : Dr := { D with ls := D.ls.set i ((D.c i).length / 64) }
def settleTo (D : Dr) : Nat → Dr
  | 0 => D
  | k + 1 => settle (settleTo D k) k
def flushD (D : Dr) : Dr := if D.dead = true then D else settleTo D D.cs.length
/-- How many of so many blocks are kept. -/
def kept (ks : List Int) (z n : Nat) : Nat := if ks = [] then 0 else ((if ks.getD (z % ks.length) 0 < 0 then -(ks.getD (z % ks.length) 0 + 1) else ks.getD (z % ks.length) 0) % ((n : Int) + 1)).toNat
def rem (D : Dr) (ks : List Int) (i : Nat) : Nat := D.l i + kept ks i ((D.c i).length / 64 - D.l i)
def loseAt (D : Dr) (ks : List Int) (i : Nat) : Dr := { D with cs := D.cs.set i ((D.c i).take (64 * rem D ks i)), ls := D.ls.set i (rem D ks i) }
def loseTo (D : Dr) (ks : List Int) : Nat → Dr
  | 0 => D
  | k + 1 => loseAt (loseTo D ks k) ks k
def loseD (D : Dr) (ks : List Int) : Dr :=
  { loseTo D ks D.cs.length with m := D.m.with (lost D.m ((loseTo D ks D.cs.length).ls.map fun n : Nat => (n : Int))) }
def newD (z b o a : Int) : Dr := ⟨newM z b o a, List.replicate z.toNat [], List.replicate z.toNat 0, false⟩
theorem kept_le (ks : List Int) (z n : Nat) : kept ks z n ≤ n := by
  unfold kept
  split
  · omega
  · generalize (if ks.getD (z % ks.length) 0 < 0 then -(ks.getD (z % ks.length) 0 + 1) else ks.getD (z % ks.length) 0) = x
    have h1 := Int.emod_nonneg x (show ((n : Int) + 1) ≠ 0 by omega)
    have h2 := Int.emod_lt_of_pos x (show 0 < ((n : Int) + 1) by omega)
    omega
theorem settleTo_m (D : Dr) : ∀ k, (settleTo D k).m = D.m ∧ (settleTo D k).cs = D.cs ∧ (settleTo D k).dead = D.dead ∧ (settleTo D k).ls.length = D.ls.length
  | 0 => ⟨rfl, rfl, rfl, rfl⟩
  | k + 1 => by
    obtain ⟨h1, h2, h3, h4⟩ := settleTo_m D k
    exact ⟨h1, h2, h3, by simpa [settleTo, settle] using h4⟩
theorem settleTo_l (D : Dr) : ∀ k, k ≤ D.ls.length → ∀ i, (settleTo D k).l i = if i < k then (D.c i).length / 64 else D.l i
  | 0, _, i => by simp [settleTo]
  | k + 1, hk, i => by
    obtain ⟨h1, h2, h3, h4⟩ := settleTo_m D k
    have ih := settleTo_l D k (by omega)
    have hc : (settleTo D k).c k = D.c k := by unfold Dr.c; rw [h2]
    unfold settleTo settle
    by_cases e : k = i
    · subst e
      show at_ ((settleTo D k).ls.set k _) k 0 = _
      rw [at_set (by omega), hc, if_pos (by omega)]
    · show at_ ((settleTo D k).ls.set k _) i 0 = _
      rw [at_set_ne e]
      have := ih i
      unfold Dr.l at this ⊢
      rw [this]
      by_cases h : i < k
      · rw [if_pos h, if_pos (by omega)]
      · rw [if_neg h, if_neg (by omega)]
theorem loseTo_m (D : Dr) (ks : List Int) : ∀ k, (loseTo D ks k).m = D.m ∧ (loseTo D ks k).dead = D.dead ∧ (loseTo D ks k).cs.length = D.cs.length ∧ (loseTo D ks k).ls.length = D.ls.length
  | 0 => ⟨rfl, rfl, rfl, rfl⟩
  | k + 1 => by
    obtain ⟨h1, h2, h3, h4⟩ := loseTo_m D ks k
    exact ⟨h1, h2, by simpa [loseTo, loseAt] using h3, by simpa [loseTo, loseAt] using h4⟩
theorem loseTo_at (D : Dr) (ks : List Int) (hl : D.ls.length = D.cs.length) : ∀ k, k ≤ D.cs.length → ∀ i, (loseTo D ks k).c i = (if i < k then (D.c i).take (64 * rem D ks i) else D.c i) ∧ (loseTo D ks k).l i = (if i < k then rem D ks i else D.l i)
  | 0, _, i => by simp [loseTo]
  | k + 1, hk, i => by
    obtain ⟨h1, h2, h3, h4⟩ := loseTo_m D ks k
    have ih := loseTo_at D ks hl k (by omega)
    have hck := (ih k).1
    have hlk := (ih k).2
    rw [if_neg (by omega)] at hck hlk
    have hr : rem (loseTo D ks k) ks k = rem D ks k := by unfold rem; rw [hck, hlk]
    by_cases e : k = i
    · subst e
      constructor
      · show at_ ((loseTo D ks k).cs.set k _) k [] = _
        rw [at_set (by omega), hr, hck, if_pos (by omega)]
      · show at_ ((loseTo D ks k).ls.set k _) k 0 = _
        rw [at_set (by omega), hr, if_pos (by omega)]
    · have h5 := ih i
      constructor
      · show at_ ((loseTo D ks k).cs.set k _) i [] = _
        rw [at_set_ne e]
        have h6 := h5.1
        unfold Dr.c at h6 ⊢
        rw [h6]
        by_cases h : i < k
        · rw [if_pos h, if_pos (by omega)]
        · rw [if_neg h, if_neg (by omega)]
      · show at_ ((loseTo D ks k).ls.set k _) i 0 = _
        rw [at_set_ne e]
        have h6 := h5.2
        unfold Dr.l at h6 ⊢
        rw [h6]
        by_cases h : i < k
        · rw [if_pos h, if_pos (by omega)]
        · rw [if_neg h, if_neg (by omega)]
theorem lostZ_l {ls : List Int} {i : Nat} {z : Zn} (hi : i < ls.length) (h0 : 0 ≤ ls.getD i 0) (h : ls.getD i 0 ≤ z.l) : (lostZ ls i z).l = ls.getD i 0 := by
  unfold lostZ
  split
  · rfl
  · rename_i h1
    have : ls.getD i 0 = z.l := by omega
    rw [this]
    split <;> rfl
theorem lostL_at (ls : List Int) : ∀ (zs : List Zn) (i k : Nat), k < zs.length → zAt (lostL ls i zs) k = lostZ ls (i + k) (zAt zs k)
  | [], _, k, h => by simp at h
  | z :: zs, i, 0, _ => rfl
  | z :: zs, i, k + 1, h => by
    have := lostL_at ls zs (i + 1) k (by simpa using h)
    have e : i + 1 + k = i + (k + 1) := by omega
    rw [e] at this
    exact this
/-- Lengths behind a command. -/
theorem ext_l (m : Mc) (i : Nat) (n : Int) (hi : i < m.zs.length) (h : (ext m i n).2.1 = 0) : (∀ j, j < m.zs.length → (zAt (ext m i n).2.2 j).l = if j = i then (zAt m.zs j).l + n else (zAt m.zs j).l) ∧ (ext m i n).1 = (zAt m.zs i).l := by
  have hsh : ∀ zs : List Zn, ∀ j, (zAt (shutFirst zs).2 j).l = (zAt zs j).l := by
    intro zs
    induction zs with
    | nil => intro j; rfl
    | cons y zs ih =>
      intro j
      unfold shutFirst
      split
      · cases j with
        | zero => rfl
        | succ j => rfl
      · cases j with
        | zero => rfl
        | succ j => exact ih j
  have had : ∀ j, (zAt (admit m i).2 j).l = (zAt m.zs j).l := by
    intro j
    unfold admit
    split
    · rfl
    split
    · rfl
    split
    · rfl
    · exact hsh _ j
  unfold ext at h ⊢
  by_cases ha : (admit m i).1 = 0
  · rw [if_pos ha]
    refine ⟨fun j hj => ?_, had i⟩
    by_cases e : j = i
    · subst e
      show (zAt ((admit m j).2.set j _) j).l = _
      rw [if_pos rfl, zAt_set_same (by rw [admit_len]; exact hi)]
      show (zAt (admit m j).2 j).l + n = _
      rw [had j]
    · show (zAt ((admit m i).2.set i _) j).l = _
      rw [if_neg e, zAt_set_other (Ne.symm e)]
      exact had j
  · rw [if_neg ha] at h
    exact absurd h ha
theorem act_l (m : Mc) (k i : Nat) (a n : Int) (hi : i < m.zs.length) (h : (act m k i a n).2.1 = 0) : ∀ j, j < m.zs.length →
    (zAt (act m k i a n).2.2 j).l = if j = i then (if k = 1 ∨ k = 2 then (zAt m.zs j).l + n else if k = 3 then 0 else (zAt m.zs j).l) else (zAt m.zs j).l := by
  have had : ∀ j, (zAt (admit m i).2 j).l = (zAt m.zs j).l := by
    have hsh : ∀ zs : List Zn, ∀ j, (zAt (shutFirst zs).2 j).l = (zAt zs j).l := by
      intro zs
      induction zs with
      | nil => intro j; rfl
      | cons y zs ih =>
        intro j
        unfold shutFirst
        split
        · cases j with
          | zero => rfl
          | succ j => rfl
        · cases j with
          | zero => rfl
          | succ j => exact ih j
    intro j
    unfold admit
    split
    · rfl
    split
    · rfl
    split
    · rfl
    · exact hsh _ j
  intro j hj
  unfold act at h ⊢
  by_cases h1 : k = 1
  · rw [if_pos h1] at h ⊢
    unfold wrt at h ⊢
    split at h
    · cases h
    rename_i q1
    rw [if_neg q1]
    split at h
    · cases h
    rename_i q2
    rw [if_neg q2]
    split at h
    · cases h
    rename_i q3
    rw [if_neg q3, (ext_l m i n hi h).1 j hj]
    simp [h1]
  rw [if_neg h1] at h ⊢
  by_cases h2 : k = 2
  · rw [if_pos h2] at h ⊢
    unfold app at h ⊢
    split at h
    · cases h
    rename_i q1
    rw [if_neg q1]
    split at h
    · cases h
    rename_i q2
    rw [if_neg q2]
    split at h
    · cases h
    rename_i q3
    rw [if_neg q3, (ext_l m i n hi h).1 j hj]
    simp [h2]
  rw [if_neg h2] at h ⊢
  by_cases h3 : k = 3
  · rw [if_pos h3] at h ⊢
    unfold rst
    by_cases e : j = i
    · subst e
      rw [if_pos rfl]
      show (zAt (m.zs.set j _) j).l = _
      rw [zAt_set_same hi]
      simp [h3]
    · rw [if_neg e]
      show (zAt (m.zs.set i _) j).l = _
      rw [zAt_set_other (Ne.symm e)]
  rw [if_neg h3] at h ⊢
  have hrest : (if j = i then (if k = 1 ∨ k = 2 then (zAt m.zs j).l + n else if k = 3 then 0 else (zAt m.zs j).l) else (zAt m.zs j).l) = (zAt m.zs j).l := by
    simp [h1, h2, h3]
  rw [hrest]
  have hset : ∀ (zs : List Zn) (z : Zn), (∀ q, (zAt zs q).l = (zAt m.zs q).l) → zs.length = m.zs.length → z.l = (zAt m.zs i).l → (zAt (zs.set i z) j).l = (zAt m.zs j).l := by
    intro zs z hq hlen hz
    by_cases e : i = j
    · subst e
      rw [zAt_set_same (by omega)]
      exact hz
    · rw [zAt_set_other e]
      exact hq j
  by_cases h4 : k = 4
  · rw [if_pos h4]
    unfold fin
    exact hset _ _ (fun _ => rfl) rfl rfl
  rw [if_neg h4] at h ⊢
  by_cases h5 : k = 5
  · rw [if_pos h5] at h ⊢
    unfold opn at h ⊢
    split
    · rfl
    split
    · exact hset _ _ had (admit_len m i) (had i)
    · exact had j
  rw [if_neg h5] at h ⊢
  by_cases h6 : k = 6
  · rw [if_pos h6] at h ⊢
    unfold cls
    split
    · exact hset _ _ (fun _ => rfl) rfl rfl
    · rfl
  rw [if_neg h6]
  unfold rea
  split <;> rfl
end Go.Proofs.YtpmhfalhieinjaaGreatDoor.Drv
