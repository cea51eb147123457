/- A book's records say the book again, whatever elder ones stand beside them: pure. -/
import Derived.Test.YtpmhfalhieinjaaBkRP
namespace Go.Proofs.Ytpmhfalhieinjaa
open Go.RowKit Rec Bk

namespace Bk
theorem better_max {p : Rc → Bool} : ∀ (l : List Rc) (acc : Option Rc), (∀ z, l.foldl (bestF p) acc = some z → (∀ y ∈ l, p y = true → y.s ≤ z.s) ∧ (∀ y, acc = some y → y.s ≤ z.s)) ∧ (l.foldl (bestF p) acc = none → acc = none ∧ ∀ y ∈ l, p y = false)
  | [], acc => by
    refine ⟨fun z hz => ⟨fun y hy => (by cases hy), fun y hy => ?_⟩, fun h => ⟨h, fun y hy => (by cases hy)⟩⟩
    have hz' : acc = some z := hz
    rw [hz'] at hy
    cases hy
    exact Int.le_refl _
  | x :: l, acc => by
    obtain ⟨h1, h2⟩ := better_max (p := p) l (bestF p acc x)
    have hb : ∀ z, (∀ y, bestF p acc x = some y → y.s ≤ z) → (p x = true → x.s ≤ z) ∧ ∀ y, acc = some y → y.s ≤ z := fun z h => by
      unfold bestF at h
      by_cases hp : p x = true
      · rw [if_pos hp] at h
        unfold better at h
        cases acc with
        | none => exact ⟨fun _ => h x rfl, fun y hy => by cases hy⟩
        | some y0 =>
          dsimp only at h
          by_cases hlt : y0.s < x.s
          · rw [if_pos hlt] at h
            have := h x rfl
            exact ⟨fun _ => this, fun y hy => by cases hy; omega⟩
          · rw [if_neg hlt] at h
            have := h y0 rfl
            exact ⟨fun _ => by omega, fun y hy => by cases hy; omega⟩
      · rw [if_neg hp] at h
        exact ⟨fun h' => absurd h' hp, h⟩
    refine ⟨fun z hz => ?_, fun h => ?_⟩
    · obtain ⟨k1, k2⟩ := h1 z hz
      obtain ⟨k3, k4⟩ := hb z.s k2
      refine ⟨fun y hy hpy => ?_, k4⟩
      rcases List.mem_cons.1 hy with rfl | hy
      · exact k3 hpy
      · exact k1 y hy hpy
    · obtain ⟨k1, k2⟩ := h2 h
      unfold bestF at k1
      by_cases hp : p x = true
      · rw [if_pos hp] at k1
        unfold better at k1
        cases acc with
        | none => cases k1
        | some y0 => dsimp only at k1; split at k1 <;> cases k1
      · rw [if_neg hp] at k1
        refine ⟨k1, fun y hy => ?_⟩
        rcases List.mem_cons.1 hy with rfl | hy
        · simpa using hp
        · exact k2 y hy
/-- The newest record about u. -/
theorem found_max {l : List Rc} {u : Int × Int} {z : Rc} (h : found l u = some z) : z ∈ l ∧ about u z = true ∧ ∀ y ∈ l, about u y = true → y.s ≤ z.s :=
  ⟨best_of (P := (· ∈ l)) (fun _ h _ => h) h, best_of (P := fun x => about u x = true) (fun _ _ h => h) h, ((better_max (p := about u) l none).1 z h).1⟩
theorem found_none {l : List Rc} {u : Int × Int} (h : found l u = none) : ∀ y ∈ l, about u y = false := ((better_max (p := about u) l none).2 h).2
theorem found_ex {l : List Rc} {u : Int × Int} {x : Rc} (hx : x ∈ l) (ha : about u x = true) : ∃ z, found l u = some z ∧ z ∈ l ∧ about u z = true ∧ ∀ y ∈ l, about u y = true → y.s ≤ z.s := by
  cases h : found l u with
  | none => have := found_none h x hx; rw [ha] at this; cases this
  | some z => exact ⟨z, rfl, found_max h⟩
theorem found_top {l : List Rc} {u : Int × Int} {x : Rc} (hx : x ∈ l) (ha : about u x = true) (hg : ∀ y ∈ l, about u y = true → y = x ∨ y.s < x.s) : found l u = some x := by
  obtain ⟨z, hz, h1, h2, h3⟩ := found_ex hx ha
  have := h3 x hx ha
  rcases hg z h1 h2 with rfl | h
  · exact hz
  · omega
theorem maxQ_go : ∀ (l : List Rc) (m : Int), m ≤ l.foldl (fun m x => max m x.s) m ∧ (∀ y ∈ l, y.s ≤ l.foldl (fun m x => max m x.s) m) ∧ (l.foldl (fun m x => max m x.s) m = m ∨ ∃ y ∈ l, y.s = l.foldl (fun m x => max m x.s) m)
  | [], m => ⟨Int.le_refl _, fun y hy => (by cases hy), .inl rfl⟩
  | x :: l, m => by
    obtain ⟨h1, h2, h3⟩ := maxQ_go l (max m x.s)
    refine ⟨by show m ≤ l.foldl _ (max m x.s); omega, fun y hy => ?_, ?_⟩
    · show y.s ≤ l.foldl _ (max m x.s)
      rcases List.mem_cons.1 hy with rfl | hy
      · omega
      · exact h2 y hy
    · show l.foldl _ (max m x.s) = m ∨ _
      rcases h3 with h3 | ⟨y, hy, h3⟩
      · rw [h3]
        by_cases hm : x.s ≤ m
        · left; omega
        · right; exact ⟨x, List.mem_cons_self .., by show x.s = l.foldl _ (max m x.s); rw [h3]; omega⟩
      · right; exact ⟨y, List.mem_cons_of_mem _ hy, h3⟩
theorem maxQ_of {l : List Rc} {q : Int} (h0 : 0 ≤ q) (h : ∀ y ∈ l, y.s ≤ q) (h1 : ∃ y ∈ l, y.s = q) : maxQ l = q := by
  obtain ⟨k1, k2, k3⟩ := maxQ_go l 0
  obtain ⟨y, hy, e⟩ := h1
  have h4 := k2 y hy
  unfold maxQ
  rcases k3 with k3 | ⟨z, hz, k3⟩
  · omega
  · have := h z hz; omega
theorem maxQ_le {l : List Rc} {y : Rc} (h : y ∈ l) : y.s ≤ maxQ l := (maxQ_go l 0).2.1 y h
theorem maxQ_nn (l : List Rc) : 0 ≤ maxQ l := (maxQ_go l 0).1
theorem maxQ_bd {l : List Rc} {M : Int} (h0 : 0 ≤ M) (h : ∀ y ∈ l, y.s ≤ M) : maxQ l ≤ M := by
  rcases (maxQ_go l 0).2.2 with k | ⟨y, hy, k⟩
  · unfold maxQ; omega
  · have := h y hy; unfold maxQ; omega

/-- A book that may be. -/
structure ValB (D Z : Int) (n m : Nat) (b : Bo) : Prop where
  zl : b.zs.length = n
  ml : b.ms.length = m
  z : ∀ x ∈ b.zs, 2 ≤ x.p ∧ x.p < Z ∧ 0 ≤ x.s ∧ x.s ≤ 2
  zn : (b.zs.map Zo.p).Nodup
  m : ∀ x ∈ b.ms, 0 ≤ x ∧ x < D + 1
  mn : b.ms.Nodup
  c : (b.sl = -1 ∧ b.cu = 0) ∨ (0 ≤ b.sl ∧ b.sl < D ∧ 0 ≤ b.cu ∧ b.cu ≤ Z)
theorem ValB.same {D Z : Int} {n m : Nat} {b b' : Bo} (h : ValB D Z n m b) (h1 : b'.zs = b.zs) (h2 : b'.ms = b.ms) (h3 : b'.sl = b.sl) (h4 : b'.cu = b.cu) : ValB D Z n m b' :=
  ⟨by rw [h1]; exact h.zl, by rw [h2]; exact h.ml, by rw [h1]; exact h.z, by rw [h1]; exact h.zn, by rw [h2]; exact h.m, by rw [h2]; exact h.mn, by rw [h3, h4]; exact h.c⟩
theorem numb_mem {q : Int} {l : List Rc} {x : Rc} (h : x ∈ numb q l) : ∃ j, ∃ hj : j < l.length, x = { l[j] with s := q + 1 + j } := by
  obtain ⟨j, hj, e⟩ := List.getElem_of_mem h
  have hj' : j < l.length := by rw [numb_len] at hj; exact hj
  refine ⟨j, hj', ?_⟩
  have := numb_get q l j hj'
  rw [List.getElem?_eq_getElem hj] at this
  rw [← e]
  exact Option.some.inj this
theorem numb_has {q : Int} {l : List Rc} {j : Nat} {y : Rc} (h : l[j]? = some y) : { y with s := q + 1 + j } ∈ numb q l := by
  obtain ⟨hj, e⟩ := List.getElem?_eq_some_iff.1 h
  have := numb_get q l j hj
  rw [e] at this
  exact List.mem_of_getElem? this
theorem bare_mem {b : Bo} {j : Nat} : (j < b.ms.length → ∃ h : j < b.ms.length, (bare b)[j]? = some ⟨5, 0, (j : Int), b.ms[j], 0, 0, ⟨#[]⟩⟩) ∧
    (j < b.zs.length → ∃ h : j < b.zs.length, (bare b)[b.ms.length + j]? = some ⟨3, 0, (j : Int), b.zs[j].p, b.zs[j].g, b.zs[j].s, ⟨#[]⟩⟩) ∧ (bare b)[b.ms.length + b.zs.length]? = some (curR b) := by
  have e1 : bare b = mems 0 b.ms ++ (maps 0 b.zs ++ [curR b]) := by unfold bare; rw [List.append_assoc]
  refine ⟨fun h => ⟨h, ?_⟩, fun h => ⟨h, ?_⟩, ?_⟩
  · rw [e1, List.getElem?_append_left (by rw [mems_len]; exact h), mems_get 0 b.ms j h]
    simp
  · rw [e1, List.getElem?_append_right (by rw [mems_len]; omega), mems_len, show b.ms.length + j - b.ms.length = j by omega, List.getElem?_append_left (by rw [maps_len]; exact h), maps_get 0 b.zs j h]
    simp
  · rw [e1, List.getElem?_append_right (by rw [mems_len]; omega), mems_len, show b.ms.length + b.zs.length - b.ms.length = b.zs.length by omega, List.getElem?_append_right (by rw [maps_len]; omega), maps_len, Nat.sub_self]
    rfl
theorem curR_k (b : Bo) : (curR b).k = 6 := by unfold curR; split <;> rfl
/-- The records of a book, by their subjects. -/
theorem recs_about {b : Bo} {x : Rc} (h : x ∈ recsB b) :
    (∃ j, ∃ hj : j < b.ms.length, x = ⟨5, b.q + 1 + j, (j : Int), b.ms[j], 0, 0, ⟨#[]⟩⟩) ∨ (∃ j, ∃ hj : j < b.zs.length, x = ⟨3, b.q + 1 + (b.ms.length + j : Nat), (j : Int), b.zs[j].p, b.zs[j].g, b.zs[j].s, ⟨#[]⟩⟩) ∨ x = { curR b with s := b.q + 1 + (b.ms.length + b.zs.length : Nat) } := by
  obtain ⟨j, hj, e⟩ := numb_mem h
  have hjl := hj
  rw [bare_len] at hjl
  by_cases h1 : j < b.ms.length
  · obtain ⟨_, e2⟩ := (bare_mem (b := b)).1 h1
    rw [List.getElem?_eq_getElem hj] at e2
    left
    refine ⟨j, h1, ?_⟩
    rw [e, Option.some.inj e2]
  · by_cases h2 : j < b.ms.length + b.zs.length
    · obtain ⟨i, rfl⟩ : ∃ i, j = b.ms.length + i := ⟨j - b.ms.length, by omega⟩
      have h3 : i < b.zs.length := by omega
      obtain ⟨_, e2⟩ := (bare_mem (b := b)).2.1 h3
      rw [List.getElem?_eq_getElem hj] at e2
      right; left
      refine ⟨i, h3, ?_⟩
      rw [e, Option.some.inj e2]
    · obtain rfl : j = b.ms.length + b.zs.length := by omega
      have e2 := (bare_mem (b := b) (j := 0)).2.2
      rw [List.getElem?_eq_getElem hj] at e2
      right; right
      rw [e, Option.some.inj e2]
theorem recs_mem {b : Bo} {j : Nat} (hj : j < b.ms.length) : (⟨5, b.q + 1 + j, (j : Int), b.ms[j], 0, 0, ⟨#[]⟩⟩ : Rc) ∈ recsB b := by
  obtain ⟨_, e⟩ := (bare_mem (b := b)).1 hj
  exact numb_has e
theorem recs_zone {b : Bo} {j : Nat} (hj : j < b.zs.length) : (⟨3, b.q + 1 + (b.ms.length + j : Nat), (j : Int), b.zs[j].p, b.zs[j].g, b.zs[j].s, ⟨#[]⟩⟩ : Rc) ∈ recsB b := by
  obtain ⟨_, e⟩ := (bare_mem (b := b)).2.1 hj
  exact numb_has e
theorem recs_cur (b : Bo) : ({ curR b with s := b.q + 1 + (b.ms.length + b.zs.length : Nat) } : Rc) ∈ recsB b := numb_has ((bare_mem (b := b) (j := 0)).2.2)
theorem recs_new {b : Bo} {x : Rc} (h : x ∈ recsB b) : b.q < x.s ∧ x.s ≤ (nextB b).q := by
  have hn : (nextB b).q = b.q + ((b.ms.length + b.zs.length + 1 : Nat) : Int) := by show b.q + ((bare b).length : Int) = _; rw [bare_len]
  rcases recs_about h with ⟨j, hj, rfl⟩ | ⟨j, hj, rfl⟩ | rfl
  · show b.q < b.q + 1 + j ∧ b.q + 1 + (j : Int) ≤ _
    omega
  · show b.q < b.q + 1 + ((b.ms.length + j : Nat) : Int) ∧ b.q + 1 + ((b.ms.length + j : Nat) : Int) ≤ _
    omega
  · show b.q < b.q + 1 + ((b.ms.length + b.zs.length : Nat) : Int) ∧ b.q + 1 + ((b.ms.length + b.zs.length : Nat) : Int) ≤ _
    omega
/-- Whatever elder ones stand beside them. -/
structure Beside (b : Bo) (l : List Rc) : Prop where
  all : ∀ x ∈ recsB b, x ∈ l
  old : ∀ y ∈ l, y ∈ recsB b ∨ y.s ≤ b.q
theorem Beside.mem {b : Bo} {l : List Rc} (h : Beside b l) {j : Nat} (hj : j < b.ms.length) : found l (5, (j : Int)) = some ⟨5, b.q + 1 + j, (j : Int), b.ms[j], 0, 0, ⟨#[]⟩⟩ := by
  refine found_top (h.all _ (recs_mem hj)) (about_mem.2 ⟨rfl, rfl⟩) fun y hy ha => ?_
  rcases h.old y hy with hr | hr
  · rcases recs_about hr with ⟨i, hi, rfl⟩ | ⟨i, hi, rfl⟩ | rfl
    · have := (about_mem.1 ha).2
      obtain rfl : i = j := by have : (i : Int) = j := this; omega
      exact .inl rfl
    · exact absurd (about_mem.1 ha).1 (by show ¬ (3 : Int) = 5; omega)
    · have := (about_mem.1 ha).1
      have h6 := curR_k b
      exact absurd (h6.symm.trans this) (by omega)
  · right
    show y.s < b.q + 1 + (j : Int)
    omega
theorem Beside.zone {b : Bo} {l : List Rc} (h : Beside b l) {j : Nat} (hj : j < b.zs.length) : found l (3, (j : Int)) = some ⟨3, b.q + 1 + (b.ms.length + j : Nat), (j : Int), b.zs[j].p, b.zs[j].g, b.zs[j].s, ⟨#[]⟩⟩ := by
  refine found_top (h.all _ (recs_zone hj)) (about_zone.2 ⟨rfl, rfl⟩) fun y hy ha => ?_
  rcases h.old y hy with hr | hr
  · rcases recs_about hr with ⟨i, hi, rfl⟩ | ⟨i, hi, rfl⟩ | rfl
    · exact absurd (about_zone.1 ha).1 (by show ¬ (5 : Int) = 3; omega)
    · have := (about_zone.1 ha).2
      obtain rfl : i = j := by have : (i : Int) = j := this; omega
      exact .inl rfl
    · have := (about_zone.1 ha).1
      have h6 := curR_k b
      exact absurd (h6.symm.trans this) (by omega)
  · right
    show y.s < b.q + 1 + ((b.ms.length + j : Nat) : Int)
    omega
theorem Beside.cur {b : Bo} {l : List Rc} (h : Beside b l) : found l (6, 0) = some { curR b with s := b.q + 1 + (b.ms.length + b.zs.length : Nat) } := by
  refine found_top (h.all _ (recs_cur b)) (about_cur.2 (curR_k b)) fun y hy ha => ?_
  rcases h.old y hy with hr | hr
  · rcases recs_about hr with ⟨i, hi, rfl⟩ | ⟨i, hi, rfl⟩ | rfl
    · exact absurd (about_cur.1 ha) (by show ¬ (5 : Int) = 6; omega)
    · exact absurd (about_cur.1 ha) (by show ¬ (3 : Int) = 6; omega)
    · exact .inl rfl
  · right
    show y.s < b.q + 1 + ((b.ms.length + b.zs.length : Nat) : Int)
    omega
/-- It is read of them again. -/
theorem read_back {D Z : Int} {n m : Nat} {b : Bo} {l : List Rc} (hb : ValB D Z n m b) (hq : 0 ≤ b.q) (hD : D ≤ 1000) (h : Beside b l) : SaysB D Z n m l ∧ readB n m l = nextB b := by
  have hzl := hb.zl
  have hml := hb.ml
  have hfz : (fullB n m l).zs = b.zs := by
    refine List.ext_getElem (by rw [full_zl, hzl]) fun i h1 h2 => ?_
    rw [full_z h1, fnd_some (h.zone h2)]
    rfl
  have hfm : (fullB n m l).ms = b.ms := by
    refine List.ext_getElem (by rw [full_ml, hml]) fun i h1 h2 => ?_
    rw [full_m h1, fnd_some (h.mem h2)]
  have hc := fnd_some h.cur
  refine ⟨⟨fun u hu => ?_, by rw [hfz]; exact hb.zn, by rw [hfm]; exact hb.mn⟩, ?_⟩
  · unfold subs at hu
    rcases List.mem_append.1 hu with hu | hu
    · rcases List.mem_cons.1 hu with rfl | hu
      · refine ⟨_, h.cur, ?_⟩
        unfold curR possP
        rcases hb.c with ⟨c1, c2⟩ | ⟨c1, c2, c3, c4⟩
        · rw [if_pos (show b.sl < 0 by omega)]
          simp
        · rw [if_neg (show ¬ b.sl < 0 by omega)]
          simp only
          rw [if_neg (by omega), if_neg (by omega), if_neg (by omega)]
          exact ⟨c1, c2, c3, c4⟩
      · obtain ⟨k, hk, rfl⟩ := List.mem_map.1 hu
        have hk' : k < b.zs.length := by rw [hzl]; exact List.mem_range.1 hk
        refine ⟨_, h.zone hk', ?_⟩
        unfold possP
        rw [if_pos rfl]
        exact hb.z _ (List.getElem_mem hk')
    · obtain ⟨k, hk, rfl⟩ := List.mem_map.1 hu
      have hk' : k < b.ms.length := by rw [hml]; exact List.mem_range.1 hk
      refine ⟨_, h.mem hk', ?_⟩
      unfold possP
      rw [if_neg (show ¬ (5 : Int) = 3 by omega), if_pos rfl]
      exact hb.m _ (List.getElem_mem hk')
  · have hqn : maxQ l = (nextB b).q := by
      refine maxQ_of ?_ (fun y hy => ?_) ⟨_, h.all _ (recs_cur b), ?_⟩
      · show 0 ≤ b.q + ((bare b).length : Int)
        omega
      · rcases h.old y hy with hr | hr
        · exact (recs_new hr).2
        · show y.s ≤ b.q + ((bare b).length : Int)
          omega
      · show b.q + 1 + ((b.ms.length + b.zs.length : Nat) : Int) = b.q + ((bare b).length : Int)
        rw [bare_len]
        omega
    have hsl : (fullB n m l).sl = b.sl ∧ (fullB n m l).cu = b.cu := by
      show (if (fnd l (6, 0)).a = 65535 then -1 else (fnd l (6, 0)).a) = b.sl ∧ (fnd l (6, 0)).b = b.cu
      rw [hc]
      unfold curR
      rcases hb.c with ⟨c1, c2⟩ | ⟨c1, c2, c3, c4⟩
      · rw [if_pos (show b.sl < 0 by omega)]
        simp [c1, c2]
      · rw [if_neg (show ¬ b.sl < 0 by omega)]
        simp only
        rw [if_neg (by omega)]
        simp
    show (⟨maxQ l, (fullB n m l).zs, (fullB n m l).ms, (fullB n m l).sl, (fullB n m l).cu⟩ : Bo) = ⟨(nextB b).q, b.zs, b.ms, b.sl, b.cu⟩
    rw [hqn, hfz, hfm, hsl.1, hsl.2]
/-- What was read may be. -/
theorem read_val {D Z : Int} {n m : Nat} {l : List Rc} (h : SaysB D Z n m l) : ValB D Z n m (readB n m l) := by
  refine ⟨full_zl n m l, full_ml n m l, fun x hx => ?_, h.ps, fun x hx => ?_, h.ms, ?_⟩
  · obtain ⟨i, hi, rfl⟩ := List.getElem_of_mem hx
    have hin : i < n := by have := full_zl n m l; have hi' : i < (fullB n m l).zs.length := hi; omega
    obtain ⟨x, hx, hp⟩ := h.all _ (mem_subs_zone hin)
    have hk := (about_zone.1 (found_max hx).2.1).1
    have e : (readB n m l).zs[i] = zoF x := (full_z (n := n) (m := m) (l := l) hi).trans (by rw [fnd_some hx])
    rw [e]
    unfold possP at hp
    rw [if_pos hk] at hp
    exact hp
  · obtain ⟨i, hi, rfl⟩ := List.getElem_of_mem hx
    have hin : i < m := by have := full_ml n m l; have hi' : i < (fullB n m l).ms.length := hi; omega
    obtain ⟨x, hx, hp⟩ := h.all _ (mem_subs_mem hin)
    have hk := (about_mem.1 (found_max hx).2.1).1
    have e : (readB n m l).ms[i] = x.b := (full_m (n := n) (m := m) (l := l) hi).trans (by rw [fnd_some hx])
    rw [e]
    unfold possP at hp
    rw [if_neg (by omega), if_pos hk] at hp
    exact hp
  · obtain ⟨x, hx, hp⟩ := h.all _ (mem_subs_cur n m)
    have hk := about_cur.1 (found_max hx).2.1
    show ((if (fnd l (6, 0)).a = 65535 then -1 else (fnd l (6, 0)).a) = -1 ∧ (fnd l (6, 0)).b = 0) ∨ (0 ≤ (if (fnd l (6, 0)).a = 65535 then -1 else (fnd l (6, 0)).a) ∧ (if (fnd l (6, 0)).a = 65535 then -1 else (fnd l (6, 0)).a) < D ∧ 0 ≤ (fnd l (6, 0)).b ∧ (fnd l (6, 0)).b ≤ Z)
    rw [fnd_some hx]
    unfold possP at hp
    rw [if_neg (by omega), if_neg (by omega)] at hp
    by_cases ha : x.a = 65535
    · rw [if_pos ha] at hp ⊢
      exact .inl ⟨rfl, hp⟩
    · rw [if_neg ha] at hp ⊢
      exact .inr hp
theorem new_val {D Z : Int} {n m : Nat} (hn : Z - 3 = (n : Int)) (hm : D = (m : Int)) : ValB D Z n m (newBk n m) := by
  refine ⟨newZ_len n, newMs_len m, fun x hx => ?_, ?_, fun x hx => ?_, ?_, .inl ⟨rfl, rfl⟩⟩
  · have hx' : x ∈ newZ n := hx
    unfold newZ at hx'
    obtain ⟨i, hi, rfl⟩ := List.mem_map.1 hx'
    have := List.mem_range.1 hi
    show 2 ≤ (i : Int) + 2 ∧ (i : Int) + 2 < Z ∧ (0 : Int) ≤ 0 ∧ (0 : Int) ≤ 2
    omega
  · rw [nodup_iff]
    intro i j hi hj hij
    simp only [newBk, newZ, List.getElem_map, List.getElem_range]
    omega
  · have hx' : x ∈ newMs m := hx
    unfold newMs at hx'
    obtain ⟨i, hi, rfl⟩ := List.mem_map.1 hx'
    have := List.mem_range.1 hi
    omega
  · rw [nodup_iff]
    intro i j hi hj hij
    simp only [newBk, newMs, List.getElem_map, List.getElem_range]
    omega
/-- A zone is moved to a place in which none lies. -/
theorem move_val {D Z : Int} {n m : Nat} {b : Bo} (hb : ValB D Z n m b) {x : Rc} (hk : x.k = 3) (ha : 0 ≤ x.a ∧ x.a < n) (h1 : 2 ≤ x.b ∧ x.b < Z) (h2 : ∀ z ∈ b.zs, z.p ≠ x.b) (h3 : 0 ≤ x.d ∧ x.d ≤ 2) : ValB D Z n m (noteB b x) := by
  have e : noteB b x = { b with q := max b.q x.s, zs := b.zs.set x.a.toNat ⟨x.b, x.c, x.d⟩ } := by
    unfold noteB takeB
    rw [if_pos ⟨hk, ha.1, by show x.a < (b.zs.length : Int); rw [hb.zl]; exact ha.2⟩]
  rw [e]
  refine ⟨by show (b.zs.set _ _).length = n; rw [List.length_set]; exact hb.zl, hb.ml, fun z hz => ?_, ?_, hb.m, hb.mn, hb.c⟩
  · rcases List.mem_or_eq_of_mem_set hz with h | rfl
    · exact hb.z z h
    · exact ⟨h1.1, h1.2, h3.1, h3.2⟩
  · show ((b.zs.set x.a.toNat ⟨x.b, x.c, x.d⟩).map Zo.p).Nodup
    have hz := nodup_iff.1 hb.zn
    rw [nodup_iff]
    intro i j hi hj hij
    have hi' : i < b.zs.length := by simpa using hi
    have hj' : j < b.zs.length := by simpa using hj
    simp only [List.getElem_map, List.getElem_set]
    have hzij := hz i j (by simpa using hi') (by simpa using hj') hij
    simp only [List.getElem_map] at hzij
    split
    · rename_i e1
      rw [if_neg (by omega)]
      exact fun e => h2 _ (List.getElem_mem hj') e.symm
    · split
      · exact h2 _ (List.getElem_mem hi')
      · exact hzij
/-- With a place more than there are zones, one is free. -/
theorem free_in {D Z : Int} {n m : Nat} {b : Bo} (hb : ValB D Z n m b) (hn : Z - 3 = (n : Int)) {f : Int} (h : IsFree b.zs Z f) : 2 ≤ f ∧ f < Z ∧ ∀ z ∈ b.zs, z.p ≠ f := by
  rcases h with ⟨rfl, h⟩ | ⟨h1, h2, h3, _⟩
  · exfalso
    have hsub : ∀ x ∈ (List.range (n + 1)).map (fun i : Nat => (i : Int) + 2), x ∈ b.zs.map Zo.p := fun x hx => by
      obtain ⟨i, hi, rfl⟩ := List.mem_map.1 hx
      have := List.mem_range.1 hi
      obtain ⟨z, hz, e⟩ := h ((i : Int) + 2) (by omega) (by omega)
      exact List.mem_map.2 ⟨z, hz, e⟩
    have hnd : ((List.range (n + 1)).map (fun i : Nat => (i : Int) + 2)).Nodup := by
      rw [nodup_iff]
      intro i j hi hj hij
      simp only [List.getElem_map, List.getElem_range]
      omega
    have := List.Nodup.length_le_of_subset hnd (fun x hx => hsub x hx)
    rw [List.length_map, List.length_map, List.length_range, hb.zl] at this
    omega
  · exact ⟨h1, h2, h3⟩
end Bk
end Go.Proofs.Ytpmhfalhieinjaa
