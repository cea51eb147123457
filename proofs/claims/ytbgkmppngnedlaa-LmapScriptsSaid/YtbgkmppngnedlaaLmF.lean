/- Groups made of plain data, one behind the other: plain facts. -/
import Derived.Test.YtbgkmppngnedlaaLmL
import Derived.Test.YtbgkmppngnedlaaLmP
namespace Go.Proofs.Ytbgkmppngnedlaa
open Go.RowKit

/-- An entry that was added. -/
structure Ad where
  z : Int
  a : Int
  e : Int
  s : Int
  b : Int
  t : Bool
instance : Inhabited Ad := ⟨⟨0, 0, 0, 0, 0, false⟩⟩
def adE : Enc Ad := ⟨fun x => [.int .i64 x.z, .int .i64 x.a, .int .i64 x.e, .int .i64 x.s, .int .i64 x.b, .bool x.t], 6, fun _ => rfl, fun _ u hu => by
  simp only [List.mem_cons, List.not_mem_nil, or_false] at hu
  rcases hu with rfl | rfl | rfl | rfl | rfl | rfl <;> rfl⟩
theorem infAd : Enc.Inf Try.prog 60 6 48 := by unfold Enc.Inf; kernel_rfl
def enOf (x : Ad) : En := ⟨x.s, x.t, x.z, x.a, x.e⟩
/-- The newest entries of what was added. -/
def newF (l : List Ad) : Mp := l.foldl (fun f x => addE f x.b (enOf x)) (fun _ => none)
theorem newF_snoc (l : List Ad) (x : Ad) : newF (l ++ [x]) = addE (newF l) x.b (enOf x) := by unfold newF; rw [List.foldl_append]; rfl
theorem newF_some : ∀ (l : List Ad) (b : Int), (newF l.reverse b).isSome = true ↔ ∃ x ∈ l, x.b = b
  | [], b => ⟨fun h => (by cases h), fun ⟨x, h, _⟩ => (by cases h)⟩
  | x :: t, b => by
    rw [List.reverse_cons, newF_snoc, addE_at]
    have ih := newF_some t b
    by_cases h : b = x.b
    · rw [if_pos h]
      refine ⟨fun _ => ⟨x, List.mem_cons_self, h.symm⟩, fun _ => ?_⟩
      unfold opE
      simp only
      cases hf : newF t.reverse b with
      | none => rfl
      | some y => split <;> rfl
    · rw [if_neg h, ih]
      exact ⟨fun ⟨y, h1, h2⟩ => ⟨y, List.mem_cons_of_mem _ h1, h2⟩, fun ⟨y, h1, h2⟩ => (List.mem_cons.1 h1).elim (fun e => absurd (h2.symm.trans (congrArg Ad.b e)) h) (fun h3 => ⟨y, h3, h2⟩)⟩
theorem newF_dom (l : List Ad) (b : Int) : (newF l b).isSome = true ↔ ∃ x ∈ l, x.b = b := by
  have h := newF_some l.reverse b
  rw [List.reverse_reverse] at h
  rw [h]
  exact ⟨fun ⟨x, h1, h2⟩ => ⟨x, List.mem_reverse.1 h1, h2⟩, fun ⟨x, h1, h2⟩ => ⟨x, List.mem_reverse.2 h1, h2⟩⟩
theorem newF_from : ∀ (l : List Ad) (b : Int) (y : En), newF l.reverse b = some y → ∃ x ∈ l, enOf x = y
  | [], b, y, h => (by cases h)
  | x :: t, b, y, h => by
    rw [List.reverse_cons, newF_snoc, addE_at] at h
    have ih := newF_from t b y
    by_cases hb : b = x.b
    · rw [if_pos hb] at h
      unfold opE at h
      simp only at h
      split at h
      · exact ⟨x, List.mem_cons_self, Option.some.inj h⟩
      · obtain ⟨z, h1, h2⟩ := ih h
        exact ⟨z, List.mem_cons_of_mem _ h1, h2⟩
    · rw [if_neg hb] at h
      obtain ⟨z, h1, h2⟩ := ih h
      exact ⟨z, List.mem_cons_of_mem _ h1, h2⟩
theorem newF_src {l : List Ad} {b : Int} {y : En} (h : newF l b = some y) : ∃ x ∈ l, enOf x = y := by
  obtain ⟨x, h1, h2⟩ := newF_from l.reverse b y (by rw [List.reverse_reverse]; exact h)
  exact ⟨x, List.mem_reverse.1 h1, h2⟩
def blkM (b : Int) : Int × Bool := if b < 0 then (-(b + 1), true) else (b, false)
theorem blkM_wf {b : Int} (h : Rng b) : WfI (blkM b).1 := by
  unfold Rng at h
  unfold blkM
  split <;> exact wfI_of (by simp only; omega)
def esM (c : GA) (k : Nat) : List (Int × Bool) := (c.ks.zs.take k).map blkM
theorem esM_succ (c : GA) {k : Nat} (h : k < c.ks.zs.length) : esM c (k + 1) = esM c k ++ [blkM c.ks.zs[k]] := by unfold esM; rw [List.take_succ_eq_append_getElem h, List.map_append]; rfl
theorem esM_len (c : GA) {k : Nat} (h : k ≤ c.ks.zs.length) : (esM c k).length = k := by unfold esM; rw [List.length_map, List.length_take]; omega
theorem esM_le (c : GA) (k : Nat) : (esM c k).length ≤ k := by unfold esM; rw [List.length_map, List.length_take]; omega
theorem esM_wf {c : GA} (h : c.Ok) (k : Nat) : ∀ x ∈ esM c k, WfI x.1 := fun x hx => by
  unfold esM at hx
  obtain ⟨b, hb, rfl⟩ := List.mem_map.1 hx
  exact blkM_wf (h.ks b (List.mem_of_mem_take hb))
/-- What a group's entries are as they are added, from number j on. -/
def adL (z a s : Int) : Nat → List (Int × Bool) → List Ad
  | _, [] => []
  | j, x :: t => ⟨z, a, (j : Int), s, x.1, x.2⟩ :: adL z a s (j + 1) t
theorem adL_snoc (z a s : Int) : ∀ (j : Nat) (l : List (Int × Bool)) (x : Int × Bool), adL z a s j (l ++ [x]) = adL z a s j l ++ [⟨z, a, ((j + l.length : Nat) : Int), s, x.1, x.2⟩]
  | j, [], x => rfl
  | j, y :: t, x => by
    show _ :: adL z a s (j + 1) (t ++ [x]) = _ :: (adL z a s (j + 1) t ++ [_])
    rw [adL_snoc z a s (j + 1) t x, List.length_cons, show j + 1 + t.length = j + (t.length + 1) by omega]
theorem adL_len (z a s : Int) : ∀ (j : Nat) (l : List (Int × Bool)), (adL z a s j l).length = l.length
  | _, [] => rfl
  | j, x :: t => by show (adL z a s (j + 1) t).length + 1 = t.length + 1; rw [adL_len]
theorem adL_new (z a s : Int) : ∀ (j : Nat) (l : List (Int × Bool)) (L : List Ad), newF (L ++ adL z a s j l) = addL (newF L) z a s j l
  | _, [], L => by show newF (L ++ []) = _; rw [List.append_nil]; rfl
  | j, x :: t, L => by
    show newF (L ++ (⟨z, a, (j : Int), s, x.1, x.2⟩ :: adL z a s (j + 1) t)) = _
    rw [show L ++ (⟨z, a, (j : Int), s, x.1, x.2⟩ :: adL z a s (j + 1) t) = (L ++ [⟨z, a, (j : Int), s, x.1, x.2⟩]) ++ adL z a s (j + 1) t by simp, adL_new z a s (j + 1) t, newF_snoc]
    rfl
def seqM (c : GA) : Int := c.s % 1099511627776
def adM (l : List GA) : Nat → List Ad
  | 0 => []
  | k + 1 => adM l k ++ (match l[k]? with | some c => adL (c.z % 8) (k : Int) (seqM c) 0 (esM c 10) | none => [])
theorem adM_succ {l : List GA} {k : Nat} (h : k < l.length) : adM l (k + 1) = adM l k ++ adL (l[k].z % 8) (k : Int) (seqM l[k]) 0 (esM l[k] 10) := by
  show adM l k ++ (match l[k]? with | some c => adL (c.z % 8) (k : Int) (seqM c) 0 (esM c 10) | none => []) = _
  rw [List.getElem?_eq_getElem h]
theorem adM_len (l : List GA) : ∀ k, (adM l k).length ≤ 10 * k
  | 0 => Nat.le_refl _
  | k + 1 => by
    have h := adM_len l k
    show (adM l k ++ _).length ≤ _
    rw [List.length_append]
    cases hc : l[k]? with
    | none => simp; omega
    | some c =>
      simp only
      rw [adL_len]
      have := esM_le c 10
      omega
/-- The map of the first groups. -/
def mdM (l : List GA) : Nat → Lm
  | 0 => Lm.new
  | k + 1 => (match l[k]? with | some c => (mdM l k).add (c.z % 8) (k : Int) (seqM c) (esM c 10) | none => mdM l k)
theorem mdM_succ {l : List GA} {k : Nat} (h : k < l.length) : mdM l (k + 1) = (mdM l k).add (l[k].z % 8) (k : Int) (seqM l[k]) (esM l[k] 10) := by
  show (match l[k]? with | some c => (mdM l k).add (c.z % 8) (k : Int) (seqM c) (esM c 10) | none => mdM l k) = _
  rw [List.getElem?_eq_getElem h]
theorem mdM_f (l : List GA) : ∀ k, (mdM l k).f = newF (adM l k)
  | 0 => rfl
  | k + 1 => by
    cases hc : l[k]? with
    | none =>
      show (match l[k]? with | some c => (mdM l k).add (c.z % 8) (k : Int) (seqM c) (esM c 10) | none => mdM l k).f = newF (adM l k ++ (match l[k]? with | some c => adL (c.z % 8) (k : Int) (seqM c) 0 (esM c 10) | none => []))
      rw [hc]
      simp only [List.append_nil]
      exact mdM_f l k
    | some c =>
      show (match l[k]? with | some c => (mdM l k).add (c.z % 8) (k : Int) (seqM c) (esM c 10) | none => mdM l k).f = newF (adM l k ++ (match l[k]? with | some c => adL (c.z % 8) (k : Int) (seqM c) 0 (esM c 10) | none => []))
      rw [hc]
      simp only
      rw [adL_new, ← mdM_f l k]
      rfl
def mdQ (l : List GA) : Nat → Int
  | 0 => 0
  | k + 1 => (match l[k]? with | some c => max (mdQ l k) (seqM c) | none => mdQ l k)
theorem mdQ_succ {l : List GA} {k : Nat} (h : k < l.length) : mdQ l (k + 1) = max (mdQ l k) (seqM l[k]) := by
  show (match l[k]? with | some c => max (mdQ l k) (seqM c) | none => mdQ l k) = _
  rw [List.getElem?_eq_getElem h]
theorem mdM_q (l : List GA) : ∀ k, (mdM l k).q = mdQ l k ∧ 0 ≤ mdQ l k ∧ ((mdM l k).b = false → mdQ l k = 0)
  | 0 => ⟨rfl, Int.le_refl _, fun _ => rfl⟩
  | k + 1 => by
    obtain ⟨h1, h2, h3⟩ := mdM_q l k
    cases hc : l[k]? with
    | none =>
      have e1 : mdM l (k + 1) = mdM l k := by
        show (match l[k]? with | some c => (mdM l k).add (c.z % 8) (k : Int) (seqM c) (esM c 10) | none => mdM l k) = _
        rw [hc]
      have e2 : mdQ l (k + 1) = mdQ l k := by
        show (match l[k]? with | some c => max (mdQ l k) (seqM c) | none => mdQ l k) = _
        rw [hc]
      rw [e1, e2]
      exact ⟨h1, h2, h3⟩
    | some c =>
      have e1 : mdM l (k + 1) = (mdM l k).add (c.z % 8) (k : Int) (seqM c) (esM c 10) := by
        show (match l[k]? with | some c => (mdM l k).add (c.z % 8) (k : Int) (seqM c) (esM c 10) | none => mdM l k) = _
        rw [hc]
      have e2 : mdQ l (k + 1) = max (mdQ l k) (seqM c) := by
        show (match l[k]? with | some c => max (mdQ l k) (seqM c) | none => mdQ l k) = _
        rw [hc]
      have hs : 0 ≤ seqM c := by unfold seqM; omega
      rw [e1, e2]
      unfold Lm.add
      refine ⟨?_, by omega, fun h => (by cases h)⟩
      show (if (mdM l k).b = false ∨ (mdM l k).q < seqM c then seqM c else (mdM l k).q) = _
      rw [h1]
      by_cases hb : (mdM l k).b = false
      · rw [if_pos (Or.inl hb), h3 hb]; omega
      · by_cases hq : mdQ l k < seqM c
        · rw [if_pos (Or.inr hq)]; omega
        · rw [if_neg (by rintro (h | h); exact hb h; exact hq h)]; omega
/-- Every zone is one of the first eight. -/
theorem adM_zone (l : List GA) : ∀ k, ∀ x ∈ adM l k, 0 ≤ x.z ∧ x.z < 8
  | 0 => fun x h => (by cases h)
  | k + 1 => fun x h => by
    have h' : x ∈ adM l k ++ (match l[k]? with | some c => adL (c.z % 8) (k : Int) (seqM c) 0 (esM c 10) | none => []) := h
    rcases List.mem_append.1 h' with h1 | h1
    · exact adM_zone l k x h1
    · cases hc : l[k]? with
      | none => rw [hc] at h1; cases h1
      | some c =>
        rw [hc] at h1
        have hz : ∀ (j : Nat) (t : List (Int × Bool)), x ∈ adL (c.z % 8) (k : Int) (seqM c) j t → x.z = c.z % 8 := by
          intro j t
          induction t generalizing j with
          | nil => intro h; cases h
          | cons y t ih =>
            intro h
            rcases List.mem_cons.1 h with h | h
            · rw [h]
            · exact ih (j + 1) h
        rw [hz 0 _ h1]
        omega
end Go.Proofs.Ytbgkmppngnedlaa
