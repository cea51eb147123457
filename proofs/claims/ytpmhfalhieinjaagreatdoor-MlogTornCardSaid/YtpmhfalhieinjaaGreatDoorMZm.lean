/- Zones as plain data. -/
namespace Go.Proofs.YtpmhfalhieinjaaGreatDoor.Zon
/-- A zone: its state, its length. -/
structure Zn where
  s : Int
  l : Int
/-- The zones, how long each may be, how many may be open and active. -/
structure Mc where
  zs : List Zn
  b : Int
  o : Int
  a : Int
def openB (s : Int) : Bool := s == 1 || s == 2
def actB (s : Int) : Bool := openB s || s == 3
def nOpen (zs : List Zn) : Nat := zs.countP fun z => openB z.s
def nAct (zs : List Zn) : Nat := zs.countP fun z => actB z.s
def shutZ (z : Zn) : Zn := ⟨if z.l = 0 then 0 else 3, z.l⟩
def withinB (at' n limit : Int) : Bool := decide (0 ≤ at' ∧ 1 ≤ n ∧ n ≤ limit - at')
def Mc.with (m : Mc) (zs : List Zn) : Mc := { m with zs := zs }
def zAt (zs : List Zn) (i : Nat) : Zn := zs.getD i ⟨0, 0⟩
/-- The first zone that is implicitly open. -/
def shutFirst : List Zn → Int × List Zn
  | [] => (5, [])
  | z :: zs => if z.s = 1 then (0, shutZ z :: zs) else ((shutFirst zs).1, z :: (shutFirst zs).2)
def admit (m : Mc) (i : Nat) : Int × List Zn :=
  if openB (zAt m.zs i).s = true then (0, m.zs)
  else if (zAt m.zs i).s = 0 ∧ m.a ≤ nAct m.zs then (5, m.zs)
  else if (nOpen m.zs : Int) < m.o then (0, m.zs)
  else shutFirst m.zs
def extZ (b n : Int) (z : Zn) : Zn := ⟨if z.l + n = b then 4 else if z.s = 2 then 2 else 1, z.l + n⟩
/-- The block, the error, the zones. -/
def ext (m : Mc) (i : Nat) (n : Int) : Int × Int × List Zn :=
  if (admit m i).1 = 0 then ((zAt (admit m i).2 i).l, 0, (admit m i).2.set i (extZ m.b n (zAt (admit m i).2 i))) else (0, (admit m i).1, (admit m i).2)
def wrt (m : Mc) (i : Nat) (at' n : Int) : Int × Int × List Zn :=
  if withinB at' n m.b = false then (0, 2, m.zs) else if (zAt m.zs i).s = 4 then (0, 4, m.zs) else if at' ≠ (zAt m.zs i).l then (0, 3, m.zs) else ext m i n
def app (m : Mc) (i : Nat) (n : Int) : Int × Int × List Zn :=
  if withinB 0 n m.b = false then (0, 2, m.zs) else if (zAt m.zs i).s = 4 then (0, 4, m.zs) else if withinB (zAt m.zs i).l n m.b = false then (0, 2, m.zs) else ext m i n
def rst (m : Mc) (i : Nat) : Int × Int × List Zn := (0, 0, m.zs.set i ⟨0, 0⟩)
def fin (m : Mc) (i : Nat) : Int × Int × List Zn := (0, 0, m.zs.set i ⟨4, (zAt m.zs i).l⟩)
def opn (m : Mc) (i : Nat) : Int × Int × List Zn :=
  if (zAt m.zs i).s = 4 then (0, 4, m.zs)
  else if (admit m i).1 = 0 then (0, 0, (admit m i).2.set i ⟨2, (zAt (admit m i).2 i).l⟩) else (0, (admit m i).1, (admit m i).2)
def cls (m : Mc) (i : Nat) : Int × Int × List Zn :=
  if actB (zAt m.zs i).s = true then (0, 0, m.zs.set i (shutZ (zAt m.zs i))) else (0, 3, m.zs)
def rea (m : Mc) (i : Nat) (at' n : Int) : Int × Int × List Zn :=
  if withinB at' n (zAt m.zs i).l = true then (at', 0, m.zs) else (0, 2, m.zs)
def act (m : Mc) (k : Nat) (i : Nat) (at' n : Int) : Int × Int × List Zn :=
  if k = 1 then wrt m i at' n else if k = 2 then app m i n else if k = 3 then rst m i else if k = 4 then fin m i else if k = 5 then opn m i else if k = 6 then cls m i else rea m i at' n
def hasB (m : Mc) (zz : Int) : Bool := decide (0 ≤ zz ∧ zz < m.zs.length)
def doM (m : Mc) (k zz at' n : Int) : Int × Int × List Zn :=
  if k < 1 ∨ 7 < k then (0, 1, m.zs) else if hasB m zz = false then (0, 2, m.zs) else act m k.toNat zz.toNat at' n
def getM (m : Mc) (zz : Int) : Zn := if hasB m zz = true then zAt m.zs zz.toNat else ⟨0, 0⟩
/-- A loss of power. -/
def lostZ (ls : List Int) (i : Nat) (z : Zn) : Zn :=
  if i < ls.length ∧ 0 ≤ ls.getD i 0 ∧ ls.getD i 0 < z.l then shutZ ⟨3, ls.getD i 0⟩ else if actB z.s = true then shutZ z else z
def lostL (ls : List Int) : Nat → List Zn → List Zn
  | _, [] => []
  | i, z :: zs => lostZ ls i z :: lostL ls (i + 1) zs
def lost (m : Mc) (ls : List Int) : List Zn := lostL ls 0 m.zs
def newOk (z b o a : Int) : Bool := decide (1 ≤ z ∧ z ≤ 64 ∧ 1 ≤ b ∧ b ≤ 4096 ∧ 1 ≤ o ∧ o ≤ a ∧ a ≤ z)
def newM (z b o a : Int) : Mc := ⟨List.replicate z.toNat ⟨0, 0⟩, b, o, a⟩
/-- A zone as it may be. -/
def zOk (b : Int) (z : Zn) : Prop := 0 ≤ z.l ∧ z.l ≤ b ∧ 0 ≤ z.s ∧ z.s ≤ 4 ∧ (z.s = 0 → z.l = 0) ∧ (z.s = 1 → 1 ≤ z.l)
structure Mc.Ok (m : Mc) : Prop where
  z1 : 1 ≤ m.zs.length
  z2 : m.zs.length ≤ 64
  b1 : 1 ≤ m.b
  b2 : m.b ≤ 4096
  o1 : 1 ≤ m.o
  oa : m.o ≤ m.a
  az : m.a ≤ m.zs.length
  zz : ∀ z ∈ m.zs, zOk m.b z
theorem zAt_mem {zs : List Zn} {i : Nat} (h : i < zs.length) : zAt zs i ∈ zs := by
  unfold zAt; rw [List.getD_eq_getElem?_getD, List.getElem?_eq_getElem h]; exact List.getElem_mem h
theorem zAt_get {zs : List Zn} {i : Nat} (h : i < zs.length) : zAt zs i = zs[i] := by
  unfold zAt; rw [List.getD_eq_getElem?_getD, List.getElem?_eq_getElem h]; rfl
theorem zAt_set_same {zs : List Zn} {i : Nat} (h : i < zs.length) (z : Zn) : zAt (zs.set i z) i = z := by
  unfold zAt; simp [List.getD, h]
theorem zAt_set_other {zs : List Zn} {i j : Nat} (h : i ≠ j) (z : Zn) : zAt (zs.set i z) j = zAt zs j := by
  unfold zAt; simp [List.getD, List.getElem?_set_ne h]
theorem set_zAt (zs : List Zn) (i : Nat) : zs.set i (zAt zs i) = zs := by
  unfold zAt
  apply List.ext_getElem?
  intro j
  by_cases h : i = j
  · subst h
    by_cases hi : i < zs.length
    · simp [List.getD, hi]
    · simp [List.getElem?_eq_none (Nat.le_of_not_lt hi)]
      omega
  · rw [List.getElem?_set_ne h]
theorem Mc.Ok.at_ {m : Mc} (h : m.Ok) {i : Nat} (hi : i < m.zs.length) : zOk m.b (zAt m.zs i) := h.zz _ (zAt_mem hi)
theorem Mc.Ok.put {m : Mc} (h : m.Ok) {zs : List Zn} (hl : zs.length = m.zs.length) (hz : ∀ z ∈ zs, zOk m.b z) : (m.with zs).Ok :=
  ⟨by show 1 ≤ zs.length; have := h.z1; omega, by show zs.length ≤ 64; have := h.z2; omega, h.b1, h.b2, h.o1, h.oa, by show m.a ≤ (zs.length : Int); have := h.az; omega, hz⟩
theorem all_set {b : Int} {zs : List Zn} (h : ∀ z ∈ zs, zOk b z) (i : Nat) {z : Zn} (hz : zOk b z) : ∀ y ∈ zs.set i z, zOk b y := fun y hy => by
  rcases List.mem_or_eq_of_mem_set hy with h' | h'
  · exact h y h'
  · subst h'; exact hz
theorem shutZ_ok {b : Int} {z : Zn} (h : zOk b z) : zOk b (shutZ z) := by
  unfold zOk shutZ at *
  obtain ⟨h1, h2, h3, h4, h5, h6⟩ := h
  by_cases e : z.l = 0
  · simp [e]; omega
  · simp [e]; omega
theorem shutFirst_len (zs : List Zn) : (shutFirst zs).2.length = zs.length := by
  induction zs with
  | nil => rfl
  | cons z zs ih =>
    unfold shutFirst
    split
    · rfl
    · simp [ih]
theorem shutFirst_ok {b : Int} {zs : List Zn} (h : ∀ z ∈ zs, zOk b z) : ∀ z ∈ (shutFirst zs).2, zOk b z := by
  induction zs with
  | nil => intro z hz; cases hz
  | cons y zs ih =>
    unfold shutFirst
    split
    · intro z hz
      rcases List.mem_cons.1 hz with rfl | hz
      · exact shutZ_ok (h _ (by simp))
      · exact h z (by simp [hz])
    · intro z hz
      rcases List.mem_cons.1 hz with rfl | hz
      · exact h _ (by simp)
      · exact ih (fun x hx => h x (by simp [hx])) z hz
theorem shutFirst_err (zs : List Zn) : (shutFirst zs).1 = 0 ∨ ((shutFirst zs).1 = 5 ∧ (shutFirst zs).2 = zs) := by
  induction zs with
  | nil => right; exact ⟨rfl, rfl⟩
  | cons y zs ih =>
    unfold shutFirst
    split
    · left; rfl
    · rcases ih with h | ⟨h1, h2⟩
      · left; exact h
      · right; exact ⟨h1, by simp [h2]⟩
/-- Zones that are not implicitly open stay. -/
theorem shutFirst_at (zs : List Zn) (i : Nat) (h : (zAt zs i).s ≠ 1) : zAt (shutFirst zs).2 i = zAt zs i := by
  induction zs generalizing i with
  | nil => rfl
  | cons y zs ih =>
    unfold shutFirst
    split
    · rename_i h1
      cases i with
      | zero => exact absurd h1 h
      | succ i => rfl
    · cases i with
      | zero => rfl
      | succ i => exact ih i h
theorem admit_len (m : Mc) (i : Nat) : (admit m i).2.length = m.zs.length := by
  unfold admit
  split
  · rfl
  split
  · rfl
  split
  · rfl
  · exact shutFirst_len _
theorem admit_ok {m : Mc} (h : m.Ok) (i : Nat) : ∀ z ∈ (admit m i).2, zOk m.b z := by
  unfold admit
  split
  · exact h.zz
  split
  · exact h.zz
  split
  · exact h.zz
  · exact shutFirst_ok h.zz
theorem admit_err (m : Mc) (i : Nat) : (admit m i).1 = 0 ∨ ((admit m i).1 = 5 ∧ (admit m i).2 = m.zs) := by
  unfold admit
  split
  · left; rfl
  split
  · right; exact ⟨rfl, rfl⟩
  split
  · left; rfl
  · exact shutFirst_err _
theorem admit_at (m : Mc) (i : Nat) : zAt (admit m i).2 i = zAt m.zs i := by
  unfold admit
  split
  · rfl
  · rename_i h
    split
    · rfl
    split
    · rfl
    · apply shutFirst_at
      intro e
      rw [e] at h
      exact h rfl
theorem extZ_ok {b n : Int} {z : Zn} (h : zOk b z) (hn : 1 ≤ n) (hb : z.l + n ≤ b) : zOk b (extZ b n z) := by
  unfold zOk extZ at *
  obtain ⟨h1, h2, h3, h4, h5, h6⟩ := h
  by_cases e : z.l + n = b
  · simp only [e, if_true]; omega
  · by_cases e2 : z.s = 2
    · simp only [e, e2, if_false, if_true]; omega
    · simp only [e, e2, if_false]; omega
theorem ext_len (m : Mc) (i : Nat) (n : Int) : (ext m i n).2.2.length = m.zs.length := by
  unfold ext
  split
  · simp [admit_len]
  · exact admit_len m i
theorem ext_ok {m : Mc} (h : m.Ok) {i : Nat} (hi : i < m.zs.length) {n : Int} (hn : 1 ≤ n) (hb : (zAt m.zs i).l + n ≤ m.b) : ∀ z ∈ (ext m i n).2.2, zOk m.b z := by
  unfold ext
  split
  · refine all_set (admit_ok h i) i ?_
    rw [admit_at]
    exact extZ_ok (h.at_ hi) hn hb
  · exact admit_ok h i
theorem act_len (m : Mc) (k i : Nat) (at' n : Int) : (act m k i at' n).2.2.length = m.zs.length := by
  unfold act wrt app rst fin opn cls rea
  repeat' split
  all_goals first | rfl | exact ext_len _ _ _ | simp [admit_len]
theorem within_iff {at' n limit : Int} : withinB at' n limit = true ↔ 0 ≤ at' ∧ 1 ≤ n ∧ n ≤ limit - at' := decide_eq_true_iff
theorem act_ok {m : Mc} (h : m.Ok) {k i : Nat} (hi : i < m.zs.length) (at' n : Int) : ∀ z ∈ (act m k i at' n).2.2, zOk m.b z := by
  have hz := h.at_ hi
  unfold act
  split
  · unfold wrt
    split
    · exact h.zz
    rename_i h1
    split
    · exact h.zz
    split
    · exact h.zz
    rename_i h3
    have h1' := within_iff.1 (by simpa using h1)
    exact ext_ok h hi h1'.2.1 (by omega)
  split
  · unfold app
    split
    · exact h.zz
    split
    · exact h.zz
    split
    · exact h.zz
    rename_i h3
    have h1' := within_iff.1 (by simpa using h3)
    exact ext_ok h hi h1'.2.1 (by omega)
  split
  · exact all_set h.zz i (by unfold zOk; simp; have := h.b1; omega)
  split
  · refine all_set h.zz i ?_
    unfold zOk at *
    simp only
    omega
  split
  · unfold opn
    split
    · exact h.zz
    split
    · refine all_set (admit_ok h i) i ?_
      rw [admit_at]
      unfold zOk at *
      simp only
      omega
    · exact admit_ok h i
  split
  · unfold cls
    split
    · exact all_set h.zz i (shutZ_ok hz)
    · exact h.zz
  · unfold rea
    split
    · exact h.zz
    · exact h.zz
theorem hasB_iff {m : Mc} {zz : Int} : hasB m zz = true ↔ 0 ≤ zz ∧ zz < m.zs.length := decide_eq_true_iff
theorem doM_len (m : Mc) (k zz at' n : Int) : (doM m k zz at' n).2.2.length = m.zs.length := by
  unfold doM
  split
  · rfl
  split
  · rfl
  · exact act_len _ _ _ _ _
theorem doM_ok {m : Mc} (h : m.Ok) (k zz at' n : Int) : (m.with (doM m k zz at' n).2.2).Ok := by
  refine h.put (doM_len _ _ _ _ _) ?_
  unfold doM
  split
  · exact h.zz
  split
  · exact h.zz
  · rename_i h1
    have h2 := hasB_iff.1 (show hasB m zz = true by simpa using h1)
    exact act_ok h (by omega) _ _
/-- A refused command changes nothing. -/
theorem doM_refused (m : Mc) (k zz at' n : Int) : (doM m k zz at' n).2.1 = 0 ∨ (doM m k zz at' n).2.2 = m.zs := by
  have hext : ∀ i n, (ext m i n).2.1 = 0 ∨ (ext m i n).2.2 = m.zs := fun i n => by
    unfold ext
    split
    · left; rfl
    · rename_i h
      rcases admit_err m i with h' | ⟨_, h'⟩
      · exact absurd h' h
      · right; exact h'
  unfold doM
  split
  · right; rfl
  split
  · right; rfl
  unfold act wrt app rst fin opn cls rea
  repeat' split
  all_goals first | (right; rfl) | (left; rfl) | exact hext _ _ | skip
  all_goals
    rename_i h
    rcases admit_err m zz.toNat with h' | ⟨_, h'⟩
    · exact absurd h' h
    · right; exact h'
theorem lostL_len (ls : List Int) (zs : List Zn) : ∀ i, (lostL ls i zs).length = zs.length := by
  induction zs with
  | nil => intro i; rfl
  | cons z zs ih => intro i; simp [lostL, ih]
theorem lostZ_ok {b : Int} (ls : List Int) (i : Nat) {z : Zn} (h : zOk b z) : zOk b (lostZ ls i z) := by
  unfold lostZ
  split
  · rename_i h1
    refine shutZ_ok ?_
    unfold zOk at *
    simp only
    omega
  split
  · exact shutZ_ok h
  · exact h
theorem lostL_ok {b : Int} (ls : List Int) {zs : List Zn} (h : ∀ z ∈ zs, zOk b z) : ∀ i, ∀ z ∈ lostL ls i zs, zOk b z := by
  induction zs with
  | nil => intro i z hz; cases hz
  | cons y zs ih =>
    intro i z hz
    rcases List.mem_cons.1 hz with rfl | hz
    · exact lostZ_ok ls i (h y (by simp))
    · exact ih (fun x hx => h x (by simp [hx])) (i + 1) z hz
theorem lost_ok {m : Mc} (h : m.Ok) (ls : List Int) : (m.with (lost m ls)).Ok := h.put (lostL_len _ _ _) (lostL_ok ls h.zz 0)
theorem newOk_iff {z b o a : Int} : newOk z b o a = true ↔ 1 ≤ z ∧ z ≤ 64 ∧ 1 ≤ b ∧ b ≤ 4096 ∧ 1 ≤ o ∧ o ≤ a ∧ a ≤ z := decide_eq_true_iff
theorem newM_ok {z b o a : Int} (h : newOk z b o a = true) : (newM z b o a).Ok := by
  have h' := newOk_iff.1 h
  refine ⟨?_, ?_, h'.2.2.1, h'.2.2.2.1, h'.2.2.2.2.1, h'.2.2.2.2.2.1, ?_, ?_⟩
  · show 1 ≤ (List.replicate _ _).length; rw [List.length_replicate]; omega
  · show (List.replicate _ _).length ≤ 64; rw [List.length_replicate]; omega
  · show a ≤ ((List.replicate _ _).length : Int); rw [List.length_replicate]; omega
  · intro y hy
    obtain ⟨_, rfl⟩ := List.mem_replicate.1 hy
    unfold zOk
    show 0 ≤ (0 : Int) ∧ (0 : Int) ≤ b ∧ 0 ≤ (0 : Int) ∧ (0 : Int) ≤ 4 ∧ ((0 : Int) = 0 → (0 : Int) = 0) ∧ ((0 : Int) = 1 → 1 ≤ (0 : Int))
    omega
theorem nOpen_take {zs : List Zn} {k : Nat} (h : k < zs.length) : nOpen (zs.take (k + 1)) = nOpen (zs.take k) + (if openB (zAt zs k).s = true then 1 else 0) := by
  unfold nOpen; rw [List.take_succ_eq_append_getElem h, List.countP_append, zAt_get h]; simp [List.countP_cons]
theorem nAct_take {zs : List Zn} {k : Nat} (h : k < zs.length) : nAct (zs.take (k + 1)) = nAct (zs.take k) + (if actB (zAt zs k).s = true then 1 else 0) := by
  unfold nAct; rw [List.take_succ_eq_append_getElem h, List.countP_append, zAt_get h]; simp [List.countP_cons]
theorem nOpen_le (zs : List Zn) (k : Nat) : nOpen (zs.take k) ≤ k := by
  unfold nOpen; exact Nat.le_trans List.countP_le_length (List.length_take_le _ _)
theorem nAct_le (zs : List Zn) (k : Nat) : nAct (zs.take k) ≤ k := by
  unfold nAct; exact Nat.le_trans List.countP_le_length (List.length_take_le _ _)
theorem shutFirst_hit : ∀ (zs : List Zn) (k : Nat), (∀ j, j < k → (zAt zs j).s ≠ 1) → k < zs.length → (zAt zs k).s = 1 → shutFirst zs = (0, zs.set k (shutZ (zAt zs k)))
  | [], k, _, hk, _ => by simp at hk
  | z :: zs, 0, _, _, h1 => by
    unfold shutFirst
    rw [if_pos (show z.s = 1 from h1)]; rfl
  | z :: zs, k + 1, h, hk, h1 => by
    unfold shutFirst
    rw [if_neg (show ¬ z.s = 1 from h 0 (by omega)), shutFirst_hit zs k (fun j hj => h (j + 1) (by omega)) (by simpa using hk) h1]; rfl
theorem shutFirst_none : ∀ (zs : List Zn), (∀ j, j < zs.length → (zAt zs j).s ≠ 1) → shutFirst zs = (5, zs)
  | [], _ => rfl
  | z :: zs, h => by
    unfold shutFirst
    rw [if_neg (show ¬ z.s = 1 from h 0 (by simp)), shutFirst_none zs (fun j hj => h (j + 1) (by simpa using hj))]
theorem nOpen_max (zs : List Zn) : nOpen zs ≤ zs.length := List.countP_le_length
theorem nAct_max (zs : List Zn) : nAct zs ≤ zs.length := List.countP_le_length
end Go.Proofs.YtpmhfalhieinjaaGreatDoor.Zon
namespace Go.Proofs.YtpmhfalhieinjaaGreatDoor.Zon
/-- The first k zones as a loss of power leaves them. -/
def lostTo (ls : List Int) (zs : List Zn) (k : Nat) : List Zn := lostL ls 0 (zs.take k) ++ zs.drop k
theorem lostL_snoc (ls : List Int) (z : Zn) : ∀ (xs : List Zn) (i : Nat), lostL ls i (xs ++ [z]) = lostL ls i xs ++ [lostZ ls (i + xs.length) z]
  | [], i => rfl
  | x :: xs, i => by
    show lostZ ls i x :: lostL ls (i + 1) (xs ++ [z]) = _
    rw [lostL_snoc ls z xs (i + 1)]
    simp only [List.length_cons]
    rw [show i + 1 + xs.length = i + (xs.length + 1) by omega]
    rfl
theorem lostTo_len (ls : List Int) (zs : List Zn) (k : Nat) : (lostTo ls zs k).length = zs.length := by
  unfold lostTo; rw [List.length_append, lostL_len, ← List.length_append, List.take_append_drop]
theorem lostTo_zero (ls : List Int) (zs : List Zn) : lostTo ls zs 0 = zs := rfl
theorem lostTo_all (ls : List Int) (m : Mc) : lostTo ls m.zs m.zs.length = lost m ls := by unfold lostTo lost; simp
theorem lostTo_at (ls : List Int) (zs : List Zn) (k : Nat) (h : k < zs.length) : zAt (lostTo ls zs k) k = zAt zs k := by
  unfold lostTo zAt
  rw [List.getD_eq_getElem?_getD, List.getElem?_append_right (by rw [lostL_len, List.length_take]; omega), lostL_len, List.length_take]
  rw [show min k zs.length = k by omega, Nat.sub_self, List.getElem?_drop, Nat.add_zero, ← List.getD_eq_getElem?_getD]
theorem lostTo_step (ls : List Int) (zs : List Zn) (k : Nat) (h : k < zs.length) : (lostTo ls zs k).set k (lostZ ls k (zAt zs k)) = lostTo ls zs (k + 1) := by
  unfold lostTo
  rw [List.take_succ_eq_append_getElem h, lostL_snoc, List.length_take, show 0 + min k zs.length = k by omega, zAt_get h]
  rw [List.set_append_right _ _ (by rw [lostL_len, List.length_take]; omega), lostL_len, List.length_take, show k - min k zs.length = 0 by omega, List.append_assoc]
  congr 1
  rw [List.drop_eq_getElem_cons h]
  rfl
end Go.Proofs.YtpmhfalhieinjaaGreatDoor.Zon
