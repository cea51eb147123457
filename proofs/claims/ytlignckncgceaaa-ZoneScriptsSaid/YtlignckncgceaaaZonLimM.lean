/- How many zones are open, and active, behind a command: plain data. Nothing of the program stands here. -/
import Derived.Test.YtlignckncgceaaaZonMath2
namespace Go.Proofs.Ytlignckncgceaaa.Zon

def oN (z : Zn) : Nat := if openB z.s = true then 1 else 0
def aN (z : Zn) : Nat := if actB z.s = true then 1 else 0
theorem countP_set {f : Zn → Bool} : ∀ {zs : List Zn} {i : Nat} (z : Zn), i < zs.length → (zs.set i z).countP f + (if f (zAt zs i) = true then 1 else 0) = zs.countP f + (if f z = true then 1 else 0)
  | [], i, _, h => by simp at h
  | y :: zs, 0, z, _ => by
    show (z :: zs).countP f + (if f y = true then 1 else 0) = (y :: zs).countP f + _
    rw [List.countP_cons, List.countP_cons]; omega
  | y :: zs, i + 1, z, h => by
    show (y :: zs.set i z).countP f + (if f (zAt zs i) = true then 1 else 0) = (y :: zs).countP f + _
    have := countP_set (f := f) (zs := zs) (i := i) z (by simpa using h)
    rw [List.countP_cons, List.countP_cons]; omega
theorem nOpen_set {zs : List Zn} {i : Nat} (z : Zn) (h : i < zs.length) : nOpen (zs.set i z) + oN (zAt zs i) = nOpen zs + oN z := countP_set z h
theorem nAct_set {zs : List Zn} {i : Nat} (z : Zn) (h : i < zs.length) : nAct (zs.set i z) + aN (zAt zs i) = nAct zs + aN z := countP_set z h
theorem oN_le (z : Zn) : oN z ≤ aN z := by
  unfold oN aN actB
  cases openB z.s <;> simp
theorem aN_one (z : Zn) : aN z ≤ 1 := by unfold aN; split <;> omega
theorem nOpen_nAct (zs : List Zn) : nOpen zs ≤ nAct zs := List.countP_mono_left fun z _ h => by show actB z.s = true; unfold actB; rw [h]; rfl
theorem oN_0 (l : Int) : oN ⟨0, l⟩ = 0 := rfl
theorem oN_4 (l : Int) : oN ⟨4, l⟩ = 0 := rfl
theorem aN_0 (l : Int) : aN ⟨0, l⟩ = 0 := rfl
theorem aN_4 (l : Int) : aN ⟨4, l⟩ = 0 := rfl
theorem oN_shut (z : Zn) : oN (shutZ z) = 0 := by unfold shutZ; split <;> rfl
theorem aN_shut (z : Zn) : aN (shutZ z) ≤ 1 := aN_one _
theorem oN_one (z : Zn) : oN z ≤ 1 := by unfold oN; split <;> omega
/-- The first zone that was implicitly open is closed: one open zone fewer, no active one more. -/
theorem shutFirst_counts : ∀ (zs : List Zn), (shutFirst zs).1 = 0 → nOpen (shutFirst zs).2 + 1 = nOpen zs ∧ nAct (shutFirst zs).2 ≤ nAct zs
  | [], h => by cases h
  | z :: zs, h => by
    unfold shutFirst at h ⊢
    by_cases e : z.s = 1
    · rw [if_pos e]
      have h1 : openB z.s = true := by rw [e]; rfl
      have h2 : actB z.s = true := by rw [e]; rfl
      have h3 : openB (shutZ z).s = false := by unfold shutZ; split <;> rfl
      refine ⟨?_, ?_⟩
      · show (shutZ z :: zs).countP _ + 1 = (z :: zs).countP _
        rw [List.countP_cons, List.countP_cons, h1, h3]; simp
      · show (shutZ z :: zs).countP _ ≤ (z :: zs).countP _
        rw [List.countP_cons, List.countP_cons, h2]
        have : (if actB (shutZ z).s = true then 1 else 0) ≤ 1 := by split <;> omega
        simp only [if_true]
        omega
    · rw [if_neg e] at h ⊢
      obtain ⟨h1, h2⟩ := shutFirst_counts zs h
      unfold nOpen nAct at *
      rw [List.countP_cons, List.countP_cons, List.countP_cons, List.countP_cons]
      omega
/-- Within what may be open and active. -/
structure Mc.Lim (m : Mc) : Prop where
  o : (nOpen m.zs : Int) ≤ m.o
  a : (nAct m.zs : Int) ≤ m.a
theorem admit_lim {m : Mc} (h : m.Lim) (i : Nat) (he : (admit m i).1 = 0) (h4 : (zAt m.zs i).s ≠ 4) (hz : zOk m.b (zAt m.zs i)) :
    (nOpen (admit m i).2 : Int) + 1 ≤ m.o + oN (zAt m.zs i) ∧ (nAct (admit m i).2 : Int) + 1 ≤ m.a + aN (zAt m.zs i) := by
  obtain ⟨h1, h2⟩ := h
  unfold admit at he ⊢
  by_cases ho : openB (zAt m.zs i).s = true
  · rw [if_pos ho]
    have e1 : oN (zAt m.zs i) = 1 := by unfold oN; rw [if_pos ho]
    have e2 : aN (zAt m.zs i) = 1 := by unfold aN actB; rw [ho]; rfl
    rw [e1, e2]
    simp only
    omega
  · rw [if_neg ho] at he ⊢
    have e1 : oN (zAt m.zs i) = 0 := by unfold oN; rw [if_neg ho]
    by_cases h0 : (zAt m.zs i).s = 0 ∧ m.a ≤ nAct m.zs
    · rw [if_pos h0] at he; cases he
    · rw [if_neg h0] at he ⊢
      have hact : (nAct m.zs : Int) + 1 ≤ m.a + aN (zAt m.zs i) := by
        by_cases e : (zAt m.zs i).s = 0
        · have : ¬ m.a ≤ nAct m.zs := fun h' => h0 ⟨e, h'⟩
          omega
        · have e3 : (zAt m.zs i).s = 3 := by
            obtain ⟨_, _, g1, g2, _, _⟩ := hz
            have : (zAt m.zs i).s ≠ 1 := fun e' => ho (by rw [e']; rfl)
            have : (zAt m.zs i).s ≠ 2 := fun e' => ho (by rw [e']; rfl)
            omega
          have e2 : aN (zAt m.zs i) = 1 := by unfold aN; rw [if_pos (by rw [e3]; rfl)]
          rw [e2]; omega
      by_cases h6 : (nOpen m.zs : Int) < m.o
      · rw [if_pos h6, e1]
        exact ⟨by simp only; omega, hact⟩
      · rw [if_neg h6] at he ⊢
        obtain ⟨g1, g2⟩ := shutFirst_counts m.zs he
        rw [e1]
        exact ⟨by omega, by omega⟩
theorem lim_set {m : Mc} {zs : List Zn} {i : Nat} (hi : i < zs.length) (z : Zn) (h1 : (nOpen zs : Int) + oN z ≤ m.o + oN (zAt zs i)) (h2 : (nAct zs : Int) + aN z ≤ m.a + aN (zAt zs i)) : (m.with (zs.set i z)).Lim := by
  have g1 := nOpen_set z hi
  have g2 := nAct_set z hi
  refine ⟨?_, ?_⟩
  · show (nOpen (zs.set i z) : Int) ≤ m.o; omega
  · show (nAct (zs.set i z) : Int) ≤ m.a; omega
theorem ext_lim {m : Mc} (h : m.Lim) (hok : m.Ok) {i : Nat} (hi : i < m.zs.length) (n : Int) (h4 : (zAt m.zs i).s ≠ 4) : (m.with (ext m i n).2.2).Lim := by
  unfold ext
  by_cases he : (admit m i).1 = 0
  · rw [if_pos he]
    obtain ⟨g1, g2⟩ := admit_lim h i he h4 (hok.at_ hi)
    have ho := oN_one (extZ m.b n (zAt (admit m i).2 i))
    have ha := aN_one (extZ m.b n (zAt (admit m i).2 i))
    refine lim_set (by rw [admit_len]; exact hi) _ ?_ ?_
    · rw [admit_at] at *; omega
    · rw [admit_at] at *; omega
  · rw [if_neg he]
    rcases admit_err m i with h' | ⟨_, h'⟩
    · exact absurd h' he
    · rw [h']; exact h
theorem act_lim {m : Mc} (h : m.Lim) (hok : m.Ok) {k i : Nat} (hi : i < m.zs.length) (at' n : Int) : (m.with (act m k i at' n).2.2).Lim := by
  obtain ⟨h1, h2⟩ := h
  have hl : m.Lim := ⟨h1, h2⟩
  unfold act
  split
  · unfold wrt
    split
    · exact hl
    split
    · exact hl
    split
    · exact hl
    · exact ext_lim hl hok hi n (by assumption)
  split
  · unfold app
    split
    · exact hl
    split
    · exact hl
    split
    · exact hl
    · exact ext_lim hl hok hi n (by assumption)
  split
  · exact lim_set hi _ (by rw [oN_0]; omega) (by rw [aN_0]; omega)
  split
  · exact lim_set hi _ (by rw [oN_4]; omega) (by rw [aN_4]; omega)
  split
  · unfold opn
    split
    · exact hl
    · rename_i h4
      by_cases he : (admit m i).1 = 0
      · rw [if_pos he]
        obtain ⟨g1, g2⟩ := admit_lim hl i he h4 (hok.at_ hi)
        have ho := oN_one ⟨2, (zAt (admit m i).2 i).l⟩
        have ha := aN_one ⟨2, (zAt (admit m i).2 i).l⟩
        refine lim_set (by rw [admit_len]; exact hi) _ ?_ ?_
        · rw [admit_at] at *; omega
        · rw [admit_at] at *; omega
      · rw [if_neg he]
        rcases admit_err m i with h' | ⟨_, h'⟩
        · exact absurd h' he
        · rw [h']; exact hl
  split
  · unfold cls
    split
    · rename_i hact
      have e2 : aN (zAt m.zs i) = 1 := by unfold aN; rw [if_pos hact]
      have := aN_one (shutZ (zAt m.zs i))
      exact lim_set hi _ (by rw [oN_shut]; omega) (by rw [e2]; omega)
    · exact hl
  · unfold rea
    split <;> exact hl
theorem doM_lim {m : Mc} (h : m.Lim) (hok : m.Ok) (k zz at' n : Int) : (m.with (doM m k zz at' n).2.2).Lim := by
  unfold doM
  split
  · exact h
  split
  · exact h
  · rename_i h1
    have h2 := hasB_iff.1 (show hasB m zz = true by simpa using h1)
    exact act_lim h hok (by omega) _ _
theorem newM_lim {z b o a : Int} (h : newOk z b o a = true) : (newM z b o a).Lim := by
  obtain ⟨_, _, _, _, h5, h6, _⟩ := newOk_iff.1 h
  have e : ∀ n (f : Zn → Bool), f ⟨0, 0⟩ = false → (List.replicate n (⟨0, 0⟩ : Zn)).countP f = 0 := fun n f hf => by
    rw [List.countP_eq_zero]
    intro x hx
    rw [(List.mem_replicate.1 hx).2, hf]; simp
  refine ⟨?_, ?_⟩
  · show ((List.replicate _ _).countP _ : Int) ≤ o; rw [e _ _ rfl]; omega
  · show ((List.replicate _ _).countP _ : Int) ≤ a; rw [e _ _ rfl]; omega

/-- A length falls by Reset alone. -/
theorem ext_at (m : Mc) {i : Nat} (hi : i < m.zs.length) (n : Int) (hn : 1 ≤ n) : (zAt m.zs i).l ≤ (zAt (ext m i n).2.2 i).l := by
  unfold ext
  split
  · rw [zAt_set_same (by rw [admit_len]; exact hi), admit_at]
    show _ ≤ (zAt m.zs i).l + n; omega
  · show _ ≤ (zAt (admit m i).2 i).l
    rw [admit_at]; exact Int.le_refl _
theorem act_at (m : Mc) {k i : Nat} (hi : i < m.zs.length) (at' n : Int) : (k = 3 ∧ (zAt (act m k i at' n).2.2 i).l = 0) ∨ (zAt m.zs i).l ≤ (zAt (act m k i at' n).2.2 i).l := by
  unfold act
  by_cases h1 : k = 1
  · right
    rw [if_pos h1]
    unfold wrt
    split
    · exact Int.le_refl _
    rename_i hw
    split
    · exact Int.le_refl _
    split
    · exact Int.le_refl _
    · have := within_iff.1 (show withinB at' n m.b = true by simpa using hw)
      exact ext_at m hi n this.2.1
  rw [if_neg h1]
  by_cases h2 : k = 2
  · right
    rw [if_pos h2]
    unfold app
    split
    · exact Int.le_refl _
    rename_i hw
    split
    · exact Int.le_refl _
    split
    · exact Int.le_refl _
    · have := within_iff.1 (show withinB 0 n m.b = true by simpa using hw)
      exact ext_at m hi n this.2.1
  rw [if_neg h2]
  by_cases h3 : k = 3
  · left
    rw [if_pos h3]
    refine ⟨h3, ?_⟩
    show (zAt (m.zs.set i ⟨0, 0⟩) i).l = 0
    rw [zAt_set_same hi]
  right
  rw [if_neg h3]
  split
  · show _ ≤ (zAt (m.zs.set i _) i).l
    rw [zAt_set_same hi]; exact Int.le_refl _
  split
  · unfold opn
    split
    · exact Int.le_refl _
    split
    · rw [zAt_set_same (by rw [admit_len]; exact hi), admit_at]; exact Int.le_refl _
    · show _ ≤ (zAt (admit m i).2 i).l
      rw [admit_at]; exact Int.le_refl _
  split
  · unfold cls
    split
    · show _ ≤ (zAt (m.zs.set i _) i).l
      rw [zAt_set_same hi]; exact Int.le_refl _
    · exact Int.le_refl _
  · unfold rea
    split <;> exact Int.le_refl _
/-- What the law asks of one command. -/
theorem lim_round {m : Mc} (hok : m.Ok) (k zz a n : Int) : let m' := m.with (doM m k zz a n).2.2
    (0 ≤ (getM m' zz).l ∧ (getM m' zz).l ≤ m.b) ∧ ((getM m' zz).l < (getM m zz).l → k = 3 ∧ (getM m' zz).l = 0) ∧ ((doM m k zz a n).2.1 ≠ 0 → getM m' zz = getM m zz) ∧ (hasB m zz = false → (doM m k zz a n).2.1 ≠ 0) := by
  intro m'
  have hhas : hasB m' zz = hasB m zz := by unfold hasB; rw [show m'.zs.length = m.zs.length from doM_len m k zz a n]
  have hok' : m'.Ok := doM_ok hok k zz a n
  have hb : m'.b = m.b := rfl
  have hrange : 0 ≤ (getM m' zz).l ∧ (getM m' zz).l ≤ m.b := by
    unfold getM
    split
    · rename_i h
      have h2 := hasB_iff.1 h
      have := hok'.at_ (i := zz.toNat) (by omega)
      exact ⟨this.1, hb ▸ this.2.1⟩
    · have := hok.b1
      simp only
      omega
  refine ⟨hrange, fun hlt => ?_, fun hne => ?_, fun hno => ?_⟩
  · by_cases h : hasB m zz = true
    · have h2 := hasB_iff.1 h
      have e1 : getM m zz = zAt m.zs zz.toNat := if_pos h
      have e2 : getM m' zz = zAt m'.zs zz.toNat := if_pos (hhas.trans h)
      rw [e1, e2] at hlt
      rw [e2]
      by_cases hk : k < 1 ∨ 7 < k
      · have e3 : m'.zs = m.zs := by show (doM m k zz a n).2.2 = m.zs; unfold doM; rw [if_pos hk]
        rw [e3] at hlt; omega
      · have e3 : m'.zs = (act m k.toNat zz.toNat a n).2.2 := by show (doM m k zz a n).2.2 = _; unfold doM; rw [if_neg hk, if_neg (by rw [h]; simp)]
        rw [e3] at hlt ⊢
        rcases act_at m (k := k.toNat) (i := zz.toNat) (by omega) a n with h3 | h3
        · exact ⟨by omega, h3.2⟩
        · omega
    · have e1 : getM m zz = ⟨0, 0⟩ := if_neg h
      rw [e1] at hlt
      simp only at hlt
      omega
  · rcases doM_refused m k zz a n with h | h
    · exact absurd h hne
    · show getM (m.with (doM m k zz a n).2.2) zz = getM m zz
      rw [h]; rfl
  · unfold doM
    split
    · simp
    · simp
end Go.Proofs.Ytlignckncgceaaa.Zon
