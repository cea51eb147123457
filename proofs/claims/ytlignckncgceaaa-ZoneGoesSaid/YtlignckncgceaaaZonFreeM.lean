/- Zones one behind the other begun, as many as may be: plain data. Nothing of the program stands here. -/
import Derived.Test.YtlignckncgceaaaZonMath2
namespace Go.Proofs.Ytlignckncgceaaa.Zon

instance : DecidableEq Zn := fun a b => decidable_of_iff (a.s = b.s ∧ a.l = b.l) ⟨fun h => by cases a; cases b; simp_all, fun h => by rw [h]; exact ⟨rfl, rfl⟩⟩

/-- a + 1 zones of four blocks, of which the first k have one. -/
def frM (a k : Nat) : Mc := ⟨List.replicate k ⟨1, 1⟩ ++ List.replicate (a + 1 - k) ⟨0, 0⟩, 4, (a : Int), (a : Int)⟩
theorem fr_new (a : Nat) : newM ((a : Int) + 1) 4 (a : Int) (a : Int) = frM a 0 := by
  unfold newM frM
  rw [show ((a : Int) + 1).toNat = a + 1 by omega]
  rfl
theorem fr_steps : ∀ a : Fin 9, ∀ k : Fin 9, k.1 < a.1 → doM (frM a.1 k.1) 2 (k.1 : Int) 0 1 = (0, 0, (frM a.1 (k.1 + 1)).zs) := by decide +kernel
theorem fr_step {a k : Nat} (ha : a ≤ 8) (hk : k < a) : doM (frM a k) 2 (k : Int) 0 1 = (0, 0, (frM a (k + 1)).zs) := fr_steps ⟨a, by omega⟩ ⟨k, by omega⟩ hk
theorem fr_fulls : ∀ a : Fin 9, 1 ≤ a.1 → doM (frM a.1 a.1) 2 (a.1 : Int) 0 1 = (0, 5, (frM a.1 a.1).zs) := by decide +kernel
theorem fr_full {a : Nat} (h1 : 1 ≤ a) (ha : a ≤ 8) : doM (frM a a) 2 (a : Int) 0 1 = (0, 5, (frM a a).zs) := fr_fulls ⟨a, by omega⟩ h1
/-- One of them finished, or reset. -/
def frK (r : Bool) : Int := if r = true then 3 else 4
def frM1 (a p : Nat) (r : Bool) : Mc := (frM a a).with (doM (frM a a) (frK r) (p : Int) 0 0).2.2
def frM2 (a p : Nat) (r : Bool) : Mc := (frM1 a p r).with (doM (frM1 a p r) 2 (a : Int) 0 1).2.2
theorem fr_ends : ∀ a : Fin 9, ∀ p : Fin 9, ∀ r : Bool, p.1 < a.1 → (doM (frM a.1 a.1) (frK r) (p.1 : Int) 0 0).1 = 0 ∧ (doM (frM a.1 a.1) (frK r) (p.1 : Int) 0 0).2.1 = 0 ∧ (doM (frM1 a.1 p.1 r) 2 (a.1 : Int) 0 1).2.1 = 0 ∧ nOpen (frM2 a.1 p.1 r).zs = a.1 ∧ nAct (frM2 a.1 p.1 r).zs = a.1 := by decide +kernel
theorem fr_end {a p : Nat} (ha : a ≤ 8) (hp : p < a) (r : Bool) : (doM (frM a a) (frK r) (p : Int) 0 0).1 = 0 ∧ (doM (frM a a) (frK r) (p : Int) 0 0).2.1 = 0 ∧ (doM (frM1 a p r) 2 (a : Int) 0 1).2.1 = 0 ∧ nOpen (frM2 a p r).zs = a ∧ nAct (frM2 a p r).zs = a := fr_ends ⟨a, by omega⟩ ⟨p, by omega⟩ r hp
theorem fr_newOk {a : Nat} (h1 : 1 ≤ a) (ha : a ≤ 8) : newOk ((a : Int) + 1) 4 (a : Int) (a : Int) = true := newOk_iff.2 (by omega)
theorem fr_ok {a k : Nat} (h1 : 1 ≤ a) (ha : a ≤ 8) (hk : k ≤ a) : (frM a k).Ok := by
  have hl : (frM a k).zs.length = a + 1 := by unfold frM; simp; omega
  refine ⟨by omega, by omega, ?_, ?_, ?_, ?_, ?_, ?_⟩
  · show (1 : Int) ≤ 4; omega
  · show (4 : Int) ≤ 4096; omega
  · show (1 : Int) ≤ (a : Int); omega
  · show (a : Int) ≤ (a : Int); omega
  · show (a : Int) ≤ _; omega
  · intro z hz
    have : z = ⟨1, 1⟩ ∨ z = ⟨0, 0⟩ := by
      unfold frM at hz
      rcases List.mem_append.1 hz with h | h
      · exact .inl (List.mem_replicate.1 h).2
      · exact .inr (List.mem_replicate.1 h).2
    show 0 ≤ z.l ∧ z.l ≤ 4 ∧ _
    rcases this with rfl | rfl <;> decide

/-- One zone of b blocks, of which so many are left. -/
def goZ (b left : Int) : Zn := if left = b then ⟨0, 0⟩ else if left = 0 then ⟨4, b⟩ else ⟨1, b - left⟩
def goM (b left : Int) : Mc := ⟨[goZ b left], b, 1, 1⟩
theorem go_new (b : Int) : newM 1 b 1 1 = goM b b := by unfold newM goM goZ; simp
theorem goZ_l (b left : Int) : (goZ b left).l = b - left := by
  unfold goZ
  split
  · simp; omega
  · split
    · rename_i h; simp [h]
    · rfl
theorem go_has (b left : Int) : hasB (goM b left) 0 = true := hasB_iff.2 ⟨by omega, by show (0 : Int) < 1; omega⟩
theorem go_zat (b left : Int) : zAt (goM b left).zs 0 = goZ b left := rfl
theorem go_ok {b left : Int} (h1 : 1 ≤ b) (h2 : b ≤ 64) (h3 : 0 ≤ left) (h4 : left ≤ b) : (goM b left).Ok := by
  refine ⟨by show 1 ≤ 1; omega, by show 1 ≤ 64; omega, h1, by show b ≤ 4096; omega, by show (1 : Int) ≤ 1; omega, by show (1 : Int) ≤ 1; omega, by show (1 : Int) ≤ 1; omega, ?_⟩
  intro z hz
  obtain rfl := List.mem_singleton.1 hz
  show 0 ≤ _ ∧ _ ≤ b ∧ _
  unfold goZ
  split
  · simp; omega
  · split
    · simp; omega
    · simp; omega
theorem go_admit (b left : Int) (h3 : 0 < left) : admit (goM b left) 0 = (0, [goZ b left]) := by
  unfold admit goM zAt goZ nAct nOpen
  by_cases e : left = b
  · simp [e, openB, actB]
  · simp [e, show ¬ left = 0 by omega, openB]
theorem go_ext (b left n : Int) (h3 : 0 < left) (h4 : left ≤ b) (hn : 1 ≤ n) : ext (goM b left) 0 n = (b - left, 0, [goZ b (left - n)]) := by
  unfold ext
  rw [go_admit b left h3, if_pos rfl]
  show ((goZ b left).l, (0 : Int), [extZ b n (goZ b left)]) = _
  rw [goZ_l]
  unfold extZ
  rw [goZ_l]
  have hs : ¬ (goZ b left).s = 2 := by
    unfold goZ
    split
    · simp
    · split <;> simp
  rw [if_neg hs]
  unfold goZ
  rw [if_neg (show ¬ left - n = b by omega)]
  by_cases e : left - n = 0
  · rw [if_pos e, if_pos (show b - left + n = b by omega)]
    simp; omega
  · rw [if_neg e, if_neg (show ¬ b - left + n = b by omega)]
    simp; omega
theorem go_in (b left k a n : Int) (hk : 1 ≤ k) (hk2 : k ≤ 7) : doM (goM b left) k 0 a n = act (goM b left) k.toNat 0 a n := by
  unfold doM
  rw [if_neg (by omega), if_neg (show ¬ hasB (goM b left) 0 = false by rw [go_has]; simp)]
  rfl
theorem go_not4 {b left : Int} (h3 : 0 < left) : ¬ (zAt (goM b left).zs 0).s = 4 := by
  show ¬ (goZ b left).s = 4
  unfold goZ
  split
  · simp
  · rw [if_neg (by omega)]; simp
theorem go_append (b left n : Int) (h3 : 0 < left) (h4 : left ≤ b) (hn : 1 ≤ n) : doM (goM b left) 2 0 0 n = if n ≤ left then (b - left, 0, [goZ b (left - n)]) else (0, 2, [goZ b left]) := by
  rw [go_in _ _ _ _ _ (by omega) (by omega)]
  show app (goM b left) 0 n = _
  unfold app
  by_cases hb : n ≤ b
  · rw [if_neg (show ¬ withinB 0 n (goM b left).b = false by rw [Bool.not_eq_false, within_iff]; show 0 ≤ (0 : Int) ∧ 1 ≤ n ∧ n ≤ b - 0; omega), if_neg (go_not4 h3)]
    show (if withinB (goZ b left).l n b = false then _ else _) = _
    rw [goZ_l]
    by_cases hl : n ≤ left
    · rw [if_neg (show ¬ withinB (b - left) n b = false by rw [Bool.not_eq_false, within_iff]; omega), if_pos hl]
      exact go_ext b left n h3 h4 hn
    · rw [if_pos (show withinB (b - left) n b = false by rw [← Bool.not_eq_true, within_iff]; omega), if_neg hl]; rfl
  · rw [if_pos (show withinB 0 n (goM b left).b = false by rw [← Bool.not_eq_true, within_iff]; show ¬ (0 ≤ (0 : Int) ∧ 1 ≤ n ∧ n ≤ b - 0); omega), if_neg (by omega)]; rfl
theorem go_write (b left : Int) (h3 : 0 < left) (h4 : left ≤ b) : doM (goM b left) 1 0 (b - left) 1 = (b - left, 0, [goZ b (left - 1)]) := by
  rw [go_in _ _ _ _ _ (by omega) (by omega)]
  show wrt (goM b left) 0 (b - left) 1 = _
  unfold wrt
  rw [if_neg (show ¬ withinB (b - left) 1 (goM b left).b = false by rw [Bool.not_eq_false, within_iff]; show 0 ≤ b - left ∧ 1 ≤ (1 : Int) ∧ 1 ≤ b - (b - left); omega), if_neg (go_not4 h3)]
  rw [go_zat, if_neg (show ¬ b - left ≠ (goZ b left).l by rw [goZ_l]; simp)]
  exact go_ext b left 1 h3 h4 (by omega)
theorem go_full (b : Int) (h1 : 1 ≤ b) : getM (goM b 0) 0 = ⟨4, b⟩ ∧ hasB (goM b 0) 0 = true ∧ doM (goM b 0) 2 0 0 1 = (0, 4, [goZ b 0]) ∧ doM (goM b 0) 7 0 0 b = (0, 0, [goZ b 0]) ∧ doM (goM b 0) 3 0 0 0 = (0, 0, [goZ b b]) := by
  have hz : goZ b 0 = ⟨4, b⟩ := by unfold goZ; rw [if_neg (by omega), if_pos rfl]
  refine ⟨?_, go_has b 0, ?_, ?_, ?_⟩
  · show (if hasB (goM b 0) 0 = true then goZ b 0 else _) = _
    rw [if_pos (go_has b 0), hz]
  · rw [go_in _ _ _ _ _ (by omega) (by omega)]
    show app (goM b 0) 0 1 = _
    unfold app
    rw [if_neg (show ¬ withinB 0 1 (goM b 0).b = false by rw [Bool.not_eq_false, within_iff]; show 0 ≤ (0 : Int) ∧ 1 ≤ (1 : Int) ∧ 1 ≤ b - 0; omega)]
    rw [go_zat, if_pos (show (goZ b 0).s = 4 by rw [hz])]; rfl
  · rw [go_in _ _ _ _ _ (by omega) (by omega)]
    show rea (goM b 0) 0 0 b = _
    unfold rea
    rw [go_zat, if_pos (show withinB 0 b (goZ b 0).l = true by rw [goZ_l, within_iff]; omega)]; rfl
  · rw [go_in _ _ _ _ _ (by omega) (by omega)]
    show rst (goM b 0) 0 = _
    unfold rst goZ
    simp; rfl
theorem go_again (b : Int) (h1 : 1 ≤ b) : (doM (goM b b) 2 0 0 1).1 = 0 ∧ (doM (goM b b) 2 0 0 1).2.1 = 0 := by
  rw [go_append b b 1 (by omega) (by omega) (by omega), if_pos h1]
  exact ⟨by simp, rfl⟩
end Go.Proofs.Ytlignckncgceaaa.Zon
