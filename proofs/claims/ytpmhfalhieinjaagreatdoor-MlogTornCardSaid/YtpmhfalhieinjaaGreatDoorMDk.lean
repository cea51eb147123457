/- Drives are kept as they may be. -/
import Derived.Test.YtpmhfalhieinjaaGreatDoorMDm
namespace Go.Proofs.YtpmhfalhieinjaaGreatDoor.Drv
open Zon
theorem newD_ok {z b o a : Int} (h : newOk z b o a = true) : (newD z b o a).Ok := by
  have hm := newM_ok h
  refine ⟨hm, (by show (List.replicate _ _).length = (List.replicate _ _).length; rw [List.length_replicate, List.length_replicate]), (by show (List.replicate _ _).length = (List.replicate _ _).length; rw [List.length_replicate, List.length_replicate]), fun i hi => ?_, fun i hi => ?_⟩
  · have hz : (zAt (newD z b o a).m.zs i).l = 0 := by
      show (zAt (List.replicate z.toNat _) i).l = 0
      unfold zAt
      rw [List.getD_eq_getElem?_getD, List.getElem?_replicate]
      split <;> rfl
    have hc : (newD z b o a).c i = [] := by
      unfold Dr.c at_ newD
      rw [List.getD_eq_getElem?_getD]
      simp only [List.getElem?_replicate]
      split <;> rfl
    rw [hz, hc]
    rfl
  · have hz : (zAt (newD z b o a).m.zs i).l = 0 := by
      show (zAt (List.replicate z.toNat _) i).l = 0
      unfold zAt
      rw [List.getD_eq_getElem?_getD, List.getElem?_replicate]
      split <;> rfl
    have hl : (newD z b o a).l i = 0 := by
      unfold Dr.l at_ newD
      rw [List.getD_eq_getElem?_getD]
      simp only [List.getElem?_replicate]
      split <;> rfl
    rw [hz, hl]
    decide
theorem Dr.Ok.small {D : Dr} (h : D.Ok) : ∀ i, (D.c i).length ≤ 262144 := fun i => by
  by_cases hi : i < D.m.zs.length
  · have h1 := h.cz i hi
    have h2 := (h.m.at_ hi).2.1
    have h3 := h.m.b2
    omega
  · unfold Dr.c at_
    rw [List.getD_eq_getElem?_getD, List.getElem?_eq_none (by rw [h.cl]; omega)]
    simp
theorem Dr.Ok.few {D : Dr} (h : D.Ok) : D.cs.length ≤ 64 := by rw [h.cl]; exact h.m.z2
theorem Dr.Ok.both {D : Dr} (h : D.Ok) : D.ls.length = D.cs.length := by rw [h.cl, h.ll]
theorem flushD_ok {D : Dr} (h : D.Ok) : (flushD D).Ok := by
  unfold flushD
  split
  · exact h
  · obtain ⟨h1, h2, h3, h4⟩ := settleTo_m D D.cs.length
    have hl := settleTo_l D D.cs.length (by rw [h.both]; exact Nat.le_refl _)
    refine ⟨by rw [h1]; exact h.m, by rw [h1, h2]; exact h.cl, by rw [h1, h4]; exact h.ll, fun i hi => ?_, fun i hi => ?_⟩
    · rw [h1] at hi ⊢
      have e : (settleTo D D.cs.length).c i = D.c i := by unfold Dr.c; rw [h2]
      rw [e]
      exact h.cz i hi
    · rw [h1] at hi ⊢
      have h5 := h.cz i hi
      rw [hl i, if_pos (by rw [h.cl]; exact hi)]
      omega
theorem loseD_at {D : Dr} (h : D.Ok) (ks : List Int) {i : Nat} (hi : i < D.m.zs.length) : (loseD D ks).c i = (D.c i).take (64 * rem D ks i) ∧ (loseD D ks).l i = rem D ks i ∧ (zAt (loseD D ks).m.zs i).l = (rem D ks i : Int) ∧ 64 * rem D ks i ≤ (D.c i).length ∧ D.l i ≤ rem D ks i := by
  have h1 := loseTo_at D ks h.both D.cs.length (Nat.le_refl _) i
  have hic : i < D.cs.length := by rw [h.cl]; exact hi
  rw [if_pos hic, if_pos hic] at h1
  have h2 := h.cz i hi
  have h3 := h.lz i hi
  have h4 := kept_le ks i ((D.c i).length / 64 - D.l i)
  have hr : rem D ks i = D.l i + kept ks i ((D.c i).length / 64 - D.l i) := rfl
  refine ⟨h1.1, h1.2, ?_, by omega, by omega⟩
  obtain ⟨_, _, _, h5⟩ := loseTo_m D ks D.cs.length
  have hil : i < (loseTo D ks D.cs.length).ls.length := by rw [h5, h.both]; exact hic
  have hg : ((loseTo D ks D.cs.length).ls.map fun n : Nat => (n : Int)).getD i 0 = (rem D ks i : Int) := by
    rw [List.getD_eq_getElem?_getD, List.getElem?_map, List.getElem?_eq_getElem hil]
    have h6 := h1.2
    unfold Dr.l at h6
    rw [at_get hil] at h6
    rw [h6]
    rfl
  show (zAt (lostL _ 0 D.m.zs) i).l = _
  rw [lostL_at _ _ _ _ hi, Nat.zero_add, lostZ_l (by rw [List.length_map]; exact hil) (by rw [hg]; omega) (by rw [hg]; omega), hg]
theorem loseD_ok {D : Dr} (h : D.Ok) (ks : List Int) : (loseD D ks).Ok := by
  obtain ⟨h1, h2, h3, h4⟩ := loseTo_m D ks D.cs.length
  have hlen : (loseD D ks).m.zs.length = D.m.zs.length := lostL_len _ _ _
  refine ⟨lost_ok h.m _, by rw [hlen]; exact h3.trans h.cl, by rw [hlen]; exact h4.trans h.ll, fun i hi => ?_, fun i hi => ?_⟩
  · rw [hlen] at hi
    obtain ⟨a1, a2, a3, a4, a5⟩ := loseD_at h ks hi
    rw [a1, a3, List.length_take]
    omega
  · rw [hlen] at hi
    obtain ⟨a1, a2, a3, a4, a5⟩ := loseD_at h ks hi
    rw [a2, a3]
    omega
theorem doM_part {m : Mc} {k zz a n : Int} (h : (doM m k zz a n).2.1 = 0) : 1 ≤ k ∧ k ≤ 7 ∧ 0 ≤ zz ∧ zz < m.zs.length ∧ doM m k zz a n = act m k.toNat zz.toNat a n := by
  unfold doM at h ⊢
  split at h
  · cases h
  rename_i h1
  rw [if_neg h1]
  split at h
  · cases h
  rename_i h2
  rw [if_neg h2]
  have h3 := hasB_iff.1 (show hasB m zz = true by simpa using h2)
  exact ⟨by omega, by omega, h3.1, h3.2, rfl⟩
theorem fits_len {k n : Int} {len : Nat} (h : fits k n len = true) (hk : k = 1 ∨ k = 2) (hn : 0 ≤ n) : (len : Int) = 64 * n := by
  unfold fits at h
  rw [if_pos ⟨by unfold writesB; simp; omega, hn⟩] at h
  have := of_decide_eq_true h
  omega
theorem doM_n {m : Mc} {k zz a n : Int} (h : (doM m k zz a n).2.1 = 0) (hk : k = 1 ∨ k = 2) : 1 ≤ n := by
  have hw : ∀ x y z : Int, ¬ withinB x y z = false → 1 ≤ y := fun x y z h => (within_iff.1 (by simpa using h)).2.1
  obtain ⟨h1, h2, h3, h4, h5⟩ := doM_part h
  rw [h5] at h
  unfold act at h
  rcases hk with rfl | rfl
  · rw [if_pos (by decide)] at h
    unfold wrt at h
    split at h
    · cases h
    rename_i h1
    exact hw _ _ _ h1
  · rw [if_neg (by decide), if_pos (by decide)] at h
    unfold app at h
    split at h
    · cases h
    rename_i h1
    exact hw _ _ _ h1
theorem exec_ok {D : Dr} (h : D.Ok) {k zz a n : Int} {data : List UInt8} (hf : fits k n data.length = true) : (exec D k zz a n data).2.Ok := by
  unfold exec
  by_cases he : (doM D.m k zz a n).2.1 = 0
  · rw [if_pos he]
    obtain ⟨h1, h2, h3, h4, h5⟩ := doM_part he
    have hlen := doM_len D.m k zz a n
    have hok := doM_ok h.m k zz a n
    have hi : zz.toNat < D.m.zs.length := by omega
    have hl := act_l D.m k.toNat zz.toNat a n hi (by rw [← h5]; exact he)
    rw [← h5] at hl
    have hic : zz.toNat < D.cs.length := by rw [h.cl]; exact hi
    have hil : zz.toNat < D.ls.length := by rw [h.ll]; exact hi
    have hk1 : (k.toNat = 1 ∨ k.toNat = 2) ↔ (k = 1 ∨ k = 2) := by omega
    have hk3 : k.toNat = 3 ↔ k = 3 := by omega
    show (turned D k zz.toNat (doM D.m k zz a n).2.2 data).Ok
    generalize hzs : (doM D.m k zz a n).2.2 = zs at hlen hok hl ⊢
    have hzl : (D.m.with zs).zs.length = D.m.zs.length := hlen
    refine ⟨hok, ?_, ?_, fun i hi2 => ?_, fun i hi2 => ?_⟩
    · show (if writesB k = true then _ else _ : List (List UInt8)).length = zs.length
      rw [hlen, ← h.cl]
      split
      · simp
      split
      · simp
      · rfl
    · show (if k = 3 then _ else _ : List Nat).length = zs.length
      rw [hlen, ← h.ll]
      split
      · simp
      split
      · simp
      · rfl
    · have hi3 : i < D.m.zs.length := by have : i < zs.length := hi2; omega
      have hcz := h.cz i hi3
      show ((at_ (if writesB k = true then D.cs.set zz.toNat (D.c zz.toNat ++ data) else if k = 3 then D.cs.set zz.toNat [] else D.cs) i []).length : Int) = 64 * (zAt zs i).l
      rw [hl i hi3]
      by_cases hw : k = 1 ∨ k = 2
      · have hd := fits_len hf hw (by have := doM_n he hw; omega)
        rw [if_pos (show writesB k = true by unfold writesB; simp; omega)]
        by_cases e : i = zz.toNat
        · subst e
          rw [if_pos rfl, if_pos (hk1.2 hw), at_set hic, List.length_append]
          omega
        · rw [if_neg e, at_set_ne (Ne.symm e)]
          exact hcz
      · rw [if_neg (show ¬ writesB k = true by unfold writesB; simp; omega)]
        by_cases h3' : k = 3
        · rw [if_pos h3']
          by_cases e : i = zz.toNat
          · subst e
            rw [if_pos rfl, if_neg (fun h => hw (hk1.1 h)), if_pos (hk3.2 h3'), at_set hic]
            rfl
          · rw [if_neg e, at_set_ne (Ne.symm e)]
            exact hcz
        · rw [if_neg h3', if_neg (fun h => hw (hk1.1 h)), if_neg (fun h => h3' (hk3.1 h)), ite_self]
          exact hcz
    · have hi3 : i < D.m.zs.length := by have : i < zs.length := hi2; omega
      have hlz := h.lz i hi3
      have hcz := h.cz i hi3
      show ((at_ (if k = 3 then D.ls.set zz.toNat 0 else if k = 4 then D.ls.set zz.toNat ((D.c zz.toNat).length / 64) else D.ls) i 0 : Nat) : Int) ≤ (zAt zs i).l
      rw [hl i hi3]
      have hz0 := (h.m.at_ hi3).1
      by_cases h3' : k = 3
      · rw [if_pos h3']
        by_cases e : i = zz.toNat
        · subst e
          rw [if_pos rfl, if_neg (fun h => by have := hk1.1 h; omega), if_pos (hk3.2 h3'), at_set hil]
          decide
        · rw [if_neg e, at_set_ne (Ne.symm e)]
          exact hlz
      · rw [if_neg h3', if_neg (fun h => h3' (hk3.1 h))]
        by_cases h4' : k = 4
        · rw [if_pos h4']
          by_cases e : i = zz.toNat
          · subst e
            rw [if_pos rfl, if_neg (fun h => by have := hk1.1 h; omega), at_set hil]
            omega
          · rw [if_neg e, at_set_ne (Ne.symm e)]
            exact hlz
        · rw [if_neg h4']
          by_cases e : i = zz.toNat
          · rw [if_pos e]
            by_cases hw : k = 1 ∨ k = 2
            · rw [if_pos (hk1.2 hw)]
              have := doM_n he hw
              exact Int.le_trans hlz (by omega)
            · rw [if_neg (fun h => hw (hk1.1 h))]
              exact hlz
          · rw [if_neg e]
            exact hlz
  · rw [if_neg he]
    exact h
theorem doD_ok {D : Dr} (h : D.Ok) (k zz a n : Int) (data : List UInt8) : (doD D k zz a n data).2.Ok := by
  unfold doD
  split
  · exact h
  split
  · rename_i hf
    exact exec_ok h hf
  · exact h
end Go.Proofs.YtpmhfalhieinjaaGreatDoor.Drv
