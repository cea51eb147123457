/- A drive of two zones of which the second is written. -/
import Derived.Test.YtncbkegflkjlfaaDrvOne
namespace Go.Proofs.Ytncbkegflkjlfaa.Drv
open Zon

def rdS (l : Int) : Int := if l = 0 then 0 else if l = 120 then 4 else 1
def rdM (l : Int) : Mc := ⟨[⟨0, 0⟩, ⟨rdS l, l⟩], 120, 2, 2⟩
def rdD (l : Int) (c : List UInt8) : Dr := ⟨rdM l, [[], c], [0, 0], false⟩
theorem rd_new : newD 2 120 2 2 = rdD 0 [] := rfl
theorem doM_rdw (l N : Int) (hl : 0 ≤ l) (hN : 1 ≤ N) (hb : l + N ≤ 120) : doM (rdM l) 1 1 l N = (l, 0, (rdM (l + N)).zs) := by
  have hw : withinB l N 120 = true := within_iff.2 (by omega)
  have hs4 : ¬ rdS l = 4 := by unfold rdS; rw [if_neg (show ¬ l = 120 by omega)]; split <;> decide
  have had : admit (rdM l) 1 = (0, (rdM l).zs) := by
    unfold admit
    show (if openB (rdS l) = true then _ else if rdS l = 0 ∧ (2 : Int) ≤ _ then _ else if _ < (2 : Int) then _ else _) = _
    unfold rdS
    by_cases h0 : l = 0
    · rw [if_pos h0, if_neg (by decide)]
      subst h0
      rfl
    · rw [if_neg h0, if_neg (show ¬ l = 120 by omega), if_pos (by decide)]
  unfold doM
  rw [if_neg (by omega), if_neg (show ¬ hasB (rdM l) 1 = false by rw [show hasB (rdM l) 1 = true from hasB_iff.2 ⟨by omega, by show (1 : Int) < ((2 : Nat) : Int); decide⟩]; simp)]
  show act _ 1 1 l N = _
  unfold act
  rw [if_pos rfl]
  unfold wrt
  rw [if_neg (show ¬ withinB l N (rdM l).b = false by show ¬ withinB l N 120 = false; rw [hw]; simp), if_neg (show ¬ (zAt (rdM l).zs 1).s = 4 from hs4), if_neg (show ¬ l ≠ (zAt (rdM l).zs 1).l from fun h => h rfl)]
  unfold ext
  rw [had, if_pos rfl]
  show (l, (0 : Int), ([⟨0, 0⟩, extZ 120 N ⟨rdS l, l⟩] : List Zn)) = (l, 0, [⟨0, 0⟩, ⟨rdS (l + N), l + N⟩])
  unfold extZ
  have hs2 : ¬ rdS l = 2 := by unfold rdS; rw [if_neg (show ¬ l = 120 by omega)]; split <;> decide
  rw [if_neg (show ¬ (Zn.mk (rdS l) l).s = 2 from hs2)]
  have e : (if l + N = 120 then (4 : Int) else 1) = rdS (l + N) := by
    unfold rdS
    rw [if_neg (show ¬ l + N = 0 by omega)]
  show (l, (0 : Int), ([⟨0, 0⟩, ⟨if l + N = 120 then 4 else 1, l + N⟩] : List Zn)) = _
  rw [e]
theorem doD_rdw (l N : Int) (c data : List UInt8) (hl : 0 ≤ l) (hN : 1 ≤ N) (hb : l + N ≤ 120) (hd : (data.length : Int) = 64 * N) : doD (rdD l c) 1 1 l N data = (([], l, 0), rdD (l + N) (c ++ data)) := by
  have hdm := doM_rdw l N hl hN hb
  have hf : fits 1 N data.length = true := by
    unfold fits
    rw [if_pos ⟨rfl, by omega⟩]
    exact decide_eq_true (by omega)
  unfold doD
  rw [if_neg (show ¬ (rdD l c).dead = true by simp [rdD]), if_pos hf]
  unfold exec
  show (if (doM (rdM l) 1 1 l N).2.1 = 0 then _ else _) = _
  rw [hdm, if_pos rfl]
  show ((_, (doM (rdM l) 1 1 l N).1, _), turned _ 1 1 (doM (rdM l) 1 1 l N).2.2 data) = _
  rw [hdm]
  rfl
theorem doD_rdr (l a n : Int) (c : List UInt8) : doD (rdD l c) 7 1 a n [] = if withinB a n l = true then ((cut c a n, a, 0), rdD l c) else (([], 0, 2), rdD l c) := by
  have hdm : doM (rdM l) 7 1 a n = if withinB a n l = true then (a, 0, (rdM l).zs) else (0, 2, (rdM l).zs) := by
    unfold doM
    rw [if_neg (by omega), if_neg (show ¬ hasB (rdM l) 1 = false by rw [show hasB (rdM l) 1 = true from hasB_iff.2 ⟨by omega, by show (1 : Int) < ((2 : Nat) : Int); decide⟩]; simp)]
    rfl
  unfold doD
  rw [if_neg (show ¬ (rdD l c).dead = true by simp [rdD]), if_pos (show fits 7 n ([] : List UInt8).length = true by unfold fits; rw [if_neg (by intro h; exact absurd h.1 (by decide))]; rfl)]
  unfold exec
  by_cases hw : withinB a n l = true
  · rw [if_pos hw] at hdm ⊢
    rw [if_pos (show (doM (rdD l c).m 7 1 a n).2.1 = 0 by show (doM (rdM l) 7 1 a n).2.1 = 0; rw [hdm])]
    show ((cut c (doM (rdM l) 7 1 a n).1 n, (doM (rdM l) 7 1 a n).1, _), turned _ 7 1 (doM (rdM l) 7 1 a n).2.2 []) = _
    rw [hdm]
    rfl
  · rw [if_neg hw] at hdm ⊢
    rw [if_neg (show ¬ (doM (rdD l c).m 7 1 a n).2.1 = 0 by show ¬ (doM (rdM l) 7 1 a n).2.1 = 0; rw [hdm]; show ¬ (2 : Int) = 0; decide)]
    show (([], _, (doM (rdM l) 7 1 a n).2.1), _) = _
    rw [hdm]
end Go.Proofs.Ytncbkegflkjlfaa.Drv
