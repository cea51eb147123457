/- A drive of which the first zone alone is written. -/
import Derived.Test.YtncbkegflkjlfaaDrvOk
namespace Go.Proofs.Ytncbkegflkjlfaa.Drv
open Zon

def zM (m : Nat) (b o a s l : Int) : Mc := ⟨⟨s, l⟩ :: List.replicate m ⟨0, 0⟩, b, o, a⟩
def zD (m : Nat) (b o a s l : Int) (c : List UInt8) (n : Nat) : Dr := ⟨zM m b o a s l, c :: List.replicate m [], n :: List.replicate m 0, false⟩
theorem newD_zD (m : Nat) (b o a : Int) : newD ((m + 1 : Nat) : Int) b o a = zD m b o a 0 0 [] 0 := by
  unfold newD newM zD zM
  rw [Int.toNat_natCast]
  rfl
theorem nAct_z (m : Nat) (s l : Int) : nAct (⟨s, l⟩ :: List.replicate m ⟨0, 0⟩) = if actB s = true then 1 else 0 := by
  unfold nAct
  rw [List.countP_cons, List.countP_replicate]
  have : actB (Zn.mk 0 0).s = false := rfl
  rw [this]
  simp
theorem nOpen_z (m : Nat) (s l : Int) : nOpen (⟨s, l⟩ :: List.replicate m ⟨0, 0⟩) = if openB s = true then 1 else 0 := by
  unfold nOpen
  rw [List.countP_cons, List.countP_replicate]
  have : openB (Zn.mk 0 0).s = false := rfl
  rw [this]
  simp
theorem admit_z (m : Nat) (b o a s l : Int) (hs : s = 0 ∨ s = 1 ∨ s = 3) (ho : 1 ≤ o) (ha : 1 ≤ a) : admit (zM m b o a s l) 0 = (0, (zM m b o a s l).zs) := by
  unfold admit
  show (if openB s = true then _ else if s = 0 ∧ a ≤ _ then _ else if _ < o then _ else _) = _
  rcases hs with rfl | rfl | rfl
  · rw [if_neg (by decide), show (nAct (zM m b o a 0 l).zs : Int) = 0 by unfold zM; rw [nAct_z]; rfl, if_neg (by omega), show (nOpen (zM m b o a 0 l).zs : Int) = 0 by unfold zM; rw [nOpen_z]; rfl, if_pos (by omega)]
  · rw [if_pos (by decide)]
  · rw [if_neg (by decide), if_neg (by omega), show (nOpen (zM m b o a 3 l).zs : Int) = 0 by unfold zM; rw [nOpen_z]; rfl, if_pos (by omega)]
theorem doM_append (m : Nat) (b o a s l N : Int) (hs : s = 0 ∨ s = 1 ∨ s = 3) (ho : 1 ≤ o) (ha : 1 ≤ a) (hl : 0 ≤ l) (hN : 1 ≤ N) (hb : l + N < b) : doM (zM m b o a s l) 2 0 0 N = (l, 0, (zM m b o a 1 (l + N)).zs) := by
  have h1 : hasB (zM m b o a s l) 0 = true := hasB_iff.2 ⟨by omega, by show (0 : Int) < ((_ :: List.replicate m _ : List Zn).length : Int); rw [List.length_cons]; omega⟩
  have hw : withinB 0 N b = true := within_iff.2 (by omega)
  have hw2 : withinB l N b = true := within_iff.2 (by omega)
  unfold doM
  rw [if_neg (by omega), if_neg (by rw [h1]; simp)]
  show act _ 2 0 0 N = _
  unfold act
  rw [if_neg (by decide), if_pos rfl]
  unfold app
  rw [if_neg (show ¬ withinB 0 N (zM m b o a s l).b = false by show ¬ withinB 0 N b = false; rw [hw]; simp), if_neg (show ¬ (zAt (zM m b o a s l).zs 0).s = 4 by show ¬ s = 4; omega),
    if_neg (show ¬ withinB (zAt (zM m b o a s l).zs 0).l N (zM m b o a s l).b = false by show ¬ withinB l N b = false; rw [hw2]; simp)]
  unfold ext
  rw [admit_z m b o a s l hs ho ha, if_pos rfl]
  show (l, (0 : Int), (extZ b N ⟨s, l⟩ :: List.replicate m ⟨0, 0⟩ : List Zn)) = _
  unfold extZ
  rw [if_neg (by show ¬ l + N = b; omega), if_neg (by show ¬ s = 2; omega)]
  rfl
theorem doD_append (m : Nat) (b o a s l N : Int) (c : List UInt8) (n : Nat) (data : List UInt8) (hs : s = 0 ∨ s = 1 ∨ s = 3) (ho : 1 ≤ o) (ha : 1 ≤ a) (hl : 0 ≤ l) (hN : 1 ≤ N) (hb : l + N < b) (hd : (data.length : Int) = 64 * N) :
    doD (zD m b o a s l c n) 2 0 0 N data = (([], l, 0), zD m b o a 1 (l + N) (c ++ data) n) := by
  have hdm := doM_append m b o a s l N hs ho ha hl hN hb
  have hf : fits 2 N data.length = true := by
    unfold fits
    rw [if_pos ⟨rfl, by omega⟩]
    exact decide_eq_true (by omega)
  unfold doD
  rw [if_neg (show ¬ (zD m b o a s l c n).dead = true by simp [zD]), if_pos hf]
  unfold exec
  show (if (doM (zM m b o a s l) 2 0 0 N).2.1 = 0 then _ else _) = _
  rw [hdm, if_pos rfl]
  show ((_, (doM (zM m b o a s l) 2 0 0 N).1, _), turned _ 2 0 (doM (zM m b o a s l) 2 0 0 N).2.2 data) = _
  rw [hdm]
  rfl
theorem settle_z (m : Nat) : ∀ k, k ≤ m + 1 → ∀ (b o a s l : Int) (c : List UInt8) (n : Nat), settleTo (zD m b o a s l c n) k = zD m b o a s l c (if k = 0 then n else c.length / 64)
  | 0, _, b, o, a, s, l, c, n => rfl
  | 1, _, b, o, a, s, l, c, n => rfl
  | k + 2, hk, b, o, a, s, l, c, n => by
    rw [settleTo, settle_z m (k + 1) (by omega) b o a s l c n, if_neg (by omega), if_neg (by omega)]
    unfold settle zD
    congr 1
    show (c.length / 64) :: (List.replicate m 0).set k _ = _
    congr 1
    have e : (Dr.c ⟨zM m b o a s l, c :: List.replicate m [], c.length / 64 :: List.replicate m 0, false⟩ (k + 1)) = [] := by
      show at_ (c :: List.replicate m []) (k + 1) [] = []
      unfold at_
      rw [List.getD_eq_getElem?_getD, List.getElem?_cons_succ, List.getElem?_replicate]
      split <;> rfl
    rw [e]
    show (List.replicate m 0).set k 0 = _
    refine List.ext_getElem (by simp) fun i h1 h2 => ?_
    simp
theorem flush_z (m : Nat) (b o a s l : Int) (c : List UInt8) (n : Nat) : flushD (zD m b o a s l c n) = zD m b o a s l c (c.length / 64) := by
  unfold flushD
  rw [if_neg (show ¬ (zD m b o a s l c n).dead = true by simp [zD])]
  have e : (zD m b o a s l c n).cs.length = m + 1 := by simp [zD]
  rw [e, settle_z m (m + 1) (by omega), if_neg (by omega)]
/-- One zone, behind a loss of power. -/
theorem lose_z (b o a s l : Int) (c : List UInt8) (n : Nat) (ks : List Int) (hs : (s = 0 ∧ l = 0) ∨ s = 1 ∨ s = 3) (hc : (c.length : Int) = 64 * l) (hn : (n : Int) ≤ l) :
    ∃ r : Nat, r = n + kept ks 0 (c.length / 64 - n) ∧ n ≤ r ∧ (r : Int) ≤ l ∧ loseD (zD 0 b o a s l c n) ks = zD 0 b o a (if (r : Int) = 0 then 0 else 3) r (c.take (64 * r)) r := by
  have hk := kept_le ks 0 (c.length / 64 - n)
  refine ⟨n + kept ks 0 (c.length / 64 - n), rfl, by omega, by omega, ?_⟩
  have hr : rem (zD 0 b o a s l c n) ks 0 = n + kept ks 0 (c.length / 64 - n) := rfl
  generalize n + kept ks 0 (c.length / 64 - n) = r at hr hk ⊢
  have hrl : (r : Int) ≤ l := by
    have := kept_le ks 0 (c.length / 64 - n)
    have h0 : rem (zD 0 b o a s l c n) ks 0 = n + kept ks 0 (c.length / 64 - n) := rfl
    omega
  show Dr.mk (Mc.with _ [lostZ [((rem (zD 0 b o a s l c n) ks 0 : Nat) : Int)] 0 ⟨s, l⟩]) [c.take (64 * rem (zD 0 b o a s l c n) ks 0)] [rem (zD 0 b o a s l c n) ks 0] false = _
  rw [hr]
  have hz : lostZ [(r : Int)] 0 ⟨s, l⟩ = ⟨if (r : Int) = 0 then 0 else 3, r⟩ := by
    unfold lostZ
    show (if (0 : Nat) < 1 ∧ 0 ≤ (r : Int) ∧ (r : Int) < l then shutZ ⟨3, (r : Int)⟩ else if actB s = true then shutZ ⟨s, l⟩ else ⟨s, l⟩) = _
    by_cases h : (r : Int) < l
    · rw [if_pos (show (0 : Nat) < 1 ∧ 0 ≤ (r : Int) ∧ (r : Int) < l from ⟨by omega, by omega, h⟩)]
      rfl
    · rw [if_neg (show ¬ ((0 : Nat) < 1 ∧ 0 ≤ (r : Int) ∧ (r : Int) < l) from fun h' => h h'.2.2)]
      have e : (r : Int) = l := by omega
      rw [e]
      rcases hs with ⟨rfl, rfl⟩ | rfl | rfl
      · rfl
      · rfl
      · rfl
  rw [hz]
  rfl
theorem doM_readz (m : Nat) (b o a s l x N : Int) : doM (zM m b o a s l) 7 0 x N = if withinB x N l = true then (x, 0, (zM m b o a s l).zs) else (0, 2, (zM m b o a s l).zs) := by
  have h1 : hasB (zM m b o a s l) 0 = true := hasB_iff.2 ⟨by omega, by show (0 : Int) < ((_ :: List.replicate m _ : List Zn).length : Int); rw [List.length_cons]; omega⟩
  unfold doM
  rw [if_neg (by omega), if_neg (by rw [h1]; simp)]
  rfl
theorem doD_read (m : Nat) (b o a s l x N : Int) (c : List UInt8) (n : Nat) : doD (zD m b o a s l c n) 7 0 x N [] = if withinB x N l = true then ((cut c x N, x, 0), zD m b o a s l c n) else (([], 0, 2), zD m b o a s l c n) := by
  have hdm := doM_readz m b o a s l x N
  unfold doD
  rw [if_neg (show ¬ (zD m b o a s l c n).dead = true by simp [zD]), if_pos (show fits 7 N ([] : List UInt8).length = true by unfold fits; rw [if_neg (by intro h; exact absurd h.1 (by decide))]; rfl)]
  unfold exec
  by_cases hw : withinB x N l = true
  · rw [if_pos hw] at hdm ⊢
    rw [if_pos (show (doM (zD m b o a s l c n).m 7 0 x N).2.1 = 0 by show (doM (zM m b o a s l) 7 0 x N).2.1 = 0; rw [hdm])]
    show ((cut c (doM (zM m b o a s l) 7 0 x N).1 N, (doM (zM m b o a s l) 7 0 x N).1, _), turned _ 7 0 (doM (zM m b o a s l) 7 0 x N).2.2 []) = _
    rw [hdm]
    rfl
  · rw [if_neg hw] at hdm ⊢
    rw [if_neg (show ¬ (doM (zD m b o a s l c n).m 7 0 x N).2.1 = 0 by show ¬ (doM (zM m b o a s l) 7 0 x N).2.1 = 0; rw [hdm]; show ¬ (2 : Int) = 0; decide)]
    show (([], _, (doM (zM m b o a s l) 7 0 x N).2.1), _) = _
    rw [hdm]
theorem cut_all (c : List UInt8) (l : Int) (h : (c.length : Int) = 64 * l) : cut c 0 l = c := by
  unfold cut
  rw [show (64 * (0 : Int)).toNat = 0 by rfl, List.drop_zero, show (64 * l).toNat = c.length by omega, List.take_length]
end Go.Proofs.Ytncbkegflkjlfaa.Drv
