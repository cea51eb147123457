/- What is to be done behind a loss of power can be done. -/
import Derived.Test.YtdjdldcpaidmnaaMdM
import Derived.Test.YtdjdldcpaidmnaaTlLn
namespace Go.Proofs.Ytdjdldcpaidmnaa
namespace Md
open Tl Pl
/-- By what a block is told, of rows of wd blocks. -/
theorem src_sl {wd z b : Nat} {D : Int} (hD : D = (wd : Int) + 1) (v : Vw) : srcIn D (z : Int) v (b : Int) =
    if hasB v ((b / wd : Nat) : Int) (sl wd z b) = true then (1, 0)
    else if sl wd z b ≠ v.m then (0, 0)
    else if (reach v D (z : Int) ((b / wd : Nat) : Int) : Int) = (wd : Int) ∧ hasB v ((b / wd : Nat) : Int) (par wd z (b / wd)) = true then (2, 0)
    else if lastI (noteP v D (z : Int) ((b / wd : Nat) : Int) ((b % wd : Nat) : Int)) v.ns < 0 then (0, 0)
    else (3, lastI (noteP v D (z : Int) ((b / wd : Nat) : Int) ((b % wd : Nat) : Int)) v.ns) := by
  subst hD
  unfold srcIn
  rw [show (wd : Int) + 1 - 1 = (wd : Int) by omega]
  rfl
/-- A block that was written lies in its slot. -/
theorem len_gt {wd z b k : Nat} (h : k < b) : ((k / wd : Nat) : Int) < len wd z b (sl wd z k) := by
  have h1 := (len_bd wd z b (sl wd z k)).1
  have h2 : k / wd ≤ b / wd := Nat.div_le_div_right (by omega)
  rcases Nat.lt_or_ge (k / wd) (b / wd) with h3 | h3
  · omega
  · have e : k / wd = b / wd := by omega
    have m1 := Nat.div_add_mod k wd
    have m2 := Nat.div_add_mod b wd
    rw [e] at m1
    have : inRow wd z (b / wd) (b % wd) (sl wd z k) = true := inRow_iff.2 ⟨k % wd, by omega, by unfold sl; rw [e]⟩
    unfold len
    rw [if_pos this, e]; omega
theorem len_nn (w z b : Nat) (s : Int) : 0 ≤ len w z b s := Int.le_trans (Int.natCast_nonneg _) (len_bd w z b s).1
/-- All that the law knows of a view behind a loss of power. -/
structure Lost (D Z B O A : Int) (wd z a b : Nat) (v : Vw) : Prop where
  hD : D = (wd : Int) + 1
  g : GoodP D Z B O A
  hz : (z : Int) ≤ Z - 4
  hab : a ≤ b
  hb : (b : Int) ≤ (wd : Int) * B
  hl : v.ls.length = wd + 1
  m0 : -1 ≤ v.m
  m1 : v.m < D
  lo : ∀ s : Int, 0 ≤ s → s < (wd : Int) + 1 → len wd z a s ≤ lenAt v s
  hi : ∀ s : Int, 0 ≤ s → s < (wd : Int) + 1 → lenAt v s ≤ len wd z b s
  ns : v.ns = if 0 < a % wd ∧ par wd z (a / wd) ≠ v.m then [(((a / wd : Nat) : Int), ((a % wd : Nat) : Int))] else []
namespace Lost
variable {D Z B O A : Int} {wd z a b : Nat} {v : Vw}
theorem hw (h : Lost D Z B O A wd z a b v) : 2 ≤ wd := by
  have h1 := h.g.1
  have h2 := h.hD
  omega
theorem ok (h : Lost D Z B O A wd z a b v) : okB D B v = true := by
  have hw := h.hw
  refine decide_eq_true ⟨by rw [h.hl, h.hD]; rfl, h.m0, h.m1, fun x hx => ?_⟩
  obtain ⟨i, hi, rfl⟩ := List.getElem_of_mem hx
  have hi2 : i < wd + 1 := by rw [← h.hl]; exact hi
  have l1 := h.lo (i : Int) (by omega) (by omega)
  have l2 := h.hi (i : Int) (by omega) (by omega)
  have e : lenAt v (i : Int) = v.ls[i] := by
    unfold lenAt
    rw [Int.toNat_natCast, List.getD_eq_getElem?_getD, List.getElem?_eq_getElem hi]; rfl
  rw [e] at l1 l2
  have l3 := len_nn wd z a (i : Int)
  have l4 := len_rows (wd := wd) (z := z) (r := b) (B := B) (by omega) h.hb (i : Int)
  omega
theorem src (h : Lost D Z B O A wd z a b v) {k : Nat} (hk : (k : Int) < (wd : Int) * B) : srcV D Z B O A (z : Int) v (k : Int) = srcIn D (z : Int) v (k : Int) := by
  have hp := plB_mk h.g (Int.natCast_nonneg z) h.hz (Int.natCast_nonneg k) (show (k : Int) < (D - 1) * B by rw [h.hD, show (wd : Int) + 1 - 1 = (wd : Int) by omega]; exact hk)
  unfold srcV
  rw [if_pos (by rw [hp, h.ok]; rfl)]
theorem cap (h : Lost D Z B O A wd z a b v) : ((capV D Z B O A).toNat : Int) = (wd : Int) * B := by
  have := capV_bd D Z B O A
  rw [Int.toNat_of_nonneg this.1, capV_good h.g, h.hD, show (wd : Int) + 1 - 1 = (wd : Int) by omega]
theorem slk (h : Lost D Z B O A wd z a b v) (r k : Nat) : 0 ≤ slotK D (z : Int) (r : Int) k ∧ slotK D (z : Int) (r : Int) k < (wd : Int) + 1 := by
  have h1 := h.hw
  have h2 := h.hD
  have := slotK_bd (D := D) (zone := (z : Int)) (row := (r : Int)) (by omega) k
  omega
/-- All that was sure is told. -/
theorem ge (h : Lost D Z B O A wd z a b v) : a ≤ lenV D Z B O A (z : Int) v := by
  have hw := h.hw
  have hcap := h.cap
  have hb := h.hb
  have hab := h.hab
  unfold lenV
  refine lead_ge (by omega) fun k hk => decide_eq_true ?_
  rw [h.src (by omega), src_sl h.hD]
  by_cases h1 : hasB v ((k / wd : Nat) : Int) (sl wd z k) = true
  · rw [if_pos h1]; decide
  rw [if_neg h1]
  have hs := sl_bd wd z k
  have hm : sl wd z k = v.m := by
    refine Decidable.not_not.1 fun hne => h1 (decide_eq_true ⟨hne, ?_⟩)
    have l1 := h.lo _ hs.1 hs.2
    have l2 := len_gt (wd := wd) (z := z) hk
    omega
  rw [if_neg (by rw [hm]; simp)]
  have hpm : par wd z (k / wd) ≠ v.m := by rw [← hm]; exact (par_ne (by omega)).symm
  have hpb := par_bd wd z (k / wd)
  have hkd : k / wd ≤ a / wd := Nat.div_le_div_right (by omega)
  rcases Nat.lt_or_ge (k / wd) (a / wd) with hlt | hge
  · have hall : ∀ s : Int, 0 ≤ s → s < (wd : Int) + 1 → ((k / wd : Nat) : Int) < lenAt v s := fun s s0 s1 => by
      have l1 := h.lo s s0 s1
      have l2 := (len_bd wd z a s).1
      omega
    rw [if_pos]
    · decide
    · constructor
      · have : reach v D (z : Int) ((k / wd : Nat) : Int) = (D - 1).toNat := by
          unfold reach
          refine lead_eq (Nat.le_refl _) (fun j hj => ?_) (fun hj => absurd hj (Nat.lt_irrefl _))
          have hk2 := h.slk (k / wd) j
          rw [Bool.or_eq_true]
          by_cases e : slotK D (z : Int) ((k / wd : Nat) : Int) j = v.m
          · exact .inl (decide_eq_true e)
          · exact .inr (decide_eq_true ⟨e, hall _ hk2.1 hk2.2⟩)
        rw [this, h.hD]; omega
      · exact decide_eq_true ⟨hpm, hall _ hpb.1 hpb.2⟩
  · have e : k / wd = a / wd := by omega
    have d1 := Nat.div_add_mod k wd
    have d2 := Nat.div_add_mod a wd
    rw [e] at d1
    have hmod : k % wd < a % wd := by omega
    have hns := h.ns
    rw [if_pos ⟨by omega, by rw [← e]; exact hpm⟩] at hns
    split
    · decide
    · have hml := Nat.mod_lt a (show 0 < wd by omega)
      have hr : a % wd ≤ reach v D (z : Int) ((a / wd : Nat) : Int) := by
        unfold reach
        refine lead_ge (by have := h.hD; omega) fun j hj => ?_
        have hk2 := h.slk (a / wd) j
        rw [Bool.or_eq_true]
        by_cases e2 : slotK D (z : Int) ((a / wd : Nat) : Int) j = v.m
        · exact .inl (decide_eq_true e2)
        · refine .inr (decide_eq_true ⟨e2, ?_⟩)
          have l1 := h.lo _ hk2.1 hk2.2
          have : inRow wd z (a / wd) (a % wd) (slotK D (z : Int) ((a / wd : Nat) : Int) j) = true := inRow_iff.2 ⟨j, hj, by rw [h.hD]⟩
          unfold len at l1
          rw [if_pos this] at l1
          omega
      have hnp : noteP v D (z : Int) ((k / wd : Nat) : Int) ((k % wd : Nat) : Int) (((a / wd : Nat) : Int), ((a % wd : Nat) : Int)) = true := by
        refine decide_eq_true ⟨by rw [e], by show ((k % wd : Nat) : Int) < ((a % wd : Nat) : Int); omega, ?_⟩
        show ((a % wd : Nat) : Int) ≤ _
        rw [e]; omega
      rw [if_neg]
      · show (3 : Int) ≠ 0
        decide
      · intro hneg
        rcases lastI_at (noteP v D (z : Int) ((k / wd : Nat) : Int) ((k % wd : Nat) : Int)) v.ns with ⟨_, h3⟩ | ⟨i, h3, _⟩
        · have := h3 (((a / wd : Nat) : Int), ((a % wd : Nat) : Int)) (by rw [hns]; simp)
          rw [hnp] at this; cases this
        · omega
/-- Nothing that was not written is told. -/
theorem le (h : Lost D Z B O A wd z a b v) : lenV D Z B O A (z : Int) v ≤ b := by
  have hw := h.hw
  have hcap := h.cap
  rcases Nat.lt_or_ge b (lenV D Z B O A (z : Int) v) with hlt | hge
  · exfalso
    have h0 := lead_all _ _ b hlt
    have hle : lenV D Z B O A (z : Int) v ≤ _ := lead_le _ _
    have h1 := of_decide_eq_true h0
    apply h1
    rw [h.src (by omega), src_sl h.hD]
    have hs := sl_bd wd z b
    have l1 := h.hi _ hs.1 hs.2
    rw [len_sl (by omega)] at l1
    rw [if_neg (fun hh => by have := (of_decide_eq_true hh).2; omega)]
    split
    · rfl
    · have hpb := par_bd wd z (b / wd)
      have l2 := h.hi _ hpb.1 hpb.2
      rw [len_par (by omega)] at l2
      rw [if_neg (fun hh => by have := (of_decide_eq_true hh.2).2; omega)]
      rw [if_pos]
      rcases lastI_at (noteP v D (z : Int) ((b / wd : Nat) : Int) ((b % wd : Nat) : Int)) v.ns with ⟨h3, _⟩ | ⟨i, _, hi, h4, _⟩
      · omega
      · exfalso
        have h5 := of_decide_eq_true h4
        have h6 : v.ns[i] = (((a / wd : Nat) : Int), ((a % wd : Nat) : Int)) := by
          have hmem := List.getElem_mem hi
          have hns := h.ns
          generalize v.ns[i] = x at hmem ⊢
          split at hns
          · rw [hns] at hmem
            simpa using hmem
          · rw [hns] at hmem; cases hmem
        rw [h6] at h5
        have h7 : ((a / wd : Nat) : Int) = ((b / wd : Nat) : Int) := h5.1
        have h8 : ((b % wd : Nat) : Int) < ((a % wd : Nat) : Int) := h5.2.1
        have d1 := Nat.div_add_mod a wd
        have d2 := Nat.div_add_mod b wd
        have e : a / wd = b / wd := by omega
        have hab := h.hab
        rw [e] at d1
        omega
  · exact hge
/-- A block that is told lies in its slot, unless that is missing. -/
theorem direct (h : Lost D Z B O A wd z a b v) {k : Nat} (hk : k < lenV D Z B O A (z : Int) v) (hm : sl wd z k ≠ v.m) : ((k / wd : Nat) : Int) < lenAt v (sl wd z k) := by
  have hcap := h.cap
  have h0 := of_decide_eq_true (lead_all _ _ k hk)
  have hle : lenV D Z B O A (z : Int) v ≤ _ := lead_le _ _
  rw [h.src (by omega), src_sl h.hD] at h0
  by_cases h1 : hasB v ((k / wd : Nat) : Int) (sl wd z k) = true
  · exact (of_decide_eq_true h1).2
  · rw [if_neg h1, if_pos hm] at h0
    exact absurd rfl h0
theorem spot (h : Lost D Z B O A wd z a b v) {r k : Nat} (hk : k < wd) (hr : r * wd + k < lenV D Z B O A (z : Int) v) (hm : slotK D (z : Int) (r : Int) k ≠ v.m) : (r : Int) < lenAt v (slotK D (z : Int) (r : Int) k) := by
  have hw := h.hw
  obtain ⟨e1, e2⟩ := base_div (q := r) (show 0 < wd by omega) hk
  have e : sl wd z (r * wd + k) = slotK D (z : Int) (r : Int) k := by unfold sl; rw [e1, e2, h.hD]
  have := h.direct hr (by rw [e]; exact hm)
  rw [e, e1] at this
  exact this
/-- What a slot may want. -/
theorem near (h : Lost D Z B O A wd z a b v) {s : Int} (h0 : 0 ≤ s) (h1 : s < (wd : Int) + 1) (hm : s ≠ v.m) :
    len wd z (lenV D Z B O A (z : Int) v) s ≤ lenAt v s ∨
    (s = par wd z (lenV D Z B O A (z : Int) v / wd - 1) ∧ 1 ≤ lenV D Z B O A (z : Int) v / wd ∧ len wd z (lenV D Z B O A (z : Int) v) s = ((lenV D Z B O A (z : Int) v / wd : Nat) : Int) ∧ ((lenV D Z B O A (z : Int) v / wd : Nat) : Int) - 1 ≤ lenAt v s) := by
  have hw := h.hw
  have hD := h.hD
  have hsp := fun r k hk hr => h.spot (r := r) (k := k) hk hr
  have l0 := h.lo s h0 h1
  have l1 := len_nn wd z a s
  generalize lenV D Z B O A (z : Int) v = n at hsp ⊢
  have d := Nat.div_add_mod n wd
  have hcm := Nat.mul_comm wd (n / wd)
  by_cases hr : inRow wd z (n / wd) (n % wd) s = true
  · left
    obtain ⟨k, hk, e⟩ := inRow_iff.1 hr
    rw [← hD] at e
    have hlt := Nat.mod_lt n (show 0 < wd by omega)
    have := hsp (n / wd) k (by omega) (by omega) (by rw [e]; exact hm)
    rw [e] at this
    unfold len
    rw [if_pos hr]; omega
  · have eL : len wd z n s = ((n / wd : Nat) : Int) := by unfold len; rw [if_neg hr]; omega
    rw [eL]
    rcases Nat.eq_zero_or_pos (n / wd) with hf | hf
    · left; omega
    · obtain ⟨f, hf2⟩ : ∃ f, n / wd = f + 1 := ⟨n / wd - 1, by omega⟩
      rw [hf2] at d hcm ⊢
      have hfm : (f + 1) * wd = f * wd + wd := Nat.succ_mul f wd
      rcases slotK_all (D := D) (zone := (z : Int)) (row := (f : Int)) h0 (by omega) with e | ⟨k, hk, e⟩
      · right
        refine ⟨by rw [e, hD]; rfl, by omega, rfl, ?_⟩
        rcases Nat.eq_zero_or_pos f with hg | hg
        · omega
        · obtain ⟨g, rfl⟩ : ∃ g, f = g + 1 := ⟨f - 1, by omega⟩
          have hgm : (g + 1) * wd = g * wd + wd := Nat.succ_mul g wd
          rcases slotK_all (D := D) (zone := (z : Int)) (row := (g : Int)) h0 (by omega) with e2 | ⟨k, hk, e2⟩
          · exfalso
            have hx : ((z : Int) + ((g + 1 : Nat) : Int)) % D = ((z : Int) + (g : Int)) % D := by rw [← e, ← e2]
            have hy : (((z : Int) + ((g + 1 : Nat) : Int)) - ((z : Int) + (g : Int))) % D = 0 := by rw [Int.sub_emod, hx, Int.sub_self]; rfl
            rw [show ((z : Int) + ((g + 1 : Nat) : Int)) - ((z : Int) + (g : Int)) = 1 by omega, Int.emod_eq_of_lt (by omega) (by omega)] at hy
            cases hy
          · have := hsp g k (by omega) (by omega) (by rw [e2]; exact hm)
            rw [e2] at this
            omega
      · left
        have := hsp f k (by omega) (by omega) (by rw [e]; exact hm)
        rw [e] at this
        omega
end Lost
/-- A slot has more than is wanted. -/
def tooMuch (want ls : List Int) (m : Int) (n : Nat) : Prop := ∃ s : Nat, s < n ∧ (s : Int) ≠ m ∧ want.getD s 0 < ls.getD s 0
/-- What is to be done: nothing, or a parity is to be written, which is then all; or a slot has more than is wanted. -/
theorem Lost.dec {D Z B O A : Int} {wd z a b : Nat} {v : Vw} (h : Lost D Z B O A wd z a b v) (n : Nat) (hn : lenV D Z B O A (z : Int) v = n) (par' : Int) (hp : 1 ≤ n / wd → par' = par wd z (n / wd - 1)) (d : Dd)
    (hd : decV (lens wd z n) v.ls v.m (wd + 1) (n : Int) (((n / wd : Nat) : Int) - 1) par' = d) :
    (d.k = 0 ∧ ∀ s : Nat, s < wd + 1 → bad (lens wd z n) v.ls v.m s = false) ∨
    (d.k = 1 ∧ ∃ p : Nat, d.s = (p : Int) ∧ par' = (p : Int) ∧ p < wd + 1 ∧ (p : Int) ≠ v.m ∧ 1 ≤ n / wd ∧ d.r = ((n / wd : Nat) : Int) - 1 ∧ v.ls.getD p 0 = d.r ∧ ∀ s : Nat, s < wd + 1 → bad (lens wd z n) (v.ls.set p (v.ls.getD p 0 + 1)) v.m s = false) ∨
    (2 ≤ d.k ∧ (d.k = 3 → n = 0) ∧ tooMuch (lens wd z n) v.ls v.m (wd + 1)) := by
  have hw := h.hw
  have hnear := fun s h0 h1 hm => h.near (s := s) h0 h1 hm
  rw [hn] at hnear
  have hat : ∀ s : Nat, s < wd + 1 → (lens wd z n).getD s 0 = len wd z n (s : Int) := fun s hs => by
    have hs2 : s < (lens wd z n).length := by rw [lens_len]; exact hs
    rw [List.getD_eq_getElem?_getD, List.getElem?_eq_getElem hs2, Option.getD_some, lens_at hs2]
  have hla : ∀ s : Nat, lenAt v (s : Int) = v.ls.getD s 0 := fun s => by unfold lenAt; rw [Int.toNat_natCast]
  -- none has too much: then none is wrong but the parity's slot
  have key : ¬ tooMuch (lens wd z n) v.ls v.m (wd + 1) → ∀ s : Nat, s < wd + 1 → bad (lens wd z n) v.ls v.m s = true → 1 ≤ n / wd ∧ (s : Int) = par' ∧ (lens wd z n).getD s 0 = ((n / wd : Nat) : Int) ∧ v.ls.getD s 0 = ((n / wd : Nat) : Int) - 1 := by
    intro hno s hs hb
    have hb2 := of_decide_eq_true hb
    have hle : v.ls.getD s 0 ≤ (lens wd z n).getD s 0 := by
      rcases Int.lt_or_le ((lens wd z n).getD s 0) (v.ls.getD s 0) with h1 | h1
      · exact absurd ⟨s, hs, hb2.1, h1⟩ hno
      · exact h1
    have := hnear (s : Int) (by omega) (by omega) hb2.1
    rw [hla, ← hat s hs] at this
    rcases this with h1 | ⟨h1, h2, h3, h4⟩
    · exact absurd (by omega) hb2.2
    · have hne := hb2.2
      exact ⟨h2, by rw [hp h2]; exact h1, h3, by omega⟩
  by_cases hno : tooMuch (lens wd z n) v.ls v.m (wd + 1)
  · obtain ⟨s, hs, hsm, hgt⟩ := hno
    have hb : bad (lens wd z n) v.ls v.m s = true := decide_eq_true ⟨hsm, by omega⟩
    right; right
    subst hd
    unfold decV
    rw [if_neg (fun e => by have := unl_of_nil e s hs; rw [hb] at this; cases this)]
    by_cases h0 : (n : Int) = 0
    · rw [if_pos h0]; exact ⟨by show (2 : Int) ≤ 3; decide, fun _ => by omega, s, hs, hsm, hgt⟩
    · rw [if_neg h0, if_neg]
      · exact ⟨by show (2 : Int) ≤ 2; decide, fun e => absurd e (by show ¬ (2 : Int) = 3; decide), s, hs, hsm, hgt⟩
      · rintro ⟨e1, e2⟩
        obtain ⟨t, t1, t2, t3, t4⟩ := unl_one_of e1
        have : s = t := Decidable.not_not.1 fun hne => by rw [t4 s hs hne] at hb; cases hb
        subst this
        rw [t1, Int.toNat_natCast] at e2
        omega
  · have hk := key hno
    by_cases hnil : unl (lens wd z n) v.ls v.m (wd + 1) = []
    · left
      subst hd
      unfold decV
      rw [if_pos hnil]
      exact ⟨rfl, unl_of_nil hnil⟩
    · right; left
      obtain ⟨p, hp1, hp2⟩ : ∃ p, p < wd + 1 ∧ bad (lens wd z n) v.ls v.m p = true := by
        refine Decidable.not_not.1 fun hne => hnil (unl_nil fun s hs => ?_)
        cases hb : bad (lens wd z n) v.ls v.m s with
        | false => rfl
        | true => exact absurd ⟨s, hs, hb⟩ hne
      obtain ⟨k1, k2, k3, k4⟩ := hk p hp1 hp2
      have hone : ∀ t, t < wd + 1 → t ≠ p → bad (lens wd z n) v.ls v.m t = false := fun t ht hne => by
        cases hb : bad (lens wd z n) v.ls v.m t with
        | false => rfl
        | true => have := (hk t ht hb).2.1; omega
      have hu : unl (lens wd z n) v.ls v.m (wd + 1) = [par'] := by rw [unl_one hp1 hp2 hone, k2]
      have hn0 : ¬ (n : Int) = 0 := by
        intro e
        have : n = 0 := by omega
        rw [this, Nat.zero_div] at k1; omega
      subst hd
      unfold decV
      rw [if_neg hnil, if_neg hn0, if_pos ⟨hu, by rw [← k2, Int.toNat_natCast]; omega⟩]
      refine ⟨rfl, p, k2.symm, k2.symm, hp1, (of_decide_eq_true hp2).1, k1, rfl, k4, fun s hs => ?_⟩
      by_cases e : s = p
      · subst e
        refine decide_eq_false ?_
        have hsl : s < v.ls.length := by rw [h.hl]; exact hs
        rw [List.getD_eq_getElem?_getD, List.getElem?_set_self hsl, Option.getD_some]
        omega
      · have := hone s hs e
        unfold bad at this ⊢
        rw [List.getD_eq_getElem?_getD (l := v.ls.set _ _), List.getElem?_set_ne (by omega), ← List.getD_eq_getElem?_getD]
        exact this
/-- Where nothing was written since, nothing is to be done. -/
theorem Lost.same {D Z B O A : Int} {wd z a : Nat} {v : Vw} (h : Lost D Z B O A wd z a a v) (s : Nat) (hs : s < wd + 1) : bad (lens wd z a) v.ls v.m s = false := by
  refine decide_eq_false fun hb => hb.2 ?_
  have l1 := h.lo (s : Int) (by omega) (by omega)
  have l2 := h.hi (s : Int) (by omega) (by omega)
  have hs2 : s < (lens wd z a).length := by rw [lens_len]; exact hs
  rw [List.getD_eq_getElem?_getD (l := lens wd z a), List.getElem?_eq_getElem hs2, Option.getD_some, lens_at hs2]
  unfold lenAt at l1 l2
  rw [Int.toNat_natCast] at l1 l2
  omega
end Md
end Go.Proofs.Ytdjdldcpaidmnaa
