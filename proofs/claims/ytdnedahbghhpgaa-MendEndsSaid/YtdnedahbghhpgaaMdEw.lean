/- The words of MendEnds. -/
import Derived.Test.YtdnedahbghhpgaaMdP0
import Derived.Test.YtdnedahbghhpgaaMdE
import Derived.Test.YtdnedahbghhpgaaRvW
import Derived.Test.YtdnedahbghhpgaaTlVl
namespace Go.Proofs.Ytdnedahbghhpgaa
open Go.RowKit Tl Pl Md

/-- The view that the law makes: its box lies below the rows. -/
structure LvB (base s : Nat) (A1 : Option Addr) (c1 : Nat) (q : List Int) (m : Int) (B1 : Option Addr) (d1 : Nat) (xs : List (Int × Int)) (W : World) : Prop where
  z : W.heap[s]? = some (.cells #[.slice A1 q.length c1, .int .i64 m, .slice B1 xs.length d1] 31 (0, 0))
  r : inE.Row W base 3 A1 c1 q
  n : ntE.Row W base 48 B1 d1 xs
  ap : ∀ g, A1 = some ⟨g, 0, none⟩ → B1 ≠ some ⟨g, 0, none⟩
  hs : s < base
  hb : base ≤ W.heap.size
section
variable {base s : Nat} {A1 : Option Addr} {c1 : Nat} {q : List Int} {m : Int} {B1 : Option Addr} {d1 : Nat} {xs : List (Int × Int)} {W W1 : World}
theorem LvB.below (h : LvB base s A1 c1 q m B1 d1 xs W) (hb : Below W.heap.size W W1) : LvB base s A1 c1 q m B1 d1 xs W1 :=
  ⟨(hb.block _ (Array.getElem?_eq_some_iff.1 h.z).1).trans h.z, h.r.below hb, h.n.below hb, h.ap, h.hs, Nat.le_trans h.hb hb.size⟩
theorem LvB.vw (h : LvB base s A1 c1 q m B1 d1 xs W) : VwIn W A1 B1 ⟨q, m, xs⟩ := ⟨ints_of h.r.in_, h.n.in_⟩
theorem rowI_own {base' cap n g : Nat} {t : TypeId} {A : Option Addr} {zs : List Int} (h : inE.Row W base' t A cap zs) (e : (Value.slice A n cap).ownBlock = some g) : A = some ⟨g, 0, none⟩ ∧ base' ≤ g := by
  rcases h.form with ⟨rfl, _⟩ | ⟨g', rfl, h2, _⟩
  · simp [Value.ownBlock] at e
  · simp only [Value.ownBlock, Option.some.injEq] at e
    exact ⟨by rw [e], by omega⟩
/-- A length more. -/
theorem LvB.push {A' : Option Addr} {cap' : Nat} {x : Int} (h : LvB base s A1 c1 q m B1 d1 xs W) (hrow : inE.Row W1 base 3 A' cap' (q ++ [x])) (hg : W.grownBy W1 (Value.slice A1 q.length c1).ownBlock) (ho : A' = A1 ∨ A' = some ⟨W.heap.size, 0, none⟩) :
    LvB base s A' cap' (q ++ [x]) m B1 d1 xs (W1.setCell ⟨s, 0, none⟩ (.slice A' (q.length + 1) cap')) ∧ Below s W (W1.setCell ⟨s, 0, none⟩ (.slice A' (q.length + 1) cap')) := by
  have hge : ∀ g, (Value.slice A1 q.length c1).ownBlock = some g → A1 = some ⟨g, 0, none⟩ ∧ base ≤ g := fun g e => rowI_own h.r e
  have hb1 : Below base W W1 := (Below.refl base W).grown hg h.hb (fun k e => (hge k e).2)
  have hz1 := (hb1.block s h.hs).trans h.z
  have hlen : (q ++ [x]).length = q.length + 1 := by simp
  have hne : ∀ {α : Type} {E : Enc α} {t : TypeId} {A : Option Addr} {cap : Nat} {zs : List α}, E.Row W1 base t A cap zs → ∀ g, A = some ⟨g, 0, none⟩ → some s ≠ some g := fun hr g e => rowE_ne hr h.hs g e
  have hn1 := h.n.far hg (fun g e e' => h.ap g (hge g e').1 e)
  refine ⟨⟨?_, hrow.far (grownV W1 s 0 _) (hne hrow), hn1.far (grownV W1 s 0 _) (hne hn1), fun g e e' => ?_, h.hs, ?_⟩, (hb1.mono (Nat.le_of_lt h.hs)).setCell (Nat.le_refl _) _⟩
  · rw [hlen]; exact heap_setV hz1 0 _
  · rcases ho with h1 | h1
    · rw [h1] at e; exact h.ap g e e'
    · rw [h1] at e; injection e with e; injection e with e
      rcases h.n.form with ⟨h2, _⟩ | ⟨g', h2, _, h3, _⟩
      · rw [h2] at e'; cases e'
      · rw [h2] at e'; injection e' with e'; injection e' with e'; omega
  · have := hb1.size; simp only [World.setCell]; simp; exact Nat.le_trans h.hb this
/-- A note more. -/
theorem LvB.more {A' : Option Addr} {cap' : Nat} {y : Int × Int} (h : LvB base s A1 c1 q m B1 d1 xs W) (hrow : ntE.Row W1 base 48 A' cap' (xs ++ [y])) (hg : W.grownBy W1 (Value.slice B1 xs.length d1).ownBlock) (ho : A' = B1 ∨ A' = some ⟨W.heap.size, 0, none⟩) :
    LvB base s A1 c1 q m A' cap' (xs ++ [y]) (W1.setCell ⟨s, 2, none⟩ (.slice A' (xs.length + 1) cap')) ∧ Below s W (W1.setCell ⟨s, 2, none⟩ (.slice A' (xs.length + 1) cap')) := by
  have hge : ∀ g, (Value.slice B1 xs.length d1).ownBlock = some g → B1 = some ⟨g, 0, none⟩ ∧ base ≤ g := fun g e => row_own h.n e
  have hb1 : Below base W W1 := (Below.refl base W).grown hg h.hb (fun k e => (hge k e).2)
  have hz1 := (hb1.block s h.hs).trans h.z
  have hlen : (xs ++ [y]).length = xs.length + 1 := by simp
  have hne : ∀ {α : Type} {E : Enc α} {t : TypeId} {A : Option Addr} {cap : Nat} {zs : List α}, E.Row W1 base t A cap zs → ∀ g, A = some ⟨g, 0, none⟩ → some s ≠ some g := fun hr g e => rowE_ne hr h.hs g e
  have hr1 := h.r.far hg (fun g e e' => h.ap g e (hge g e').1)
  refine ⟨⟨?_, hr1.far (grownV W1 s 2 _) (hne hr1), hrow.far (grownV W1 s 2 _) (hne hrow), fun g e e' => ?_, h.hs, ?_⟩, (hb1.mono (Nat.le_of_lt h.hs)).setCell (Nat.le_refl _) _⟩
  · rw [hlen]; exact heap_setV hz1 2 _
  · rcases ho with h1 | h1
    · rw [h1] at e'; exact h.ap g e e'
    · rw [h1] at e'; injection e' with e'; injection e' with e'
      rcases h.r.form with ⟨h2, _⟩ | ⟨g', h2, _, h3, _⟩
      · rw [h2] at e; cases e
      · rw [h2] at e; injection e with e; injection e with e; omega
  · have := hb1.size; simp only [World.setCell]; simp; exact Nat.le_trans h.hb this
/-- A slot has another length. -/
theorem LvB.set {g : Nat} (h : LvB base s (some ⟨g, 0, none⟩) c1 q m B1 d1 xs W) {i : Nat} (hi : i < q.length) (x : Int) : LvB base s (some ⟨g, 0, none⟩) c1 (q.set i x) m B1 d1 xs (W.setCell ⟨g, i, none⟩ (.int .i64 x)) ∧ Below base W (W.setCell ⟨g, i, none⟩ (.int .i64 x)) := by
  have hr := h.r.store hi x
  have e : Enc.storeAt W g (i * inE.k) (inE.c x) = W.setCell ⟨g, i, none⟩ (.int .i64 x) := by
    show W.setCell ⟨g, i * 1, none⟩ _ = _
    rw [Nat.mul_one]
  rw [e] at hr
  have hg : base ≤ g := by
    rcases h.r.form with ⟨h0, _⟩ | ⟨g', h0, h1, _⟩
    · cases h0
    · injection h0 with h0; injection h0 with h0; omega
  have hs := h.hs
  refine ⟨⟨?_, hr, h.n.far (grownV W g i _) (fun g' e' e'' => by injection e'' with e''; subst e''; exact h.ap _ rfl e'), h.ap, h.hs, ?_⟩, (Below.refl base W).setCell hg _⟩
  · rw [List.length_set]
    exact (Below.heap_setCell W ⟨g, i, none⟩ _ _ (by show s ≠ g; omega)).trans h.z
  · have := h.hb; simp only [World.setCell]; simp; exact this
end
/-- More is written, and no slot has fewer. -/
theorem len_mono_w {wd z r b : Nat} (h : r ≤ b) (s : Int) : len wd z r s ≤ len wd z b s := by
  have h1 : r / wd ≤ b / wd := Nat.div_le_div_right h
  rcases Nat.lt_or_ge (r / wd) (b / wd) with h2 | h2
  · have h3 := (len_bd wd z r s).2
    have h4 := (len_bd wd z b s).1
    have h5 : ((if r % wd = 0 then 0 else 1 : Int)) ≤ 1 := by split <;> omega
    omega
  · have e : r / wd = b / wd := by omega
    unfold len
    by_cases hr : inRow wd z (r / wd) (r % wd) s = true
    · obtain ⟨k, hk, e2⟩ := inRow_iff.1 hr
      have d1 := Nat.div_add_mod r wd
      have d2 := Nat.div_add_mod b wd
      rw [e] at d1
      have : inRow wd z (b / wd) (b % wd) s = true := inRow_iff.2 ⟨k, by omega, by rw [← e]; exact e2⟩
      rw [if_pos hr, if_pos this, e]; omega
    · rw [if_neg hr, e]
      split <;> omega
theorem all_nums (x r : Nat) {V : Int} (hr : (r : Int) ≤ V) (hV : V ≤ 3840) : ∃ (d : Int) (y b : Nat), IntKind.i64.wrap (V - (r : Int)) = d ∧ wrap64 (V - (r : Int)) = d ∧ IntKind.i64.wrap (d + 1) = d + 1 ∧ wrap64 (d + 1) = d + 1 ∧ ¬ d + 1 = 0 ∧ ¬ d + 1 = -1 ∧ (x : Int).tmod (d + 1) = (y : Int) ∧ IntKind.i64.wrap (y : Int) = (y : Int) ∧ IntKind.i64.wrap ((r : Int) + (y : Int)) = (b : Int) ∧ wrap64 ((r : Int) + (y : Int)) = (b : Int) ∧ r ≤ b ∧ (b : Int) ≤ V := by
  have h0 : 0 ≤ V - (r : Int) := by omega
  have h1 := Int.tmod_lt_of_pos (x : Int) (show 0 < V - (r : Int) + 1 by omega)
  have h2 : 0 ≤ (x : Int).tmod (V - (r : Int) + 1) := by rw [Int.tmod_eq_emod_of_nonneg (by omega)]; exact Int.emod_nonneg _ (by omega)
  obtain ⟨y, hy⟩ := Int.eq_ofNat_of_zero_le h2
  rw [hy] at h1
  refine ⟨V - (r : Int), y, r + y, IntWalk.i64_in _ (by omega), IntWalk.wrap64_in _ (by omega), IntWalk.i64_in _ (by omega), IntWalk.wrap64_in _ (by omega), by omega, by omega, hy, IntWalk.i64_in _ (by omega), ?_, ?_, by omega, by omega⟩
  · rw [IntWalk.i64_in _ (by omega)]; omega
  · rw [IntWalk.wrap64_in _ (by omega)]; omega
/-- A length between two. -/
theorem keep_nums (k : Nat) {a b : Int} (h0 : 0 ≤ a) (h1 : a ≤ b) (h2 : b ≤ 5000) : ∃ (d e : Int) (y : Nat) (x : Int), IntKind.i64.wrap (b - a) = d ∧ wrap64 (b - a) = d ∧ IntKind.i64.wrap (d + 1) = e ∧ wrap64 (d + 1) = e ∧ ¬ e = 0 ∧ ¬ e = -1 ∧ (k : Int).tmod e = (y : Int) ∧ IntKind.i64.wrap (y : Int) = (y : Int) ∧ IntKind.i64.wrap (a + (y : Int)) = x ∧ wrap64 (a + (y : Int)) = x ∧ a ≤ x ∧ x ≤ b := by
  have h3 := Int.tmod_lt_of_pos (k : Int) (show 0 < b - a + 1 by omega)
  have h4 : 0 ≤ (k : Int).tmod (b - a + 1) := by rw [Int.tmod_eq_emod_of_nonneg (by omega)]; exact Int.emod_nonneg _ (by omega)
  obtain ⟨y, hy⟩ := Int.eq_ofNat_of_zero_le h4
  rw [hy] at h3
  refine ⟨b - a, b - a + 1, y, a + (y : Int), IntWalk.i64_in _ (by omega), IntWalk.wrap64_in _ (by omega), IntWalk.i64_in _ (by omega), IntWalk.wrap64_in _ (by omega), by omega, by omega, hy, IntWalk.i64_in _ (by omega), IntWalk.i64_in _ (by omega), IntWalk.wrap64_in _ (by omega), by omega, by omega⟩
theorem lenAt_nat (ls : List Int) (m : Int) (ns : List (Int × Int)) (s : Nat) : lenAt ⟨ls, m, ns⟩ (s : Int) = ls.getD s 0 := by
  unfold lenAt
  rw [Int.toNat_natCast]
theorem mod_nat {i n : Nat} (hi : i ≤ 1000) : (i : Int).tmod (n : Int) = ((i % n : Nat) : Int) ∧ IntKind.i64.wrap ((i % n : Nat) : Int) = ((i % n : Nat) : Int) := by
  have : i % n ≤ i := Nat.mod_le _ _
  refine ⟨rfl, IntWalk.i64_in _ (by omega)⟩
end Go.Proofs.Ytdnedahbghhpgaa
