/- Several drives of which the first zones alone are written. -/
import Derived.Test.YtncbkegflkjlfaaDrvFam
import Derived.Test.YtncbkegflkjlfaaDrvOne
namespace Go.Proofs.Ytncbkegflkjlfaa
open Go.RowKit Zon Drv

/-- A drive with so many blocks in its first zone, of which so many last. -/
def Kz (m : Nat) (b o a : Int) (D : Dr) (l n : Nat) : Prop := ∃ (s : Int) (S : List UInt8), D = zD m b o a s l S n ∧ S.length = 64 * l ∧ n ≤ l ∧ ((s = 0 ∧ (l : Int) = 0) ∨ s = 1 ∨ s = 3) ∧ D.Ok
/-- Such drives. -/
def Fm (m : Nat) (b o a : Int) (w W : World) (K : Nat → Prop) (n : Nat) (d : Nat → Nat) (L N : Nat → Nat) : Prop := ∃ D, Fam w W K n d D ∧ ∀ i, i < n → Kz m b o a (D i) (L i) (N i)
section
variable {m : Nat} {b o a : Int} {w W : World} {K : Nat → Prop} {n : Nat} {d : Nat → Nat} {L N : Nat → Nat}
theorem Fm.base (h : Fm m b o a w W K n d L N) : Below w.heap.size w W := by
  obtain ⟨D, h, _⟩ := h
  exact h.b
theorem Fm.below {W' : World} {K' : Nat → Prop} (h : Fm m b o a w W K n d L N) (hb : Below W.heap.size W W') (hK : ∀ x, K' x → K x ∨ W.heap.size ≤ x) (hl : ∀ x, K' x → x < W'.heap.size) : Fm m b o a w W' K' n d L N := by
  obtain ⟨D, h, h2⟩ := h
  exact ⟨D, h.below hb hK hl, h2⟩
theorem Fm.below' {W' : World} (h : Fm m b o a w W K n d L N) (hb : Below W.heap.size W W') : Fm m b o a w W' K n d L N := by
  obtain ⟨D, h, h2⟩ := h
  exact ⟨D, h.below' hb, h2⟩
theorem fm_upd {D : Nat → Dr} {W' : World} {D' : Dr} {i l' n' : Nat} (hF : Fam w W' K n d (upd D i D')) (h2 : ∀ i, i < n → Kz m b o a (D i) (L i) (N i)) (hD : Kz m b o a D' l' n') : Fm m b o a w W' K n d (upd L i l') (upd N i n') := by
  refine ⟨_, hF, fun j hj => ?_⟩
  by_cases e : j = i
  · subst e; rw [upd_same, upd_same, upd_same]; exact hD
  · rw [upd_ne D e, upd_ne L e, upd_ne N e]; exact h2 j hj
theorem upd_id {α : Type} (f : Nat → α) (i : Nat) : upd f i (f i) = f := by
  funext j
  unfold upd
  split
  · rename_i e; rw [e]
  · rfl
theorem fm_new (W : World) (h : Fm m b o a w W K n d L N) (hok : newOk ((m + 1 : Nat) : Int) b o a = true) :
    Calls Try.prog 13 #[.int .i64 ((m + 1 : Nat) : Int), .int .i64 b, .int .i64 o, .int .i64 a] W fun e w' => ∃ x, e = .returned (.tuple #[.pointer (some ⟨x, 0, none⟩), .int .i64 0]) ∧ Fm m b o a w w' K (n + 1) (upd d n x) (upd L n 0) (upd N n 0) ∧ Below W.heap.size W w' := by
  obtain ⟨D, h, h2⟩ := h
  refine (fam_new W _ b o a h hok).mono ?_
  rintro e w1 ⟨x, rfl, h3, h4⟩
  refine ⟨x, rfl, ⟨_, h3, fun j hj => ?_⟩, h4⟩
  by_cases e : j = n
  · subst e
    rw [upd_same, upd_same, upd_same]
    exact ⟨0, [], newD_zD m b o a, rfl, Nat.le_refl _, .inl ⟨rfl, rfl⟩, newD_ok hok⟩
  · rw [upd_ne D e, upd_ne L e, upd_ne N e]
    exact h2 j (by omega)
theorem fm_append (W : World) (i x : Nat) (y : Int) (T : ByteArray) (h : Fm m b o a w W K n d L N) (hi : i < n) (hx : d i = x) (ho : 1 ≤ o) (ha : 1 ≤ a) (hy : 1 ≤ y) (hT : (T.size : Int) = 64 * y) (hl : (L i : Int) + y < b) (hs : y ≤ 4096) :
    Calls Try.prog 21 #[.pointer (some ⟨x, 0, none⟩), .agg #[.int .i64 2, .int .i64 0, .int .i64 0, .int .i64 y], .string T] W fun e w' =>
      e = .returned (.tuple #[.string ⟨#[]⟩, .int .i64 (L i : Int), .int .i64 0]) ∧ Fm m b o a w w' K n d (upd L i (L i + y.toNat)) N ∧ SameK W w' K := by
  obtain ⟨D, h, h2⟩ := h
  obtain ⟨s, S, hD, hS, hn, hst, hok⟩ := h2 i hi
  have hd : (T.data.toList.length : Int) = 64 * y := hT
  have hap := doD_append m b o a s (L i) y S (N i) T.data.toList (by omega) ho ha (by omega) hy hl hd
  have hok2 := doD_ok hok 2 0 0 y T.data.toList
  have hc := fam_do W i 2 0 0 y T h hi hok (by decide) (by omega)
  rw [hD, hap, hx] at hc
  rw [hD, hap] at hok2
  refine hc.mono ?_
  rintro e w1 ⟨h3, h4, h5⟩
  refine ⟨h3, ?_, h5⟩
  have el : (L i : Int) + y = ((L i + y.toNat : Nat) : Int) := by omega
  rw [el] at h4 hok2
  have h6 := fm_upd (L := L) (N := N) h4 h2 (l' := L i + y.toNat) (n' := N i) ⟨1, S ++ T.data.toList, rfl, by rw [List.length_append]; omega, by omega, .inr (.inl rfl), hok2⟩
  rwa [upd_id] at h6
theorem fm_flush (W : World) (i x : Nat) (h : Fm m b o a w W K n d L N) (hi : i < n) (hx : d i = x) :
    Calls Try.prog 15 #[.pointer (some ⟨x, 0, none⟩)] W fun e w' => e = .returned (.int .i64 0) ∧ Fm m b o a w w' K n d L (upd N i (L i)) ∧ SameK W w' K := by
  obtain ⟨D, h, h2⟩ := h
  obtain ⟨s, S, hD, hS, hn, hst, hok⟩ := h2 i hi
  have hok2 := flushD_ok hok
  have hc := fam_flush W i h hi hok
  have hq : S.length / 64 = L i := by omega
  rw [hD, flush_z, hq, hx] at hc
  rw [hD, flush_z, hq] at hok2
  refine hc.mono ?_
  rintro e w1 ⟨h3, h4, h5⟩
  refine ⟨h3, ?_, h5⟩
  have h6 := fm_upd (L := L) (N := N) h4 h2 (l' := L i) (n' := L i) ⟨s, S, rfl, hS, Nat.le_refl _, hst, hok2⟩
  rwa [upd_id] at h6
theorem fm_zone (W : World) (i x : Nat) (h : Fm m b o a w W K n d L N) (hi : i < n) (hx : d i = x) :
    Calls Try.prog 24 #[.pointer (some ⟨x, 0, none⟩), .int .i64 0] W fun e w' => ∃ s : Int, e = .returned (.tuple #[.agg #[.int .i64 s, .int .i64 (L i : Int)], .bool true]) ∧ Below W.heap.size W w' := by
  obtain ⟨D, h, h2⟩ := h
  obtain ⟨s, S, hD, hS, hn, hst, hok⟩ := h2 i hi
  have hc := fam_zone W i 0 h hi
  rw [hD, hx] at hc
  refine hc.mono ?_
  rintro e w1 ⟨h3, h4⟩
  have h1 : hasB (zD m b o a s (L i) S (N i)).m 0 = true := Zon.hasB_iff.2 ⟨by omega, by show (0 : Int) < ((_ :: List.replicate m _ : List Zn).length : Int); rw [List.length_cons]; omega⟩
  unfold getM at h3
  rw [h1] at h3
  exact ⟨s, h3, h4⟩
theorem fm_lasts (W : World) (i x : Nat) (h : Fm m b o a w W K n d L N) (hi : i < n) (hx : d i = x) :
    Calls Try.prog 25 #[.pointer (some ⟨x, 0, none⟩), .int .i64 0] W fun e w' => e = .returned (.int .i64 (N i : Int)) ∧ W = w' := by
  obtain ⟨D, h, h2⟩ := h
  obtain ⟨s, S, hD, hS, hn, hst, hok⟩ := h2 i hi
  have hc := fam_lasts W i 0 h hi
  rw [hD, hx] at hc
  have h1 : lastsD (zD m b o a s (L i) S (N i)) 0 = (N i : Int) := by
    unfold lastsD
    rw [if_pos ⟨by omega, by show (0 : Int) < ((_ :: List.replicate m _ : List Nat).length : Int); rw [List.length_cons]; omega⟩]
    rfl
  rw [h1] at hc
  exact hc
end
/-- Of one zone. -/
theorem fm_lose {b o a : Int} {w : World} {K : Nat → Prop} {n : Nat} {d : Nat → Nat} {L N : Nat → Nat} (W : World) (i x : Nat) (A : Option Addr) (cap : Nat) (ks : List Int) (h : Fm 0 b o a w W K n d L N) (hi : i < n) (hx : d i = x) (hob : b = 200 ∧ o = 1 ∧ a = 1) (hI : IntsIn W A ks)
    (hA : ks ≠ [] → ∀ b off, A = some ⟨b, off, none⟩ → b < w.heap.size ∨ K b) (hq : ∀ x ∈ ks, -9223372036854775808 ≤ x ∧ x ≤ 9223372036854775807) (hl : ks.length ≤ maxLen) (r : Nat) (hr : r = N i + kept ks 0 (L i - N i)) :
    Calls Try.prog 17 #[.pointer (some ⟨x, 0, none⟩), .slice A ks.length cap] W fun e w' => e = .returned (.tuple #[]) ∧ Fm 0 b o a w w' K n d (upd L i r) (upd N i r) ∧ SameK W w' K := by
  obtain ⟨rfl, rfl, rfl⟩ := hob
  obtain ⟨D, h, h2⟩ := h
  obtain ⟨s, S, hD, hS, hn, hst, hok⟩ := h2 i hi
  obtain ⟨r', hr', hr1, hr2, hr3⟩ := lose_z 200 1 1 s (L i) S (N i) ks hst (by omega) (by omega)
  have hrr : r' = r := by rw [hr', hr, show S.length / 64 = L i by omega]
  subst hrr
  have hok2 := loseD_ok hok ks
  have hc := fam_lose W i A cap ks h hi hok hI hA hq hl
  rw [hD, hr3, hx] at hc
  rw [hD, hr3] at hok2
  refine hc.mono ?_
  rintro e w1 ⟨h3, h4, h5⟩
  refine ⟨h3, fm_upd (L := L) (N := N) h4 h2 ⟨_, _, rfl, by rw [List.length_take]; omega, Nat.le_refl _, ?_, hok2⟩, h5⟩
  by_cases h0 : (r' : Int) = 0
  · rw [if_pos h0]; exact .inl ⟨rfl, h0⟩
  · rw [if_neg h0]; exact .inr (.inr rfl)
end Go.Proofs.Ytncbkegflkjlfaa
