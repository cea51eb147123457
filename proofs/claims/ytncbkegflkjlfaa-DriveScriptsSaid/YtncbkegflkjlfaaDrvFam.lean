/- Several drives of the call's own, apart from one another and from what else is to stay. -/
import Derived.Test.YtncbkegflkjlfaaDrvOwn
namespace Go.Proofs.Ytncbkegflkjlfaa
open Go.RowKit Zon Drv

def upd {α : Type} (f : Nat → α) (i : Nat) (x : α) : Nat → α := fun j => if j = i then x else f j
theorem upd_same {α : Type} (f : Nat → α) (i : Nat) (x : α) : upd f i x i = x := if_pos rfl
theorem upd_ne {α : Type} (f : Nat → α) {i j : Nat} (h : j ≠ i) (x : α) : upd f i x j = f j := if_neg h
/-- The blocks of K are as they were. -/
def SameK (W W' : World) (K : Nat → Prop) : Prop := W.heap.size ≤ W'.heap.size ∧ ∀ x, x < W.heap.size → K x → W'.heap[x]? = W.heap[x]?
theorem SameK.refl (W : World) (K : Nat → Prop) : SameK W W K := ⟨Nat.le_refl _, fun _ _ _ => rfl⟩
theorem SameK.cell {W W' : World} {K : Nat → Prop} (h : SameK W W' K) {b o : Nat} {v : Value} (hc : W.cell? ⟨b, o, none⟩ = some v) (hb : K b) : W'.cell? ⟨b, o, none⟩ = some v := (same_cell (h.2 b (lt_of_cell hc) hb)).trans hc
/-- n drives, made since w. -/
structure Fam (w W : World) (K : Nat → Prop) (n : Nat) (d : Nat → Nat) (D : Nat → Dr) : Prop where
  ex : ∃ F : Nat → Nat → Prop, (∀ i, i < n → DAt W (F i) (d i) (D i)) ∧ (∀ i j, i < n → j < n → i ≠ j → ∀ x, F i x → ¬ F j x) ∧ (∀ i, i < n → ∀ x, F i x → w.heap.size ≤ x ∧ x < W.heap.size ∧ ¬ K x)
  kb : ∀ x, K x → x < W.heap.size
  b : Below w.heap.size w W
theorem Fam.none_ {w W : World} {K : Nat → Prop} (d : Nat → Nat) (D : Nat → Dr) (hb : Below w.heap.size w W) (hk : ∀ x, K x → x < W.heap.size) : Fam w W K 0 d D :=
  ⟨⟨fun _ _ => False, fun _ hi => absurd hi (Nat.not_lt_zero _), fun _ _ hi => absurd hi (Nat.not_lt_zero _), fun _ hi => absurd hi (Nat.not_lt_zero _)⟩, hk, hb⟩
/-- Memory has grown; other blocks are to stay. -/
theorem Fam.below {w W W' : World} {K K' : Nat → Prop} {n : Nat} {d : Nat → Nat} {D : Nat → Dr} (h : Fam w W K n d D) (hb : Below W.heap.size W W') (hK : ∀ x, K' x → K x ∨ W.heap.size ≤ x) (hl : ∀ x, K' x → x < W'.heap.size) : Fam w W' K' n d D := by
  obtain ⟨⟨F, h1, h2, h3⟩, _, h4⟩ := h
  refine ⟨⟨F, fun i hi => (h1 i hi).below hb, h2, fun i hi x hx => ?_⟩, hl, h4.trans (hb.mono h4.size)⟩
  obtain ⟨a1, a2, a3⟩ := h3 i hi x hx
  refine ⟨a1, Nat.lt_of_lt_of_le a2 hb.size, fun hk => ?_⟩
  rcases hK x hk with h | h
  · exact a3 h
  · omega
theorem Fam.below' {w W W' : World} {K : Nat → Prop} {n : Nat} {d : Nat → Nat} {D : Nat → Dr} (h : Fam w W K n d D) (hb : Below W.heap.size W W') : Fam w W' K n d D :=
  h.below hb (fun _ hx => .inl hx) (fun x hx => Nat.lt_of_lt_of_le (h.kb x hx) hb.size)
/-- One drive's turn. -/
theorem fam_core {w W W' : World} {K : Nat → Prop} {n : Nat} {d : Nat → Nat} {D : Nat → Dr} {F : Nat → Nat → Prop} {F' : Nat → Prop} {D' : Dr} {i : Nat} (h1 : ∀ i, i < n → DAt W (F i) (d i) (D i)) (h2 : ∀ i j, i < n → j < n → i ≠ j → ∀ x, F i x → ¬ F j x)
    (h3 : ∀ i, i < n → ∀ x, F i x → w.heap.size ≤ x ∧ x < W.heap.size ∧ ¬ K x) (hk : ∀ x, K x → x < W.heap.size) (hb : Below w.heap.size w W) (hi : i < n) (hD : DAt W' F' (d i) D') (hF : ∀ b, F' b → F i b ∨ W.heap.size ≤ b) (ht : Turn W W' (F i)) :
    Fam w W' K n d (upd D i D') ∧ SameK W W' K := by
  refine ⟨⟨⟨upd F i (fun b => F' b ∧ b < W'.heap.size), fun j hj => ?_, fun j k hj hk2 hjk x hx => ?_, fun j hj x hx => ?_⟩, fun x hx => Nat.lt_of_lt_of_le (hk x hx) ht.size, hb.trans (ht.below (fun x hx => (h3 i hi x hx).1) hb.size)⟩, ht.size, fun x hx hkx => ht.block x hx fun hf => (h3 i hi x hf).2.2 hkx⟩
  · by_cases e : j = i
    · subst e
      rw [upd_same, upd_same]
      exact hD.bound
    · rw [upd_ne F e, upd_ne D e]
      exact (h1 j hj).turn ht (h2 j i hj hi e)
  · by_cases e : j = i
    · subst e
      rw [upd_same] at hx
      rw [upd_ne F (Ne.symm hjk)]
      intro hf
      rcases hF x hx.1 with h | h
      · exact h2 j k hj hk2 hjk x h hf
      · have := (h3 k hk2 x hf).2.1; omega
    · rw [upd_ne F e] at hx
      by_cases e2 : k = i
      · subst e2
        rw [upd_same]
        intro hf
        rcases hF x hf.1 with h | h
        · exact h2 j k hj hk2 hjk x hx h
        · have := (h3 j hj x hx).2.1; omega
      · rw [upd_ne F e2]
        exact h2 j k hj hk2 hjk x hx
  · by_cases e : j = i
    · subst e
      rw [upd_same] at hx
      rcases hF x hx.1 with h | h
      · obtain ⟨a1, a2, a3⟩ := h3 j hj x h
        exact ⟨a1, hx.2, a3⟩
      · exact ⟨Nat.le_trans hb.size h, hx.2, fun hkx => by have := hk x hkx; omega⟩
    · rw [upd_ne F e] at hx
      obtain ⟨a1, a2, a3⟩ := h3 j hj x hx
      exact ⟨a1, Nat.lt_of_lt_of_le a2 ht.size, a3⟩

section
variable {w : World} {K : Nat → Prop} {n : Nat} {d : Nat → Nat} {D : Nat → Dr}
theorem fam_new (W : World) (z b o a : Int) (h : Fam w W K n d D) (hok : newOk z b o a = true) :
    Calls Try.prog 13 #[.int .i64 z, .int .i64 b, .int .i64 o, .int .i64 a] W fun e w' => ∃ x, e = .returned (.tuple #[.pointer (some ⟨x, 0, none⟩), .int .i64 0]) ∧ Fam w w' K (n + 1) (upd d n x) (upd D n (newD z b o a)) ∧ Below W.heap.size W w' := by
  obtain ⟨⟨F, h1, h2, h3⟩, hk, hb⟩ := h
  refine (dnew_good z b o a W hok).mono ?_
  rintro e w1 ⟨x, G, rfl, hD, hG, hb1⟩
  refine ⟨x, rfl, ⟨⟨upd F n (fun y => G y ∧ y < w1.heap.size), fun j hj => ?_, fun j k hj hk2 hjk y hy => ?_, fun j hj y hy => ?_⟩, fun y hy => Nat.lt_of_lt_of_le (hk y hy) hb1.size, hb.trans (hb1.mono hb.size)⟩, hb1⟩
  · by_cases e : j = n
    · subst e
      rw [upd_same, upd_same, upd_same]
      exact hD.bound
    · rw [upd_ne F e, upd_ne d e, upd_ne D e]
      exact (h1 j (by omega)).below hb1
  · by_cases e : j = n
    · subst e
      rw [upd_same] at hy
      rw [upd_ne F (Ne.symm hjk)]
      intro hf
      have := (h3 k (by omega) y hf).2.1
      have := hG y hy.1
      omega
    · rw [upd_ne F e] at hy
      by_cases e2 : k = n
      · subst e2
        rw [upd_same]
        intro hf
        have := (h3 j (by omega) y hy).2.1
        have := hG y hf.1
        omega
      · rw [upd_ne F e2]
        exact h2 j k (by omega) (by omega) hjk y hy
  · by_cases e : j = n
    · subst e
      rw [upd_same] at hy
      exact ⟨Nat.le_trans hb.size (hG y hy.1), hy.2, fun hky => by have := hk y hky; have := hG y hy.1; omega⟩
    · rw [upd_ne F e] at hy
      obtain ⟨a1, a2, a3⟩ := h3 j (by omega) y hy
      exact ⟨a1, Nat.lt_of_lt_of_le a2 hb1.size, a3⟩
theorem fam_do (W : World) (i : Nat) (k zz a x : Int) (s : ByteArray) (h : Fam w W K n d D) (hi : i < n) (hok : (D i).Ok) (ha : a ≤ 9223372036854775807) (hs : s.size ≤ 9223372036854775807) :
    Calls Try.prog 21 #[.pointer (some ⟨d i, 0, none⟩), .agg #[.int .i64 k, .int .i64 zz, .int .i64 a, .int .i64 x], .string s] W fun e w' =>
      e = .returned (.tuple #[.string ⟨(doD (D i) k zz a x s.data.toList).1.1.toArray⟩, .int .i64 (doD (D i) k zz a x s.data.toList).1.2.1, .int .i64 (doD (D i) k zz a x s.data.toList).1.2.2]) ∧ Fam w w' K n d (upd D i (doD (D i) k zz a x s.data.toList).2) ∧ SameK W w' K := by
  obtain ⟨⟨F, h1, h2, h3⟩, hk, hb⟩ := h
  refine (ddo_any W (F i) (d i) (D i) k zz a x s (h1 i hi) hok ha hs).mono ?_
  rintro e w1 ⟨h4, ⟨F', h5, h6⟩, h7⟩
  exact ⟨h4, fam_core h1 h2 h3 hk hb hi h5 h6 h7⟩
theorem fam_flush (W : World) (i : Nat) (h : Fam w W K n d D) (hi : i < n) (hok : (D i).Ok) :
    Calls Try.prog 15 #[.pointer (some ⟨d i, 0, none⟩)] W fun e w' => e = .returned (.int .i64 (if (D i).dead = true then 7 else 0)) ∧ Fam w w' K n d (upd D i (flushD (D i))) ∧ SameK W w' K := by
  obtain ⟨⟨F, h1, h2, h3⟩, hk, hb⟩ := h
  refine (dflush_any W (F i) (d i) (D i) (h1 i hi) hok.both hok.small hok.few).mono ?_
  rintro e w1 ⟨h4, h5, h6⟩
  exact ⟨h4, fam_core h1 h2 h3 hk hb hi h5 (fun _ hb => .inl hb) h6⟩
theorem fam_die (W : World) (i : Nat) (h : Fam w W K n d D) (hi : i < n) :
    Calls Try.prog 19 #[.pointer (some ⟨d i, 0, none⟩)] W fun e w' => e = .returned (.tuple #[]) ∧ Fam w w' K n d (upd D i { D i with dead := true }) ∧ SameK W w' K := by
  obtain ⟨⟨F, h1, h2, h3⟩, hk, hb⟩ := h
  refine (die_any W (F i) (d i) (D i) (h1 i hi)).mono ?_
  rintro e w1 ⟨h4, h5, h6⟩
  exact ⟨h4, fam_core h1 h2 h3 hk hb hi h5 (fun _ hb => .inl hb) h6⟩
/-- The list came in, or is one of the blocks that stay. -/
theorem fam_lose (W : World) (i : Nat) (A : Option Addr) (cap : Nat) (ks : List Int) (h : Fam w W K n d D) (hi : i < n) (hok : (D i).Ok) (hI : IntsIn W A ks) (hA : ks ≠ [] → ∀ b off, A = some ⟨b, off, none⟩ → b < w.heap.size ∨ K b)
    (hq : ∀ x ∈ ks, -9223372036854775808 ≤ x ∧ x ≤ 9223372036854775807) (hl : ks.length ≤ maxLen) :
    Calls Try.prog 17 #[.pointer (some ⟨d i, 0, none⟩), .slice A ks.length cap] W fun e w' => e = .returned (.tuple #[]) ∧ Fam w w' K n d (upd D i (loseD (D i) ks)) ∧ SameK W w' K := by
  obtain ⟨⟨F, h1, h2, h3⟩, hk, hb⟩ := h
  refine (dlose_any W (F i) (d i) (D i) A cap ks (h1 i hi) hok hI (fun h0 b off e hF => ?_) hq hl).mono ?_
  · obtain ⟨a1, a2, a3⟩ := h3 i hi b hF
    rcases hA h0 b off e with h | h
    · omega
    · exact a3 h
  · rintro e w1 ⟨h4, h5, h6⟩
    exact ⟨h4, fam_core h1 h2 h3 hk hb hi h5 (fun _ hb => .inl hb) h6⟩
theorem fam_zone (W : World) (i : Nat) (z : Int) (h : Fam w W K n d D) (hi : i < n) :
    Calls Try.prog 24 #[.pointer (some ⟨d i, 0, none⟩), .int .i64 z] W fun e w' => e = .returned (.tuple #[.agg #[.int .i64 (getM (D i).m z).s, .int .i64 (getM (D i).m z).l], .bool (hasB (D i).m z)]) ∧ Below W.heap.size W w' := by
  obtain ⟨⟨F, h1, _⟩, _⟩ := h
  exact dzone_any W (F i) (d i) (D i) z (h1 i hi)
theorem fam_lasts (W : World) (i : Nat) (z : Int) (h : Fam w W K n d D) (hi : i < n) :
    Calls Try.prog 25 #[.pointer (some ⟨d i, 0, none⟩), .int .i64 z] W fun e w' => e = .returned (.int .i64 (lastsD (D i) z)) ∧ W = w' := by
  obtain ⟨⟨F, h1, _⟩, _⟩ := h
  exact lasts_any W (F i) (d i) (D i) z (h1 i hi)
theorem fam_dead (W : World) (i : Nat) (h : Fam w W K n d D) (hi : i < n) :
    Calls Try.prog 26 #[.pointer (some ⟨d i, 0, none⟩)] W fun e w' => e = .returned (.bool (D i).dead) ∧ W = w' := by
  obtain ⟨⟨F, h1, _⟩, _⟩ := h
  exact ddead_any W (F i) (d i) (D i) (h1 i hi)
end
end Go.Proofs.Ytncbkegflkjlfaa
