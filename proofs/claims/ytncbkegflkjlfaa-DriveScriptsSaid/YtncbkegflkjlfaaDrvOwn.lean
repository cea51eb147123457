/- A drive of the call's own: its contracts, without its blocks' names. -/
import Derived.Test.YtncbkegflkjlfaaDrvNew
import Derived.Test.YtncbkegflkjlfaaDrvOk
namespace Go.Proofs.Ytncbkegflkjlfaa
open Go.RowKit Zon Drv

/-- A drive whose blocks were made since w. -/
def Own (w W : World) (d : Nat) (D : Dr) : Prop := ∃ F, DAt W F d D ∧ (∀ x, F x → w.heap.size ≤ x ∧ x < W.heap.size) ∧ Below w.heap.size w W
theorem Own.b {w W : World} {d : Nat} {D : Dr} (h : Own w W d D) : Below w.heap.size w W := by
  obtain ⟨F, _, _, h⟩ := h
  exact h
theorem Own.mk' {w W : World} {F : Nat → Prop} {d : Nat} {D : Dr} (h : DAt W F d D) (hF : ∀ x, F x → w.heap.size ≤ x) (hb : Below w.heap.size w W) : Own w W d D :=
  ⟨_, h.bound, fun x hx => ⟨hF x hx.1, hx.2⟩, hb⟩
theorem Own.below {w W W' : World} {d : Nat} {D : Dr} (h : Own w W d D) (hb : Below W.heap.size W W') : Own w W' d D := by
  obtain ⟨F, h1, h2, h3⟩ := h
  exact ⟨F, h1.below hb, fun x hx => ⟨(h2 x hx).1, Nat.lt_of_lt_of_le (h2 x hx).2 hb.size⟩, h3.trans (hb.mono h3.size)⟩
theorem own_new {w : World} (W : World) (z b o a : Int) (hB : Below w.heap.size w W) (h : newOk z b o a = true) :
    Calls Try.prog 13 #[.int .i64 z, .int .i64 b, .int .i64 o, .int .i64 a] W fun e w' => ∃ d, e = .returned (.tuple #[.pointer (some ⟨d, 0, none⟩), .int .i64 0]) ∧ Own w w' d (newD z b o a) ∧ W.heap.size ≤ d := by
  refine (dnew_good z b o a W h).mono ?_
  rintro e w1 ⟨d, F, rfl, hD, hF, hb⟩
  exact ⟨d, rfl, .mk' hD (fun x hx => Nat.le_trans hB.size (hF x hx)) (hB.trans (hb.mono hB.size)), hF d hD.in_⟩
theorem own_do {w : World} (W : World) (d : Nat) (D : Dr) (k zz a n : Int) (s : ByteArray) (h : Own w W d D) (hok : D.Ok) (ha : a ≤ 9223372036854775807) (hs : s.size ≤ 9223372036854775807) :
    Calls Try.prog 21 #[.pointer (some ⟨d, 0, none⟩), .agg #[.int .i64 k, .int .i64 zz, .int .i64 a, .int .i64 n], .string s] W fun e w' =>
      e = .returned (.tuple #[.string ⟨(doD D k zz a n s.data.toList).1.1.toArray⟩, .int .i64 (doD D k zz a n s.data.toList).1.2.1, .int .i64 (doD D k zz a n s.data.toList).1.2.2]) ∧ Own w w' d (doD D k zz a n s.data.toList).2 := by
  obtain ⟨F, h1, h2, h3⟩ := h
  refine (ddo_any W F d D k zz a n s h1 hok ha hs).mono ?_
  rintro e w1 ⟨h4, ⟨F', h5, h6⟩, h7⟩
  refine ⟨h4, .mk' h5 (fun x hx => ?_) (h3.trans (h7.below (fun x hx => (h2 x hx).1) h3.size))⟩
  rcases h6 x hx with h | h
  · exact (h2 x h).1
  · exact Nat.le_trans h3.size h
theorem own_flush {w : World} (W : World) (d : Nat) (D : Dr) (h : Own w W d D) (hok : D.Ok) :
    Calls Try.prog 15 #[.pointer (some ⟨d, 0, none⟩)] W fun e w' => e = .returned (.int .i64 (if D.dead = true then 7 else 0)) ∧ Own w w' d (flushD D) := by
  obtain ⟨F, h1, h2, h3⟩ := h
  refine (dflush_any W F d D h1 hok.both hok.small hok.few).mono ?_
  rintro e w1 ⟨h4, h5, h6⟩
  exact ⟨h4, .mk' h5 (fun x hx => (h2 x hx).1) (h3.trans (h6.below (fun x hx => (h2 x hx).1) h3.size))⟩
theorem own_die {w : World} (W : World) (d : Nat) (D : Dr) (h : Own w W d D) :
    Calls Try.prog 19 #[.pointer (some ⟨d, 0, none⟩)] W fun e w' => e = .returned (.tuple #[]) ∧ Own w w' d { D with dead := true } := by
  obtain ⟨F, h1, h2, h3⟩ := h
  refine (die_any W F d D h1).mono ?_
  rintro e w1 ⟨h4, h5, h6⟩
  exact ⟨h4, .mk' h5 (fun x hx => (h2 x hx).1) (h3.trans (h6.below (fun x hx => (h2 x hx).1) h3.size))⟩
/-- The list may have come in, or be new. -/
theorem own_lose {w : World} (W1 W : World) (d : Nat) (D : Dr) (A : Option Addr) (cap : Nat) (ks : List Int) (h : Own w W1 d D) (hb : Below W1.heap.size W1 W) (hok : D.Ok) (hI : IntsIn W A ks)
    (hA : ks ≠ [] → ∀ b off, A = some ⟨b, off, none⟩ → b < w.heap.size ∨ W1.heap.size ≤ b) (hk : ∀ x ∈ ks, -9223372036854775808 ≤ x ∧ x ≤ 9223372036854775807) (hl : ks.length ≤ maxLen) :
    Calls Try.prog 17 #[.pointer (some ⟨d, 0, none⟩), .slice A ks.length cap] W fun e w' => e = .returned (.tuple #[]) ∧ Own w w' d (loseD D ks) := by
  obtain ⟨F, h1, h2, h3⟩ := h
  have h4 := h3.trans (hb.mono h3.size)
  refine (dlose_any W F d D A cap ks (h1.below hb) hok hI (fun h b off e hF => ?_) hk hl).mono ?_
  · have := h2 b hF
    rcases hA h b off e with h | h <;> omega
  · rintro e w1 ⟨h5, h6, h7⟩
    exact ⟨h5, .mk' h6 (fun x hx => (h2 x hx).1) (h4.trans (h7.below (fun x hx => (h2 x hx).1) h4.size))⟩
theorem own_zone {w : World} (W : World) (d : Nat) (D : Dr) (z : Int) (h : Own w W d D) :
    Calls Try.prog 24 #[.pointer (some ⟨d, 0, none⟩), .int .i64 z] W fun e w' => e = .returned (.tuple #[.agg #[.int .i64 (getM D.m z).s, .int .i64 (getM D.m z).l], .bool (hasB D.m z)]) ∧ Below W.heap.size W w' := by
  obtain ⟨F, h1, _⟩ := h
  exact dzone_any W F d D z h1
theorem own_lasts {w : World} (W : World) (d : Nat) (D : Dr) (z : Int) (h : Own w W d D) :
    Calls Try.prog 25 #[.pointer (some ⟨d, 0, none⟩), .int .i64 z] W fun e w' => e = .returned (.int .i64 (lastsD D z)) ∧ W = w' := by
  obtain ⟨F, h1, _⟩ := h
  exact lasts_any W F d D z h1
theorem own_dead {w : World} (W : World) (d : Nat) (D : Dr) (h : Own w W d D) :
    Calls Try.prog 26 #[.pointer (some ⟨d, 0, none⟩)] W fun e w' => e = .returned (.bool D.dead) ∧ W = w' := by
  obtain ⟨F, h1, _⟩ := h
  exact ddead_any W F d D h1
end Go.Proofs.Ytncbkegflkjlfaa
