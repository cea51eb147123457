/- A drive of the program's and one of the document's, apart from one another and from what else is to stay. -/
import Derived.Test.YtncbkegflkjlfaaRfRd
import Derived.Test.YtncbkegflkjlfaaRfLose
import Derived.Test.YtncbkegflkjlfaaRfNew
import Derived.Test.YtncbkegflkjlfaaDrvFam
namespace Go.Proofs.Ytncbkegflkjlfaa
open Go.RowKit Zon Drv

theorem RAt.bound {w : World} {F : Nat → Prop} {d : Nat} {D : Dr} (h : RAt w F d D) : RAt w (fun b => F b ∧ b < w.heap.size) d D := by
  obtain ⟨B, h, hF⟩ := h
  exact ⟨B, h, ⟨hF.d, h.dlt⟩, ⟨hF.g, h.m.gl⟩, ⟨hF.z, h.m.zl⟩, ⟨hF.c, h.lc⟩, ⟨hF.l, h.ll⟩, fun i hi b hb => ⟨hF.o i hi b hb, h.olt hi hb⟩⟩
structure Two (w W : World) (K : Nat → Prop) (d d2 : Nat) (D D2 : Dr) : Prop where
  ex : ∃ F G : Nat → Prop, DAt W F d D ∧ RAt W G d2 D2 ∧ (∀ b, F b → ¬ G b) ∧ (∀ b, F b → w.heap.size ≤ b ∧ b < W.heap.size ∧ ¬ K b) ∧ (∀ b, G b → w.heap.size ≤ b ∧ b < W.heap.size ∧ ¬ K b)
  kb : ∀ x, K x → x < W.heap.size
  b : Below w.heap.size w W
section
variable {w : World} {K : Nat → Prop} {d d2 : Nat} {D D2 : Dr}
/-- Memory has grown; other blocks are to stay. -/
theorem Two.below {W W' : World} {K' : Nat → Prop} (h : Two w W K d d2 D D2) (hb : Below W.heap.size W W') (hK : ∀ x, K' x → K x ∨ W.heap.size ≤ x) (hl : ∀ x, K' x → x < W'.heap.size) : Two w W' K' d d2 D D2 := by
  obtain ⟨⟨F, G, h1, h2, h3, h4, h5⟩, _, h6⟩ := h
  refine ⟨⟨F, G, h1.below hb, h2.below hb, h3, fun b hf => ?_, fun b hf => ?_⟩, hl, h6.trans (hb.mono h6.size)⟩
  · obtain ⟨a1, a2, a3⟩ := h4 b hf
    refine ⟨a1, Nat.lt_of_lt_of_le a2 hb.size, fun hk => ?_⟩
    rcases hK b hk with h | h
    · exact a3 h
    · omega
  · obtain ⟨a1, a2, a3⟩ := h5 b hf
    refine ⟨a1, Nat.lt_of_lt_of_le a2 hb.size, fun hk => ?_⟩
    rcases hK b hk with h | h
    · exact a3 h
    · omega
theorem Two.below' {W W' : World} (h : Two w W K d d2 D D2) (hb : Below W.heap.size W W') : Two w W' K d d2 D D2 :=
  h.below hb (fun _ hx => .inl hx) (fun x hx => Nat.lt_of_lt_of_le (h.kb x hx) hb.size)
theorem Two.left {W W' : World} {F F' G : Nat → Prop} {D' : Dr} (h2 : RAt W G d2 D2) (h3 : ∀ b, F b → ¬ G b) (h4 : ∀ b, F b → w.heap.size ≤ b ∧ b < W.heap.size ∧ ¬ K b) (h5 : ∀ b, G b → w.heap.size ≤ b ∧ b < W.heap.size ∧ ¬ K b) (hk : ∀ x, K x → x < W.heap.size) (hb : Below w.heap.size w W)
    (hD : DAt W' F' d D') (hF : ∀ b, F' b → F b ∨ W.heap.size ≤ b) (ht : Turn W W' F) : Two w W' K d d2 D' D2 ∧ SameK W W' K := by
  refine ⟨⟨⟨_, G, hD.bound, h2.turn ht fun b hg hf => h3 b hf hg, fun b hf hg => ?_, fun b hf => ?_, fun b hg => ?_⟩, fun x hx => Nat.lt_of_lt_of_le (hk x hx) ht.size, hb.trans (ht.below (fun b hf => (h4 b hf).1) hb.size)⟩, ht.size, fun x hx hkx => ht.block x hx fun hf => (h4 x hf).2.2 hkx⟩
  · rcases hF b hf.1 with h | h
    · exact h3 b h hg
    · have := (h5 b hg).2.1; omega
  · rcases hF b hf.1 with h | h
    · exact ⟨(h4 b h).1, hf.2, (h4 b h).2.2⟩
    · exact ⟨Nat.le_trans hb.size h, hf.2, fun hkb => by have := hk b hkb; omega⟩
  · exact ⟨(h5 b hg).1, Nat.lt_of_lt_of_le (h5 b hg).2.1 ht.size, (h5 b hg).2.2⟩
theorem Two.right {W W' : World} {F G' G : Nat → Prop} {D' : Dr} (h1 : DAt W F d D) (h3 : ∀ b, F b → ¬ G b) (h4 : ∀ b, F b → w.heap.size ≤ b ∧ b < W.heap.size ∧ ¬ K b) (h5 : ∀ b, G b → w.heap.size ≤ b ∧ b < W.heap.size ∧ ¬ K b) (hk : ∀ x, K x → x < W.heap.size) (hb : Below w.heap.size w W)
    (hD : RAt W' G' d2 D') (hG : ∀ b, G' b → G b ∨ W.heap.size ≤ b) (ht : Turn W W' G) : Two w W' K d d2 D D' ∧ SameK W W' K := by
  refine ⟨⟨⟨F, _, h1.turn ht fun b hf hg => h3 b hf hg, hD.bound, fun b hf hg => ?_, fun b hf => ?_, fun b hg => ?_⟩, fun x hx => Nat.lt_of_lt_of_le (hk x hx) ht.size, hb.trans (ht.below (fun b hf => (h5 b hf).1) hb.size)⟩, ht.size, fun x hx hkx => ht.block x hx fun hf => (h5 x hf).2.2 hkx⟩
  · rcases hG b hg.1 with h | h
    · exact h3 b hf h
    · have := (h4 b hf).2.1; omega
  · exact ⟨(h4 b hf).1, Nat.lt_of_lt_of_le (h4 b hf).2.1 ht.size, (h4 b hf).2.2⟩
  · rcases hG b hg.1 with h | h
    · exact ⟨(h5 b h).1, hg.2, (h5 b h).2.2⟩
    · exact ⟨Nat.le_trans hb.size h, hg.2, fun hkb => by have := hk b hkb; omega⟩
theorem two_do (W : World) (k zz a n : Int) (s : ByteArray) (h : Two w W K d d2 D D2) (hok : D.Ok) (ha : a ≤ 9223372036854775807) (hs : s.size ≤ 9223372036854775807) :
    Calls Try.prog 21 #[.pointer (some ⟨d, 0, none⟩), .agg #[.int .i64 k, .int .i64 zz, .int .i64 a, .int .i64 n], .string s] W fun e w' =>
      e = .returned (.tuple #[.string ⟨(doD D k zz a n s.data.toList).1.1.toArray⟩, .int .i64 (doD D k zz a n s.data.toList).1.2.1, .int .i64 (doD D k zz a n s.data.toList).1.2.2]) ∧ Two w w' K d d2 (doD D k zz a n s.data.toList).2 D2 ∧ SameK W w' K := by
  obtain ⟨⟨F, G, h1, h2, h3, h4, h5⟩, hk, hb⟩ := h
  refine (ddo_any W F d D k zz a n s h1 hok ha hs).mono ?_
  rintro e w1 ⟨h6, ⟨F', h7, h8⟩, h9⟩
  exact ⟨h6, Two.left h2 h3 h4 h5 hk hb h7 h8 h9⟩
theorem two_rdo (W : World) (k zz a n : Int) (s : ByteArray) (h : Two w W K d d2 D D2) (hok : D2.Ok) (hs : s.size ≤ 1000000) :
    Calls Try.prog 22 #[.pointer (some ⟨d2, 0, none⟩), .agg #[.int .i64 k, .int .i64 zz, .int .i64 a, .int .i64 n], .string s] W fun e w' =>
      e = .returned (.tuple #[.string ⟨(doD D2 k zz a n s.data.toList).1.1.toArray⟩, .int .i64 (doD D2 k zz a n s.data.toList).1.2.1, .int .i64 (doD D2 k zz a n s.data.toList).1.2.2]) ∧ Two w w' K d d2 D (doD D2 k zz a n s.data.toList).2 ∧ SameK W w' K := by
  obtain ⟨⟨F, G, h1, h2, h3, h4, h5⟩, hk, hb⟩ := h
  refine (rdo7_any W G d2 D2 k zz a n s h2 hok (fun b hg => (h5 b hg).2.1) hs).mono ?_
  rintro e w1 ⟨h6, ⟨F', h7, h8⟩, h9⟩
  exact ⟨h6, Two.right h1 h3 h4 h5 hk hb h7 h8 h9⟩
theorem two_flush (W : World) (h : Two w W K d d2 D D2) (hok : D.Ok) :
    Calls Try.prog 15 #[.pointer (some ⟨d, 0, none⟩)] W fun e w' => e = .returned (.int .i64 (if D.dead = true then 7 else 0)) ∧ Two w w' K d d2 (flushD D) D2 ∧ SameK W w' K := by
  obtain ⟨⟨F, G, h1, h2, h3, h4, h5⟩, hk, hb⟩ := h
  refine (dflush_any W F d D h1 hok.both hok.small hok.few).mono ?_
  rintro e w1 ⟨h6, h7, h9⟩
  exact ⟨h6, Two.left h2 h3 h4 h5 hk hb h7 (fun _ => .inl) h9⟩
theorem two_rflush (W : World) (h : Two w W K d d2 D D2) (hok : D2.Ok) :
    Calls Try.prog 16 #[.pointer (some ⟨d2, 0, none⟩)] W fun e w' => e = .returned (.int .i64 (if D2.dead = true then 7 else 0)) ∧ Two w w' K d d2 D (flushD D2) ∧ SameK W w' K := by
  obtain ⟨⟨F, G, h1, h2, h3, h4, h5⟩, hk, hb⟩ := h
  refine (rdflush_any W G d2 D2 h2 hok.both hok.few).mono ?_
  rintro e w1 ⟨h6, h7, h9⟩
  exact ⟨h6, Two.right h1 h3 h4 h5 hk hb h7 (fun _ => .inl) h9⟩
theorem two_die (W : World) (h : Two w W K d d2 D D2) :
    Calls Try.prog 19 #[.pointer (some ⟨d, 0, none⟩)] W fun e w' => e = .returned (.tuple #[]) ∧ Two w w' K d d2 { D with dead := true } D2 ∧ SameK W w' K := by
  obtain ⟨⟨F, G, h1, h2, h3, h4, h5⟩, hk, hb⟩ := h
  refine (die_any W F d D h1).mono ?_
  rintro e w1 ⟨h6, h7, h9⟩
  exact ⟨h6, Two.left h2 h3 h4 h5 hk hb h7 (fun _ => .inl) h9⟩
/-- The document's dies: a store. -/
theorem two_rdie (W : World) (h : Two w W K d d2 D D2) : (∃ v, W.cell? ⟨d2, 3, none⟩ = some v) ∧ W.frozen? ⟨d2, 3, none⟩ = false ∧ Two w (W.setCell ⟨d2, 3, none⟩ (.bool true)) K d d2 D { D2 with dead := true } ∧ SameK W (W.setCell ⟨d2, 3, none⟩ (.bool true)) K := by
  obtain ⟨⟨F, G, h1, ⟨B, hL, hIn⟩, h3, h4, h5⟩, hk, hb⟩ := h
  exact ⟨⟨_, hL.c3⟩, hL.f3, Two.right h1 h3 h4 h5 hk hb ⟨B, hL.die, hIn⟩ (fun _ => .inl) (Turn.set W hIn.d _ _)⟩
/-- The list came in, or is one of the blocks that stay. -/
theorem two_lose (W : World) (A : Option Addr) (cap : Nat) (ks : List Int) (h : Two w W K d d2 D D2) (hok : D.Ok) (hI : IntsIn W A ks) (hA : ks ≠ [] → ∀ b off, A = some ⟨b, off, none⟩ → b < w.heap.size ∨ K b)
    (hq : ∀ x ∈ ks, -9223372036854775808 ≤ x ∧ x ≤ 9223372036854775807) (hl : ks.length ≤ maxLen) :
    Calls Try.prog 17 #[.pointer (some ⟨d, 0, none⟩), .slice A ks.length cap] W fun e w' => e = .returned (.tuple #[]) ∧ Two w w' K d d2 (loseD D ks) D2 ∧ SameK W w' K := by
  obtain ⟨⟨F, G, h1, h2, h3, h4, h5⟩, hk, hb⟩ := h
  refine (dlose_any W F d D A cap ks h1 hok hI (fun h0 b off e hF => ?_) hq hl).mono ?_
  · obtain ⟨a1, a2, a3⟩ := h4 b hF
    rcases hA h0 b off e with h | h
    · omega
    · exact a3 h
  · rintro e w1 ⟨h6, h7, h9⟩
    exact ⟨h6, Two.left h2 h3 h4 h5 hk hb h7 (fun _ => .inl) h9⟩
theorem two_rlose (W : World) (A : Option Addr) (cap : Nat) (ks : List Int) (h : Two w W K d d2 D D2) (hok : D2.Ok) (hI : IntsIn W A ks) (hA : ks ≠ [] → ∀ b off, A = some ⟨b, off, none⟩ → b < w.heap.size ∨ K b)
    (hq : ∀ x ∈ ks, -9223372036854775808 ≤ x ∧ x ≤ 9223372036854775807) (hl : ks.length ≤ maxLen) :
    Calls Try.prog 18 #[.pointer (some ⟨d2, 0, none⟩), .slice A ks.length cap] W fun e w' => e = .returned (.tuple #[]) ∧ Two w w' K d d2 D (loseD D2 ks) ∧ SameK W w' K := by
  obtain ⟨⟨F, G, h1, h2, h3, h4, h5⟩, hk, hb⟩ := h
  refine (rdlose_any W G d2 D2 A cap ks h2 hok (fun b hg => (h5 b hg).2.1) hI (fun h0 b off e hF => ?_) hq hl).mono ?_
  · obtain ⟨a1, a2, a3⟩ := h5 b hF
    rcases hA h0 b off e with h | h
    · omega
    · exact a3 h
  · rintro e w1 ⟨h6, ⟨F', h7, h8⟩, h9⟩
    exact ⟨h6, Two.right h1 h3 h4 h5 hk hb h7 h8 h9⟩
end
/-- Both are new. -/
theorem two_new {w W1 W : World} {F G : Nat → Prop} {d d2 : Nat} {D D2 : Dr} (h1 : DAt W1 F d D) (hF : ∀ x, F x → w.heap.size ≤ x) (hb1 : Below w.heap.size w W1) (h2 : RAt W G d2 D2) (hG : ∀ x, G x → W1.heap.size ≤ x) (hb : Below W1.heap.size W1 W) : Two w W (fun _ => False) d d2 D D2 := by
  refine ⟨⟨_, _, h1.bound.below hb, h2.bound, fun b hf hg => ?_, fun b hf => ⟨hF b hf.1, Nat.lt_of_lt_of_le hf.2 hb.size, id⟩, fun b hg => ⟨Nat.le_trans hb1.size (hG b hg.1), hg.2, id⟩⟩, fun x hx => hx.elim, hb1.trans (hb.mono hb1.size)⟩
  have h3 := hf.2
  have h4 := hG b hg.1
  omega
end Go.Proofs.Ytncbkegflkjlfaa
