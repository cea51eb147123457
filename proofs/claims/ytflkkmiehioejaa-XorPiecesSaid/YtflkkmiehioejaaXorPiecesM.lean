/- Three slices of texts that a call makes, side by side; texts cut in two. -/
import Derived.Test.YtflkkmiehioejaaXorPad
import Derived.Test.YtflkkmiehioejaaHeldMany
import Derived.Test.YtflkkmiehioejaaXorTwiceW
namespace Go.Proofs.Ytflkkmiehioejaa
open Go.RowKit Xor

structure Rows3 (W : World) (base : Nat) (A1 : Option Addr) (c1 : Nat) (L1 : List ByteArray) (A2 : Option Addr) (c2 : Nat) (L2 : List ByteArray) (A3 : Option Addr) (c3 : Nat) (L3 : List ByteArray) : Prop where
  r1 : Row W base A1 c1 L1
  r2 : Row W base A2 c2 L2
  r3 : Row W base A3 c3 L3
  n12 : ∀ g, A1 = some ⟨g, 0, none⟩ → A2 = some ⟨g, 0, none⟩ → False
  n13 : ∀ g, A1 = some ⟨g, 0, none⟩ → A3 = some ⟨g, 0, none⟩ → False
  n23 : ∀ g, A2 = some ⟨g, 0, none⟩ → A3 = some ⟨g, 0, none⟩ → False
/-- A new text in a block of its own, which is none of the rows'. -/
structure TAt (W : World) (m : Nat) (x : ByteArray) (A1 A2 A3 : Option Addr) : Prop where
  cell : W.cell? ⟨m, 0, none⟩ = some (.string x)
  a1 : A1 ≠ some ⟨m, 0, none⟩
  a2 : A2 ≠ some ⟨m, 0, none⟩
  a3 : A3 ≠ some ⟨m, 0, none⟩
section
variable {W : World} {base c1 c2 c3 m : Nat} {A1 A2 A3 : Option Addr} {L1 L2 L3 : List ByteArray} {x : ByteArray}
theorem Rows3.swap12 (h : Rows3 W base A1 c1 L1 A2 c2 L2 A3 c3 L3) : Rows3 W base A2 c2 L2 A1 c1 L1 A3 c3 L3 := ⟨h.r2, h.r1, h.r3, fun g a b => h.n12 g b a, h.n23, h.n13⟩
theorem Rows3.swap13 (h : Rows3 W base A1 c1 L1 A2 c2 L2 A3 c3 L3) : Rows3 W base A3 c3 L3 A2 c2 L2 A1 c1 L1 := ⟨h.r3, h.r2, h.r1, fun g a b => h.n23 g b a, fun g a b => h.n13 g b a, fun g a b => h.n12 g b a⟩
theorem TAt.swap12 (h : TAt W m x A1 A2 A3) : TAt W m x A2 A1 A3 := ⟨h.cell, h.a2, h.a1, h.a3⟩
theorem TAt.swap13 (h : TAt W m x A1 A2 A3) : TAt W m x A3 A2 A1 := ⟨h.cell, h.a3, h.a2, h.a1⟩
theorem Row.apart_new {A : Option Addr} {cap : Nat} {ps : List ByteArray} (h : Row W base A cap ps) : A ≠ some ⟨W.heap.size, 0, none⟩ := by
  rcases h.form with ⟨rfl, _⟩ | ⟨g, rfl, _, hlt⟩
  · simp
  · intro e
    have e1 := Option.some.inj e
    injection e1 with e2
    omega
theorem Rows3.alloc (h : Rows3 W base A1 c1 L1 A2 c2 L2 A3 c3 L3) (o : Obj) : Rows3 (W.alloc o) base A1 c1 L1 A2 c2 L2 A3 c3 L3 := ⟨h.r1.alloc o, h.r2.alloc o, h.r3.alloc o, h.n12, h.n13, h.n23⟩
theorem TAt.alloc (h : TAt W m x A1 A2 A3) (o : Obj) : TAt (W.alloc o) m x A1 A2 A3 := ⟨(World.cell?_alloc_lt W o ⟨m, 0, none⟩ (lt_of_cell h.cell)).trans h.cell, h.a1, h.a2, h.a3⟩
theorem Rows3.built (h : Rows3 W base A1 c1 L1 A2 c2 L2 A3 c3 L3) (x : ByteArray) : TAt (W.alloc (.cells #[.string x] 9)) W.heap.size x A1 A2 A3 :=
  ⟨by go_simp, h.r1.apart_new, h.r2.apart_new, h.r3.apart_new⟩
theorem app1 {k : Nat} (h : Rows3 W base A1 c1 L1 A2 c2 L2 A3 c3 L3) (ht : TAt W m x A1 A2 A3) (hk : L1.length = k) (hl : k ≤ 1000) (hb : base ≤ W.heap.size) :
    ∃ A' c' W', (Builtin.append_ #[22, 22] 22 #[.slice A1 k c1, .slice (some ⟨m, 0, none⟩) 1 1]).run Try.prog W = .ok (.slice A' (k + 1) c') W' ∧ Rows3 W' base A' c' (L1 ++ [x]) A2 c2 L2 A3 c3 L3 ∧ Below base W W' ∧
      ∀ m' x', TAt W m' x' A1 A2 A3 → TAt W' m' x' A' A2 A3 := by
  obtain ⟨A', c', W', h1, h2, h3, h4⟩ := append_row h.r1 (strs_of_cell ht.cell) (cap2 := 1) (fun e => by cases e) (by simp; omega) hb 22
  rw [List.length_append, hk] at h1
  have hf := h.r1.form
  have hsrc : A1 = none ∨ ∃ g, A1 = some ⟨g, 0, none⟩ := hf.elim (fun e => .inl e.1) fun ⟨g, e, _⟩ => .inr ⟨g, e⟩
  have hne : ∀ {A cap} {ps : List ByteArray}, Row W base A cap ps → (∀ g, A1 = some ⟨g, 0, none⟩ → A = some ⟨g, 0, none⟩ → False) → A = none ∨ A ≠ A1 := fun hr hn => by
    rcases hr.form with ⟨e, _⟩ | ⟨g, e, _⟩
    · exact .inl e
    · exact .inr fun e2 => hn g (by rw [← e2, e]) e
  have hn' : ∀ {A cap} {ps : List ByteArray}, Row W base A cap ps → (∀ g, A1 = some ⟨g, 0, none⟩ → A = some ⟨g, 0, none⟩ → False) → ∀ g, A' = some ⟨g, 0, none⟩ → A = some ⟨g, 0, none⟩ → False := fun hr hn g e1 e2 => by
    rcases h4 with h4 | h4
    · exact hn g (by rw [← h4, e1]) e2
    · exact hr.apart_new (by rw [e2, ← e1, h4])
  refine ⟨A', c', W', h1, ⟨h2, h.r2.kept h3 (hne h.r2 h.n12) hsrc, h.r3.kept h3 (hne h.r3 h.n13) hsrc, hn' h.r2 h.n12, hn' h.r3 h.n13, h.n23⟩, below_row h.r1 h3 hb, fun m' x' ht' => ?_⟩
  have hlt := lt_of_cell ht'.cell
  refine ⟨(h3.cell_far ⟨m', 0, none⟩ hlt ?_).trans ht'.cell, ?_, ht'.a2, ht'.a3⟩
  · rcases hf with ⟨e, _⟩ | ⟨g, e, _⟩
    · rw [e]; simp [Value.ownBlock]
    · rw [e]
      intro e2
      simp only [Value.ownBlock, Option.some.injEq] at e2
      exact ht'.a1 (by rw [e, e2])
  · rcases h4 with h4 | h4
    · rw [h4]; exact ht'.a1
    · rw [h4]
      intro e
      have e1 := Option.some.inj e
      injection e1 with e2
      omega
theorem app2 {k : Nat} (h : Rows3 W base A1 c1 L1 A2 c2 L2 A3 c3 L3) (ht : TAt W m x A1 A2 A3) (hk : L2.length = k) (hl : k ≤ 1000) (hb : base ≤ W.heap.size) :
    ∃ A' c' W', (Builtin.append_ #[22, 22] 22 #[.slice A2 k c2, .slice (some ⟨m, 0, none⟩) 1 1]).run Try.prog W = .ok (.slice A' (k + 1) c') W' ∧ Rows3 W' base A1 c1 L1 A' c' (L2 ++ [x]) A3 c3 L3 ∧ Below base W W' ∧
      ∀ m' x', TAt W m' x' A1 A2 A3 → TAt W' m' x' A1 A' A3 := by
  obtain ⟨A', c', W', h1, h2, h3, h4⟩ := app1 h.swap12 ht.swap12 hk hl hb
  exact ⟨A', c', W', h1, h2.swap12, h3, fun m' x' t => (h4 m' x' t.swap12).swap12⟩
theorem app3 {k : Nat} (h : Rows3 W base A1 c1 L1 A2 c2 L2 A3 c3 L3) (ht : TAt W m x A1 A2 A3) (hk : L3.length = k) (hl : k ≤ 1000) (hb : base ≤ W.heap.size) :
    ∃ A' c' W', (Builtin.append_ #[22, 22] 22 #[.slice A3 k c3, .slice (some ⟨m, 0, none⟩) 1 1]).run Try.prog W = .ok (.slice A' (k + 1) c') W' ∧ Rows3 W' base A1 c1 L1 A2 c2 L2 A' c' (L3 ++ [x]) ∧ Below base W W' ∧
      ∀ m' x', TAt W m' x' A1 A2 A3 → TAt W' m' x' A1 A2 A' := by
  obtain ⟨A', c', W', h1, h2, h3, h4⟩ := app1 h.swap13 ht.swap13 hk hl hb
  exact ⟨A', c', W', h1, h2.swap13, h3, fun m' x' t => (h4 m' x' t.swap13).swap13⟩
end
theorem fresh_any {P : Program} {md : Region.Mode} {ops : Array Oper} {Q : Exit → Act → World → Prop} {c : Nat → Bool} {S : World → Prop} {fuel : Nat} {listed : Array Bool} {a : Act} {W : World} (R : World → Prop) (hR : R W) (h : ∀ W2, R W2 → anyC P md ops Q c S fuel listed a W2) : anyC P md ops Q c S fuel listed a W := h W hR

/-- The first pieces, and the others. -/
def heads (L : List ByteArray) (c : Nat) : List ByteArray := L.map fun q => q.extract 0 c
def tails (L : List ByteArray) (c : Nat) : List ByteArray := L.map fun q => q.extract c q.size
theorem heads_snoc (L : List ByteArray) (q : ByteArray) (c : Nat) : heads L c ++ [q.extract 0 c] = heads (L ++ [q]) c := by unfold heads; rw [List.map_append]; rfl
theorem tails_snoc (L : List ByteArray) (q : ByteArray) (c : Nat) : tails L c ++ [q.extract c q.size] = tails (L ++ [q]) c := by unfold tails; rw [List.map_append]; rfl
theorem xorAt_heads (c i : Nat) : ∀ L, xorAt (heads L c) i = if i < c then xorAt L i else 0
  | [] => by show (0 : UInt8) = if i < c then 0 else 0; split <;> rfl
  | q :: L => by
    show byteAt (q.extract 0 c) i ^^^ xorAt (heads L c) i = if i < c then byteAt q i ^^^ xorAt L i else 0
    rw [xorAt_heads c i L, byteAt_head]
    split
    · rfl
    · rw [UInt8.xor_self]
theorem xorAt_tails (c i : Nat) : ∀ L, xorAt (tails L c) i = xorAt L (c + i)
  | [] => rfl
  | q :: L => by
    show byteAt (q.extract c q.size) i ^^^ xorAt (tails L c) i = byteAt q (c + i) ^^^ xorAt L (c + i)
    rw [xorAt_tails c i L, byteAt_extract]
theorem size_heads {L : List ByteArray} {n c : Nat} (h : ∀ q ∈ L, q.size = n) (hc : c ≤ n) : ∀ p ∈ heads L c, p.size = c := fun p hp => by
  obtain ⟨q, hq, rfl⟩ := List.mem_map.1 hp
  rw [size_extract_head _ _ (by rw [h q hq]; exact hc)]
theorem size_tails {L : List ByteArray} {n c : Nat} (h : ∀ q ∈ L, q.size = n) : ∀ p ∈ tails L c, p.size = n - c := fun p hp => by
  obtain ⟨q, hq, rfl⟩ := List.mem_map.1 hp
  rw [ByteArray.size_extract, h q hq]; omega
theorem pieces_fold {L : List ByteArray} {n c : Nat} (h0 : 0 < L.length) (h : ∀ q ∈ L, q.size = n) (hc : c ≤ n) : foldS L = foldS (heads L c) ++ foldS (tails L c) := by
  have s1 := longest_same h0 h
  have s2 := longest_same (by unfold heads; rw [List.length_map]; exact h0) (size_heads h hc)
  have s3 := longest_same (by unfold tails; rw [List.length_map]; exact h0) (size_tails (c := c) h)
  have z2 : (foldS (heads L c)).size = c := by rw [size_foldS, s2]
  refine text_ext (by rw [ByteArray.size_append, size_foldS, size_foldS, size_foldS, s1, s2, s3]; omega) fun i _ => ?_
  rw [byteAt_foldS, byteAt_append, z2, byteAt_foldS, byteAt_foldS, xorAt_heads, xorAt_tails]
  by_cases hi : i < c
  · rw [if_pos hi, if_pos hi]
  · rw [if_neg hi, show c + (i - c) = i by omega]
end Go.Proofs.Ytflkkmiehioejaa
