/- The world within BookNotes; what Note does, zone by zone; the least free place, sought from above. -/
import Derived.Test.YtpmhfalhieinjaaBkFshM
import Derived.Test.YtpmhfalhieinjaaHeldMany
namespace Go.Proofs.Ytpmhfalhieinjaa
open Go.RowKit Rec Bk

structure BnW (w W : World) (D Z B O A : Int) (G X Y : Nat) (A1 : Option Addr) (c1 : Nat) (A2 : Option Addr) (c2 : Nat) (b : Bo) (V1 : Option Addr) (v1 : Nat) (V2 : Option Addr) (v2 : Nat) (b0 : Bo) (Al : Option Addr) (rs : List Rc) : Prop where
  g : GzAt W w.heap.size D Z B O A
  h : GzAt W G D Z B O A
  k : BkAt W X A1 c1 A2 c2 b
  i : BkIn W A1 c1 A2 c2 b
  f : BkAt W Y V1 v1 V2 v2 b0
  r : RecsAt W Al rs
  bw : Below w.heap.size w W
  o : w.heap.size < G ∧ G < X ∧ X < Y
  al : ∀ g off, Al = some ⟨g, off, none⟩ → Y < g
section
variable {w W W' : World} {D Z B O A : Int} {G X Y : Nat} {A1 : Option Addr} {c1 : Nat} {A2 : Option Addr} {c2 : Nat} {b : Bo} {V1 : Option Addr} {v1 : Nat} {V2 : Option Addr} {v2 : Nat} {b0 : Bo} {Al : Option Addr} {rs : List Rc}
theorem BnW.below (h : BnW w W D Z B O A G X Y A1 c1 A2 c2 b V1 v1 V2 v2 b0 Al rs) (hb : Below W.heap.size W W') : BnW w W' D Z B O A G X Y A1 c1 A2 c2 b V1 v1 V2 v2 b0 Al rs :=
  ⟨h.g.below hb, h.h.below hb, h.k.below hb, h.i.below hb, h.f.below hb, RecsAt.below h.r hb, h.bw.trans (hb.mono h.bw.size), h.o, h.al⟩
/-- Another book is stored over its box. -/
theorem BnW.put (h : BnW w W D Z B O A G X Y A1 c1 A2 c2 b V1 v1 V2 v2 b0 Al rs) {b' : Bo} {A1' : Option Addr} {c1' : Nat} {A2' : Option Addr} {c2' : Nat} {N : Nat} (hO : BkO W N A1' c1' A2' c2' b') (hN : X < N) :
    BnW w (((((W.setCell ⟨X, 0, none⟩ (.int .i64 b'.q)).setCell ⟨X, 1, none⟩ (.slice A1' b'.zs.length c1')).setCell ⟨X, 2, none⟩ (.slice A2' b'.ms.length c2')).setCell ⟨X, 3, none⟩ (.int .i64 b'.sl)).setCell ⟨X, 4, none⟩ (.int .i64 b'.cu)) D Z B O A G X Y A1' c1' A2' c2' b' V1 v1 V2 v2 b0 Al rs := by
  have ho := h.o
  have hl := h.k.lt
  have hf := h.f.lt
  have hle : w.heap.size ≤ X := by omega
  obtain ⟨n1, n2⟩ := hO.off hN
  have hg := grownBy_put W X (.int .i64 b'.q) (.slice A1' b'.zs.length c1') (.slice A2' b'.ms.length c2') (.int .i64 b'.sl) (.int .i64 b'.cu)
  have hk := h.k.put b' (A1' := A1') (A2' := A2') (c1' := c1') (c2' := c2')
  refine ⟨h.g.of (hg.block _ (by omega) (by simp; omega)) hg.size, h.h.of (hg.block _ (by omega) (by simp; omega)) hg.size, hk, (hO.far hg n1 n2).in_, h.f.far hg (by simp; omega), ?_, ((((h.bw.setCell hle _).setCell hle _).setCell hle _).setCell hle _).setCell hle _, h.o, h.al⟩
  rcases h.r with h0 | ⟨g, off, rfl, hlt, hc⟩
  · exact .inl h0
  · have := h.al g off rfl
    exact .inr ⟨g, off, rfl, Nat.lt_of_lt_of_le hlt hg.size, fun i hi j hj => (World.cell?_of_block (a := ⟨g, _, none⟩) (hg.block g hlt (by simp; omega))).trans (hc i hi j hj)⟩
end
/-- What Note leaves of each zone, each member. -/
theorem note_zl (b : Bo) (x : Rc) : (noteB b x).zs = if x.k = 3 ∧ 0 ≤ x.a ∧ x.a < (b.zs.length : Int) then b.zs.set x.a.toNat ⟨x.b, x.c, x.d⟩ else b.zs := by
  unfold noteB takeB
  by_cases h1 : x.k = 3 ∧ 0 ≤ x.a ∧ x.a < (b.zs.length : Int)
  · simp only [if_pos h1]
  · simp only [if_neg h1]
    split
    · rfl
    split <;> rfl
theorem note_ml (b : Bo) (x : Rc) : (noteB b x).ms = if x.k = 5 ∧ 0 ≤ x.a ∧ x.a < (b.ms.length : Int) then b.ms.set x.a.toNat x.b else b.ms := by
  unfold noteB takeB
  by_cases h3 : x.k = 3 ∧ 0 ≤ x.a ∧ x.a < (b.zs.length : Int)
  · simp only [if_pos h3]
    rw [if_neg (by omega)]
  · by_cases h1 : x.k = 5 ∧ 0 ≤ x.a ∧ x.a < (b.ms.length : Int)
    · simp only [if_neg h3, if_pos h1]
    · simp only [if_neg h3, if_neg h1]
      split <;> rfl
theorem note_z (b : Bo) (x : Rc) (i : Nat) (h : i < (noteB b x).zs.length) (h' : i < b.zs.length) : (noteB b x).zs[i] = if x.k = 3 ∧ x.a = (i : Int) then ⟨x.b, x.c, x.d⟩ else b.zs[i] := by
  rw [List.getElem_of_eq (note_zl b x) h]
  by_cases h1 : x.k = 3 ∧ 0 ≤ x.a ∧ x.a < (b.zs.length : Int)
  · simp only [if_pos h1]
    rw [List.getElem_set]
    by_cases e : x.a = (i : Int)
    · rw [if_pos (by omega), if_pos ⟨h1.1, e⟩]
    · rw [if_neg (by omega)]
      exact (if_neg (fun h2 => e h2.2)).symm
  · simp only [if_neg h1]
    exact (if_neg (fun h2 => h1 ⟨h2.1, by omega, by omega⟩)).symm
theorem note_m (b : Bo) (x : Rc) (i : Nat) (h : i < (noteB b x).ms.length) (h' : i < b.ms.length) : (noteB b x).ms[i] = if x.k = 5 ∧ x.a = (i : Int) then x.b else b.ms[i] := by
  rw [List.getElem_of_eq (note_ml b x) h]
  by_cases h1 : x.k = 5 ∧ 0 ≤ x.a ∧ x.a < (b.ms.length : Int)
  · simp only [if_pos h1]
    rw [List.getElem_set]
    by_cases e : x.a = (i : Int)
    · rw [if_pos (by omega), if_pos ⟨h1.1, e⟩]
    · rw [if_neg (by omega)]
      exact (if_neg (fun h2 => e h2.2)).symm
  · simp only [if_neg h1]
    exact (if_neg (fun h2 => h1 ⟨h2.1, by omega, by omega⟩)).symm
theorem note_c (b : Bo) (x : Rc) : (noteB b x).sl = (if x.k = 6 then (if x.a = 65535 then -1 else x.a) else b.sl) ∧ (noteB b x).cu = if x.k = 6 then x.b else b.cu := by
  unfold noteB takeB
  by_cases h3 : x.k = 3 ∧ 0 ≤ x.a ∧ x.a < (b.zs.length : Int)
  · simp only [if_pos h3]
    rw [if_neg (by omega), if_neg (by omega)]
    exact ⟨rfl, rfl⟩
  · by_cases h5 : x.k = 5 ∧ 0 ≤ x.a ∧ x.a < (b.ms.length : Int)
    · simp only [if_neg h3, if_pos h5]
      rw [if_neg (by omega), if_neg (by omega)]
      exact ⟨rfl, rfl⟩
    · simp only [if_neg h3, if_neg h5]
      by_cases h6 : x.k = 6
      · simp only [if_pos h6]
        exact ⟨trivial, trivial⟩
      · simp only [if_neg h6]
        exact ⟨trivial, trivial⟩
theorem hasZ_succ (zs : List Zo) (q : Int) (j : Nat) (h : j < zs.length) : hasZ (zs.take (j + 1)) q = (hasZ (zs.take j) q || (zs[j].p == q)) := by
  unfold hasZ
  rw [List.take_succ_eq_append_getElem h, List.any_append]
  simp
/-- The least free place above p. -/
def FreeFrom (zs : List Zo) (Z p f : Int) : Prop := (f = -1 ∧ ∀ q, p < q → q < Z → hasZ zs q = true) ∨ (p < f ∧ f < Z ∧ hasZ zs f = false ∧ ∀ q, p < q → q < f → hasZ zs q = true)
theorem freeFrom_top (zs : List Zo) (Z : Int) : FreeFrom zs Z (Z - 1) (-1) := .inl ⟨rfl, fun q h1 h2 => by omega⟩
theorem freeFrom_has {zs : List Zo} {Z p f : Int} (h : FreeFrom zs Z p f) (hp : hasZ zs p = true) : FreeFrom zs Z (p - 1) f := by
  rcases h with ⟨h1, h2⟩ | ⟨h1, h2, h3, h4⟩
  · exact .inl ⟨h1, fun q q1 q2 => by
      by_cases e : q = p
      · rw [e]; exact hp
      · exact h2 q (by omega) q2⟩
  · exact .inr ⟨by omega, h2, h3, fun q q1 q2 => by
      by_cases e : q = p
      · rw [e]; exact hp
      · exact h4 q (by omega) q2⟩
theorem freeFrom_not {zs : List Zo} {Z p : Int} (hp : hasZ zs p = false) (hZ : p < Z) : FreeFrom zs Z (p - 1) p := .inr ⟨by omega, hZ, hp, fun q q1 q2 => by omega⟩
theorem freeFrom_is {zs : List Zo} {Z f : Int} (h : FreeFrom zs Z 1 f) : IsFree zs Z f := by
  rcases h with ⟨h1, h2⟩ | ⟨h1, h2, h3, h4⟩
  · exact .inl ⟨h1, fun p p1 p2 => hasZ_iff.1 (h2 p (by omega) p2)⟩
  · exact .inr ⟨by omega, h2, fun z hz => hasZ_not.1 h3 z hz, fun p p1 p2 => hasZ_iff.1 (h4 p (by omega) p2)⟩
/-- The book behind the first so many records. -/
def foldN (b : Bo) (rs : List Rc) (k : Nat) : Bo := (rs.take k).foldl noteB b
theorem foldN_succ (b : Bo) (rs : List Rc) (k : Nat) (h : k < rs.length) : foldN b rs (k + 1) = noteB (foldN b rs k) rs[k] := by
  unfold foldN
  rw [List.take_succ_eq_append_getElem h, List.foldl_append]
  rfl
theorem foldN_zero (b : Bo) (rs : List Rc) : foldN b rs 0 = b := rfl
theorem fresh_anyC {P : Program} {md : Region.Mode} {ops : Array Oper} {Q : Exit → Act → World → Prop} {c : Nat → Bool} {S : World → Prop} {fuel : Nat} {listed : Array Bool} {a : Act} {W : World} (R : World → Prop) (hR : R W)
    (h : ∀ W2, R W2 → anyC P md ops Q c S fuel listed a W2) : anyC P md ops Q c S fuel listed a W := h W hR
/-- A state that is come to on several ways is looked at once. -/
theorem node2 {C : Prop} (Inv : Nat → Nat → World → Prop) (G : Nat → Nat → World → Prop) (h1 : (∀ x y W, Inv x y W → G x y W) → C) (h2 : ∀ x y W, Inv x y W → G x y W) : C := h1 h2
theorem nodeZ {C : Prop} (Inv : Nat → Nat → Option Addr → Nat → World → Prop) (G : Nat → Nat → Option Addr → Nat → World → Prop) (h1 : (∀ x y A c W, Inv x y A c W → G x y A c W) → C) (h2 : ∀ x y A c W, Inv x y A c W → G x y A c W) : C := h1 h2
theorem new_zrow (W : World) (B : Nat) (hB : B ≤ W.heap.size) : zoE.Row (W.alloc (.cells #[] 60)) B 60 (some ⟨W.heap.size, 0, none⟩) 0 [] :=
  ⟨rfl, .inr ⟨W.heap.size, 0, #[], rfl, hB, heap_alloc_new W _, Nat.le_refl _, by decide, rfl, rfl⟩⟩
theorem new_nrow (W : World) (B : Nat) (hB : B ≤ W.heap.size) : NRow (W.alloc (.cells #[] 3)) B (some ⟨W.heap.size, 0, none⟩) 0 [] :=
  ⟨rfl, .inr ⟨W.heap.size, 0, #[], rfl, hB, heap_alloc_new W _, Nat.le_refl _, by decide, rfl, rfl⟩⟩
theorem zrow_lt {W : World} {B g : Nat} (h : zoE.Row W B 60 (some ⟨g, 0, none⟩) 0 []) : B ≤ g ∧ g < W.heap.size := by
  rcases h.form with ⟨e, _⟩ | ⟨g', e, h1, h2, _⟩
  · cases e
  · injection e with e; injection e with e; omega
theorem nrow_lt {W : World} {B g : Nat} (h : NRow W B (some ⟨g, 0, none⟩) 0 []) : B ≤ g ∧ g < W.heap.size := by
  rcases h.form with ⟨e, _⟩ | ⟨g', e, h1, h2, _⟩
  · cases e
  · injection e with e; injection e with e; omega
theorem info_some {P : Program} {t : TypeId} {k b : Nat} (h : Enc.Inf P t k b) : ∃ i z, P.info? t = some i ∧ i.zero = some z ∧ z.cells.size = k ∧ i.size = k ∧ i.bytes = b := by
  unfold Enc.Inf at h
  rw [Option.map_eq_some_iff] at h
  obtain ⟨i, hi, he⟩ := h
  simp only [Prod.mk.injEq, Option.map_eq_some_iff] at he
  obtain ⟨⟨z0, hz, hzs⟩, hs, hby'⟩ := he
  exact ⟨i, z0, hi, hz, hzs, hs, hby'⟩
/-- Zones copied into a list of one's own. -/
theorem zcopy {W : World} {B g : Nat} (h : zoE.Row W B 60 (some ⟨g, 0, none⟩) 0 []) {A : Option Addr} {c : Nat} {zs : List Zo} (hI : zoE.In W A zs) (hn : A = none → c = 0) (hl : zs.length ≤ 64) (hb : B ≤ W.heap.size) :
    ∃ A' c' W', (Builtin.append_ #[30, 30] 30 #[.slice (some ⟨g, 0, none⟩) 0 0, .slice A zs.length c]).run Try.prog W = .ok (.slice A' zs.length c') W' ∧ zoE.In W' A' zs ∧ W.grownBy W' (some g) ∧ ∀ k off, A' = some ⟨k, off, none⟩ → (k = g ∨ k = W.heap.size) ∧ k < W'.heap.size := by
  cases A with
  | none =>
    obtain rfl := hn rfl
    have hzs : zs = [] := by
      rcases hI with h | ⟨b, off, h, _⟩
      · exact h
      · cases h
    subst hzs
    obtain ⟨i, z, hi, -⟩ := info_some infZo
    exact ⟨some ⟨g, 0, none⟩, 0, W, run_append_owned_none _ B 30 30 60 i 3 Try.underlying30 hi _ _ _ h, .inl rfl, ⟨rfl, rfl, rfl, Nat.le_refl _, fun _ _ _ => rfl⟩, fun k off e => by injection e with e; injection e with e; exact ⟨.inl e.symm, by have := (zrow_lt h).2; omega⟩⟩
  | some ad =>
    obtain ⟨A', c', W', hrun, hrow, hg, hA⟩ := h.concat (P := Try.prog) Try.underlying30 infZo (by decide) (by decide) (c2 := c) hI (by simp) (by omega) hb 30
    have e : ([] : List Zo).length + zs.length = zs.length := by simp
    rw [e] at hrun
    rw [List.nil_append] at hrow
    refine ⟨A', c', W', hrun, hrow.in_, hg, fun k off e => ?_⟩
    have hlt : k < W'.heap.size := by
      rcases hrow.form with ⟨e2, _⟩ | ⟨g2, e2, _, hl2, _⟩
      · rw [e2] at e; cases e
      · rw [e2] at e; injection e with e; injection e with e; omega
    rcases hA with rfl | rfl
    · injection e with e; injection e with e; exact ⟨.inl e.symm, hlt⟩
    · injection e with e; injection e with e; exact ⟨.inr e.symm, hlt⟩
/-- Members copied into a list of one's own. -/
theorem mcopy {W : World} {B g : Nat} (h : NRow W B (some ⟨g, 0, none⟩) 0 []) {A : Option Addr} {c : Nat} {zs : List Int} (hI : IntsIn W A zs) (hn : A = none → c = 0) (hl : zs.length ≤ 64) (hb : B ≤ W.heap.size) :
    ∃ A' c' W', (Builtin.append_ #[31, 31] 31 #[.slice (some ⟨g, 0, none⟩) 0 0, .slice A zs.length c]).run Try.prog W = .ok (.slice A' zs.length c') W' ∧ IntsIn W' A' zs ∧ W.grownBy W' (some g) := by
  have hinfo : Enc.Inf Try.prog 3 1 8 := by unfold Enc.Inf; kernel_rfl
  obtain ⟨i, z, hi, hz, hzs, hs, hby⟩ := info_some hinfo
  cases A with
  | none =>
    obtain rfl := hn rfl
    have hzs : zs = [] := by
      rcases hI with h | ⟨b, off, h, _⟩
      · exact h
      · cases h
    subst hzs
    exact ⟨some ⟨g, 0, none⟩, 0, W, run_append_owned_none _ B 31 31 3 i 1 Try.underlying31 hi _ _ _ h, .inl rfl, ⟨rfl, rfl, rfl, Nat.le_refl _, fun _ _ _ => rfl⟩⟩
  | some ad =>
    have hcells : ∀ j u, (zs.map (Value.int .i64))[j]? = some u → W.cell? (ad.add j) = some u := by
      intro j u hu
      rcases hI with rfl | ⟨b, off, he, _, hc⟩
      · simp at hu
      · obtain rfl := Option.some.inj he
        rw [List.getElem?_map] at hu
        by_cases hj : j < zs.length
        · rw [List.getElem?_eq_getElem hj] at hu
          simp only [Option.map_some, Option.some.injEq] at hu
          rw [Go.WideShapes.add_plain, hc j hj, hu]
        · rw [List.getElem?_eq_none (by omega)] at hu
          cases hu
    obtain ⟨v', W', h1, h2, h3, _, h5⟩ := run_append_own_at (P := Try.prog) W B 31 31 3 i z 1 8 Try.underlying31 hi hz hs hby hzs (by decide) _ _ _ h ad zs.length c (zs.map (Value.int .i64)) (by simp) hcells
      (by
        intro u hu
        obtain ⟨y, _, rfl⟩ := List.mem_map.1 hu
        rfl) (by show 0 + zs.length ≤ _; unfold maxLen; omega) (by show (0 + zs.length) * 8 ≤ _; omega) hb
    have e : ([] : List Int).length + zs.length = zs.length := by simp
    have h2' : W'.ownsRow B 3 1 v' zs.length (zs.map (Value.int .i64)) := by rw [← e]; exact h2
    obtain ⟨A', c', rfl⟩ : ∃ A' c', v' = .slice A' zs.length c' := by
      rcases h2'.2 with ⟨hv, h0⟩ | ⟨g', cap', cur, hv, _⟩
      · exact ⟨none, 0, by rw [hv, h0]⟩
      · exact ⟨_, _, hv⟩
    have hr : NRow W' B A' c' zs := h2'
    exact ⟨A', c', W', h1, hr.ints, h3⟩
theorem ints_kept {W W' : World} {o : Option Nat} (hg : W.grownBy W' o) {A : Option Addr} {zs : List Int} (h : IntsIn W A zs) (hn : ∀ k off, A = some ⟨k, off, none⟩ → o ≠ some k) : IntsIn W' A zs := by
  rcases h with h | ⟨b, off, e, hlt, hc⟩
  · exact .inl h
  · exact .inr ⟨b, off, e, Nat.lt_of_lt_of_le hlt hg.size, fun i hi => (World.cell?_of_block (a := ⟨b, _, none⟩) (hg.block b hlt (fun e' => hn b off e e'.symm))).trans (hc i hi)⟩
theorem zin_kept {W W' : World} {o : Option Nat} (hg : W.grownBy W' o) {A : Option Addr} {zs : List Zo} (h : zoE.In W A zs) (hn : ∀ k off, A = some ⟨k, off, none⟩ → o ≠ some k) : zoE.In W' A zs := by
  rcases h with h | ⟨b, off, e, hlt, hc⟩
  · exact .inl h
  · exact .inr ⟨b, off, e, Nat.lt_of_lt_of_le hlt hg.size, fun i hi j hj => (World.cell?_of_block (a := ⟨b, _, none⟩) (hg.block b hlt (fun e' => hn b off e e'.symm))).trans (hc i hi j hj)⟩
theorem nodeT {C : Prop} (Inv : Nat → Option Addr → Nat → Option Addr → Nat → World → Prop) (G : Nat → Option Addr → Nat → Option Addr → Nat → World → Prop) (h1 : (∀ T A c B d W, Inv T A c B d W → G T A c B d W) → C) (h2 : ∀ T A c B d W, Inv T A c B d W → G T A c B d W) : C := h1 h2
theorem own_offB {W : World} {B : Nat} {A1 A2 : Option Addr} {c1 c2 : Nat} {b : Bo} (h : BkO W B A1 c1 A2 c2 b) : A1 ≠ some ⟨W.heap.size, 0, none⟩ ∧ A2 ≠ some ⟨W.heap.size, 0, none⟩ := by
  refine ⟨fun e => ?_, fun e => ?_⟩
  · rcases h.z.form with ⟨e', _⟩ | ⟨g, e', _, hl, _⟩
    · rw [e'] at e; cases e
    · rw [e'] at e; injection e with e; injection e with e; omega
  · rcases h.m.form with ⟨e', _⟩ | ⟨g, e', _, hl, _⟩
    · rw [e'] at e; cases e
    · rw [e'] at e; injection e with e; injection e with e; omega
/-- The world within a round of BookNotes: the copies, the new book. -/
structure NrW (w W : World) (D Z B O A : Int) (G X Y : Nat) (A1 : Option Addr) (c1 : Nat) (A2 : Option Addr) (c2 : Nat) (b : Bo) (V1 : Option Addr) (v1 : Nat) (V2 : Option Addr) (v2 : Nat) (b0 : Bo) (Al : Option Addr) (rs : List Rc)
    (Zc Mc : Option Addr) (T : Nat) (N1 : Option Addr) (n1 : Nat) (N2 : Option Addr) (n2 : Nat) (b' : Bo) (Bs : Nat) : Prop where
  n : BnW w W D Z B O A G X Y A1 c1 A2 c2 b V1 v1 V2 v2 b0 Al rs
  z : zoE.In W Zc b.zs
  m : IntsIn W Mc b.ms
  t : BkAt W T N1 n1 N2 n2 b'
  o : BkO W Bs N1 n1 N2 n2 b'
  x : X < Bs
theorem NrW.below {w W W' : World} {D Z B O A : Int} {G X Y : Nat} {A1 : Option Addr} {c1 : Nat} {A2 : Option Addr} {c2 : Nat} {b : Bo} {V1 : Option Addr} {v1 : Nat} {V2 : Option Addr} {v2 : Nat} {b0 : Bo} {Al : Option Addr} {rs : List Rc} {Zc Mc : Option Addr} {T : Nat} {N1 : Option Addr} {n1 : Nat} {N2 : Option Addr} {n2 : Nat} {b' : Bo} {Bs : Nat}
    (h : NrW w W D Z B O A G X Y A1 c1 A2 c2 b V1 v1 V2 v2 b0 Al rs Zc Mc T N1 n1 N2 n2 b' Bs) (hb : Below W.heap.size W W') : NrW w W' D Z B O A G X Y A1 c1 A2 c2 b V1 v1 V2 v2 b0 Al rs Zc Mc T N1 n1 N2 n2 b' Bs :=
  ⟨h.n.below hb, h.z.below hb, h.m.below hb, h.t.below hb, h.o.below hb, h.x⟩
theorem three_set {W : World} {S : Nat} {v0 v1 v2 : Value} (z0 : W.cell? ⟨S, 0, none⟩ = some v0) (z1 : W.cell? ⟨S, 1, none⟩ = some v1) (z2 : W.cell? ⟨S, 2, none⟩ = some v2) (a b c : Value) :
    (fun W' => W'.cell? ⟨S, 0, none⟩ = some a ∧ W'.cell? ⟨S, 1, none⟩ = some b ∧ W'.cell? ⟨S, 2, none⟩ = some c ∧ Below S W W') (((W.setCell ⟨S, 0, none⟩ a).setCell ⟨S, 1, none⟩ b).setCell ⟨S, 2, none⟩ c) := by
  have b1 : Below S W (W.setCell ⟨S, 0, none⟩ a) := (Below.refl S W).setCell (Nat.le_refl S) a
  have y0 := cellS z0 a
  have y1 := (cellN W S 0 1 a (by omega)).trans z1
  have y2 := (cellN W S 0 2 a (by omega)).trans z2
  generalize W.setCell ⟨S, 0, none⟩ a = W1 at b1 y0 y1 y2 ⊢
  have b2 : Below S W (W1.setCell ⟨S, 1, none⟩ b) := b1.setCell (Nat.le_refl S) b
  have x0 := (cellN W1 S 1 0 b (by omega)).trans y0
  have x1 := cellS y1 b
  have x2 := (cellN W1 S 1 2 b (by omega)).trans y2
  generalize W1.setCell ⟨S, 1, none⟩ b = W2 at b2 x0 x1 x2 ⊢
  exact ⟨(cellN W2 S 2 0 c (by omega)).trans x0, (cellN W2 S 2 1 c (by omega)).trans x1, cellS x2 c, b2.setCell (Nat.le_refl S) c⟩
end Go.Proofs.Ytpmhfalhieinjaa
