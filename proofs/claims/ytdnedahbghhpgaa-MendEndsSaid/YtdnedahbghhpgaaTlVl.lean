/- The words of views' loop. -/
import Derived.Test.YtdnedahbghhpgaaTlVi
namespace Go.Proofs.Ytdnedahbghhpgaa
open Go.RowKit Tl

/-- The argument's box and the results'. -/
structure ViB (w W : World) (A0 : Option Addr) (c0 : Nat) (ls : List Int) (m : Int) (N0 : Option Addr) (d0 : Nat) (ps : List (Int × Int)) : Prop where
  i0 : W.cell? ⟨w.heap.size, 0, none⟩ = some (.slice A0 ls.length c0)
  i1 : W.cell? ⟨w.heap.size, 1, none⟩ = some (.int .i64 m)
  i2 : W.cell? ⟨w.heap.size, 2, none⟩ = some (.slice N0 ps.length d0)
  r1 : W.heap[w.heap.size + 1]? = some (.cells #[.slice none 0 0, .int .i64 0, .slice none 0 0] 31 (0, 0))
  r2 : W.heap[w.heap.size + 2]? = some (.cells #[.slice none 0 0, .int .i64 0, .slice none 0 0] 34 (0, 0))
  bw : Below w.heap.size w W
theorem ViB.below {w W W' : World} {A0 : Option Addr} {c0 : Nat} {ls : List Int} {m : Int} {N0 : Option Addr} {d0 : Nat} {ps : List (Int × Int)} (h : ViB w W A0 c0 ls m N0 d0 ps) (hb : Below W.heap.size W W') : ViB w W' A0 c0 ls m N0 d0 ps :=
  ⟨keepC h.i0 hb, keepC h.i1 hb, keepC h.i2 hb, (hb.block _ (Array.getElem?_eq_some_iff.1 h.r1).1).trans h.r1, (hb.block _ (Array.getElem?_eq_some_iff.1 h.r2).1).trans h.r2, bmore h.bw hb⟩
theorem ViB.new (w : World) (A0 : Option Addr) (c0 : Nat) (ls : List Int) (m : Int) (N0 : Option Addr) (d0 : Nat) (ps : List (Int × Int)) :
    ViB w (((w.alloc (.cells #[.slice A0 ls.length c0, .int .i64 m, .slice N0 ps.length d0] 27)).alloc (.cells #[.slice none 0 0, .int .i64 0, .slice none 0 0] 31)).alloc (.cells #[.slice none 0 0, .int .i64 0, .slice none 0 0] 34)) A0 c0 ls m N0 d0 ps := by
  have s1 := World.size_alloc w (.cells #[.slice A0 ls.length c0, .int .i64 m, .slice N0 ps.length d0] 27)
  have c1 := fun j => cell_of_row (w.alloc (.cells #[.slice A0 ls.length c0, .int .i64 m, .slice N0 ps.length d0] 27)) w.heap.size j _ _ _ (World.alloc_heap_new w (.cells #[.slice A0 ls.length c0, .int .i64 m, .slice N0 ps.length d0] 27))
  have b1 := (Below.refl w.heap.size w).alloc (Nat.le_refl _) (.cells #[.slice A0 ls.length c0, .int .i64 m, .slice N0 ps.length d0] 27)
  generalize w.alloc (.cells #[.slice A0 ls.length c0, .int .i64 m, .slice N0 ps.length d0] 27) = W1 at s1 c1 b1 ⊢
  have s2 := World.size_alloc W1 (.cells #[.slice none 0 0, .int .i64 0, .slice none 0 0] 31)
  have h2 := World.alloc_heap_new W1 (.cells #[.slice none 0 0, .int .i64 0, .slice none 0 0] 31)
  have a2 := (Below.refl W1.heap.size W1).alloc (Nat.le_refl _) (.cells #[.slice none 0 0, .int .i64 0, .slice none 0 0] 31)
  rw [s1] at s2 h2
  have b2 := bmore b1 a2
  have k0 := keepC (c1 0) a2
  have k1 := keepC (c1 1) a2
  have k2 := keepC (c1 2) a2
  clear a2 b1 c1
  generalize W1.alloc (.cells #[.slice none 0 0, .int .i64 0, .slice none 0 0] 31) = W2 at s2 h2 b2 k0 k1 k2 ⊢
  have h3 := World.alloc_heap_new W2 (.cells #[.slice none 0 0, .int .i64 0, .slice none 0 0] 34)
  have a3 := (Below.refl W2.heap.size W2).alloc (Nat.le_refl _) (.cells #[.slice none 0 0, .int .i64 0, .slice none 0 0] 34)
  rw [s2] at h3
  exact ⟨keepC k0 a3, keepC k1 a3, keepC k2 a3, (a3.block _ (Array.getElem?_eq_some_iff.1 h2).1).trans h2, h3, bmore b2 a3⟩
theorem ViV.below {w W W' : World} {t : TypeId} {b : Nat} {A : Option Addr} {c : Nat} {zs : List Int} {m : Int} (h : ViV w W t b A c zs m) (hb : Below W.heap.size W W') : ViV w W' t b A c zs m :=
  ⟨(hb.block _ (Array.getElem?_eq_some_iff.1 h.z).1).trans h.z, h.r.below hb, h.ne, h.ge, bmore h.bw hb⟩
/-- What views returns. -/
def ViPost (w : World) (ls : List Int) (m : Int) (ps : List (Int × Int)) (e : Ending) (w' : World) : Prop := ∃ A1 c1 B1 d1 A2 c2 B2 d2, e = .returned (.tuple #[.agg #[.slice A1 ls.length c1, .int .i64 m, .slice B1 ps.length d1], .agg #[.slice A2 ls.length c2, .int .i64 m, .slice B2 ps.length d2]]) ∧
  IntsIn w' A1 ls ∧ ntE.In w' B1 ps ∧ IntsIn w' A2 ls ∧ ntE.In w' B2 ps ∧ Below w.heap.size w w' ∧ inE.Row w' (w.heap.size + 3) 3 A1 c1 ls ∧ ntE.Row w' (w.heap.size + 3) 48 B1 d1 ps ∧ ∀ g, A1 = some ⟨g, 0, none⟩ → B1 ≠ some ⟨g, 0, none⟩
theorem infoN1 : Enc.Inf Try.prog 48 2 16 := by unfold Enc.Inf; kernel_rfl
theorem infoN2 : Enc.Inf Try.prog 106 2 16 := by unfold Enc.Inf; kernel_rfl
theorem ViB.keep {w W W' : World} {A0 : Option Addr} {c0 : Nat} {ls : List Int} {m : Int} {N0 : Option Addr} {d0 : Nat} {ps : List (Int × Int)} {k : Nat} (h : ViB w W A0 c0 ls m N0 d0 ps) (hb : Below k W W') (hk : w.heap.size + 2 < k) : ViB w W' A0 c0 ls m N0 d0 ps :=
  ⟨(hb.cell (p := ⟨w.heap.size, 0, none⟩) (by show w.heap.size < k; omega)).trans h.i0, (hb.cell (p := ⟨w.heap.size, 1, none⟩) (by show w.heap.size < k; omega)).trans h.i1, (hb.cell (p := ⟨w.heap.size, 2, none⟩) (by show w.heap.size < k; omega)).trans h.i2, (hb.block _ (by omega)).trans h.r1, (hb.block _ (by omega)).trans h.r2, h.bw.trans (hb.mono (by omega))⟩
/-- The two views, a note after the other: i notes in the first, j in the second. -/
structure LpB (w : World) (b4 b5 B q1 q2 : Nat) (A1 : Option Addr) (c1 : Nat) (A2 : Option Addr) (c2 : Nat) (A0 : Option Addr) (c0 : Nat) (ls : List Int) (m : Int) (N0 : Option Addr) (d0 : Nat) (ps : List (Int × Int)) (i j : Nat) (B1 : Option Addr) (d1 : Nat) (B2 : Option Addr) (d2 : Nat) (W : World) : Prop where
  z4 : W.heap[b4]? = some (.cells #[.slice A1 ls.length c1, .int .i64 m, .slice B1 i d1] 31 (0, 0))
  z5 : W.heap[b5]? = some (.cells #[.slice A2 ls.length c2, .int .i64 m, .slice B2 j d2] 34 (0, 0))
  r4 : inE.Row W q1 3 A1 c1 ls
  r5 : inE.Row W q2 3 A2 c2 ls
  n4 : ntE.Row W B 48 B1 d1 (ps.take i)
  n5 : ntE.Row W B 106 B2 d2 (ps.take j)
  ap : ∀ g, B1 = some ⟨g, 0, none⟩ → B2 ≠ some ⟨g, 0, none⟩
  e4 : ∀ g, A1 = some ⟨g, 0, none⟩ → g < B ∧ g ≠ b4 ∧ g ≠ b5
  e5 : ∀ g, A2 = some ⟨g, 0, none⟩ → g < B ∧ g ≠ b4 ∧ g ≠ b5
  l4 : w.heap.size + 2 < b4
  l5 : w.heap.size + 2 < b5
  m4 : b4 < B
  m5 : b5 < B
  ne : b4 ≠ b5
  hi : i ≤ ps.length
  hj : j ≤ ps.length
  hB : B ≤ W.heap.size
  vb : ViB w W A0 c0 ls m N0 d0 ps
theorem LpB.below {w : World} {b4 b5 B q1 q2 : Nat} {A1 : Option Addr} {c1 : Nat} {A2 : Option Addr} {c2 : Nat} {A0 : Option Addr} {c0 : Nat} {ls : List Int} {m : Int} {N0 : Option Addr} {d0 : Nat} {ps : List (Int × Int)} {i j : Nat} {B1 : Option Addr} {d1 : Nat} {B2 : Option Addr} {d2 : Nat} {W W' : World} (h : LpB w b4 b5 B q1 q2 A1 c1 A2 c2 A0 c0 ls m N0 d0 ps i j B1 d1 B2 d2 W) (hb : Below W.heap.size W W') : LpB w b4 b5 B q1 q2 A1 c1 A2 c2 A0 c0 ls m N0 d0 ps i j B1 d1 B2 d2 W' :=
  ⟨(hb.block _ (Array.getElem?_eq_some_iff.1 h.z4).1).trans h.z4, (hb.block _ (Array.getElem?_eq_some_iff.1 h.z5).1).trans h.z5, h.r4.below hb, h.r5.below hb, h.n4.below hb, h.n5.below hb, h.ap, h.e4, h.e5, h.l4, h.l5, h.m4, h.m5, h.ne, h.hi, h.hj, Nat.le_trans h.hB hb.size, h.vb.below hb⟩
theorem own_of {A : Option Addr} {n cap g : Nat} (h : (Value.slice A n cap).ownBlock = some g) (hf : ∀ b o x, A = some ⟨b, o, x⟩ → o = 0 ∧ x = none) : A = some ⟨g, 0, none⟩ := by
  rcases A with _ | ⟨b, off, x⟩
  · simp [Value.ownBlock] at h
  · obtain ⟨rfl, rfl⟩ := hf b off x rfl
    simp only [Value.ownBlock, Option.some.injEq] at h
    rw [h]
theorem row_own {W : World} {base cap n g : Nat} {t : TypeId} {A : Option Addr} {zs : List (Int × Int)} (h : ntE.Row W base t A cap zs) (e : (Value.slice A n cap).ownBlock = some g) : A = some ⟨g, 0, none⟩ ∧ base ≤ g := by
  rcases h.form with ⟨rfl, _⟩ | ⟨g', rfl, h2, _⟩
  · simp [Value.ownBlock] at e
  · simp only [Value.ownBlock, Option.some.injEq] at e
    exact ⟨by rw [e], by omega⟩
theorem row_at_ne {W : World} {base cap b : Nat} {t : TypeId} {A : Option Addr} {zs : List (Int × Int)} (h : ntE.Row W base t A cap zs) (hb : b < base) : ∀ g, A = some ⟨g, 0, none⟩ → some b ≠ some g := fun g e e' => by
  injection e' with e'
  rcases h.form with ⟨h1, _⟩ | ⟨g', h1, h2, _⟩
  · rw [h1] at e; cases e
  · rw [h1] at e; injection e with e; injection e with e; omega
theorem LpB.push4 {w : World} {b4 b5 B q1 q2 : Nat} {A1 : Option Addr} {c1 : Nat} {A2 : Option Addr} {c2 : Nat} {A0 : Option Addr} {c0 : Nat} {ls : List Int} {m : Int} {N0 : Option Addr} {d0 : Nat} {ps : List (Int × Int)} {i j : Nat} {B1 : Option Addr} {d1 : Nat} {B2 : Option Addr} {d2 : Nat} {W W' : World} {A' : Option Addr} {cap' : Nat} (h : LpB w b4 b5 B q1 q2 A1 c1 A2 c2 A0 c0 ls m N0 d0 ps i j B1 d1 B2 d2 W) (hlt : i < ps.length) (hrow : ntE.Row W' B 48 A' cap' (ps.take (i + 1))) (hgr : W.grownBy W' (Value.slice B1 i d1).ownBlock) (hor : A' = B1 ∨ A' = some ⟨W.heap.size, 0, none⟩) :
    LpB w b4 b5 B q1 q2 A1 c1 A2 c2 A0 c0 ls m N0 d0 ps (i + 1) j A' cap' B2 d2 (W'.setCell ⟨b4, 2, none⟩ (.slice A' (i + 1) cap')) := by
  have hge : ∀ g, (Value.slice B1 i d1).ownBlock = some g → B1 = some ⟨g, 0, none⟩ ∧ B ≤ g := fun g e => row_own h.n4 e
  have hbB : Below B W W' := (Below.refl B W).grown hgr h.hB (fun k e => (hge k e).2)
  have hb : Below b4 W (W'.setCell ⟨b4, 2, none⟩ (.slice A' (i + 1) cap')) := (hbB.mono (Nat.le_of_lt h.m4)).setCell (Nat.le_refl _) _
  have y := (hbB.block _ h.m4).trans h.z4
  have yo := (hbB.block _ h.m5).trans h.z5
  have hs := heap_setV y 2 (.slice A' (i + 1) cap')
  have hso := (Below.heap_setCell W' ⟨b4, 2, none⟩ (.slice A' (i + 1) cap') b5 (fun e => h.ne e.symm)).trans yo
  have f4 : inE.Row (W'.setCell ⟨b4, 2, none⟩ (.slice A' (i + 1) cap')) q1 3 A1 c1 ls := (h.r4.far hgr (fun g e e' => by have := (hge g e').2; have := (h.e4 g e).1; omega)).far (grownV W' b4 2 _) (fun g e e' => by injection e' with e'; exact (h.e4 g e).2.1 e'.symm)
  have f5 : inE.Row (W'.setCell ⟨b4, 2, none⟩ (.slice A' (i + 1) cap')) q2 3 A2 c2 ls := (h.r5.far hgr (fun g e e' => by have := (hge g e').2; have := (h.e5 g e).1; omega)).far (grownV W' b4 2 _) (fun g e e' => by injection e' with e'; exact (h.e5 g e).2.1 e'.symm)
  have g1 : ntE.Row (W'.setCell ⟨b4, 2, none⟩ (.slice A' (i + 1) cap')) B 48 A' cap' (ps.take (i + 1)) := hrow.far (grownV W' b4 2 _) (row_at_ne hrow h.m4)
  have g2 := (h.n5.far hgr (fun g e e' => h.ap g (hge g e').1 e)).far (grownV W' b4 2 (.slice A' (i + 1) cap')) (row_at_ne h.n5 h.m4)
  have hap : ∀ g, A' = some ⟨g, 0, none⟩ → B2 ≠ some ⟨g, 0, none⟩ := fun g e e' => by
    rcases hor with h1 | h1
    · rw [h1] at e; exact h.ap g e e'
    · rw [h1] at e; injection e with e; injection e with e
      rcases h.n5.form with ⟨h2, _⟩ | ⟨g', h2, _, h3, _⟩
      · rw [h2] at e'; cases e'
      · rw [h2] at e'; injection e' with e'; injection e' with e'; omega
  have hsz : B ≤ (W'.setCell ⟨b4, 2, none⟩ (.slice A' (i + 1) cap')).heap.size := Nat.le_trans h.hB hb.size
  exact ⟨hs, hso, f4, f5, g1, g2, hap, h.e4, h.e5, h.l4, h.l5, h.m4, h.m5, h.ne, hlt, h.hj, hsz, h.vb.keep hb h.l4⟩
theorem LpB.push5 {w : World} {b4 b5 B q1 q2 : Nat} {A1 : Option Addr} {c1 : Nat} {A2 : Option Addr} {c2 : Nat} {A0 : Option Addr} {c0 : Nat} {ls : List Int} {m : Int} {N0 : Option Addr} {d0 : Nat} {ps : List (Int × Int)} {i j : Nat} {B1 : Option Addr} {d1 : Nat} {B2 : Option Addr} {d2 : Nat} {W W' : World} {A' : Option Addr} {cap' : Nat} (h : LpB w b4 b5 B q1 q2 A1 c1 A2 c2 A0 c0 ls m N0 d0 ps i j B1 d1 B2 d2 W) (hlt : j < ps.length) (hrow : ntE.Row W' B 106 A' cap' (ps.take (j + 1))) (hgr : W.grownBy W' (Value.slice B2 j d2).ownBlock) (hor : A' = B2 ∨ A' = some ⟨W.heap.size, 0, none⟩) :
    LpB w b4 b5 B q1 q2 A1 c1 A2 c2 A0 c0 ls m N0 d0 ps i (j + 1) B1 d1 A' cap' (W'.setCell ⟨b5, 2, none⟩ (.slice A' (j + 1) cap')) := by
  have hge : ∀ g, (Value.slice B2 j d2).ownBlock = some g → B2 = some ⟨g, 0, none⟩ ∧ B ≤ g := fun g e => row_own h.n5 e
  have hbB : Below B W W' := (Below.refl B W).grown hgr h.hB (fun k e => (hge k e).2)
  have hb : Below b5 W (W'.setCell ⟨b5, 2, none⟩ (.slice A' (j + 1) cap')) := (hbB.mono (Nat.le_of_lt h.m5)).setCell (Nat.le_refl _) _
  have y := (hbB.block _ h.m5).trans h.z5
  have yo := (hbB.block _ h.m4).trans h.z4
  have hs := heap_setV y 2 (.slice A' (j + 1) cap')
  have hso := (Below.heap_setCell W' ⟨b5, 2, none⟩ (.slice A' (j + 1) cap') b4 (fun e => h.ne.symm e.symm)).trans yo
  have f4 : inE.Row (W'.setCell ⟨b5, 2, none⟩ (.slice A' (j + 1) cap')) q1 3 A1 c1 ls := (h.r4.far hgr (fun g e e' => by have := (hge g e').2; have := (h.e4 g e).1; omega)).far (grownV W' b5 2 _) (fun g e e' => by injection e' with e'; exact (h.e4 g e).2.2 e'.symm)
  have f5 : inE.Row (W'.setCell ⟨b5, 2, none⟩ (.slice A' (j + 1) cap')) q2 3 A2 c2 ls := (h.r5.far hgr (fun g e e' => by have := (hge g e').2; have := (h.e5 g e).1; omega)).far (grownV W' b5 2 _) (fun g e e' => by injection e' with e'; exact (h.e5 g e).2.2 e'.symm)
  have g1 : ntE.Row (W'.setCell ⟨b5, 2, none⟩ (.slice A' (j + 1) cap')) B 106 A' cap' (ps.take (j + 1)) := hrow.far (grownV W' b5 2 _) (row_at_ne hrow h.m5)
  have g2 := (h.n4.far hgr (fun g e e' => h.ap g e (hge g e').1)).far (grownV W' b5 2 (.slice A' (j + 1) cap')) (row_at_ne h.n4 h.m5)
  have hap : ∀ g, A' = some ⟨g, 0, none⟩ → B1 ≠ some ⟨g, 0, none⟩ := fun g e e' => by
    rcases hor with h1 | h1
    · rw [h1] at e; exact h.ap g e' e
    · rw [h1] at e; injection e with e; injection e with e
      rcases h.n4.form with ⟨h2, _⟩ | ⟨g', h2, _, h3, _⟩
      · rw [h2] at e'; cases e'
      · rw [h2] at e'; injection e' with e'; injection e' with e'; omega
  have hsz : B ≤ (W'.setCell ⟨b5, 2, none⟩ (.slice A' (j + 1) cap')).heap.size := Nat.le_trans h.hB hb.size
  exact ⟨hso, hs, f4, f5, g2, g1, fun g e e' => hap g e' e, h.e4, h.e5, h.l4, h.l5, h.m4, h.m5, h.ne, h.hi, hlt, hsz, h.vb.keep hb h.l5⟩
theorem LpB.start {w w1 W1 W2 : World} {b4 b5 : Nat} {A1 : Option Addr} {c1 : Nat} {A2 : Option Addr} {c2 : Nat} {A0 : Option Addr} {c0 : Nat} {ls : List Int} {m : Int} {N0 : Option Addr} {d0 : Nat} {ps : List (Int × Int)} (hw : ViB w w1 A0 c0 ls m N0 d0 ps) (h1 : ViV w1 W1 31 b4 A1 c1 ls m) (h2 : ViV W1 W2 34 b5 A2 c2 ls m) :
    LpB w b4 b5 W2.heap.size w1.heap.size W1.heap.size A1 c1 A2 c2 A0 c0 ls m N0 d0 ps 0 0 none 0 none 0 W2 := by
  have k1 := h1.below h2.bw
  have l0 := (Array.getElem?_eq_some_iff.1 hw.r2).1
  have l1 := (Array.getElem?_eq_some_iff.1 h1.z).1
  have l2 := (Array.getElem?_eq_some_iff.1 h2.z).1
  have g1 := h1.ge
  have g2 := h2.ge
  have s1 := h1.bw.size
  have s2 := h2.bw.size
  refine ⟨k1.z, h2.z, k1.r, h2.r, Enc.Row.nil _ _ _, Enc.Row.nil _ _ _, fun g e => (by cases e), fun g e => ?_, fun g e => ?_, by omega, by omega, by omega, by omega, by omega, Nat.zero_le _, Nat.zero_le _, Nat.le_refl _, (hw.below h1.bw).below h2.bw⟩
  · have := h1.ne g e
    rcases h1.r.form with ⟨x, _⟩ | ⟨g', x, _, y, _⟩
    · rw [x] at e; cases e
    · rw [x] at e; injection e with e; injection e with e; omega
  · have := h2.ne g e
    rcases h2.r.form with ⟨x, _⟩ | ⟨g', x, z, y, _⟩
    · rw [x] at e; cases e
    · rw [x] at e; injection e with e; injection e with e; omega
/-- Behind the loop: what the results' boxes hold. -/
structure EnB (w : World) (b4 b5 k : Nat) (A1 : Option Addr) (c1 : Nat) (A2 : Option Addr) (c2 : Nat) (ls : List Int) (xs : List (Int × Int)) (B1 : Option Addr) (d1 : Nat) (B2 : Option Addr) (d2 : Nat) (x y u v : Array Value) (W : World) : Prop where
  r1 : W.heap[w.heap.size + 1]? = some (.cells x 31 (0, 0))
  r2 : W.heap[w.heap.size + 2]? = some (.cells y 34 (0, 0))
  z4 : W.heap[b4]? = some (.cells u 31 (0, 0))
  z5 : W.heap[b5]? = some (.cells v 34 (0, 0))
  i4 : inE.Row W k 3 A1 c1 ls
  i5 : inE.Row W k 3 A2 c2 ls
  n4 : ntE.Row W k 48 B1 d1 xs
  n5 : ntE.Row W k 106 B2 d2 xs
  hk : w.heap.size + 2 < k
  l4 : w.heap.size + 2 < b4
  l5 : w.heap.size + 2 < b5
  bw : Below w.heap.size w W
  ap : ∀ g, A1 = some ⟨g, 0, none⟩ → B1 ≠ some ⟨g, 0, none⟩
theorem LpB.fin {w : World} {b4 b5 B q1 q2 : Nat} {A1 : Option Addr} {c1 : Nat} {A2 : Option Addr} {c2 : Nat} {A0 : Option Addr} {c0 : Nat} {ls : List Int} {m : Int} {N0 : Option Addr} {d0 : Nat} {ps : List (Int × Int)} {i : Nat} {B1 : Option Addr} {d1 : Nat} {B2 : Option Addr} {d2 : Nat} {W : World} (h : LpB w b4 b5 B q1 q2 A1 c1 A2 c2 A0 c0 ls m N0 d0 ps i i B1 d1 B2 d2 W) (hq1 : w.heap.size + 2 < q1) (hq2 : w.heap.size + 2 < q2) :
    EnB w b4 b5 (w.heap.size + 3) A1 c1 A2 c2 ls (ps.take i) B1 d1 B2 d2 #[.slice none 0 0, .int .i64 0, .slice none 0 0] #[.slice none 0 0, .int .i64 0, .slice none 0 0] #[.slice A1 ls.length c1, .int .i64 m, .slice B1 i d1] #[.slice A2 ls.length c2, .int .i64 m, .slice B2 i d2] W := by
  have l4 := h.l4
  have m4 := h.m4
  exact ⟨h.vb.r1, h.vb.r2, h.z4, h.z5, h.r4.mono (by omega), h.r5.mono (by omega), h.n4.mono (by omega), h.n5.mono (by omega), by omega, h.l4, h.l5, h.vb.bw, fun g e e' => by
    have := (h.e4 g e).1
    rcases h.n4.form with ⟨x, _⟩ | ⟨g', x, y, _⟩
    · rw [x] at e'; cases e'
    · rw [x] at e'; injection e' with e'; injection e' with e'; omega⟩
theorem rowE_ne {α : Type} {E : Enc α} {W : World} {base cap b : Nat} {t : TypeId} {A : Option Addr} {zs : List α} (h : E.Row W base t A cap zs) (hb : b < base) : ∀ g, A = some ⟨g, 0, none⟩ → some b ≠ some g := fun g e e' => by
  injection e' with e'
  rcases h.form with ⟨h1, _⟩ | ⟨g', h1, h2, _⟩
  · rw [h1] at e; cases e
  · rw [h1] at e; injection e with e; injection e with e; omega
section
variable {w : World} {b4 b5 k : Nat} {A1 : Option Addr} {c1 : Nat} {A2 : Option Addr} {c2 : Nat} {ls : List Int} {xs : List (Int × Int)} {B1 : Option Addr} {d1 : Nat} {B2 : Option Addr} {d2 : Nat} {x y u v : Array Value} {W : World}
theorem EnB.drew (h : EnB w b4 b5 k A1 c1 A2 c2 ls xs B1 d1 B2 d2 x y u v W) : EnB w b4 b5 k A1 c1 A2 c2 ls xs B1 d1 B2 d2 x y u v W.drew :=
  have hb : Below W.heap.size W W.drew := (Below.refl _ _).drew
  ⟨h.r1, h.r2, h.z4, h.z5, h.i4.below hb, h.i5.below hb, h.n4.below hb, h.n5.below hb, h.hk, h.l4, h.l5, h.bw.drew, h.ap⟩
theorem EnB.set1 (h : EnB w b4 b5 k A1 c1 A2 c2 ls xs B1 d1 B2 d2 x y u v W) (i : Nat) (q : Value) : EnB w b4 b5 k A1 c1 A2 c2 ls xs B1 d1 B2 d2 (x.setIfInBounds i q) y u v (W.setCell ⟨w.heap.size + 1, i, none⟩ q) := by
  have hk := h.hk
  have l4 := h.l4
  have l5 := h.l5
  exact ⟨heap_setV h.r1 i q, (Below.heap_setCell W ⟨w.heap.size + 1, i, none⟩ q _ (by show w.heap.size + 2 ≠ w.heap.size + 1; omega)).trans h.r2, (Below.heap_setCell W ⟨w.heap.size + 1, i, none⟩ q _ (by show b4 ≠ w.heap.size + 1; omega)).trans h.z4, (Below.heap_setCell W ⟨w.heap.size + 1, i, none⟩ q _ (by show b5 ≠ w.heap.size + 1; omega)).trans h.z5, h.i4.far (grownV _ _ _ _) (rowE_ne h.i4 (by omega)), h.i5.far (grownV _ _ _ _) (rowE_ne h.i5 (by omega)), h.n4.far (grownV _ _ _ _) (rowE_ne h.n4 (by omega)), h.n5.far (grownV _ _ _ _) (rowE_ne h.n5 (by omega)), hk, l4, l5, h.bw.setCell (by show w.heap.size ≤ w.heap.size + 1; omega) _, h.ap⟩
theorem EnB.set2 (h : EnB w b4 b5 k A1 c1 A2 c2 ls xs B1 d1 B2 d2 x y u v W) (i : Nat) (q : Value) : EnB w b4 b5 k A1 c1 A2 c2 ls xs B1 d1 B2 d2 x (y.setIfInBounds i q) u v (W.setCell ⟨w.heap.size + 2, i, none⟩ q) := by
  have hk := h.hk
  have l4 := h.l4
  have l5 := h.l5
  exact ⟨(Below.heap_setCell W ⟨w.heap.size + 2, i, none⟩ q _ (by show w.heap.size + 1 ≠ w.heap.size + 2; omega)).trans h.r1, heap_setV h.r2 i q, (Below.heap_setCell W ⟨w.heap.size + 2, i, none⟩ q _ (by show b4 ≠ w.heap.size + 2; omega)).trans h.z4, (Below.heap_setCell W ⟨w.heap.size + 2, i, none⟩ q _ (by show b5 ≠ w.heap.size + 2; omega)).trans h.z5, h.i4.far (grownV _ _ _ _) (rowE_ne h.i4 (by omega)), h.i5.far (grownV _ _ _ _) (rowE_ne h.i5 (by omega)), h.n4.far (grownV _ _ _ _) (rowE_ne h.n4 (by omega)), h.n5.far (grownV _ _ _ _) (rowE_ne h.n5 (by omega)), hk, l4, l5, h.bw.setCell (by show w.heap.size ≤ w.heap.size + 2; omega) _, h.ap⟩
theorem EnB.put1 {q0 q1 q2 : Value} (h : EnB w b4 b5 k A1 c1 A2 c2 ls xs B1 d1 B2 d2 #[.slice none 0 0, .int .i64 0, .slice none 0 0] y u v W) : EnB w b4 b5 k A1 c1 A2 c2 ls xs B1 d1 B2 d2 #[q0, q1, q2] y u v (((W.setCell ⟨w.heap.size + 1, 0, none⟩ q0).setCell ⟨w.heap.size + 1, 1, none⟩ q1).setCell ⟨w.heap.size + 1, 2, none⟩ q2) := ((h.set1 0 q0).set1 1 q1).set1 2 q2
theorem EnB.put2 {q0 q1 q2 : Value} (h : EnB w b4 b5 k A1 c1 A2 c2 ls xs B1 d1 B2 d2 x #[.slice none 0 0, .int .i64 0, .slice none 0 0] u v W) : EnB w b4 b5 k A1 c1 A2 c2 ls xs B1 d1 B2 d2 x #[q0, q1, q2] u v (((W.setCell ⟨w.heap.size + 2, 0, none⟩ q0).setCell ⟨w.heap.size + 2, 1, none⟩ q1).setCell ⟨w.heap.size + 2, 2, none⟩ q2) := ((h.set2 0 q0).set2 1 q1).set2 2 q2
end
end Go.Proofs.Ytdnedahbghhpgaa
