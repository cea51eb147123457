/- Groups made of plain data and added to a map. -/
import Derived.Test.YtbgkmppngnedlaaLmF
import Derived.Lib.MinMax
namespace Go.Proofs.Ytbgkmppngnedlaa
open Go.RowKit

theorem row_blkG {α : Type} {E : Enc α} {W : World} {base cap : Nat} {t : TypeId} {A : Option Addr} {xs : List α} (h : E.Row W base t A cap xs) {b o : Nat} {s : Option Nat} (e : A = some ⟨b, o, s⟩) : base ≤ b ∧ b < W.heap.size := by
  rcases h.form with ⟨e1, _⟩ | ⟨g, e1, h1, h2, _⟩
  · rw [e1] at e; cases e
  · rw [e1] at e; injection e with e; injection e with e _ _; subst e; exact ⟨h1, h2⟩
/-- Between two groups: the map, what was added. -/
structure MoW (w W : World) (base g m n : Nat) (x : Lm) (A : Option Addr) (ca : Nat) (ads : List Ad) : Prop where
  lm : LmAt W g m n x
  ra : adE.Row W base 60 A ca ads
  gm : (w.heap.size ≤ g ∧ g < base) ∧ (w.heap.size ≤ m ∧ m < base)
  bs : base ≤ W.heap.size
  bw : Below w.heap.size w W
theorem MoW.below {w W W' : World} {base g m n : Nat} {x : Lm} {A : Option Addr} {ca : Nat} {ads : List Ad} (h : MoW w W base g m n x A ca ads) (hb : Below W.heap.size W W') : MoW w W' base g m n x A ca ads := ⟨h.lm.below hb, h.ra.below hb, h.gm, Nat.le_trans h.bs hb.size, bmore h.bw hb⟩
theorem MoW.start {w W : World} {g m : Nat} {x : Lm} (h : LmAt W g m 0 x) (hg : w.heap.size ≤ g) (hm : w.heap.size ≤ m) (hb : Below w.heap.size w W) : MoW w W W.heap.size g m 0 x none 0 [] := ⟨h, Enc.Row.nil _ _ _, ⟨⟨hg, h.lt.1⟩, ⟨hm, h.lt.2⟩⟩, Nat.le_refl _, hb⟩
/-- Within a group: besides the group's box, and its entries. -/
structure MiW (w W : World) (base g m n : Nat) (x : Lm) (A : Option Addr) (ca : Nat) (ads : List Ad) (G : Nat) (q : Int) (B : Option Addr) (nb cb : Nat) (es : List (Int × Bool)) : Prop where
  o : MoW w W base g m n x A ca ads
  c0 : W.cell? ⟨G, 0, none⟩ = some (.int .i64 q)
  c1 : W.cell? ⟨G, 1, none⟩ = some (.slice B nb cb)
  c2 : W.cell? ⟨G, 2, none⟩ = some (.slice none 0 0)
  z0 : W.frozen? ⟨G, 0, none⟩ = false
  z1 : W.frozen? ⟨G, 1, none⟩ = false
  re : geE.Row W base 110 B cb es
  gl : base ≤ G
  ag : ∀ r, A = some ⟨r, 0, none⟩ → r ≠ G
  bg : ∀ r, B = some ⟨r, 0, none⟩ → r ≠ G
  ab : ∀ r, A = some ⟨r, 0, none⟩ → B ≠ some ⟨r, 0, none⟩
theorem MiW.glt {w W : World} {base g m n : Nat} {x : Lm} {A : Option Addr} {ca : Nat} {ads : List Ad} {G : Nat} {q : Int} {B : Option Addr} {nb cb : Nat} {es : List (Int × Bool)} (h : MiW w W base g m n x A ca ads G q B nb cb es) : G < W.heap.size := lt_of_cell h.c0
theorem MiW.below {w W W' : World} {base g m n : Nat} {x : Lm} {A : Option Addr} {ca : Nat} {ads : List Ad} {G : Nat} {q : Int} {B : Option Addr} {nb cb : Nat} {es : List (Int × Bool)} (h : MiW w W base g m n x A ca ads G q B nb cb es) (hb : Below W.heap.size W W') : MiW w W' base g m n x A ca ads G q B nb cb es :=
  ⟨h.o.below hb, (hb.cell h.glt).trans h.c0, (hb.cell h.glt).trans h.c1, (hb.cell h.glt).trans h.c2, (hb.frozen h.glt).trans h.z0, (hb.frozen h.glt).trans h.z1, h.re.below hb, h.gl, h.ag, h.bg, h.ab⟩
theorem MoW.group {w W : World} {base g m n : Nat} {x : Lm} {A : Option Addr} {ca : Nat} {ads : List Ad} (h : MoW w W base g m n x A ca ads) (q : Int) :
    MiW w (W.alloc (.cells #[.int .i64 q, .slice none 0 0, .slice none 0 0] 113)) base g m n x A ca ads W.heap.size q none 0 0 [] :=
  ⟨h.below ((Below.refl _ _).alloc (Nat.le_refl _) _), by go_simp, by go_simp, by go_simp, by go_simp, by go_simp, Enc.Row.nil _ _ _, h.bs, fun r e => by have := (row_blkG h.ra e).2; omega, fun r e => (by cases e), fun r e e2 => (by cases e2)⟩
/-- What has turned only a block that is neither the map's nor the rows'. -/
theorem MoW.turn {w W W' : World} {base g m n : Nat} {x : Lm} {A : Option Addr} {ca : Nat} {ads : List Ad} {r : Nat} (h : MoW w W base g m n x A ca ads) (hg : W.grownBy W' (some r)) (hr : base ≤ r) (ha : ∀ r', A = some ⟨r', 0, none⟩ → r' ≠ r) : MoW w W' base g m n x A ca ads := by
  have hb : Below base W W' := (Below.refl base W).grown hg h.bs (fun k e => by injection e with e; omega)
  obtain ⟨c0, c1, c2, z1, z2, ⟨D, ⟨es, clock, hbk, rest⟩, hD⟩, ne⟩ := h.lm
  exact ⟨⟨(hb.cell (p := ⟨g, 0, none⟩) h.gm.1.2).trans c0, (hb.cell (p := ⟨g, 1, none⟩) h.gm.1.2).trans c1, (hb.cell (p := ⟨g, 2, none⟩) h.gm.1.2).trans c2, (hb.frozen (p := ⟨g, 1, none⟩) h.gm.1.2).trans z1, (hb.frozen (p := ⟨g, 2, none⟩) h.gm.1.2).trans z2, ⟨D, ⟨es, clock, (hb.block m h.gm.2.2).trans hbk, rest⟩, hD⟩, ne⟩,
    h.ra.far hg (fun g' e e2 => by injection e2 with e2; exact ha g' e e2.symm), h.gm, Nat.le_trans h.bs hb.size, h.bw.trans (hb.mono (by have := h.gm; omega))⟩
theorem MiW.seq {w W : World} {base g m n : Nat} {x : Lm} {A : Option Addr} {ca : Nat} {ads : List Ad} {G : Nat} {q : Int} {B : Option Addr} {nb cb : Nat} {es : List (Int × Bool)} (h : MiW w W base g m n x A ca ads G q B nb cb es) (q' : Int) :
    MiW w (W.setCell ⟨G, 0, none⟩ (.int .i64 q')) base g m n x A ca ads G q' B nb cb es := by
  have hg : W.grownBy (W.setCell ⟨G, 0, none⟩ (.int .i64 q')) (some G) := grownBy_setC _ _ _ _
  have ho := h.o.turn hg h.gl h.ag
  have hre : geE.Row (W.setCell ⟨G, 0, none⟩ (.int .i64 q')) base 110 B cb es := h.re.far hg (fun g' e e2 => by injection e2 with e2; exact h.bg g' e e2.symm)
  obtain ⟨_, c0, c1, c2, z0, z1, _, gl, ag, bg, ab⟩ := h
  exact ⟨ho, by go_simp, by go_simp, by go_simp, by go_simp, by go_simp, hre, gl, ag, bg, ab⟩
/-- A group more in the map. -/
theorem MoW.again {w W W' : World} {base g m n n' : Nat} {x x' : Lm} {A : Option Addr} {ca : Nat} {ads : List Ad} (h : MoW w W base g m n x A ca ads) (hl : LmAt W' g m n' x') (hb : But2 W W' g m) : MoW w W' base g m n' x' A ca ads :=
  ⟨hl, row_but2 h.ra hb (fun r e => by have := (row_blkG h.ra e).1; have := h.gm; omega), h.gm, Nat.le_trans h.bs hb.size, h.bw.trans (hb.below h.gm.1.1 h.gm.2.1 h.bw.size)⟩
/-- An entry more in the group. -/
theorem MiW.push {w W : World} {base g m n : Nat} {x : Lm} {A : Option Addr} {ca : Nat} {ads : List Ad} {G : Nat} {q : Int} {B : Option Addr} {nb cb : Nat} {es : List (Int × Bool)} (h : MiW w W base g m n x A ca ads G q B nb cb es) (hnb : nb = es.length) (hl : nb ≤ 1000) {k : Nat} {y : Int × Bool} (hy : ∀ j, j < 2 → W.cell? ⟨k, j, none⟩ = (geE.c y)[j]?) :
    ∃ B' cb' W1, (Builtin.append_ #[111, 111] 111 #[.slice B nb cb, .slice (some ⟨k, 0, none⟩) 1 1]).run Try.prog W = .ok (.slice B' (nb + 1) cb') W1 ∧ W1.cell? ⟨G, 1, none⟩ = some (.slice B nb cb) ∧ W1.frozen? ⟨G, 1, none⟩ = false ∧
      MiW w (W1.setCell ⟨G, 1, none⟩ (.slice B' (nb + 1) cb')) base g m n x A ca ads G q B' (nb + 1) cb' (es ++ [y]) := by
  subst hnb
  obtain ⟨B', cb', W1, hrun, hrow, hgr, hor⟩ := h.re.append (P := Try.prog) Try.underlying111 infGe (by decide) (by decide) (m := k) (x := y) hy (by omega) h.o.bs 111
  -- what else lies apart from the row's block
  have hown : ∀ r, (Value.slice B es.length cb).ownBlock = some r → B = some ⟨r, 0, none⟩ ∧ base ≤ r := fun r e => by
    rcases h.re.form with ⟨e1, _⟩ | ⟨g', e1, hb, _⟩
    · rw [e1] at e; simp [Value.ownBlock] at e
    · rw [e1] at e; simp only [Value.ownBlock, Option.some.injEq] at e; subst e; exact ⟨e1, hb⟩
  have hG : W1.heap[G]? = W.heap[G]? := hgr.block G h.glt (fun e => h.bg G (hown G e.symm).1 rfl)
  have hc : ∀ o, W1.cell? ⟨G, o, none⟩ = W.cell? ⟨G, o, none⟩ := fun o => World.cell?_of_block (a := ⟨G, o, none⟩) hG
  have hf : ∀ o, W1.frozen? ⟨G, o, none⟩ = W.frozen? ⟨G, o, none⟩ := fun o => by simp [World.frozen?, hG]
  have hAlt : ∀ r, A = some ⟨r, 0, none⟩ → r < W.heap.size := fun r e => (row_blkG h.o.ra e).2
  have hBn : ∀ r, B' = some ⟨r, 0, none⟩ → B = some ⟨r, 0, none⟩ ∨ r = W.heap.size := fun r e => by
    rcases hor with e1 | e1
    · left; rw [← e1]; exact e
    · right; rw [e1] at e; exact (congrArg (fun a : Option Addr => match a with | some b => b.block | none => 0) e).symm
  have ho1 : MoW w W1 base g m n x A ca ads := by
    cases hob : (Value.slice B es.length cb).ownBlock with
    | none =>
      rw [hob] at hgr
      exact h.o.below ⟨hgr.os, hgr.tape, hgr.output, hgr.size, fun k hk => hgr.block k hk (by simp)⟩
    | some r =>
      rw [hob] at hgr
      exact h.o.turn hgr (hown r hob).2 (fun r' e e2 => by rw [e2] at e; exact h.ab r e (hown r hob).1)
  have hbg' : ∀ r, B' = some ⟨r, 0, none⟩ → r ≠ G := fun r e => by
    rcases hBn r e with e1 | e1
    · exact h.bg r e1
    · have := h.glt; omega
  have hg2 : W1.grownBy (W1.setCell ⟨G, 1, none⟩ (.slice B' (es.length + 1) cb')) (some G) := grownBy_setC _ _ _ _
  have ho2 := ho1.turn hg2 h.gl h.ag
  have hr2 : geE.Row (W1.setCell ⟨G, 1, none⟩ (.slice B' (es.length + 1) cb')) base 110 B' cb' (es ++ [y]) := hrow.far hg2 (fun g' e e2 => by injection e2 with e2; exact hbg' g' e e2.symm)
  have d0 := (hc 0).trans h.c0
  have d1 := (hc 1).trans h.c1
  have d2 := (hc 2).trans h.c2
  have e0 := (hf 0).trans h.z0
  have e1 := (hf 1).trans h.z1
  clear hc hf hG hgr hy
  refine ⟨B', cb', W1, hrun, d1, e1, ⟨ho2, by go_simp, by go_simp, by go_simp, by go_simp, by go_simp, hr2, h.gl, h.ag, hbg', fun r e e3 => ?_⟩⟩
  rcases hBn r e3 with e4 | e4
  · exact h.ab r e e4
  · have := hAlt r e; omega
/-- An entry more of all. -/
theorem MiW.note {w W : World} {base g m n : Nat} {x : Lm} {A : Option Addr} {ca : Nat} {ads : List Ad} {G : Nat} {q : Int} {B : Option Addr} {nb cb : Nat} {es : List (Int × Bool)} (h : MiW w W base g m n x A ca ads G q B nb cb es) (hl : ads.length ≤ 1000) {k : Nat} {y : Ad} (hy : ∀ j, j < 6 → W.cell? ⟨k, j, none⟩ = (adE.c y)[j]?) :
    ∃ A' ca' W1, (Builtin.append_ #[56, 56] 56 #[.slice A ads.length ca, .slice (some ⟨k, 0, none⟩) 1 1]).run Try.prog W = .ok (.slice A' (ads.length + 1) ca') W1 ∧ MiW w W1 base g m n x A' ca' (ads ++ [y]) G q B nb cb es := by
  obtain ⟨A', ca', W1, hrun, hrow, hgr, hor⟩ := h.o.ra.append (P := Try.prog) Try.underlying56 infAd (by decide) (by decide) (m := k) (x := y) hy (by omega) h.o.bs 56
  have hown : ∀ r, (Value.slice A ads.length ca).ownBlock = some r → A = some ⟨r, 0, none⟩ ∧ base ≤ r := fun r e => by
    rcases h.o.ra.form with ⟨e1, _⟩ | ⟨g', e1, hb, _⟩
    · rw [e1] at e; simp [Value.ownBlock] at e
    · rw [e1] at e; simp only [Value.ownBlock, Option.some.injEq] at e; subst e; exact ⟨e1, hb⟩
  have hG : W1.heap[G]? = W.heap[G]? := hgr.block G h.glt (fun e => h.ag G (hown G e.symm).1 rfl)
  have hc : ∀ o, W1.cell? ⟨G, o, none⟩ = W.cell? ⟨G, o, none⟩ := fun o => World.cell?_of_block (a := ⟨G, o, none⟩) hG
  have hf : ∀ o, W1.frozen? ⟨G, o, none⟩ = W.frozen? ⟨G, o, none⟩ := fun o => by simp [World.frozen?, hG]
  have hBlt : ∀ r, B = some ⟨r, 0, none⟩ → r < W.heap.size := fun r e => (row_blkG h.re e).2
  have hAn : ∀ r, A' = some ⟨r, 0, none⟩ → A = some ⟨r, 0, none⟩ ∨ r = W.heap.size := fun r e => by
    rcases hor with e1 | e1
    · left; rw [← e1]; exact e
    · right; rw [e1] at e; exact (congrArg (fun a : Option Addr => match a with | some b => b.block | none => 0) e).symm
  have hb : Below base W W1 := h.o.ra.grown hgr h.o.bs
  have hre : geE.Row W1 base 110 B cb es := h.re.far hgr (fun g' e e2 => h.ab g' (hown g' e2).1 e)
  obtain ⟨c0, c1, c2, z1, z2, ⟨D, ⟨es', clock, hbk, rest⟩, hD⟩, ne⟩ := h.o.lm
  have hgm := h.o.gm
  have hlm : LmAt W1 g m n x := ⟨(hb.cell (p := ⟨g, 0, none⟩) hgm.1.2).trans c0, (hb.cell (p := ⟨g, 1, none⟩) hgm.1.2).trans c1, (hb.cell (p := ⟨g, 2, none⟩) hgm.1.2).trans c2, (hb.frozen (p := ⟨g, 1, none⟩) hgm.1.2).trans z1, (hb.frozen (p := ⟨g, 2, none⟩) hgm.1.2).trans z2, ⟨D, ⟨es', clock, (hb.block m hgm.2.2).trans hbk, rest⟩, hD⟩, ne⟩
  refine ⟨A', ca', W1, hrun, ⟨⟨hlm, hrow, hgm, Nat.le_trans h.o.bs hb.size, h.o.bw.trans (hb.mono (by omega))⟩, (hc 0).trans h.c0, (hc 1).trans h.c1, (hc 2).trans h.c2, (hf 0).trans h.z0, (hf 1).trans h.z1, hre, h.gl, fun r e => ?_, h.bg, fun r e e3 => ?_⟩⟩
  · rcases hAn r e with e1 | e1
    · exact h.ag r e1
    · have := h.glt; omega
  · rcases hAn r e with e1 | e1
    · exact h.ab r e1 e3
    · have := hBlt r e3; omega
end Go.Proofs.Ytbgkmppngnedlaa
