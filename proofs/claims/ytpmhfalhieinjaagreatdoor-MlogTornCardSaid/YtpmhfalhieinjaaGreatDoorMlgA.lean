/- What Append and Roll of a log do. -/
import Derived.Test.YtpmhfalhieinjaaGreatDoorMlgE
namespace Go.Proofs.YtpmhfalhieinjaaGreatDoor
open Go.RowKit Zon Drv Rec Crc

section
variable {w W : World} {K : Nat → Prop} {r n N : Nat} {d : Nat → Nat} {G : Rg} {c : Int} {p : Nat} {L : Lg}
/-- A store into a log. -/
theorem Rig.setP {D : Nat → Dr} {s : Rs} (h : Rig w W K r n N d D s) (hp : LogAt W p r L) (hk : K p) (hge : w.heap.size ≤ p) (hne : p ≠ r) (hn : 0 < n) (o : Nat) (u : Value) : Rig w (W.setCell ⟨p, o, none⟩ u) K r n N d D s := by
  obtain ⟨q, q1, q2, q3, q4⟩ := h.row
  have hq : p ≠ q := fun e => by
    have h1 := q4 0 hn
    rw [← e, hp.c0] at h1
    simp only [Option.some.injEq, Value.pointer.injEq, Addr.mk.injEq] at h1
    obtain ⟨⟨F, f1, _, f3⟩, _, _⟩ := h.fam
    have hN : 0 < N := Nat.lt_of_lt_of_le hn h.nN
    exact (f3 0 hN (d 0) (f1 0 hN).in_).2.2 (h1.1 ▸ h.kr)
  have hc : ∀ b o' v, b ≠ p → W.cell? ⟨b, o', none⟩ = some v → (W.setCell ⟨p, o, none⟩ u).cell? ⟨b, o', none⟩ = some v := fun b o' v hb hv => (World.cell?_setCell_other _ _ _ _ (by intro e; injection e with e _; exact hb e.symm)).trans hv
  obtain ⟨A, cap, a1, a2, a3, a4⟩ := h.c5
  have hAp : s.ks ≠ [] → ∀ b off, A = some ⟨b, off, none⟩ → b ≠ p := fun h0 b off e e2 => by
    obtain ⟨cs, fr, hx⟩ := (a3 h0 b off e).2.2
    obtain ⟨cs', hy⟩ := hp.ty
    rw [e2, hy] at hx
    simp only [Option.some.injEq, Obj.cells.injEq] at hx
    exact absurd hx.2.1 (by decide)
  exact ⟨h.fam.set hk hge o u, ⟨q, hc _ _ _ (Ne.symm hne) q1, q2, q3, fun i hi => hc _ _ _ (Ne.symm hq) (q4 i hi)⟩, hc _ _ _ (Ne.symm hne) h.c1, hc _ _ _ (Ne.symm hne) h.c2, hc _ _ _ (Ne.symm hne) h.c3, hc _ _ _ (Ne.symm hne) h.c4,
    ⟨A, cap, hc _ _ _ (Ne.symm hne) a1, a2.turn (F := fun x => x = p) hAp (Turn.set W (F := fun x => x = p) rfl o u), fun h0 b off e => ⟨(a3 h0 b off e).1, (a3 h0 b off e).2.1, (a3 h0 b off e).2.2.set (hAp h0 b off e)⟩, a4⟩, h.kl, fun j => by rw [World.frozen?_setCell]; exact h.fr j, h.kr, h.rb, h.nb, h.nN⟩
theorem LogAt.ty_set {W : World} {p r : Nat} {L : Lg} (h : LogAt W p r L) (o : Nat) (u : Value) : ∃ cs, (W.setCell ⟨p, o, none⟩ u).heap[p]? = some (.cells cs 78 (0, 0)) := by
  obtain ⟨cs, h⟩ := h.ty
  exact ⟨_, heap_setCell_same W p o cs 78 u h⟩
theorem LogAt.put2 (h : LogAt W p r L) (x : Nat) : LogAt (W.setCell ⟨p, 2, none⟩ (.int .i64 (x : Int))) p r { L with z := x } :=
  ⟨(cell_ne W p 2 0 _ (by omega)).trans h.c0, (cell_ne W p 2 1 _ (by omega)).trans h.c1, cell_eq h.c2 _, (cell_ne W p 2 3 _ (by omega)).trans h.c3, (cell_ne W p 2 4 _ (by omega)).trans h.c4, (cell_ne W p 2 5 _ (by omega)).trans h.c5, fun j => by rw [World.frozen?_setCell]; exact h.fr j, h.ty_set 2 _⟩
theorem LogAt.put3 (h : LogAt W p r L) (x : Int) : LogAt (W.setCell ⟨p, 3, none⟩ (.int .i64 x)) p r { L with g := x } :=
  ⟨(cell_ne W p 3 0 _ (by omega)).trans h.c0, (cell_ne W p 3 1 _ (by omega)).trans h.c1, (cell_ne W p 3 2 _ (by omega)).trans h.c2, cell_eq h.c3 _, (cell_ne W p 3 4 _ (by omega)).trans h.c4, (cell_ne W p 3 5 _ (by omega)).trans h.c5, fun j => by rw [World.frozen?_setCell]; exact h.fr j, h.ty_set 3 _⟩
theorem LogAt.put4 (h : LogAt W p r L) (x : Int) : LogAt (W.setCell ⟨p, 4, none⟩ (.int .i64 x)) p r { L with u := x } :=
  ⟨(cell_ne W p 4 0 _ (by omega)).trans h.c0, (cell_ne W p 4 1 _ (by omega)).trans h.c1, (cell_ne W p 4 2 _ (by omega)).trans h.c2, (cell_ne W p 4 3 _ (by omega)).trans h.c3, cell_eq h.c4 _, (cell_ne W p 4 5 _ (by omega)).trans h.c5, fun j => by rw [World.frozen?_setCell]; exact h.fr j, h.ty_set 4 _⟩
theorem LogAt.put5 (h : LogAt W p r L) (x : Bool) : LogAt (W.setCell ⟨p, 5, none⟩ (.bool x)) p r { L with t := x } :=
  ⟨(cell_ne W p 5 0 _ (by omega)).trans h.c0, (cell_ne W p 5 1 _ (by omega)).trans h.c1, (cell_ne W p 5 2 _ (by omega)).trans h.c2, (cell_ne W p 5 3 _ (by omega)).trans h.c3, (cell_ne W p 5 4 _ (by omega)).trans h.c4, cell_eq h.c5 _, fun j => by rw [World.frozen?_setCell]; exact h.fr j, h.ty_set 5 _⟩
/-- A rig, and a log on it. -/
structure LS (w W : World) (K : Nat → Prop) (r n N : Nat) (d : Nat → Nat) (G : Rg) (p : Nat) (L : Lg) : Prop where
  R : Rig w W K r n N d G.D G.s
  l : LogAt W p r L
  k : K p
  ne : p ≠ r
  ge : w.heap.size ≤ p
  n0 : 0 < n
theorem LS.grown {W' : World} (h : LS w W K r n N d G p L) (hb : Below W.heap.size W W') : LS w W' K r n N d G p L := ⟨h.R.grown hb, h.l.below hb, h.k, h.ne, h.ge, h.n0⟩
def LPost (w W : World) (K : Nat → Prop) (r n N : Nat) (d : Nat → Nat) (p : Nat) (G : Rg) (L : Lg) (w' : World) : Prop := ∃ K', (∀ x, K x → K' x) ∧ LS w w' K' r n N d G p L ∧ SameK W w' (fun x => KR K r x ∧ x ≠ p)
theorem LS.of_rig {G' : Rg} {w' : World} (h : LS w W K r n N d G p L) (hP : MPost w W K r n N d G' w') : LPost w W K r n N d p G' L w' := by
  obtain ⟨K', k1, k2, k3⟩ := hP
  exact ⟨K', k1, ⟨k2, h.l.sameK k3 ⟨h.k, h.ne⟩, k1 _ h.k, h.ne, h.ge, h.n0⟩, k3.1, fun x hx hk => k3.2 x hx hk.1⟩
theorem LS.none_ {w' : World} (h : LS w W K r n N d G p L) (hb : Below W.heap.size W w') : LPost w W K r n N d p G L w' :=
  ⟨K, fun _ hx => hx, h.grown hb, hb.size, fun x hx _ => hb.block x hx⟩
theorem LS.set (h : LS w W K r n N d G p L) (o : Nat) (u : Value) {L' : Lg} (hl : LogAt (W.setCell ⟨p, o, none⟩ u) p r L') : LPost w W K r n N d p G L' (W.setCell ⟨p, o, none⟩ u) :=
  ⟨K, fun _ hx => hx, ⟨h.R.setP h.l h.k h.ge h.ne h.n0 o u, hl, h.k, h.ne, h.ge, h.n0⟩, heap_set _ _ _, fun _ hx hk => set_block W ⟨p, o, none⟩ u hk.2 hx⟩
theorem LPost.trans {W' w' : World} {K' : Nat → Prop} {G' : Rg} {L' : Lg} (hK : ∀ x, K x → K' x) (hs : SameK W W' (fun x => KR K r x ∧ x ≠ p)) (h : LPost w W' K' r n N d p G' L' w') : LPost w W K r n N d p G' L' w' := by
  obtain ⟨K2, h1, h2, h3⟩ := h
  exact ⟨K2, fun x hx => h1 x (hK x hx), h2, hs.trans ⟨h3.1, fun x hx hk => h3.2 x hx ⟨⟨hK x hk.1.1, hk.1.2⟩, hk.2⟩⟩⟩
theorem LPost.back {W' w' : World} {G' : Rg} {L' : Lg} (hb : Below W.heap.size W W') (h : LPost w W' K r n N d p G' L' w') : LPost w W K r n N d p G' L' w' :=
  LPost.trans (fun _ hx => hx) ⟨hb.size, fun b hlt _ => hb.block b hlt⟩ h
/-- What Append does. -/
def apP (n : Nat) (G : Rg) (L : Lg) (x : Rc) : Int × Rg × Lg :=
  if okM x = true then
    if leftP G.s.bl L < (nBlocks x.k : Int) then (4, G, L)
    else if (wrP n G L.i L.z (encS x)).1 ≠ 0 then ((wrP n G L.i L.z (encS x)).1, (wrP n G L.i L.z (encS x)).2, L)
    else (0, (wrP n G L.i L.z (encS x)).2, { L with u := L.u + nBlocks x.k })
  else (1, G, L)
end
end Go.Proofs.YtpmhfalhieinjaaGreatDoor
