/- What a rig's own cells may turn to. -/
import Derived.Test.YtncbkegflkjlfaaRigMem
namespace Go.Proofs.Ytncbkegflkjlfaa
open Go.RowKit Zon Drv

theorem Fam.set {w W : World} {K : Nat → Prop} {n : Nat} {d : Nat → Nat} {D : Nat → Dr} (h : Fam w W K n d D) {r : Nat} (hr : K r) (hb : w.heap.size ≤ r) (o : Nat) (u : Value) : Fam w (W.setCell ⟨r, o, none⟩ u) K n d D := by
  obtain ⟨⟨F, h1, h2, h3⟩, hk, h4⟩ := h
  have ht : Turn W (W.setCell ⟨r, o, none⟩ u) (fun x => x = r) := Turn.set W (F := fun x => x = r) rfl o u
  exact ⟨⟨F, fun i hi => (h1 i hi).turn ht fun b hf e => (h3 i hi b hf).2.2 (e ▸ hr), h2, fun i hi x hx => ⟨(h3 i hi x hx).1, Nat.lt_of_lt_of_le (h3 i hi x hx).2.1 ht.size, (h3 i hi x hx).2.2⟩⟩, fun x hx => Nat.lt_of_lt_of_le (hk x hx) ht.size, h4.trans (ht.below (fun x e => by omega) h4.size)⟩
theorem cell_ne (W : World) (r o o' : Nat) (u : Value) (h : o' ≠ o) : (W.setCell ⟨r, o, none⟩ u).cell? ⟨r, o', none⟩ = W.cell? ⟨r, o', none⟩ := World.cell?_setCell_other _ _ _ _ (by intro e; injection e with _ e; omega)
theorem cell_eq {W : World} {r o : Nat} {v : Value} (h : W.cell? ⟨r, o, none⟩ = some v) (u : Value) : (W.setCell ⟨r, o, none⟩ u).cell? ⟨r, o, none⟩ = some u := World.cell?_setCell_same' _ _ _ (by rw [h]; rfl)
section
variable {w W : World} {K : Nat → Prop} {r n : Nat} {d : Nat → Nat} {D : Nat → Dr} {s : Rs}
theorem Rig.rest (h : Rig w W K r n d D s) (o : Nat) (u : Value) (ho : 2 ≤ o) : Fam w (W.setCell ⟨r, o, none⟩ u) K n d D ∧ (∃ q, (W.setCell ⟨r, o, none⟩ u).cell? ⟨r, 0, none⟩ = some (.slice (some ⟨q, 0, none⟩) n n) ∧ K q ∧ q ≠ r ∧ ∀ i, i < n → (W.setCell ⟨r, o, none⟩ u).cell? ⟨q, i, none⟩ = some (.pointer (some ⟨d i, 0, none⟩))) ∧
    (W.setCell ⟨r, o, none⟩ u).cell? ⟨r, 1, none⟩ = some (.int .i64 s.bl) ∧ (∀ j, (W.setCell ⟨r, o, none⟩ u).frozen? ⟨r, j, none⟩ = false) := by
  obtain ⟨q, q1, q2, q3, q4⟩ := h.row
  refine ⟨h.fam.set h.kr h.rb o u, ⟨q, (cell_ne W r o 0 u (by omega)).trans q1, q2, q3, fun i hi => (World.cell?_setCell_other _ _ _ _ (by intro e; injection e with e _; omega)).trans (q4 i hi)⟩, (cell_ne W r o 1 u (by omega)).trans h.c1, fun j => by rw [World.frozen?_setCell]; exact h.fr j⟩
theorem Rig.keep5 (h : Rig w W K r n d D s) (o : Nat) (u : Value) (ho : o ≠ 5) : ∃ A cap, (W.setCell ⟨r, o, none⟩ u).cell? ⟨r, 5, none⟩ = some (.slice A s.ks.length cap) ∧ IntsIn (W.setCell ⟨r, o, none⟩ u) A s.ks ∧ (s.ks ≠ [] → ∀ b off, A = some ⟨b, off, none⟩ → (b < w.heap.size ∨ K b) ∧ b ≠ r) ∧ s.ks.length ≤ cap := by
  obtain ⟨A, cap, a1, a2, a3, a4⟩ := h.c5
  refine ⟨A, cap, (cell_ne W r o 5 u (Ne.symm ho)).trans a1, ?_, a3, a4⟩
  exact a2.turn (F := fun x => x = r) (fun h0 b off e => (a3 h0 b off e).2) (Turn.set W (F := fun x => x = r) rfl o u)
theorem Rig.set_cnt (h : Rig w W K r n d D s) (x : Int) : Rig w (W.setCell ⟨r, 2, none⟩ (.int .i64 x)) K r n d D { s with cnt := x } := by
  obtain ⟨f1, f2, f3, f4⟩ := h.rest 2 (.int .i64 x) (by omega)
  exact ⟨f1, f2, f3, cell_eq h.c2 _, (cell_ne W r 2 3 _ (by omega)).trans h.c3, (cell_ne W r 2 4 _ (by omega)).trans h.c4, h.keep5 2 _ (by omega), h.kl, f4, h.kr, h.rb, h.nb⟩
theorem Rig.set_off (h : Rig w W K r n d D s) (x : Bool) : Rig w (W.setCell ⟨r, 3, none⟩ (.bool x)) K r n d D { s with off := x } := by
  obtain ⟨f1, f2, f3, f4⟩ := h.rest 3 (.bool x) (by omega)
  exact ⟨f1, f2, f3, (cell_ne W r 3 2 _ (by omega)).trans h.c2, cell_eq h.c3 _, (cell_ne W r 3 4 _ (by omega)).trans h.c4, h.keep5 3 _ (by omega), h.kl, f4, h.kr, h.rb, h.nb⟩
theorem Rig.set_due (h : Rig w W K r n d D s) (x : Int) : Rig w (W.setCell ⟨r, 4, none⟩ (.int .i64 x)) K r n d D { s with due := x } := by
  obtain ⟨f1, f2, f3, f4⟩ := h.rest 4 (.int .i64 x) (by omega)
  exact ⟨f1, f2, f3, (cell_ne W r 4 2 _ (by omega)).trans h.c2, (cell_ne W r 4 3 _ (by omega)).trans h.c3, cell_eq h.c4 _, h.keep5 4 _ (by omega), h.kl, f4, h.kr, h.rb, h.nb⟩
theorem Rig.set_keep (h : Rig w W K r n d D s) {A : Option Addr} {cap : Nat} {ks : List Int} (hI : IntsIn W A ks) (hA : ks ≠ [] → ∀ b off, A = some ⟨b, off, none⟩ → (b < w.heap.size ∨ K b) ∧ b ≠ r) (hc : ks.length ≤ cap) (hl : ks.length ≤ 17592186044416) (hk : ∀ x ∈ ks, Rng x) :
    Rig w (W.setCell ⟨r, 5, none⟩ (.slice A ks.length cap)) K r n d D { s with ks := ks } := by
  obtain ⟨f1, f2, f3, f4⟩ := h.rest 5 (.slice A ks.length cap) (by omega)
  obtain ⟨A0, cap0, a1, _⟩ := h.c5
  exact ⟨f1, f2, f3, (cell_ne W r 5 2 _ (by omega)).trans h.c2, (cell_ne W r 5 3 _ (by omega)).trans h.c3, (cell_ne W r 5 4 _ (by omega)).trans h.c4, ⟨A, cap, cell_eq a1 _, hI.turn (F := fun x => x = r) (fun h0 b off e => (hA h0 b off e).2) (Turn.set W (F := fun x => x = r) rfl 5 _), hA, hc⟩, ⟨hl, hk⟩, f4, h.kr, h.rb, h.nb⟩
/-- All of K but r. -/
def KR (K : Nat → Prop) (r : Nat) : Nat → Prop := fun x => K x ∧ x ≠ r
theorem SameK.set (W : World) (K : Nat → Prop) (r o : Nat) (u : Value) : SameK W (W.setCell ⟨r, o, none⟩ u) (KR K r) := ⟨heap_set _ _ _, fun _ hx hk => set_block W ⟨r, o, none⟩ u hk.2 hx⟩
theorem SameK.trans {W W' W'' : World} {K : Nat → Prop} (h : SameK W W' K) (k : SameK W' W'' K) : SameK W W'' K := ⟨Nat.le_trans h.1 k.1, fun x hx hk => (k.2 x (Nat.lt_of_lt_of_le hx h.1) hk).trans (h.2 x hx hk)⟩
theorem SameK.kr {W W' : World} {K : Nat → Prop} (h : SameK W W' K) (r : Nat) : SameK W W' (KR K r) := ⟨h.1, fun x hx hk => h.2 x hx hk.1⟩
/-- What drop leaves. -/
theorem rdrop_any (h : Rig w W K r n d D s) : Calls Try.prog 55 #[.pointer (some ⟨r, 0, none⟩)] W fun e w' => e = .returned (.tuple #[]) ∧ Rig w w' K r n d D { s with due := 0, ks := [] } ∧ SameK W w' (KR K r) := by
  have h1 := h.set_due 0
  have h2 := h1.set_keep (A := none) (cap := 0) (ks := []) (.inl rfl) (fun h => absurd rfl h) (Nat.le_refl _) (by simp) (by simp)
  have hk := ((SameK.set W K r 4 (.int .i64 0)).trans (SameK.set _ K r 5 (.slice none 0 0)))
  have c4 := h.c4
  have f4 := h.fr 4
  have f5 := h.fr 5
  obtain ⟨A0, cap0, a1, _⟩ := h.c5
  have h2H := Lib.hid h2
  have hkH := Lib.hid hk
  clear h h1 h2 hk
  go_enter Try.func55, Try.ntmps55
  go_wp2
  go_end0
  exact ⟨rfl, h2H.out, hkH.out⟩
theorem ron_any (h : Rig w W K r n d D s) : Calls Try.prog 35 #[.pointer (some ⟨r, 0, none⟩)] W fun e w' => e = .returned (.tuple #[]) ∧ Rig w w' K r n d D { s with off := false, due := 0, ks := [] } ∧ SameK W w' (KR K r) := by
  have hdr := Lib.hid (rdrop_any (h.set_off false))
  have hkH := Lib.hid (SameK.set W K r 3 (.bool false))
  have c3 := h.c3
  have f3 := h.fr 3
  clear h
  go_enter Try.func35, Try.ntmps35
  go_wp2_with (go_at_call 55; refine hdr.out.mono ?_; rintro e w1 ⟨rfl, hR, hk⟩)
  go_end0
  exact ⟨rfl, hR, hkH.out.trans hk⟩
end
end Go.Proofs.Ytncbkegflkjlfaa
