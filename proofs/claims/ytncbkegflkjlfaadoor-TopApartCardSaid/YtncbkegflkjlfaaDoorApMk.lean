/- The drives alone in the making (for TopApart). -/
import Derived.Test.YtncbkegflkjlfaaDoorApL
namespace Go.Proofs.YtncbkegflkjlfaaDoor
open Go.RowKit Zon Drv

theorem infoDP3 : (Tryd.prog.info? 34).map (fun i => (i.zero, i.size, i.bytes)) = some (some (.pointer none), 1, 8) := by kernel_rfl
/-- The drives alone in the making: k of them are. -/
structure Mk (w W : World) (K : Nat → Prop) (r qa k : Nat) (d : Nat → Nat) : Prop where
  rig : Rig w W K r 3 (3 + k) d (fun _ => newD 6 16 2 4) ⟨16, 0, 0, false, []⟩
  hq : K qa ∧ qa ≠ r ∧ w.heap.size ≤ qa
  ps : ∀ i, i < k → W.cell? ⟨qa, i, none⟩ = some (.pointer (some ⟨d (3 + i), 0, none⟩))
  nl : ∀ i, k ≤ i → i < 3 → W.cell? ⟨qa, i, none⟩ = some (.pointer none)
  fr : ∀ j, W.frozen? ⟨qa, j, none⟩ = false
theorem Mk.next {w W W' : World} {K : Nat → Prop} {r qa k x : Nat} {d : Nat → Nat} (h : Mk w W K r qa k d) (hk : k < 3) (hF : Fam w W' K (3 + k + 1) (upd d (3 + k) x) (upd (fun _ => newD 6 16 2 4) (3 + k) (newD 6 16 2 4))) (hb : Below W.heap.size W W') :
    W'.cell? ⟨qa, k, none⟩ = some (.pointer none) ∧ W'.frozen? ⟨qa, k, none⟩ = false ∧ Mk w (W'.setCell ⟨qa, k, none⟩ (.pointer (some ⟨x, 0, none⟩))) K r qa (k + 1) (upd d (3 + k) x) := by
  rw [upd_const] at hF
  have hql : qa < W.heap.size := h.rig.fam.kb _ h.hq.1
  have hnil := (hb.cell (p := ⟨qa, k, none⟩) hql).trans (h.nl k (Nat.le_refl _) hk)
  have hR := (h.rig.more hF hb).setK rfl h.hq.1 h.hq.2.2 h.hq.2.1 hk hnil (.pointer (some ⟨x, 0, none⟩))
  refine ⟨hnil, (hb.frozen (p := ⟨qa, k, none⟩) hql).trans (h.fr k), hR, h.hq, fun i hi => ?_, fun i h1 h2 => ?_, fun j => by rw [World.frozen?_setCell]; exact (hb.frozen (p := ⟨qa, j, none⟩) hql).trans (h.fr j)⟩
  · by_cases e : i = k
    · subst e
      rw [upd_same]
      exact cell_eq hnil _
    · rw [upd_ne d (by omega)]
      exact (cell_ne W' qa k i _ e).trans ((hb.cell (p := ⟨qa, i, none⟩) hql).trans (h.ps i (by omega)))
  · exact (cell_ne W' qa k i _ (by omega)).trans ((hb.cell (p := ⟨qa, i, none⟩) hql).trans (h.nl i (by omega) h2))
theorem Mk.new {w W : World} {K : Nat → Prop} {r : Nat} {d : Nat → Nat} (h : Rig w W K r 3 3 d (fun _ => newD 6 16 2 4) ⟨16, 0, 0, false, []⟩) (t : TypeId) : Mk w (W.alloc (.cells (madeCells #[.pointer none] 3) t)) (fun x => K x ∨ x = W.heap.size) r W.heap.size 0 d := by
  have hb : Below W.heap.size W (W.alloc (.cells (madeCells #[.pointer none] 3) t)) := (Below.refl _ _).alloc (Nat.le_refl _) _
  have hlt := h.lt
  exact ⟨h.below hb (fun x hx => hx.imp id (fun e => Nat.le_of_eq e.symm)) (fun x hx => hx.elim (fun k => Nat.lt_of_lt_of_le (h.fam.kb x k) hb.size) (fun e => by rw [e]; simp)) (fun x _ k => .inl k), ⟨.inr rfl, by omega, h.fam.b.size⟩, fun i hi => absurd hi (Nat.not_lt_zero _), fun i _ hi => made_noughts W t (.pointer none) 3 i hi, fun j => made_free W t (.pointer none) 3 j⟩
/-- The first loop's end. -/
theorem Mk.ap {w W : World} {K : Nat → Prop} {r qa : Nat} {d : Nat → Nat} (h : Mk w W K r qa 3 d) : Ap w W K r qa d (fun _ => newD 6 16 2 4) 0 :=
  ⟨h.rig, fun _ _ => ⟨newD_ok (by decide), rfl⟩, h.hq.1, h.hq.2.1, h.ps⟩
/-- The acts' loop: each drive alone is as its twin. -/
def Ev (w W : World) (r qa : Nat) (d : Nat → Nat) (k : Nat) : Prop := ∃ K D cnt, Ap w W K r qa d D cnt ∧ (∀ i, i < 3 → D (3 + i) = D i) ∧ 0 ≤ cnt ∧ cnt ≤ k
theorem twin_upd {D : Nat → Dr} (h : ∀ i, i < 3 → D (3 + i) = D i) {j : Nat} (hj : j < 3) (E : Dr) : ∀ i, i < 3 → upd (upd D j E) (3 + j) E (3 + i) = upd (upd D j E) (3 + j) E i := fun i hi => by
  rw [upd_ne (upd D j E) (show i ≠ 3 + j by omega)]
  by_cases e : i = j
  · subst e; rw [upd_same, upd_same]
  · rw [upd_ne (upd D j E) (show 3 + i ≠ 3 + j by omega), upd_ne D (show 3 + i ≠ j by omega), upd_ne D e]
    exact h i hi

end Go.Proofs.YtncbkegflkjlfaaDoor
