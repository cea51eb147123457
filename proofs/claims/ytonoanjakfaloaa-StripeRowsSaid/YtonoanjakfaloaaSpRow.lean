/- Rows of texts that the laws of stripe make. -/
import Derived.Test.YtonoanjakfaloaaSpSp
namespace Go.Proofs.Ytonoanjakfaloaa
open Go.RowKit Sp Xor

theorem Row.caps {W : World} {base cap : Nat} {A : Option Addr} {ps : List ByteArray} (h : Row W base A cap ps) : ps.length ≤ cap ∧ cap ≤ maxLen := by
  rcases h.2 with ⟨hv, h0⟩ | ⟨g, cap', cur, hv, hb, hg, hc, hm, _⟩
  · simp only [Value.slice.injEq] at hv
    rw [hv.2.2]
    exact ⟨by omega, Nat.zero_le _⟩
  · simp only [Value.slice.injEq] at hv
    rw [hv.2.2]
    exact ⟨hc, hm⟩
theorem row_app {W : World} {base cap : Nat} {A : Option Addr} {ps : List ByteArray} (h : Row W base A cap ps) (hl : ps.length ≤ 1000) (hb : base ≤ W.heap.size) (s : ByteArray) :
    ∃ A' cap' W', (Builtin.append_ #[22, 22] 22 #[.slice A ps.length cap, .slice (some ⟨W.heap.size, 0, none⟩) 1 1]).run Try.prog (W.alloc (.cells #[.string s] 9)) = .ok (.slice A' (ps.length + 1) cap') W' ∧ Row W' base A' cap' (ps ++ [s]) ∧ Below base W W' ∧
      (W.alloc (.cells #[.string s] 9)).grownBy W' (Value.ownBlock (.slice A ps.length cap)) ∧ (A' = A ∨ A' = some ⟨W.heap.size + 1, 0, none⟩) := by
  obtain ⟨A', c', W', h1, h2, h3, h4⟩ := append_row (h.alloc (.cells #[.string s] 9)) (strs_one W s) (cap2 := 1) (fun e => by cases e) (by simp; omega) (by simp; omega) 22
  rw [List.length_append] at h1
  rw [World.size_alloc] at h4
  exact ⟨A', c', W', h1, h2, ((Below.refl _ _).alloc hb _).trans (below_row (h.alloc _) h3 (by simp; omega)), h3, h4⟩
/-- A copy in new memory. -/
theorem row_copy {W : World} {base cap : Nat} {A : Option Addr} {ps : List ByteArray} (h : Row W base A cap ps) (hl : ps.length ≤ 1000) :
    ∃ A' cap' W', (Builtin.append_ #[22, 22] 22 #[.slice (some ⟨W.heap.size, 0, none⟩) 0 0, .slice A ps.length cap]).run Try.prog (W.alloc (.cells #[] 9)) = .ok (.slice A' ps.length cap') W' ∧ Row W' W.heap.size A' cap' ps ∧ Row W' base A cap ps ∧ Below W.heap.size W W' := by
  have hb : Below W.heap.size W (W.alloc (.cells #[] 9)) := (Below.refl _ _).alloc (Nat.le_refl _) _
  obtain ⟨A', c', W', h1, h2, h3, h4⟩ := append_row (Row.fresh (W := W) (base := W.heap.size) (Nat.le_refl _)) (h.strs.below hb) (cap2 := cap) (h.none_cap) (by simp; omega) (by simp) 22
  rw [List.nil_append] at h1 h2
  have hB := hb.trans (below_row (Row.fresh (W := W) (base := W.heap.size) (Nat.le_refl _)) h3 (by simp))
  exact ⟨A', c', W', h1, h2, h.below hB, hB⟩
/-- What turned lies in another block. -/
theorem Row.far1 {W W' : World} {base cap g : Nat} {A : Option Addr} {ps : List ByteArray} (h : Row W base A cap ps) (hg : W.grownBy W' (some g)) (hne : ∀ g', A = some ⟨g', 0, none⟩ → g' ≠ g) : Row W' base A cap ps := by
  refine World.ownsRow.kept h hg ?_
  rcases h.form with ⟨rfl, _⟩ | ⟨g', rfl, _⟩
  · left; rfl
  · right
    simp only [Value.ownBlock]
    intro e
    exact hne g' rfl (Option.some.inj e)
/-- A text stored into an own row. -/
theorem Row.store {W : World} {base cap : Nat} {A : Option Addr} {ps : List ByteArray} (h : Row W base A cap ps) {k : Nat} (hk : k < ps.length) (s : ByteArray) :
    ∃ g, A = some ⟨g, 0, none⟩ ∧ base ≤ g ∧ g < W.heap.size ∧ W.cell? ⟨g, k, none⟩ = some (.string ps[k]) ∧ W.frozen? ⟨g, k, none⟩ = false ∧ Row (W.setCell ⟨g, k, none⟩ (.string s)) base (some ⟨g, 0, none⟩) cap (ps.set k s) := by
  rcases h.form with h0 | ⟨g, rfl, hb, hlt⟩
  · rw [h0.2.2] at hk; simp at hk
  · refine ⟨g, rfl, hb, hlt, ?_, h.frozenAt k, ?_⟩
    · have h1 := h.cellAt k (by omega)
      rw [h1, List.getElem?_map, List.getElem?_eq_getElem hk]
      rfl
    · have h1 := (World.ownsRow.stored h k (.string s)).1
      unfold Row
      rw [List.length_set, List.map_set]
      exact h1
theorem Row.at_ {W : World} {base cap : Nat} {A : Option Addr} {ps : List ByteArray} (h : Row W base A cap ps) {k : Nat} (hk : k < ps.length) :
    ∃ g, A = some ⟨g, 0, none⟩ ∧ base ≤ g ∧ g < W.heap.size ∧ W.cell? ⟨g, k, none⟩ = some (.string ps[k]) := by
  obtain ⟨g, e, h1, h2, h3, _⟩ := h.store hk ⟨#[]⟩
  exact ⟨g, e, h1, h2, h3⟩
end Go.Proofs.Ytonoanjakfaloaa
