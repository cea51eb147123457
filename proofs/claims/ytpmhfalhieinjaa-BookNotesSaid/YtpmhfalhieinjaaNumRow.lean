/- Slices of numbers that a call makes: what append leaves. -/
import Derived.Test.YtpmhfalhieinjaaAppRun
import Derived.Maps.AppendAt
import Derived.Deep.AppendLies
import Derived.Laws.OwnMore
import Derived.OwnWalk
namespace Go.Proofs.Ytpmhfalhieinjaa
open Go.RowKit

/-- A slice of the call's own that reads as a list of numbers. -/
def NRow (W : World) (base : Nat) (A : Option Addr) (cap : Nat) (zs : List Int) : Prop := W.ownsRow base 3 1 (.slice A zs.length cap) zs.length (zs.map (Value.int .i64))
section
variable {W W' : World} {base cap : Nat} {A : Option Addr} {zs : List Int}
theorem NRow.form (h : NRow W base A cap zs) : (A = none ∧ cap = 0 ∧ zs = []) ∨ ∃ g, A = some ⟨g, 0, none⟩ ∧ base ≤ g ∧ g < W.heap.size ∧ zs.length ≤ cap := by
  rcases h.2 with ⟨hv, h0⟩ | ⟨g, cap', cur, hv, hb, hg, hc, _⟩
  · simp only [Value.slice.injEq] at hv
    exact .inl ⟨hv.1, hv.2.2, List.eq_nil_of_length_eq_zero h0⟩
  · simp only [Value.slice.injEq] at hv
    exact .inr ⟨g, hv.1, hb, (Array.getElem?_eq_some_iff.1 hg).1, by omega⟩
theorem NRow.at_ (h : NRow W base A cap zs) {i : Nat} (hi : i < zs.length) : ∃ g, A = some ⟨g, 0, none⟩ ∧ g < W.heap.size ∧ W.cell? ⟨g, i, none⟩ = some (.int .i64 zs[i]) := by
  rcases h.form with h0 | ⟨g, rfl, _, hlt, _⟩
  · rw [h0.2.2] at hi; simp at hi
  · refine ⟨g, rfl, hlt, ?_⟩
    rw [h.cellAt i (by omega), List.getElem?_map, List.getElem?_eq_getElem hi]
    rfl
theorem NRow.nil (W : World) (base : Nat) : NRow W base none 0 [] := World.ownsRow_nil _ _ _ _
theorem NRow.alloc (h : NRow W base A cap zs) (o : Obj) : NRow (W.alloc o) base A cap zs := World.ownsRow.alloc h o
theorem NRow.below (h : NRow W base A cap zs) (hb : Below W.heap.size W W') : NRow W' base A cap zs := by
  refine ⟨h.1, ?_⟩
  rcases h.2 with hn | ⟨g, cap', cur, hv, hg, hgg, rest⟩
  · exact .inl hn
  · exact .inr ⟨g, cap', cur, hv, hg, by rw [hb.block g (Array.getElem?_eq_some_iff.1 hgg).1]; exact hgg, rest⟩
theorem NRow.kept {v : Value} (h : NRow W base A cap zs) (hg : W.grownBy W' v.ownBlock) (hne : A = none ∨ (Value.slice A zs.length cap).ownBlock ≠ v.ownBlock) : NRow W' base A cap zs := by
  refine World.ownsRow.kept h hg ?_
  rcases hne with rfl | hne
  · left; rfl
  · right; exact hne
theorem NRow.grown (h : NRow W base A cap zs) (hg : W.grownBy W' (Value.slice A zs.length cap).ownBlock) (hb : base ≤ W.heap.size) : Below base W W' :=
  (Below.refl _ _).grown hg hb fun _ e => (World.ownsRow.lt h _ e).1
end
theorem infoInt8 : (Try.prog.info? 3).map (fun i => (i.zero.map (·.cells.size), i.size, i.bytes)) = some (some 1, 1, 8) := by kernel_rfl
theorem NRow.append {W : World} {base cap : Nat} {A : Option Addr} {zs : List Int} {m : Nat} {z : Int} (hr : NRow W base A cap zs) (hm : W.cell? ⟨m, 0, none⟩ = some (.int .i64 z)) (hl : zs.length ≤ 1000000) (hb : base ≤ W.heap.size) :
    ∃ A' cap' W', (Builtin.append_ #[31, 31] 31 #[.slice A zs.length cap, .slice (some ⟨m, 0, none⟩) 1 1]).run Try.prog W = .ok (.slice A' (zs.length + 1) cap') W' ∧ NRow W' base A' cap' (zs ++ [z]) ∧
      W.grownBy W' (Value.slice A zs.length cap).ownBlock ∧ (A' = A ∨ A' = some ⟨W.heap.size, 0, none⟩) := by
  have hinfo := infoInt8
  rw [Option.map_eq_some_iff] at hinfo
  obtain ⟨i, hi, he⟩ := hinfo
  simp only [Prod.mk.injEq, Option.map_eq_some_iff] at he
  obtain ⟨⟨z0, hz, hzs⟩, hs, hby⟩ := he
  obtain ⟨v', w', h1, h2, h3, h4, h5⟩ := run_append_own_at (P := Try.prog) W base 31 31 3 i z0 1 8 Try.underlying31 hi hz hs hby hzs (by decide) _ _ _ hr ⟨m, 0, none⟩ 1 1 [.int .i64 z] rfl (by
      intro j u hu
      have hj : j < 1 := (List.getElem?_eq_some_iff.1 hu).1
      obtain rfl : j = 0 := by omega
      rw [Go.WideShapes.add_plain, Nat.zero_add]
      exact hm.trans hu)
    (by
      intro u hu
      rw [List.mem_singleton.1 hu]
      rfl) (by unfold maxLen; omega) (by omega) hb
  have hf : (zs ++ [z]).map (Value.int .i64) = zs.map (Value.int .i64) ++ [.int .i64 z] := by simp
  rw [← hf] at h2
  have hlen : (zs ++ [z]).length = zs.length + 1 := by simp
  rcases h2.2 with ⟨hv, h0⟩ | ⟨g, cap', cur, hv, hrest⟩
  · omega
  · subst hv
    refine ⟨some ⟨g, 0, none⟩, cap', w', h1, by unfold NRow; rw [hlen]; exact h2, h3, ?_⟩
    rcases h5 with h5 | h5
    · left
      rcases hr.form with ⟨rfl, _⟩ | ⟨g0, rfl, _⟩
      · simp [Value.ownBlock] at h5
      · simp only [Value.ownBlock, Option.some.injEq] at h5
        rw [h5]
    · right
      simp only [Value.ownBlock, Option.some.injEq] at h5
      rw [h5]
/-- Two blocks of one's own. -/
theorem own_ne {A B : Option Addr} {n c n' c' : Nat} (h : A = none ∨ B = none ∨ A ≠ B) (hA : A = none ∨ ∃ g, A = some ⟨g, 0, none⟩) (hB : B = none ∨ ∃ g, B = some ⟨g, 0, none⟩) : A = none ∨ (Value.slice A n c).ownBlock ≠ (Value.slice B n' c').ownBlock := by
  rcases hA with rfl | ⟨g, rfl⟩
  · left; rfl
  right
  rcases hB with rfl | ⟨g', rfl⟩
  · simp [Value.ownBlock]
  · rcases h with h | h | h
    · cases h
    · cases h
    · simp only [Value.ownBlock]
      intro e
      exact h (by rw [Option.some.inj e])
end Go.Proofs.Ytpmhfalhieinjaa
