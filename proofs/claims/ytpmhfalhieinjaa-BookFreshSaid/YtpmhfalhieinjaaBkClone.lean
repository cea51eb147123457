/- Rows of zones and of numbers copied; a book copied. -/
import Derived.Test.YtpmhfalhieinjaaBkMem
import Derived.Test.YtpmhfalhieinjaaHeldTail
import Derived.Lib.Hide
namespace Go.Proofs.Ytpmhfalhieinjaa
open Go.RowKit Rec Bk

def ZPost (w : World) (zs : List Zo) (e : Ending) (w' : World) : Prop := ∃ A cap, e = .returned (.slice A zs.length cap) ∧ zoE.Row w' w.heap.size 60 A cap zs ∧ Below w.heap.size w w'
def NPost (w : World) (zs : List Int) (e : Ending) (w' : World) : Prop := ∃ A cap, e = .returned (.slice A zs.length cap) ∧ NRow w' w.heap.size A cap zs ∧ Below w.heap.size w w'
set_option maxRecDepth 100000 in
theorem zclone_any (w : World) (A : Option Addr) (cap : Nat) (zs : List Zo) (hI : zoE.In w A zs) (hN : A = none → cap = 0) (hl : zs.length ≤ 1000) :
    Calls Try.prog 36 #[.slice A zs.length cap] w (ZPost w zs) := by
  have hn := fun W => Lib.run_eql_slice_nil (P := Try.prog) W 30 60 A zs.length cap 0 0 Try.underlying30
  cases A with
  | none =>
    have hzs : zs = [] := by
      rcases hI with h | ⟨b, off, h, _⟩
      · exact h
      · cases h
    subst hzs
    obtain rfl := hN rfl
    have hn0 : ∀ W : World, (binOp .eql 30 (.slice none 0 0) (.slice none 0 0)).run Try.prog W = .ok (.bool true) W := fun W => Lib.run_eql_slice_nil (P := Try.prog) W 30 60 none 0 0 0 0 Try.underlying30
    clear hI hN hn
    go_enter Try.func36, Try.ntmps36
    go_wp2
    go_ret
    exact ⟨none, 0, rfl, Enc.Row.nil _ _ _, Below.refl _ _⟩
  | some ad =>
    have hnew : zoE.Row (w.alloc (.cells #[] 60)) w.heap.size 60 (some ⟨w.heap.size, 0, none⟩) 0 [] := World.ownsRow_made w #[] 0 (Nat.le_refl _) (by unfold maxLen; omega) rfl
    have hb : Below w.heap.size w (w.alloc (.cells #[] 60)) := (Below.refl _ _).alloc (Nat.le_refl _) _
    obtain ⟨A', cap', W', hrun, hrow, hgr, _⟩ := hnew.concat (P := Try.prog) (c2 := cap) Try.underlying30 infZo (by decide) (by decide) (hI.below hb) (by simp) (by omega) (by simp) 30
    have hb' : Below w.heap.size w W' := hb.grown hgr (by simp) (fun q hq => (World.ownsRow.lt hnew q hq).1)
    rw [List.nil_append] at hrow
    simp only [List.length_nil, Nat.zero_add] at hrun
    have hrunH := Lib.hid hrun
    have hrowH := Lib.hid hrow
    clear hrun hrow hI hN hnew hb hgr
    go_enter Try.func36, Try.ntmps36
    go_wp2_with (at_builtin; refine append_run_wp rfl _ _ _ rfl rfl rfl hrunH.out ?_)
    go_ret
    exact ⟨A', cap', rfl, hrowH.out, hb'⟩
theorem infoI4 : (Try.prog.info? 3).map (fun i => (i.zero, i.size, i.bytes)) = some (some (.int .i64 0), 1, 8) := by kernel_rfl
set_option maxRecDepth 100000 in
theorem nclone_any (w : World) (A : Option Addr) (cap : Nat) (zs : List Int) (hI : IntsIn w A zs) (hN : A = none → cap = 0) (hl : zs.length ≤ 1000) :
    Calls Try.prog 37 #[.slice A zs.length cap] w (NPost w zs) := by
  have hn := fun W => Lib.run_eql_slice_nil (P := Try.prog) W 31 3 A zs.length cap 0 0 Try.underlying31
  cases A with
  | none =>
    have hzs : zs = [] := by
      rcases hI with h | ⟨b, off, h, _⟩
      · exact h
      · cases h
    subst hzs
    obtain rfl := hN rfl
    have hn0 : ∀ W : World, (binOp .eql 31 (.slice none 0 0) (.slice none 0 0)).run Try.prog W = .ok (.bool true) W := fun W => Lib.run_eql_slice_nil (P := Try.prog) W 31 3 none 0 0 0 0 Try.underlying31
    clear hI hN hn
    go_enter Try.func37, Try.ntmps37
    go_wp2
    go_ret
    exact ⟨none, 0, rfl, NRow.nil _ _, Below.refl _ _⟩
  | some ad =>
    obtain ⟨i0, hi, hz0, hz1, hz2⟩ := info_parts infoI4
    have hnew : (w.alloc (.cells #[] 3)).ownsRow w.heap.size 3 1 (.slice (some ⟨w.heap.size, 0, none⟩) 0 0) 0 [] := World.ownsRow_made w #[] 0 (Nat.le_refl _) (by unfold maxLen; omega) rfl
    have hb : Below w.heap.size w (w.alloc (.cells #[] 3)) := (Below.refl _ _).alloc (Nat.le_refl _) _
    have hI2 := hI.below hb
    have hcells : ∀ j u, (zs.map (Value.int .i64))[j]? = some u → (w.alloc (.cells #[] 3)).cell? (ad.add j) = some u := fun j u hu => by
      rcases hI2 with h0 | ⟨b, off, he, _, hcc⟩
      · rw [h0] at hu; simp at hu
      · obtain rfl := Option.some.inj he
        rw [List.getElem?_map] at hu
        by_cases hj : j < zs.length
        · rw [List.getElem?_eq_getElem hj] at hu
          simp only [Option.map_some, Option.some.injEq] at hu
          rw [Go.WideShapes.add_plain, hcc j hj, hu]
        · rw [List.getElem?_eq_none (by omega)] at hu
          cases hu
    obtain ⟨v2, W', hrun, hown2, hgr2, _, _⟩ := run_append_own_at (P := Try.prog) (w.alloc (.cells #[] 3)) w.heap.size 31 31 3 i0 (.int .i64 0) 1 8 Try.underlying31 hi hz0 hz1 hz2 rfl (by decide) _ _ _ hnew ad zs.length cap (zs.map (Value.int .i64)) (by simp) hcells
      (by intro u hu; obtain ⟨p, _, rfl⟩ := List.mem_map.1 hu; rfl) (by unfold maxLen; omega) (by omega) (by simp)
    rw [Nat.zero_add, List.nil_append] at hown2
    have hb' : Below w.heap.size w W' := hb.grown hgr2 (by simp) (fun q hq => (hnew.lt q hq).1)
    obtain ⟨A', cap', rfl, hrow⟩ : ∃ A' cap', v2 = .slice A' zs.length cap' ∧ NRow W' w.heap.size A' cap' zs := by
      rcases hown2.2 with ⟨e, h0⟩ | ⟨g, cap, cur, e, hg, hgg, hnc, _⟩
      · refine ⟨none, 0, by rw [e, h0], ?_⟩
        have : zs = [] := List.eq_nil_of_length_eq_zero h0
        subst this
        exact NRow.nil _ _
      · exact ⟨_, cap, e, by unfold NRow; rw [← e]; exact hown2⟩
    have hrunH := Lib.hid hrun
    have hrowH := Lib.hid hrow
    clear hown2 hgr2 hcells hI2 hnew hb hi hz0 hz1 hz2 hrow
    clear hrun hI hN
    go_enter Try.func37, Try.ntmps37
    go_wp2_with (at_builtin; refine append_run_wp rfl _ _ _ rfl rfl rfl hrunH.out ?_)
    go_ret
    exact ⟨A', cap', rfl, hrowH.out, hb'⟩
end Go.Proofs.Ytpmhfalhieinjaa
