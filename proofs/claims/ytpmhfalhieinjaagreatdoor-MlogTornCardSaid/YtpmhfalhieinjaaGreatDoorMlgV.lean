/- The rigs of the laws of mlog: the document's is made, and not looked at. -/
import Derived.Test.YtpmhfalhieinjaaGreatDoorMlgO2
namespace Go.Proofs.YtpmhfalhieinjaaGreatDoor
open Go.RowKit Zon Drv Rec Crc

theorem infoBl : (Tryz.prog.info? 235).map (fun i => (i.zero, i.size, i.bytes)) = some (some (.agg #[.slice none 0 0]), 1, 24) := by kernel_rfl
theorem infoIn : (Tryz.prog.info? 3).map (fun i => (i.zero, i.size, i.bytes)) = some (some (.int .i64 0), 1, 8) := by kernel_rfl
theorem infoPd : Enc.Inf Tryz.prog 129 1 8 := by unfold Enc.Inf; kernel_rfl
set_option maxRecDepth 100000 in
set_option maxHeartbeats 1000000 in
theorem d07_new (b : Int) (hb : 1 ≤ b ∧ b ≤ 4096) (w : World) :
    Calls Tryz.prog 66 #[.int .i64 5, .int .i64 b, .int .i64 2, .int .i64 4] w fun e w' => ∃ d, e = .returned (.pointer (some ⟨d, 0, none⟩)) ∧ Below w.heap.size w w' := by
  have hnew := Lib.hid (fun W => rnew_good 5 b 2 4 W (by unfold newOk; exact decide_eq_true (by omega)))
  obtain ⟨i0, hi, hz0, hz1, hz2⟩ := info_parts infoBl
  have hmk := fun W => run_make_m (P := Tryz.prog) 163 235 i0 (.agg #[.slice none 0 0]) Tryz.underlying163 hi hz0 .i64 .i64 5 5 (Nat.le_refl _) (by rw [hz2]; omega) (by omega) W
  rw [hz1] at hmk
  clear hi hz0 hz1 hz2
  obtain ⟨i1, hi, hz0, hz1, hz2⟩ := info_parts infoIn
  have hmk2 := fun W => run_make_m (P := Tryz.prog) 42 3 i1 (.int .i64 0) Tryz.underlying42 hi hz0 .i64 .i64 5 5 (Nat.le_refl _) (by rw [hz2]; omega) (by omega) W
  rw [hz1] at hmk2
  clear hi hz0 hz1 hz2 hb
  have hmk' : ∀ W : World, (Instr.makeSlice 163 (.int .i64 5) (.int .i64 5)).run Tryz.prog W = .ok (.slice (some ⟨W.heap.size, 0, none⟩) 5 5) (W.alloc (.cells (madeCells #[.slice none 0 0] 5) 235)) := hmk
  have hmk2' : ∀ W : World, (Instr.makeSlice 42 (.int .i64 5) (.int .i64 5)).run Tryz.prog W = .ok (.slice (some ⟨W.heap.size, 0, none⟩) 5 5) (W.alloc (.cells (madeCells #[.int .i64 0] 5) 3)) := hmk2
  clear hmk hmk2
  go_enter Tryz.func66, Tryz.ntmps66
  go_wp2_with fail
  refine (hnew.out _).mono ?_
  rintro e w1 ⟨g, y, rfl, hM, hzy, hgy, hb⟩
  have hbH := Lib.hid hb
  clear hM hb hnew
  go_wp2_with fail
  go_region
  all_goals (go_wp2; go_ret; exact ⟨_, rfl, (((hbH.out.alloc hbH.out.size _).alloc (by have := hbH.out.size; simp; omega) _).alloc (by have := hbH.out.size; simp; omega) _).drew⟩)

def ptE : Enc Nat := ⟨fun d => [.pointer (some ⟨d, 0, none⟩)], 1, fun _ => rfl, fun x u hu => by rw [List.mem_singleton.1 hu]; rfl⟩
/-- The document's rig in the making. -/
structure VS (w W : World) (A : Option Addr) (cap : Nat) (ds : List Nat) : Prop where
  c0 : W.cell? ⟨w.heap.size, 0, none⟩ = some (.slice A ds.length cap)
  fr : W.frozen? ⟨w.heap.size, 0, none⟩ = false
  row : ptE.Row W (w.heap.size + 1) 129 A cap ds
  b : Below w.heap.size w W
  hs : w.heap.size + 1 ≤ W.heap.size
theorem VS.below {w W W' : World} {A : Option Addr} {cap : Nat} {ds : List Nat} (h : VS w W A cap ds) (hb : Below W.heap.size W W') : VS w W' A cap ds :=
  ⟨(hb.cell (p := ⟨w.heap.size, 0, none⟩) h.hs).trans h.c0, (hb.frozen (p := ⟨w.heap.size, 0, none⟩) h.hs).trans h.fr, h.row.below hb, h.b.trans (hb.mono h.b.size), Nat.le_trans h.hs hb.size⟩
theorem VS.push {w W : World} {A : Option Addr} {cap : Nat} {ds : List Nat} (h : VS w W A cap ds) (hl : ds.length ≤ 100) (x : Nat) (t : TypeId) :
    ∃ A' cap' W2, (Builtin.append_ #[126, 126] 126 #[.slice A ds.length cap, .slice (some ⟨W.heap.size, 0, none⟩) 1 1]).run Tryz.prog (W.alloc (.cells #[.pointer (some ⟨x, 0, none⟩)] t)) = .ok (.slice A' (ds.length + 1) cap') W2 ∧
      W2.cell? ⟨w.heap.size, 0, none⟩ = some (.slice A ds.length cap) ∧ W2.frozen? ⟨w.heap.size, 0, none⟩ = false ∧ VS w (W2.setCell ⟨w.heap.size, 0, none⟩ (.slice A' (ds.length + 1) cap')) A' cap' (ds ++ [x]) := by
  have h1 := h.below ((Below.refl _ _).alloc (Nat.le_refl _) (.cells #[.pointer (some ⟨x, 0, none⟩)] t))
  obtain ⟨A', cap', W2, hrun, hrow, hg, hA⟩ := h1.row.append (P := Tryz.prog) Tryz.underlying126 infoPd (by decide) (by decide) (m := W.heap.size) (x := x) (by
    intro j hj
    have hj1 : j < 1 := hj
    obtain rfl : j = 0 := by omega
    simp [World.cell?_alloc_new]
    rfl) (by omega) h1.hs 126
  have hne : (Value.slice A ds.length cap).ownBlock ≠ some w.heap.size := fun e => by
    have := (World.ownsRow.lt h1.row _ e).1
    omega
  have hbl := hg.block w.heap.size (by have := h1.hs; omega) (fun e => hne e.symm)
  have c0 := (same_cell (o := 0) hbl).trans h1.c0
  have f0 := (same_frozen (o := 0) hbl).trans h1.fr
  refine ⟨A', cap', W2, hrun, c0, f0, ?_, ?_, ?_, ?_, ?_⟩
  · rw [List.length_append]; exact cell_eq c0 _
  · rw [World.frozen?_setCell]; exact f0
  · have hnew : ptE.Row W2 (w.heap.size + 1) 129 A' cap' (ds ++ [x]) := hrow
    refine hnew.far (o := some w.heap.size) (grownBy_set W2 _ _) (fun g e e2 => ?_)
    injection e2 with e2
    rcases hnew.form with ⟨e3, _⟩ | ⟨g', e3, hb, _⟩
    · rw [e] at e3; cases e3
    · rw [e] at e3; injection e3 with e3; injection e3 with e3; omega
  · exact bput ((h1.b.grown hg (by have := h1.hs; omega) (fun k e => by have := (World.ownsRow.lt h1.row _ e).1; omega))) (Nat.le_refl _)
  · rw [World.size_setCell]; exact Nat.le_trans h1.hs hg.size
set_option maxRecDepth 100000 in
set_option maxHeartbeats 2000000 in
theorem d08_new (n : Nat) (hn : n ≤ 20) (b : Int) (hb : 1 ≤ b ∧ b ≤ 4096) (w : World) :
    Calls Tryz.prog 36 #[.int .i64 (n : Int), .int .i64 5, .int .i64 b, .int .i64 2, .int .i64 4] w fun e w' => e = .returned (.pointer (some ⟨w.heap.size, 0, none⟩)) ∧ Below w.heap.size w w' := by
  have hnew := Lib.hid (fun W => d07_new b hb W)
  have hst := Lib.hid (show VS w (w.alloc (.cells #[.slice none 0 0, .int .i64 0, .slice none 0 0, .bool false, .int .i64 0] 128)) none 0 [] from
    ⟨by simp [World.cell?_alloc_new], (World.frozen?_alloc_mark w _ _ 0 0 0).trans (by simp), Enc.Row.nil _ _ _, (Below.refl _ _).alloc (Nat.le_refl _) _, by simp⟩)
  clear hb
  go_enter Tryz.func36, Tryz.ntmps36
  go_upto_region 2 with fail
  refine fresh_world (fun W => VS w W none 0 []) hst.out ?_
  clear hst
  intro W0 h0
  obtain ⟨V, hV⟩ : ∃ V, V = w.heap.size := ⟨_, rfl⟩
  go_wp2_with fail
  go_loopw [12] (fun i wr => ∃ (k : Nat) (A : Option Addr) (cap : Nat) (ds : List Nat), k ≤ n ∧ i = .int .i64 (k : Int) ∧ ds.length = k ∧ VS w wr A cap ds) (fun i _ => n - (intOf i).toNat)
  case atStart => exact ⟨0, none, 0, [], by omega, rfl, rfl, h0⟩
  case round =>
    clear h0
    obtain ⟨k, A, cap, ds, hk, rfl, hds, hVS⟩ := hrel
    have hVH := Lib.hid hVS
    have hdsH := Lib.hid hds
    clear hVS hds
    by_cases hlt : k < n
    · have g1 : (k : Int) < (n : Int) := by omega
      have hkw : IntKind.i64.wrap ((k : Int) + 1) = (k : Int) + 1 := IntWalk.i64_in _ (by omega)
      go_wp2_with fail
      refine (hnew.out _).mono ?_
      rintro e w1 ⟨x, rfl, hb1⟩
      have hV1 := hVH.out.below hb1
      have c0 := hV1.c0
      have f0 := hV1.fr
      obtain ⟨A', cap', W2, hrun, d0, df0, hV2⟩ := hV1.push (by rw [hdsH.out]; omega) x 129
      have hV2H := Lib.hid hV2
      have hrunH := Lib.hid hrun
      clear hV1 hV2 hrun hb1 hVH
      generalize hdl : ds.length = dl at c0 d0 hrunH hV2H
      have hdlH := Lib.hid hdl
      clear hdl
      go_wp2_with (at_builtin; refine append_run_wp (by first | rfl | (simp [Region.wanted, yielded])) (.tmp 30) (.tmp 32) 126 rfl rfl rfl hrunH.out ?_; clear hrunH)
      go_roundw
      case rel => exact ⟨k + 1, A', cap', ds ++ [x], by omega, by go_num, by rw [List.length_append, hdsH.out]; rfl, hV2H.out⟩
      case measure => simp only [intOf]; omega
    · have g1 : ¬ (k : Int) < (n : Int) := by omega
      have hfin := Lib.hid hVH.out.b
      clear hVH
      go_wp2_with fail
      go_ret
      exact ⟨rfl, hfin.out⟩
end Go.Proofs.YtpmhfalhieinjaaGreatDoor
