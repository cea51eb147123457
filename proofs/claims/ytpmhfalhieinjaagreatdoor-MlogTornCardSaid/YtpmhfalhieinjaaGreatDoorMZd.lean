/- What a command to a machine does; new machines. -/
import Derived.Test.YtpmhfalhieinjaaGreatDoorMZs
import Derived.Test.YtpmhfalhieinjaaGreatDoorMBase
import Derived.Laws.EntriesVeiled
import Derived.Laws.OwnMore
import Derived.OwnWalk
namespace Go.Proofs.YtpmhfalhieinjaaGreatDoor
open Go.RowKit Zon
def tblV : Value := .agg #[.nilFunc, .func (Fn.func 132) #[] #[], .func (Fn.func 133) #[] #[], .func (Fn.func 134) #[] #[], .func (Fn.func 135) #[] #[], .func (Fn.func 136) #[] #[], .func (Fn.func 137) #[] #[], .func (Fn.func 138) #[] #[]]
theorem commands_any (w : World) :
    Calls Tryz.prog 121 #[] w fun e w' => e = .returned tblV ∧ Below w.heap.size w w' := by
  go_enter Tryz.func121, Tryz.ntmps121
  go_wp2
  refine bodyPost_ret (v := tblV) (by simp [tblV, results, Tryz.results121, go_sem]) rfl ⟨rfl, ?_⟩
  exact (Below.refl _ _).alloc (Nat.le_refl _) _
theorem do_kind (g z : Nat) (m : Mc) (k zz a n : Int) (w : World) (hM : MAt w g z m) (h : k < 1 ∨ 7 < k) :
    Calls Tryz.prog 102 #[.pointer (some ⟨g, 0, none⟩), .agg #[.int .i64 k, .int .i64 zz, .int .i64 a, .int .i64 n]] w (CmdPost w g z m (0, 1, m.zs)) := by
  have hXH := Lib.hid (BoxC.new hM k zz a n 116)
  clear hM
  by_cases h1 : k < 1
  · clear h
    go_enter Tryz.func102, Tryz.ntmps102
    go_wp2_with fail
    go_ret2
    exact hXH.out.end_
  · have h2 : 8 ≤ k := by omega
    clear h
    go_enter Tryz.func102, Tryz.ntmps102
    go_wp2_with fail
    go_ret2
    exact hXH.out.end_
theorem do_range (g z : Nat) (m : Mc) (k zz a n : Int) (w : World) (hM : MAt w g z m) (hk1 : 1 ≤ k) (hk2 : k ≤ 7) (h : hasB m zz = false) :
    Calls Tryz.prog 102 #[.pointer (some ⟨g, 0, none⟩), .agg #[.int .i64 k, .int .i64 zz, .int .i64 a, .int .i64 n]] w (CmdPost w g z m (0, 2, m.zs)) := by
  have hXH := Lib.hid (BoxC.new hM k zz a n 116)
  have hh := Lib.hid (fun W (hM : MAt W g z m) => has_any' g z m zz W hM)
  rw [h] at hh
  clear hM h
  go_enter Tryz.func102, Tryz.ntmps102
  go_wp2_with (go_at_call 120; refine (hh.out _ hXH.out.1).mono ?_; rintro e w1 ⟨rfl, rfl⟩)
  go_ret2
  exact hXH.out.end_
set_option maxRecDepth 100000 in
set_option maxHeartbeats 1000000 in
theorem do_1 (g z : Nat) (m : Mc) (i : Nat) (a n : Int) (w : World) (hM : MAt w g z m) (hok : m.Ok) (hi : i < m.zs.length) (ha : a ≤ 9223372036854775807) :
    Calls Tryz.prog 102 #[.pointer (some ⟨g, 0, none⟩), .agg #[.int .i64 1, .int .i64 (i : Int), .int .i64 a, .int .i64 n]] w (CmdPost w g z m (wrt m i a n)) := by
  have hokH := Lib.hid hok
  have hx := Lib.hid (fun W (hM : MAt W g z m) => write_any g z m i 1 (i : Int) a n W hM hokH.out hi ha)
  generalize wrt m i a n = r at hx ⊢
  have hXH0 := Lib.hid (BoxC.new hM 1 (i : Int) a n 116)
  have hh := Lib.hid (fun W (hM : MAt W g z m) => has_any' g z m (i : Int) W hM)
  rw [Zon.hasB_iff.2 ⟨by omega, by omega⟩] at hh
  have hix := Lib.hid (fun W => (show (Instr.index 199 tblV (.int .i64 1)).run Tryz.prog W = .ok (.func (Fn.func 132) #[] #[]) W by kernel_rfl))
  have hz2 := hok.z2
  have hzw := hM.zl
  clear hM hok
  go_enter Tryz.func102, Tryz.ntmps102
  go_wp2_with (go_at_call 120; refine (hh.out _ hXH0.out.1).mono ?_; rintro e w1 ⟨rfl, rfl⟩)
  refine fresh_world (fun W => BoxC w W g z m 1 (i : Int) a n) hXH0.out ?_
  intro W5 hX
  have hXH := Lib.hid hX
  clear hXH0 hh
  obtain ⟨cap, hc0⟩ := hX.1.c0
  have hne := hX.1.ne
  have hzl := hX.1.zl
  have hnw : w.heap.size ≠ z := by omega
  have hfacts := Lib.hid (fun W (hW : Only W5 W z) => (⟨hW.cell hc0 hne, hW.cell hX.2.2.1 hnw, hW.cell hX.2.2.2.1 hnw, hW.cell hX.2.2.2.2.1 hnw, hW.cell hX.2.2.2.2.2 hnw⟩ : W.cell? ⟨g, 0, none⟩ = some (.slice (some ⟨z, 0, none⟩) m.zs.length cap) ∧ W.cell? ⟨w.heap.size, 0, none⟩ = some (.int .i64 1) ∧ W.cell? ⟨w.heap.size, 1, none⟩ = some (.int .i64 (i : Int)) ∧ W.cell? ⟨w.heap.size, 2, none⟩ = some (.int .i64 a) ∧ W.cell? ⟨w.heap.size, 3, none⟩ = some (.int .i64 n)))
  clear hX hc0
  refine region_anyC (fun _ => true) (fun W => Only W5 W z) (by kernel_rfl) ?_
  have hS5 : Only W5 W5.drew z := (Only.refl _ _).drew
  refine anyL_take 1 (v := ?_) rfl (by kernel_rfl) (fun _ _ _ h => h) (Or.inl ⟨by rfl, ?_⟩) hS5 ?_
  rotate_left
  focus (intro W hW; go_simp; try with_reducible rfl)
  simp only [Act.put, List.setIfInBounds_toArray, List.set_cons_zero, List.set_cons_succ]
  refine anyL_take 2 (v := ?_) rfl (by kernel_rfl) (fun _ _ _ h => h) (Or.inl ⟨by rfl, ?_⟩) hS5 ?_
  rotate_left
  focus (intro W hW; obtain ⟨f0, f1, f2, f3, f4⟩ := hfacts.out W hW; go_simp; try with_reducible rfl)
  simp only [Act.put, List.setIfInBounds_toArray, List.set_cons_zero, List.set_cons_succ]
  refine anyL_take 4 (v := ?_) rfl (by kernel_rfl) (fun _ _ _ h => h) (Or.inl ⟨by rfl, ?_⟩) hS5 ?_
  rotate_left
  focus (intro W hW; go_simp; try with_reducible rfl)
  simp only [Act.put, List.setIfInBounds_toArray, List.set_cons_zero, List.set_cons_succ]
  refine anyL_take 5 (v := ?_) rfl (by kernel_rfl) (fun _ _ _ h => h) (Or.inl ⟨by rfl, ?_⟩) hS5 ?_
  rotate_left
  focus (intro W hW; go_simp; try with_reducible rfl)
  simp only [Act.put, List.setIfInBounds_toArray, List.set_cons_zero, List.set_cons_succ]
  refine anyL_take 6 (v := ?_) rfl (by kernel_rfl) (fun _ _ _ h => h) (Or.inl ⟨by rfl, ?_⟩) hS5 ?_
  rotate_left
  focus (intro W hW; go_simp; try with_reducible rfl)
  simp only [Act.put, List.setIfInBounds_toArray, List.set_cons_zero, List.set_cons_succ]
  refine anyL_take 7 (v := ?_) rfl (by kernel_rfl) (fun _ _ _ h => h) (Or.inl ⟨by rfl, ?_⟩) hS5 ?_
  rotate_left
  focus (intro W hW; go_simp; try with_reducible rfl)
  simp only [Act.put, List.setIfInBounds_toArray, List.set_cons_zero, List.set_cons_succ]
  refine anyL_take 8 (v := ?_) rfl (by kernel_rfl) (fun _ _ _ h => h) (Or.inl ⟨by rfl, ?_⟩) hS5 ?_
  rotate_left
  focus (intro W hW; obtain ⟨f0, f1, f2, f3, f4⟩ := hfacts.out W hW; go_simp; try with_reducible rfl)
  simp only [Act.put, List.setIfInBounds_toArray, List.set_cons_zero, List.set_cons_succ]
  refine anyL_take 9 (v := ?_) rfl (by kernel_rfl) (fun _ _ _ h => h) (Or.inl ⟨by rfl, ?_⟩) hS5 ?_
  rotate_left
  focus (intro W hW; go_simp; try with_reducible rfl)
  simp only [Act.put, List.setIfInBounds_toArray, List.set_cons_zero, List.set_cons_succ]
  refine anyL_take 10 (v := ?_) rfl (by kernel_rfl) (fun _ _ _ h => h) (Or.inl ⟨by rfl, ?_⟩) hS5 ?_
  rotate_left
  focus (intro W hW; obtain ⟨f0, f1, f2, f3, f4⟩ := hfacts.out W hW; go_simp; try with_reducible rfl)
  simp only [Act.put, List.setIfInBounds_toArray, List.set_cons_zero, List.set_cons_succ]
  refine anyL_take 11 (v := ?_) rfl (by kernel_rfl) (fun _ _ _ h => h) (Or.inl ⟨by rfl, ?_⟩) hS5 ?_
  rotate_left
  focus (intro W hW; go_simp; try with_reducible rfl)
  simp only [Act.put, List.setIfInBounds_toArray, List.set_cons_zero, List.set_cons_succ]
  refine anyL_take 12 (v := ?_) rfl (by kernel_rfl) (fun _ _ _ h => h) (Or.inl ⟨by rfl, ?_⟩) hS5 ?_
  rotate_left
  focus (intro W hW; obtain ⟨f0, f1, f2, f3, f4⟩ := hfacts.out W hW; go_simp; try with_reducible rfl)
  simp only [Act.put, List.setIfInBounds_toArray, List.set_cons_zero, List.set_cons_succ]
  refine anyL_one 0 rfl (by kernel_rfl) (fun K hK => ?_)
  go_simp
  refine (commands_any _).mono ?_
  rintro e' w6 ⟨rfl, hb6⟩
  have ho6 := hS5.trans (Only.of_below hb6 z)
  have hb7 := (Below.refl W5.heap.size W5).drew.trans (hb6.mono (by simp))
  dsimp only
  refine hK.out _ _ (fun _ => ho6) ?_
  clear hK K
  try simp only [Act.put, List.setIfInBounds_toArray, List.set_cons_zero, List.set_cons_succ]
  refine anyL_take 3 (v := ?_) rfl (by kernel_rfl) (fun _ _ _ h => h) (Or.inl ⟨by rfl, ?_⟩) ho6 ?_
  rotate_left
  focus (intro W hW; have h9 := hix.out W; go_simp; try with_reducible rfl)
  simp only [Act.put, List.setIfInBounds_toArray, List.set_cons_zero, List.set_cons_succ]
  refine anyL_one 13 rfl (by kernel_rfl) (fun K hK => ?_)
  go_simp
  refine (hx.out _ (hXH.out.1.below hb7)).mono ?_
  rintro e' w7 ⟨rfl, hM7, ho7⟩
  have ho8 := ho6.trans ho7
  dsimp only
  refine hK.out _ _ (fun _ => ho8) ?_
  clear hK K
  try simp only [Act.put, List.setIfInBounds_toArray, List.set_cons_zero, List.set_cons_succ]
  refine anyL_take 14 (v := ?_) rfl (by kernel_rfl) (fun _ _ _ h => h) (Or.inl ⟨by rfl, ?_⟩) ho8 ?_
  rotate_left
  focus (intro W hW; go_simp; try with_reducible rfl)
  simp only [Act.put, List.setIfInBounds_toArray, List.set_cons_zero, List.set_cons_succ]
  refine anyL_take 15 (v := ?_) rfl (by kernel_rfl) (fun _ _ _ h => h) (Or.inl ⟨by rfl, ?_⟩) ho8 ?_
  rotate_left
  focus (intro W hW; go_simp; try with_reducible rfl)
  simp only [Act.put, List.setIfInBounds_toArray, List.set_cons_zero, List.set_cons_succ]
  refine anyL_take 16 (v := ?_) rfl (by kernel_rfl) (fun _ _ _ h => h) (Or.inl ⟨by rfl, ?_⟩) ho8 ?_
  rotate_left
  focus (intro W hW; go_simp; try with_reducible rfl)
  simp only [Act.put, List.setIfInBounds_toArray, List.set_cons_zero, List.set_cons_succ]
  refine anyL_take 17 (v := ?_) rfl (by kernel_rfl) (fun _ _ _ h => h) (Or.inl ⟨by rfl, ?_⟩) ho8 ?_
  rotate_left
  focus (intro W hW; go_simp; try with_reducible rfl)
  simp only [Act.put, List.setIfInBounds_toArray, List.set_cons_zero, List.set_cons_succ]
  refine anyC_done (by kernel_rfl) ?_ _
  go_wp2
  go_ret2
  exact ⟨rfl, hM7, (Only.of_below hXH.out.2.1 z).trans ho8⟩
set_option maxRecDepth 100000 in
set_option maxHeartbeats 1000000 in
theorem do_2 (g z : Nat) (m : Mc) (i : Nat) (a n : Int) (w : World) (hM : MAt w g z m) (hok : m.Ok) (hi : i < m.zs.length) :
    Calls Tryz.prog 102 #[.pointer (some ⟨g, 0, none⟩), .agg #[.int .i64 2, .int .i64 (i : Int), .int .i64 a, .int .i64 n]] w (CmdPost w g z m (app m i n)) := by
  have hokH := Lib.hid hok
  have hx := Lib.hid (fun W (hM : MAt W g z m) => append_any g z m i 2 (i : Int) a n W hM hokH.out hi)
  generalize app m i n = r at hx ⊢
  have hXH0 := Lib.hid (BoxC.new hM 2 (i : Int) a n 116)
  have hh := Lib.hid (fun W (hM : MAt W g z m) => has_any' g z m (i : Int) W hM)
  rw [Zon.hasB_iff.2 ⟨by omega, by omega⟩] at hh
  have hix := Lib.hid (fun W => (show (Instr.index 199 tblV (.int .i64 2)).run Tryz.prog W = .ok (.func (Fn.func 133) #[] #[]) W by kernel_rfl))
  have hz2 := hok.z2
  have hzw := hM.zl
  clear hM hok
  go_enter Tryz.func102, Tryz.ntmps102
  go_wp2_with (go_at_call 120; refine (hh.out _ hXH0.out.1).mono ?_; rintro e w1 ⟨rfl, rfl⟩)
  refine fresh_world (fun W => BoxC w W g z m 2 (i : Int) a n) hXH0.out ?_
  intro W5 hX
  have hXH := Lib.hid hX
  clear hXH0 hh
  obtain ⟨cap, hc0⟩ := hX.1.c0
  have hne := hX.1.ne
  have hzl := hX.1.zl
  have hnw : w.heap.size ≠ z := by omega
  have hfacts := Lib.hid (fun W (hW : Only W5 W z) => (⟨hW.cell hc0 hne, hW.cell hX.2.2.1 hnw, hW.cell hX.2.2.2.1 hnw, hW.cell hX.2.2.2.2.1 hnw, hW.cell hX.2.2.2.2.2 hnw⟩ : W.cell? ⟨g, 0, none⟩ = some (.slice (some ⟨z, 0, none⟩) m.zs.length cap) ∧ W.cell? ⟨w.heap.size, 0, none⟩ = some (.int .i64 2) ∧ W.cell? ⟨w.heap.size, 1, none⟩ = some (.int .i64 (i : Int)) ∧ W.cell? ⟨w.heap.size, 2, none⟩ = some (.int .i64 a) ∧ W.cell? ⟨w.heap.size, 3, none⟩ = some (.int .i64 n)))
  clear hX hc0
  refine region_anyC (fun _ => true) (fun W => Only W5 W z) (by kernel_rfl) ?_
  have hS5 : Only W5 W5.drew z := (Only.refl _ _).drew
  refine anyL_take 1 (v := ?_) rfl (by kernel_rfl) (fun _ _ _ h => h) (Or.inl ⟨by rfl, ?_⟩) hS5 ?_
  rotate_left
  focus (intro W hW; go_simp; try with_reducible rfl)
  simp only [Act.put, List.setIfInBounds_toArray, List.set_cons_zero, List.set_cons_succ]
  refine anyL_take 2 (v := ?_) rfl (by kernel_rfl) (fun _ _ _ h => h) (Or.inl ⟨by rfl, ?_⟩) hS5 ?_
  rotate_left
  focus (intro W hW; obtain ⟨f0, f1, f2, f3, f4⟩ := hfacts.out W hW; go_simp; try with_reducible rfl)
  simp only [Act.put, List.setIfInBounds_toArray, List.set_cons_zero, List.set_cons_succ]
  refine anyL_take 4 (v := ?_) rfl (by kernel_rfl) (fun _ _ _ h => h) (Or.inl ⟨by rfl, ?_⟩) hS5 ?_
  rotate_left
  focus (intro W hW; go_simp; try with_reducible rfl)
  simp only [Act.put, List.setIfInBounds_toArray, List.set_cons_zero, List.set_cons_succ]
  refine anyL_take 5 (v := ?_) rfl (by kernel_rfl) (fun _ _ _ h => h) (Or.inl ⟨by rfl, ?_⟩) hS5 ?_
  rotate_left
  focus (intro W hW; go_simp; try with_reducible rfl)
  simp only [Act.put, List.setIfInBounds_toArray, List.set_cons_zero, List.set_cons_succ]
  refine anyL_take 6 (v := ?_) rfl (by kernel_rfl) (fun _ _ _ h => h) (Or.inl ⟨by rfl, ?_⟩) hS5 ?_
  rotate_left
  focus (intro W hW; go_simp; try with_reducible rfl)
  simp only [Act.put, List.setIfInBounds_toArray, List.set_cons_zero, List.set_cons_succ]
  refine anyL_take 7 (v := ?_) rfl (by kernel_rfl) (fun _ _ _ h => h) (Or.inl ⟨by rfl, ?_⟩) hS5 ?_
  rotate_left
  focus (intro W hW; go_simp; try with_reducible rfl)
  simp only [Act.put, List.setIfInBounds_toArray, List.set_cons_zero, List.set_cons_succ]
  refine anyL_take 8 (v := ?_) rfl (by kernel_rfl) (fun _ _ _ h => h) (Or.inl ⟨by rfl, ?_⟩) hS5 ?_
  rotate_left
  focus (intro W hW; obtain ⟨f0, f1, f2, f3, f4⟩ := hfacts.out W hW; go_simp; try with_reducible rfl)
  simp only [Act.put, List.setIfInBounds_toArray, List.set_cons_zero, List.set_cons_succ]
  refine anyL_take 9 (v := ?_) rfl (by kernel_rfl) (fun _ _ _ h => h) (Or.inl ⟨by rfl, ?_⟩) hS5 ?_
  rotate_left
  focus (intro W hW; go_simp; try with_reducible rfl)
  simp only [Act.put, List.setIfInBounds_toArray, List.set_cons_zero, List.set_cons_succ]
  refine anyL_take 10 (v := ?_) rfl (by kernel_rfl) (fun _ _ _ h => h) (Or.inl ⟨by rfl, ?_⟩) hS5 ?_
  rotate_left
  focus (intro W hW; obtain ⟨f0, f1, f2, f3, f4⟩ := hfacts.out W hW; go_simp; try with_reducible rfl)
  simp only [Act.put, List.setIfInBounds_toArray, List.set_cons_zero, List.set_cons_succ]
  refine anyL_take 11 (v := ?_) rfl (by kernel_rfl) (fun _ _ _ h => h) (Or.inl ⟨by rfl, ?_⟩) hS5 ?_
  rotate_left
  focus (intro W hW; go_simp; try with_reducible rfl)
  simp only [Act.put, List.setIfInBounds_toArray, List.set_cons_zero, List.set_cons_succ]
  refine anyL_take 12 (v := ?_) rfl (by kernel_rfl) (fun _ _ _ h => h) (Or.inl ⟨by rfl, ?_⟩) hS5 ?_
  rotate_left
  focus (intro W hW; obtain ⟨f0, f1, f2, f3, f4⟩ := hfacts.out W hW; go_simp; try with_reducible rfl)
  simp only [Act.put, List.setIfInBounds_toArray, List.set_cons_zero, List.set_cons_succ]
  refine anyL_one 0 rfl (by kernel_rfl) (fun K hK => ?_)
  go_simp
  refine (commands_any _).mono ?_
  rintro e' w6 ⟨rfl, hb6⟩
  have ho6 := hS5.trans (Only.of_below hb6 z)
  have hb7 := (Below.refl W5.heap.size W5).drew.trans (hb6.mono (by simp))
  dsimp only
  refine hK.out _ _ (fun _ => ho6) ?_
  clear hK K
  try simp only [Act.put, List.setIfInBounds_toArray, List.set_cons_zero, List.set_cons_succ]
  refine anyL_take 3 (v := ?_) rfl (by kernel_rfl) (fun _ _ _ h => h) (Or.inl ⟨by rfl, ?_⟩) ho6 ?_
  rotate_left
  focus (intro W hW; have h9 := hix.out W; go_simp; try with_reducible rfl)
  simp only [Act.put, List.setIfInBounds_toArray, List.set_cons_zero, List.set_cons_succ]
  refine anyL_one 13 rfl (by kernel_rfl) (fun K hK => ?_)
  go_simp
  refine (hx.out _ (hXH.out.1.below hb7)).mono ?_
  rintro e' w7 ⟨rfl, hM7, ho7⟩
  have ho8 := ho6.trans ho7
  dsimp only
  refine hK.out _ _ (fun _ => ho8) ?_
  clear hK K
  try simp only [Act.put, List.setIfInBounds_toArray, List.set_cons_zero, List.set_cons_succ]
  refine anyL_take 14 (v := ?_) rfl (by kernel_rfl) (fun _ _ _ h => h) (Or.inl ⟨by rfl, ?_⟩) ho8 ?_
  rotate_left
  focus (intro W hW; go_simp; try with_reducible rfl)
  simp only [Act.put, List.setIfInBounds_toArray, List.set_cons_zero, List.set_cons_succ]
  refine anyL_take 15 (v := ?_) rfl (by kernel_rfl) (fun _ _ _ h => h) (Or.inl ⟨by rfl, ?_⟩) ho8 ?_
  rotate_left
  focus (intro W hW; go_simp; try with_reducible rfl)
  simp only [Act.put, List.setIfInBounds_toArray, List.set_cons_zero, List.set_cons_succ]
  refine anyL_take 16 (v := ?_) rfl (by kernel_rfl) (fun _ _ _ h => h) (Or.inl ⟨by rfl, ?_⟩) ho8 ?_
  rotate_left
  focus (intro W hW; go_simp; try with_reducible rfl)
  simp only [Act.put, List.setIfInBounds_toArray, List.set_cons_zero, List.set_cons_succ]
  refine anyL_take 17 (v := ?_) rfl (by kernel_rfl) (fun _ _ _ h => h) (Or.inl ⟨by rfl, ?_⟩) ho8 ?_
  rotate_left
  focus (intro W hW; go_simp; try with_reducible rfl)
  simp only [Act.put, List.setIfInBounds_toArray, List.set_cons_zero, List.set_cons_succ]
  refine anyC_done (by kernel_rfl) ?_ _
  go_wp2
  go_ret2
  exact ⟨rfl, hM7, (Only.of_below hXH.out.2.1 z).trans ho8⟩
set_option maxRecDepth 100000 in
set_option maxHeartbeats 1000000 in
theorem do_3 (g z : Nat) (m : Mc) (i : Nat) (a n : Int) (w : World) (hM : MAt w g z m) (hok : m.Ok) (hi : i < m.zs.length) :
    Calls Tryz.prog 102 #[.pointer (some ⟨g, 0, none⟩), .agg #[.int .i64 3, .int .i64 (i : Int), .int .i64 a, .int .i64 n]] w (CmdPost w g z m (rst m i)) := by
  have hokH := Lib.hid hok
  have hx := Lib.hid (fun W (hM : MAt W g z m) => reset_any g z m i 3 (i : Int) a n W hM hokH.out hi)
  generalize rst m i = r at hx ⊢
  have hXH0 := Lib.hid (BoxC.new hM 3 (i : Int) a n 116)
  have hh := Lib.hid (fun W (hM : MAt W g z m) => has_any' g z m (i : Int) W hM)
  rw [Zon.hasB_iff.2 ⟨by omega, by omega⟩] at hh
  have hix := Lib.hid (fun W => (show (Instr.index 199 tblV (.int .i64 3)).run Tryz.prog W = .ok (.func (Fn.func 134) #[] #[]) W by kernel_rfl))
  have hz2 := hok.z2
  have hzw := hM.zl
  clear hM hok
  go_enter Tryz.func102, Tryz.ntmps102
  go_wp2_with (go_at_call 120; refine (hh.out _ hXH0.out.1).mono ?_; rintro e w1 ⟨rfl, rfl⟩)
  refine fresh_world (fun W => BoxC w W g z m 3 (i : Int) a n) hXH0.out ?_
  intro W5 hX
  have hXH := Lib.hid hX
  clear hXH0 hh
  obtain ⟨cap, hc0⟩ := hX.1.c0
  have hne := hX.1.ne
  have hzl := hX.1.zl
  have hnw : w.heap.size ≠ z := by omega
  have hfacts := Lib.hid (fun W (hW : Only W5 W z) => (⟨hW.cell hc0 hne, hW.cell hX.2.2.1 hnw, hW.cell hX.2.2.2.1 hnw, hW.cell hX.2.2.2.2.1 hnw, hW.cell hX.2.2.2.2.2 hnw⟩ : W.cell? ⟨g, 0, none⟩ = some (.slice (some ⟨z, 0, none⟩) m.zs.length cap) ∧ W.cell? ⟨w.heap.size, 0, none⟩ = some (.int .i64 3) ∧ W.cell? ⟨w.heap.size, 1, none⟩ = some (.int .i64 (i : Int)) ∧ W.cell? ⟨w.heap.size, 2, none⟩ = some (.int .i64 a) ∧ W.cell? ⟨w.heap.size, 3, none⟩ = some (.int .i64 n)))
  clear hX hc0
  refine region_anyC (fun _ => true) (fun W => Only W5 W z) (by kernel_rfl) ?_
  have hS5 : Only W5 W5.drew z := (Only.refl _ _).drew
  refine anyL_take 1 (v := ?_) rfl (by kernel_rfl) (fun _ _ _ h => h) (Or.inl ⟨by rfl, ?_⟩) hS5 ?_
  rotate_left
  focus (intro W hW; go_simp; try with_reducible rfl)
  simp only [Act.put, List.setIfInBounds_toArray, List.set_cons_zero, List.set_cons_succ]
  refine anyL_take 2 (v := ?_) rfl (by kernel_rfl) (fun _ _ _ h => h) (Or.inl ⟨by rfl, ?_⟩) hS5 ?_
  rotate_left
  focus (intro W hW; obtain ⟨f0, f1, f2, f3, f4⟩ := hfacts.out W hW; go_simp; try with_reducible rfl)
  simp only [Act.put, List.setIfInBounds_toArray, List.set_cons_zero, List.set_cons_succ]
  refine anyL_take 4 (v := ?_) rfl (by kernel_rfl) (fun _ _ _ h => h) (Or.inl ⟨by rfl, ?_⟩) hS5 ?_
  rotate_left
  focus (intro W hW; go_simp; try with_reducible rfl)
  simp only [Act.put, List.setIfInBounds_toArray, List.set_cons_zero, List.set_cons_succ]
  refine anyL_take 5 (v := ?_) rfl (by kernel_rfl) (fun _ _ _ h => h) (Or.inl ⟨by rfl, ?_⟩) hS5 ?_
  rotate_left
  focus (intro W hW; go_simp; try with_reducible rfl)
  simp only [Act.put, List.setIfInBounds_toArray, List.set_cons_zero, List.set_cons_succ]
  refine anyL_take 6 (v := ?_) rfl (by kernel_rfl) (fun _ _ _ h => h) (Or.inl ⟨by rfl, ?_⟩) hS5 ?_
  rotate_left
  focus (intro W hW; go_simp; try with_reducible rfl)
  simp only [Act.put, List.setIfInBounds_toArray, List.set_cons_zero, List.set_cons_succ]
  refine anyL_take 7 (v := ?_) rfl (by kernel_rfl) (fun _ _ _ h => h) (Or.inl ⟨by rfl, ?_⟩) hS5 ?_
  rotate_left
  focus (intro W hW; go_simp; try with_reducible rfl)
  simp only [Act.put, List.setIfInBounds_toArray, List.set_cons_zero, List.set_cons_succ]
  refine anyL_take 8 (v := ?_) rfl (by kernel_rfl) (fun _ _ _ h => h) (Or.inl ⟨by rfl, ?_⟩) hS5 ?_
  rotate_left
  focus (intro W hW; obtain ⟨f0, f1, f2, f3, f4⟩ := hfacts.out W hW; go_simp; try with_reducible rfl)
  simp only [Act.put, List.setIfInBounds_toArray, List.set_cons_zero, List.set_cons_succ]
  refine anyL_take 9 (v := ?_) rfl (by kernel_rfl) (fun _ _ _ h => h) (Or.inl ⟨by rfl, ?_⟩) hS5 ?_
  rotate_left
  focus (intro W hW; go_simp; try with_reducible rfl)
  simp only [Act.put, List.setIfInBounds_toArray, List.set_cons_zero, List.set_cons_succ]
  refine anyL_take 10 (v := ?_) rfl (by kernel_rfl) (fun _ _ _ h => h) (Or.inl ⟨by rfl, ?_⟩) hS5 ?_
  rotate_left
  focus (intro W hW; obtain ⟨f0, f1, f2, f3, f4⟩ := hfacts.out W hW; go_simp; try with_reducible rfl)
  simp only [Act.put, List.setIfInBounds_toArray, List.set_cons_zero, List.set_cons_succ]
  refine anyL_take 11 (v := ?_) rfl (by kernel_rfl) (fun _ _ _ h => h) (Or.inl ⟨by rfl, ?_⟩) hS5 ?_
  rotate_left
  focus (intro W hW; go_simp; try with_reducible rfl)
  simp only [Act.put, List.setIfInBounds_toArray, List.set_cons_zero, List.set_cons_succ]
  refine anyL_take 12 (v := ?_) rfl (by kernel_rfl) (fun _ _ _ h => h) (Or.inl ⟨by rfl, ?_⟩) hS5 ?_
  rotate_left
  focus (intro W hW; obtain ⟨f0, f1, f2, f3, f4⟩ := hfacts.out W hW; go_simp; try with_reducible rfl)
  simp only [Act.put, List.setIfInBounds_toArray, List.set_cons_zero, List.set_cons_succ]
  refine anyL_one 0 rfl (by kernel_rfl) (fun K hK => ?_)
  go_simp
  refine (commands_any _).mono ?_
  rintro e' w6 ⟨rfl, hb6⟩
  have ho6 := hS5.trans (Only.of_below hb6 z)
  have hb7 := (Below.refl W5.heap.size W5).drew.trans (hb6.mono (by simp))
  dsimp only
  refine hK.out _ _ (fun _ => ho6) ?_
  clear hK K
  try simp only [Act.put, List.setIfInBounds_toArray, List.set_cons_zero, List.set_cons_succ]
  refine anyL_take 3 (v := ?_) rfl (by kernel_rfl) (fun _ _ _ h => h) (Or.inl ⟨by rfl, ?_⟩) ho6 ?_
  rotate_left
  focus (intro W hW; have h9 := hix.out W; go_simp; try with_reducible rfl)
  simp only [Act.put, List.setIfInBounds_toArray, List.set_cons_zero, List.set_cons_succ]
  refine anyL_one 13 rfl (by kernel_rfl) (fun K hK => ?_)
  go_simp
  refine (hx.out _ (hXH.out.1.below hb7)).mono ?_
  rintro e' w7 ⟨rfl, hM7, ho7⟩
  have ho8 := ho6.trans ho7
  dsimp only
  refine hK.out _ _ (fun _ => ho8) ?_
  clear hK K
  try simp only [Act.put, List.setIfInBounds_toArray, List.set_cons_zero, List.set_cons_succ]
  refine anyL_take 14 (v := ?_) rfl (by kernel_rfl) (fun _ _ _ h => h) (Or.inl ⟨by rfl, ?_⟩) ho8 ?_
  rotate_left
  focus (intro W hW; go_simp; try with_reducible rfl)
  simp only [Act.put, List.setIfInBounds_toArray, List.set_cons_zero, List.set_cons_succ]
  refine anyL_take 15 (v := ?_) rfl (by kernel_rfl) (fun _ _ _ h => h) (Or.inl ⟨by rfl, ?_⟩) ho8 ?_
  rotate_left
  focus (intro W hW; go_simp; try with_reducible rfl)
  simp only [Act.put, List.setIfInBounds_toArray, List.set_cons_zero, List.set_cons_succ]
  refine anyL_take 16 (v := ?_) rfl (by kernel_rfl) (fun _ _ _ h => h) (Or.inl ⟨by rfl, ?_⟩) ho8 ?_
  rotate_left
  focus (intro W hW; go_simp; try with_reducible rfl)
  simp only [Act.put, List.setIfInBounds_toArray, List.set_cons_zero, List.set_cons_succ]
  refine anyL_take 17 (v := ?_) rfl (by kernel_rfl) (fun _ _ _ h => h) (Or.inl ⟨by rfl, ?_⟩) ho8 ?_
  rotate_left
  focus (intro W hW; go_simp; try with_reducible rfl)
  simp only [Act.put, List.setIfInBounds_toArray, List.set_cons_zero, List.set_cons_succ]
  refine anyC_done (by kernel_rfl) ?_ _
  go_wp2
  go_ret2
  exact ⟨rfl, hM7, (Only.of_below hXH.out.2.1 z).trans ho8⟩
set_option maxRecDepth 100000 in
set_option maxHeartbeats 1000000 in
theorem do_4 (g z : Nat) (m : Mc) (i : Nat) (a n : Int) (w : World) (hM : MAt w g z m) (hok : m.Ok) (hi : i < m.zs.length) :
    Calls Tryz.prog 102 #[.pointer (some ⟨g, 0, none⟩), .agg #[.int .i64 4, .int .i64 (i : Int), .int .i64 a, .int .i64 n]] w (CmdPost w g z m (fin m i)) := by
  have hokH := Lib.hid hok
  have hx := Lib.hid (fun W (hM : MAt W g z m) => finish_any g z m i 4 (i : Int) a n W hM hokH.out hi)
  generalize fin m i = r at hx ⊢
  have hXH0 := Lib.hid (BoxC.new hM 4 (i : Int) a n 116)
  have hh := Lib.hid (fun W (hM : MAt W g z m) => has_any' g z m (i : Int) W hM)
  rw [Zon.hasB_iff.2 ⟨by omega, by omega⟩] at hh
  have hix := Lib.hid (fun W => (show (Instr.index 199 tblV (.int .i64 4)).run Tryz.prog W = .ok (.func (Fn.func 135) #[] #[]) W by kernel_rfl))
  have hz2 := hok.z2
  have hzw := hM.zl
  clear hM hok
  go_enter Tryz.func102, Tryz.ntmps102
  go_wp2_with (go_at_call 120; refine (hh.out _ hXH0.out.1).mono ?_; rintro e w1 ⟨rfl, rfl⟩)
  refine fresh_world (fun W => BoxC w W g z m 4 (i : Int) a n) hXH0.out ?_
  intro W5 hX
  have hXH := Lib.hid hX
  clear hXH0 hh
  obtain ⟨cap, hc0⟩ := hX.1.c0
  have hne := hX.1.ne
  have hzl := hX.1.zl
  have hnw : w.heap.size ≠ z := by omega
  have hfacts := Lib.hid (fun W (hW : Only W5 W z) => (⟨hW.cell hc0 hne, hW.cell hX.2.2.1 hnw, hW.cell hX.2.2.2.1 hnw, hW.cell hX.2.2.2.2.1 hnw, hW.cell hX.2.2.2.2.2 hnw⟩ : W.cell? ⟨g, 0, none⟩ = some (.slice (some ⟨z, 0, none⟩) m.zs.length cap) ∧ W.cell? ⟨w.heap.size, 0, none⟩ = some (.int .i64 4) ∧ W.cell? ⟨w.heap.size, 1, none⟩ = some (.int .i64 (i : Int)) ∧ W.cell? ⟨w.heap.size, 2, none⟩ = some (.int .i64 a) ∧ W.cell? ⟨w.heap.size, 3, none⟩ = some (.int .i64 n)))
  clear hX hc0
  refine region_anyC (fun _ => true) (fun W => Only W5 W z) (by kernel_rfl) ?_
  have hS5 : Only W5 W5.drew z := (Only.refl _ _).drew
  refine anyL_take 1 (v := ?_) rfl (by kernel_rfl) (fun _ _ _ h => h) (Or.inl ⟨by rfl, ?_⟩) hS5 ?_
  rotate_left
  focus (intro W hW; go_simp; try with_reducible rfl)
  simp only [Act.put, List.setIfInBounds_toArray, List.set_cons_zero, List.set_cons_succ]
  refine anyL_take 2 (v := ?_) rfl (by kernel_rfl) (fun _ _ _ h => h) (Or.inl ⟨by rfl, ?_⟩) hS5 ?_
  rotate_left
  focus (intro W hW; obtain ⟨f0, f1, f2, f3, f4⟩ := hfacts.out W hW; go_simp; try with_reducible rfl)
  simp only [Act.put, List.setIfInBounds_toArray, List.set_cons_zero, List.set_cons_succ]
  refine anyL_take 4 (v := ?_) rfl (by kernel_rfl) (fun _ _ _ h => h) (Or.inl ⟨by rfl, ?_⟩) hS5 ?_
  rotate_left
  focus (intro W hW; go_simp; try with_reducible rfl)
  simp only [Act.put, List.setIfInBounds_toArray, List.set_cons_zero, List.set_cons_succ]
  refine anyL_take 5 (v := ?_) rfl (by kernel_rfl) (fun _ _ _ h => h) (Or.inl ⟨by rfl, ?_⟩) hS5 ?_
  rotate_left
  focus (intro W hW; go_simp; try with_reducible rfl)
  simp only [Act.put, List.setIfInBounds_toArray, List.set_cons_zero, List.set_cons_succ]
  refine anyL_take 6 (v := ?_) rfl (by kernel_rfl) (fun _ _ _ h => h) (Or.inl ⟨by rfl, ?_⟩) hS5 ?_
  rotate_left
  focus (intro W hW; go_simp; try with_reducible rfl)
  simp only [Act.put, List.setIfInBounds_toArray, List.set_cons_zero, List.set_cons_succ]
  refine anyL_take 7 (v := ?_) rfl (by kernel_rfl) (fun _ _ _ h => h) (Or.inl ⟨by rfl, ?_⟩) hS5 ?_
  rotate_left
  focus (intro W hW; go_simp; try with_reducible rfl)
  simp only [Act.put, List.setIfInBounds_toArray, List.set_cons_zero, List.set_cons_succ]
  refine anyL_take 8 (v := ?_) rfl (by kernel_rfl) (fun _ _ _ h => h) (Or.inl ⟨by rfl, ?_⟩) hS5 ?_
  rotate_left
  focus (intro W hW; obtain ⟨f0, f1, f2, f3, f4⟩ := hfacts.out W hW; go_simp; try with_reducible rfl)
  simp only [Act.put, List.setIfInBounds_toArray, List.set_cons_zero, List.set_cons_succ]
  refine anyL_take 9 (v := ?_) rfl (by kernel_rfl) (fun _ _ _ h => h) (Or.inl ⟨by rfl, ?_⟩) hS5 ?_
  rotate_left
  focus (intro W hW; go_simp; try with_reducible rfl)
  simp only [Act.put, List.setIfInBounds_toArray, List.set_cons_zero, List.set_cons_succ]
  refine anyL_take 10 (v := ?_) rfl (by kernel_rfl) (fun _ _ _ h => h) (Or.inl ⟨by rfl, ?_⟩) hS5 ?_
  rotate_left
  focus (intro W hW; obtain ⟨f0, f1, f2, f3, f4⟩ := hfacts.out W hW; go_simp; try with_reducible rfl)
  simp only [Act.put, List.setIfInBounds_toArray, List.set_cons_zero, List.set_cons_succ]
  refine anyL_take 11 (v := ?_) rfl (by kernel_rfl) (fun _ _ _ h => h) (Or.inl ⟨by rfl, ?_⟩) hS5 ?_
  rotate_left
  focus (intro W hW; go_simp; try with_reducible rfl)
  simp only [Act.put, List.setIfInBounds_toArray, List.set_cons_zero, List.set_cons_succ]
  refine anyL_take 12 (v := ?_) rfl (by kernel_rfl) (fun _ _ _ h => h) (Or.inl ⟨by rfl, ?_⟩) hS5 ?_
  rotate_left
  focus (intro W hW; obtain ⟨f0, f1, f2, f3, f4⟩ := hfacts.out W hW; go_simp; try with_reducible rfl)
  simp only [Act.put, List.setIfInBounds_toArray, List.set_cons_zero, List.set_cons_succ]
  refine anyL_one 0 rfl (by kernel_rfl) (fun K hK => ?_)
  go_simp
  refine (commands_any _).mono ?_
  rintro e' w6 ⟨rfl, hb6⟩
  have ho6 := hS5.trans (Only.of_below hb6 z)
  have hb7 := (Below.refl W5.heap.size W5).drew.trans (hb6.mono (by simp))
  dsimp only
  refine hK.out _ _ (fun _ => ho6) ?_
  clear hK K
  try simp only [Act.put, List.setIfInBounds_toArray, List.set_cons_zero, List.set_cons_succ]
  refine anyL_take 3 (v := ?_) rfl (by kernel_rfl) (fun _ _ _ h => h) (Or.inl ⟨by rfl, ?_⟩) ho6 ?_
  rotate_left
  focus (intro W hW; have h9 := hix.out W; go_simp; try with_reducible rfl)
  simp only [Act.put, List.setIfInBounds_toArray, List.set_cons_zero, List.set_cons_succ]
  refine anyL_one 13 rfl (by kernel_rfl) (fun K hK => ?_)
  go_simp
  refine (hx.out _ (hXH.out.1.below hb7)).mono ?_
  rintro e' w7 ⟨rfl, hM7, ho7⟩
  have ho8 := ho6.trans ho7
  dsimp only
  refine hK.out _ _ (fun _ => ho8) ?_
  clear hK K
  try simp only [Act.put, List.setIfInBounds_toArray, List.set_cons_zero, List.set_cons_succ]
  refine anyL_take 14 (v := ?_) rfl (by kernel_rfl) (fun _ _ _ h => h) (Or.inl ⟨by rfl, ?_⟩) ho8 ?_
  rotate_left
  focus (intro W hW; go_simp; try with_reducible rfl)
  simp only [Act.put, List.setIfInBounds_toArray, List.set_cons_zero, List.set_cons_succ]
  refine anyL_take 15 (v := ?_) rfl (by kernel_rfl) (fun _ _ _ h => h) (Or.inl ⟨by rfl, ?_⟩) ho8 ?_
  rotate_left
  focus (intro W hW; go_simp; try with_reducible rfl)
  simp only [Act.put, List.setIfInBounds_toArray, List.set_cons_zero, List.set_cons_succ]
  refine anyL_take 16 (v := ?_) rfl (by kernel_rfl) (fun _ _ _ h => h) (Or.inl ⟨by rfl, ?_⟩) ho8 ?_
  rotate_left
  focus (intro W hW; go_simp; try with_reducible rfl)
  simp only [Act.put, List.setIfInBounds_toArray, List.set_cons_zero, List.set_cons_succ]
  refine anyL_take 17 (v := ?_) rfl (by kernel_rfl) (fun _ _ _ h => h) (Or.inl ⟨by rfl, ?_⟩) ho8 ?_
  rotate_left
  focus (intro W hW; go_simp; try with_reducible rfl)
  simp only [Act.put, List.setIfInBounds_toArray, List.set_cons_zero, List.set_cons_succ]
  refine anyC_done (by kernel_rfl) ?_ _
  go_wp2
  go_ret2
  exact ⟨rfl, hM7, (Only.of_below hXH.out.2.1 z).trans ho8⟩
set_option maxRecDepth 100000 in
set_option maxHeartbeats 1000000 in
theorem do_5 (g z : Nat) (m : Mc) (i : Nat) (a n : Int) (w : World) (hM : MAt w g z m) (hok : m.Ok) (hi : i < m.zs.length) :
    Calls Tryz.prog 102 #[.pointer (some ⟨g, 0, none⟩), .agg #[.int .i64 5, .int .i64 (i : Int), .int .i64 a, .int .i64 n]] w (CmdPost w g z m (opn m i)) := by
  have hokH := Lib.hid hok
  have hx := Lib.hid (fun W (hM : MAt W g z m) => open_any g z m i 5 (i : Int) a n W hM hokH.out hi)
  generalize opn m i = r at hx ⊢
  have hXH0 := Lib.hid (BoxC.new hM 5 (i : Int) a n 116)
  have hh := Lib.hid (fun W (hM : MAt W g z m) => has_any' g z m (i : Int) W hM)
  rw [Zon.hasB_iff.2 ⟨by omega, by omega⟩] at hh
  have hix := Lib.hid (fun W => (show (Instr.index 199 tblV (.int .i64 5)).run Tryz.prog W = .ok (.func (Fn.func 136) #[] #[]) W by kernel_rfl))
  have hz2 := hok.z2
  have hzw := hM.zl
  clear hM hok
  go_enter Tryz.func102, Tryz.ntmps102
  go_wp2_with (go_at_call 120; refine (hh.out _ hXH0.out.1).mono ?_; rintro e w1 ⟨rfl, rfl⟩)
  refine fresh_world (fun W => BoxC w W g z m 5 (i : Int) a n) hXH0.out ?_
  intro W5 hX
  have hXH := Lib.hid hX
  clear hXH0 hh
  obtain ⟨cap, hc0⟩ := hX.1.c0
  have hne := hX.1.ne
  have hzl := hX.1.zl
  have hnw : w.heap.size ≠ z := by omega
  have hfacts := Lib.hid (fun W (hW : Only W5 W z) => (⟨hW.cell hc0 hne, hW.cell hX.2.2.1 hnw, hW.cell hX.2.2.2.1 hnw, hW.cell hX.2.2.2.2.1 hnw, hW.cell hX.2.2.2.2.2 hnw⟩ : W.cell? ⟨g, 0, none⟩ = some (.slice (some ⟨z, 0, none⟩) m.zs.length cap) ∧ W.cell? ⟨w.heap.size, 0, none⟩ = some (.int .i64 5) ∧ W.cell? ⟨w.heap.size, 1, none⟩ = some (.int .i64 (i : Int)) ∧ W.cell? ⟨w.heap.size, 2, none⟩ = some (.int .i64 a) ∧ W.cell? ⟨w.heap.size, 3, none⟩ = some (.int .i64 n)))
  clear hX hc0
  refine region_anyC (fun _ => true) (fun W => Only W5 W z) (by kernel_rfl) ?_
  have hS5 : Only W5 W5.drew z := (Only.refl _ _).drew
  refine anyL_take 1 (v := ?_) rfl (by kernel_rfl) (fun _ _ _ h => h) (Or.inl ⟨by rfl, ?_⟩) hS5 ?_
  rotate_left
  focus (intro W hW; go_simp; try with_reducible rfl)
  simp only [Act.put, List.setIfInBounds_toArray, List.set_cons_zero, List.set_cons_succ]
  refine anyL_take 2 (v := ?_) rfl (by kernel_rfl) (fun _ _ _ h => h) (Or.inl ⟨by rfl, ?_⟩) hS5 ?_
  rotate_left
  focus (intro W hW; obtain ⟨f0, f1, f2, f3, f4⟩ := hfacts.out W hW; go_simp; try with_reducible rfl)
  simp only [Act.put, List.setIfInBounds_toArray, List.set_cons_zero, List.set_cons_succ]
  refine anyL_take 4 (v := ?_) rfl (by kernel_rfl) (fun _ _ _ h => h) (Or.inl ⟨by rfl, ?_⟩) hS5 ?_
  rotate_left
  focus (intro W hW; go_simp; try with_reducible rfl)
  simp only [Act.put, List.setIfInBounds_toArray, List.set_cons_zero, List.set_cons_succ]
  refine anyL_take 5 (v := ?_) rfl (by kernel_rfl) (fun _ _ _ h => h) (Or.inl ⟨by rfl, ?_⟩) hS5 ?_
  rotate_left
  focus (intro W hW; go_simp; try with_reducible rfl)
  simp only [Act.put, List.setIfInBounds_toArray, List.set_cons_zero, List.set_cons_succ]
  refine anyL_take 6 (v := ?_) rfl (by kernel_rfl) (fun _ _ _ h => h) (Or.inl ⟨by rfl, ?_⟩) hS5 ?_
  rotate_left
  focus (intro W hW; go_simp; try with_reducible rfl)
  simp only [Act.put, List.setIfInBounds_toArray, List.set_cons_zero, List.set_cons_succ]
  refine anyL_take 7 (v := ?_) rfl (by kernel_rfl) (fun _ _ _ h => h) (Or.inl ⟨by rfl, ?_⟩) hS5 ?_
  rotate_left
  focus (intro W hW; go_simp; try with_reducible rfl)
  simp only [Act.put, List.setIfInBounds_toArray, List.set_cons_zero, List.set_cons_succ]
  refine anyL_take 8 (v := ?_) rfl (by kernel_rfl) (fun _ _ _ h => h) (Or.inl ⟨by rfl, ?_⟩) hS5 ?_
  rotate_left
  focus (intro W hW; obtain ⟨f0, f1, f2, f3, f4⟩ := hfacts.out W hW; go_simp; try with_reducible rfl)
  simp only [Act.put, List.setIfInBounds_toArray, List.set_cons_zero, List.set_cons_succ]
  refine anyL_take 9 (v := ?_) rfl (by kernel_rfl) (fun _ _ _ h => h) (Or.inl ⟨by rfl, ?_⟩) hS5 ?_
  rotate_left
  focus (intro W hW; go_simp; try with_reducible rfl)
  simp only [Act.put, List.setIfInBounds_toArray, List.set_cons_zero, List.set_cons_succ]
  refine anyL_take 10 (v := ?_) rfl (by kernel_rfl) (fun _ _ _ h => h) (Or.inl ⟨by rfl, ?_⟩) hS5 ?_
  rotate_left
  focus (intro W hW; obtain ⟨f0, f1, f2, f3, f4⟩ := hfacts.out W hW; go_simp; try with_reducible rfl)
  simp only [Act.put, List.setIfInBounds_toArray, List.set_cons_zero, List.set_cons_succ]
  refine anyL_take 11 (v := ?_) rfl (by kernel_rfl) (fun _ _ _ h => h) (Or.inl ⟨by rfl, ?_⟩) hS5 ?_
  rotate_left
  focus (intro W hW; go_simp; try with_reducible rfl)
  simp only [Act.put, List.setIfInBounds_toArray, List.set_cons_zero, List.set_cons_succ]
  refine anyL_take 12 (v := ?_) rfl (by kernel_rfl) (fun _ _ _ h => h) (Or.inl ⟨by rfl, ?_⟩) hS5 ?_
  rotate_left
  focus (intro W hW; obtain ⟨f0, f1, f2, f3, f4⟩ := hfacts.out W hW; go_simp; try with_reducible rfl)
  simp only [Act.put, List.setIfInBounds_toArray, List.set_cons_zero, List.set_cons_succ]
  refine anyL_one 0 rfl (by kernel_rfl) (fun K hK => ?_)
  go_simp
  refine (commands_any _).mono ?_
  rintro e' w6 ⟨rfl, hb6⟩
  have ho6 := hS5.trans (Only.of_below hb6 z)
  have hb7 := (Below.refl W5.heap.size W5).drew.trans (hb6.mono (by simp))
  dsimp only
  refine hK.out _ _ (fun _ => ho6) ?_
  clear hK K
  try simp only [Act.put, List.setIfInBounds_toArray, List.set_cons_zero, List.set_cons_succ]
  refine anyL_take 3 (v := ?_) rfl (by kernel_rfl) (fun _ _ _ h => h) (Or.inl ⟨by rfl, ?_⟩) ho6 ?_
  rotate_left
  focus (intro W hW; have h9 := hix.out W; go_simp; try with_reducible rfl)
  simp only [Act.put, List.setIfInBounds_toArray, List.set_cons_zero, List.set_cons_succ]
  refine anyL_one 13 rfl (by kernel_rfl) (fun K hK => ?_)
  go_simp
  refine (hx.out _ (hXH.out.1.below hb7)).mono ?_
  rintro e' w7 ⟨rfl, hM7, ho7⟩
  have ho8 := ho6.trans ho7
  dsimp only
  refine hK.out _ _ (fun _ => ho8) ?_
  clear hK K
  try simp only [Act.put, List.setIfInBounds_toArray, List.set_cons_zero, List.set_cons_succ]
  refine anyL_take 14 (v := ?_) rfl (by kernel_rfl) (fun _ _ _ h => h) (Or.inl ⟨by rfl, ?_⟩) ho8 ?_
  rotate_left
  focus (intro W hW; go_simp; try with_reducible rfl)
  simp only [Act.put, List.setIfInBounds_toArray, List.set_cons_zero, List.set_cons_succ]
  refine anyL_take 15 (v := ?_) rfl (by kernel_rfl) (fun _ _ _ h => h) (Or.inl ⟨by rfl, ?_⟩) ho8 ?_
  rotate_left
  focus (intro W hW; go_simp; try with_reducible rfl)
  simp only [Act.put, List.setIfInBounds_toArray, List.set_cons_zero, List.set_cons_succ]
  refine anyL_take 16 (v := ?_) rfl (by kernel_rfl) (fun _ _ _ h => h) (Or.inl ⟨by rfl, ?_⟩) ho8 ?_
  rotate_left
  focus (intro W hW; go_simp; try with_reducible rfl)
  simp only [Act.put, List.setIfInBounds_toArray, List.set_cons_zero, List.set_cons_succ]
  refine anyL_take 17 (v := ?_) rfl (by kernel_rfl) (fun _ _ _ h => h) (Or.inl ⟨by rfl, ?_⟩) ho8 ?_
  rotate_left
  focus (intro W hW; go_simp; try with_reducible rfl)
  simp only [Act.put, List.setIfInBounds_toArray, List.set_cons_zero, List.set_cons_succ]
  refine anyC_done (by kernel_rfl) ?_ _
  go_wp2
  go_ret2
  exact ⟨rfl, hM7, (Only.of_below hXH.out.2.1 z).trans ho8⟩
set_option maxRecDepth 100000 in
set_option maxHeartbeats 1000000 in
theorem do_6 (g z : Nat) (m : Mc) (i : Nat) (a n : Int) (w : World) (hM : MAt w g z m) (hok : m.Ok) (hi : i < m.zs.length) :
    Calls Tryz.prog 102 #[.pointer (some ⟨g, 0, none⟩), .agg #[.int .i64 6, .int .i64 (i : Int), .int .i64 a, .int .i64 n]] w (CmdPost w g z m (cls m i)) := by
  have hokH := Lib.hid hok
  have hx := Lib.hid (fun W (hM : MAt W g z m) => close_any g z m i 6 (i : Int) a n W hM hokH.out hi)
  generalize cls m i = r at hx ⊢
  have hXH0 := Lib.hid (BoxC.new hM 6 (i : Int) a n 116)
  have hh := Lib.hid (fun W (hM : MAt W g z m) => has_any' g z m (i : Int) W hM)
  rw [Zon.hasB_iff.2 ⟨by omega, by omega⟩] at hh
  have hix := Lib.hid (fun W => (show (Instr.index 199 tblV (.int .i64 6)).run Tryz.prog W = .ok (.func (Fn.func 137) #[] #[]) W by kernel_rfl))
  have hz2 := hok.z2
  have hzw := hM.zl
  clear hM hok
  go_enter Tryz.func102, Tryz.ntmps102
  go_wp2_with (go_at_call 120; refine (hh.out _ hXH0.out.1).mono ?_; rintro e w1 ⟨rfl, rfl⟩)
  refine fresh_world (fun W => BoxC w W g z m 6 (i : Int) a n) hXH0.out ?_
  intro W5 hX
  have hXH := Lib.hid hX
  clear hXH0 hh
  obtain ⟨cap, hc0⟩ := hX.1.c0
  have hne := hX.1.ne
  have hzl := hX.1.zl
  have hnw : w.heap.size ≠ z := by omega
  have hfacts := Lib.hid (fun W (hW : Only W5 W z) => (⟨hW.cell hc0 hne, hW.cell hX.2.2.1 hnw, hW.cell hX.2.2.2.1 hnw, hW.cell hX.2.2.2.2.1 hnw, hW.cell hX.2.2.2.2.2 hnw⟩ : W.cell? ⟨g, 0, none⟩ = some (.slice (some ⟨z, 0, none⟩) m.zs.length cap) ∧ W.cell? ⟨w.heap.size, 0, none⟩ = some (.int .i64 6) ∧ W.cell? ⟨w.heap.size, 1, none⟩ = some (.int .i64 (i : Int)) ∧ W.cell? ⟨w.heap.size, 2, none⟩ = some (.int .i64 a) ∧ W.cell? ⟨w.heap.size, 3, none⟩ = some (.int .i64 n)))
  clear hX hc0
  refine region_anyC (fun _ => true) (fun W => Only W5 W z) (by kernel_rfl) ?_
  have hS5 : Only W5 W5.drew z := (Only.refl _ _).drew
  refine anyL_take 1 (v := ?_) rfl (by kernel_rfl) (fun _ _ _ h => h) (Or.inl ⟨by rfl, ?_⟩) hS5 ?_
  rotate_left
  focus (intro W hW; go_simp; try with_reducible rfl)
  simp only [Act.put, List.setIfInBounds_toArray, List.set_cons_zero, List.set_cons_succ]
  refine anyL_take 2 (v := ?_) rfl (by kernel_rfl) (fun _ _ _ h => h) (Or.inl ⟨by rfl, ?_⟩) hS5 ?_
  rotate_left
  focus (intro W hW; obtain ⟨f0, f1, f2, f3, f4⟩ := hfacts.out W hW; go_simp; try with_reducible rfl)
  simp only [Act.put, List.setIfInBounds_toArray, List.set_cons_zero, List.set_cons_succ]
  refine anyL_take 4 (v := ?_) rfl (by kernel_rfl) (fun _ _ _ h => h) (Or.inl ⟨by rfl, ?_⟩) hS5 ?_
  rotate_left
  focus (intro W hW; go_simp; try with_reducible rfl)
  simp only [Act.put, List.setIfInBounds_toArray, List.set_cons_zero, List.set_cons_succ]
  refine anyL_take 5 (v := ?_) rfl (by kernel_rfl) (fun _ _ _ h => h) (Or.inl ⟨by rfl, ?_⟩) hS5 ?_
  rotate_left
  focus (intro W hW; go_simp; try with_reducible rfl)
  simp only [Act.put, List.setIfInBounds_toArray, List.set_cons_zero, List.set_cons_succ]
  refine anyL_take 6 (v := ?_) rfl (by kernel_rfl) (fun _ _ _ h => h) (Or.inl ⟨by rfl, ?_⟩) hS5 ?_
  rotate_left
  focus (intro W hW; go_simp; try with_reducible rfl)
  simp only [Act.put, List.setIfInBounds_toArray, List.set_cons_zero, List.set_cons_succ]
  refine anyL_take 7 (v := ?_) rfl (by kernel_rfl) (fun _ _ _ h => h) (Or.inl ⟨by rfl, ?_⟩) hS5 ?_
  rotate_left
  focus (intro W hW; go_simp; try with_reducible rfl)
  simp only [Act.put, List.setIfInBounds_toArray, List.set_cons_zero, List.set_cons_succ]
  refine anyL_take 8 (v := ?_) rfl (by kernel_rfl) (fun _ _ _ h => h) (Or.inl ⟨by rfl, ?_⟩) hS5 ?_
  rotate_left
  focus (intro W hW; obtain ⟨f0, f1, f2, f3, f4⟩ := hfacts.out W hW; go_simp; try with_reducible rfl)
  simp only [Act.put, List.setIfInBounds_toArray, List.set_cons_zero, List.set_cons_succ]
  refine anyL_take 9 (v := ?_) rfl (by kernel_rfl) (fun _ _ _ h => h) (Or.inl ⟨by rfl, ?_⟩) hS5 ?_
  rotate_left
  focus (intro W hW; go_simp; try with_reducible rfl)
  simp only [Act.put, List.setIfInBounds_toArray, List.set_cons_zero, List.set_cons_succ]
  refine anyL_take 10 (v := ?_) rfl (by kernel_rfl) (fun _ _ _ h => h) (Or.inl ⟨by rfl, ?_⟩) hS5 ?_
  rotate_left
  focus (intro W hW; obtain ⟨f0, f1, f2, f3, f4⟩ := hfacts.out W hW; go_simp; try with_reducible rfl)
  simp only [Act.put, List.setIfInBounds_toArray, List.set_cons_zero, List.set_cons_succ]
  refine anyL_take 11 (v := ?_) rfl (by kernel_rfl) (fun _ _ _ h => h) (Or.inl ⟨by rfl, ?_⟩) hS5 ?_
  rotate_left
  focus (intro W hW; go_simp; try with_reducible rfl)
  simp only [Act.put, List.setIfInBounds_toArray, List.set_cons_zero, List.set_cons_succ]
  refine anyL_take 12 (v := ?_) rfl (by kernel_rfl) (fun _ _ _ h => h) (Or.inl ⟨by rfl, ?_⟩) hS5 ?_
  rotate_left
  focus (intro W hW; obtain ⟨f0, f1, f2, f3, f4⟩ := hfacts.out W hW; go_simp; try with_reducible rfl)
  simp only [Act.put, List.setIfInBounds_toArray, List.set_cons_zero, List.set_cons_succ]
  refine anyL_one 0 rfl (by kernel_rfl) (fun K hK => ?_)
  go_simp
  refine (commands_any _).mono ?_
  rintro e' w6 ⟨rfl, hb6⟩
  have ho6 := hS5.trans (Only.of_below hb6 z)
  have hb7 := (Below.refl W5.heap.size W5).drew.trans (hb6.mono (by simp))
  dsimp only
  refine hK.out _ _ (fun _ => ho6) ?_
  clear hK K
  try simp only [Act.put, List.setIfInBounds_toArray, List.set_cons_zero, List.set_cons_succ]
  refine anyL_take 3 (v := ?_) rfl (by kernel_rfl) (fun _ _ _ h => h) (Or.inl ⟨by rfl, ?_⟩) ho6 ?_
  rotate_left
  focus (intro W hW; have h9 := hix.out W; go_simp; try with_reducible rfl)
  simp only [Act.put, List.setIfInBounds_toArray, List.set_cons_zero, List.set_cons_succ]
  refine anyL_one 13 rfl (by kernel_rfl) (fun K hK => ?_)
  go_simp
  refine (hx.out _ (hXH.out.1.below hb7)).mono ?_
  rintro e' w7 ⟨rfl, hM7, ho7⟩
  have ho8 := ho6.trans ho7
  dsimp only
  refine hK.out _ _ (fun _ => ho8) ?_
  clear hK K
  try simp only [Act.put, List.setIfInBounds_toArray, List.set_cons_zero, List.set_cons_succ]
  refine anyL_take 14 (v := ?_) rfl (by kernel_rfl) (fun _ _ _ h => h) (Or.inl ⟨by rfl, ?_⟩) ho8 ?_
  rotate_left
  focus (intro W hW; go_simp; try with_reducible rfl)
  simp only [Act.put, List.setIfInBounds_toArray, List.set_cons_zero, List.set_cons_succ]
  refine anyL_take 15 (v := ?_) rfl (by kernel_rfl) (fun _ _ _ h => h) (Or.inl ⟨by rfl, ?_⟩) ho8 ?_
  rotate_left
  focus (intro W hW; go_simp; try with_reducible rfl)
  simp only [Act.put, List.setIfInBounds_toArray, List.set_cons_zero, List.set_cons_succ]
  refine anyL_take 16 (v := ?_) rfl (by kernel_rfl) (fun _ _ _ h => h) (Or.inl ⟨by rfl, ?_⟩) ho8 ?_
  rotate_left
  focus (intro W hW; go_simp; try with_reducible rfl)
  simp only [Act.put, List.setIfInBounds_toArray, List.set_cons_zero, List.set_cons_succ]
  refine anyL_take 17 (v := ?_) rfl (by kernel_rfl) (fun _ _ _ h => h) (Or.inl ⟨by rfl, ?_⟩) ho8 ?_
  rotate_left
  focus (intro W hW; go_simp; try with_reducible rfl)
  simp only [Act.put, List.setIfInBounds_toArray, List.set_cons_zero, List.set_cons_succ]
  refine anyC_done (by kernel_rfl) ?_ _
  go_wp2
  go_ret2
  exact ⟨rfl, hM7, (Only.of_below hXH.out.2.1 z).trans ho8⟩
set_option maxRecDepth 100000 in
set_option maxHeartbeats 1000000 in
theorem do_7 (g z : Nat) (m : Mc) (i : Nat) (a n : Int) (w : World) (hM : MAt w g z m) (hok : m.Ok) (hi : i < m.zs.length) (ha : a ≤ 9223372036854775807) :
    Calls Tryz.prog 102 #[.pointer (some ⟨g, 0, none⟩), .agg #[.int .i64 7, .int .i64 (i : Int), .int .i64 a, .int .i64 n]] w (CmdPost w g z m (rea m i a n)) := by
  have hokH := Lib.hid hok
  have hx := Lib.hid (fun W (hM : MAt W g z m) => read_any g z m i 7 (i : Int) a n W hM hokH.out hi ha)
  generalize rea m i a n = r at hx ⊢
  have hXH0 := Lib.hid (BoxC.new hM 7 (i : Int) a n 116)
  have hh := Lib.hid (fun W (hM : MAt W g z m) => has_any' g z m (i : Int) W hM)
  rw [Zon.hasB_iff.2 ⟨by omega, by omega⟩] at hh
  have hix := Lib.hid (fun W => (show (Instr.index 199 tblV (.int .i64 7)).run Tryz.prog W = .ok (.func (Fn.func 138) #[] #[]) W by kernel_rfl))
  have hz2 := hok.z2
  have hzw := hM.zl
  clear hM hok
  go_enter Tryz.func102, Tryz.ntmps102
  go_wp2_with (go_at_call 120; refine (hh.out _ hXH0.out.1).mono ?_; rintro e w1 ⟨rfl, rfl⟩)
  refine fresh_world (fun W => BoxC w W g z m 7 (i : Int) a n) hXH0.out ?_
  intro W5 hX
  have hXH := Lib.hid hX
  clear hXH0 hh
  obtain ⟨cap, hc0⟩ := hX.1.c0
  have hne := hX.1.ne
  have hzl := hX.1.zl
  have hnw : w.heap.size ≠ z := by omega
  have hfacts := Lib.hid (fun W (hW : Only W5 W z) => (⟨hW.cell hc0 hne, hW.cell hX.2.2.1 hnw, hW.cell hX.2.2.2.1 hnw, hW.cell hX.2.2.2.2.1 hnw, hW.cell hX.2.2.2.2.2 hnw⟩ : W.cell? ⟨g, 0, none⟩ = some (.slice (some ⟨z, 0, none⟩) m.zs.length cap) ∧ W.cell? ⟨w.heap.size, 0, none⟩ = some (.int .i64 7) ∧ W.cell? ⟨w.heap.size, 1, none⟩ = some (.int .i64 (i : Int)) ∧ W.cell? ⟨w.heap.size, 2, none⟩ = some (.int .i64 a) ∧ W.cell? ⟨w.heap.size, 3, none⟩ = some (.int .i64 n)))
  clear hX hc0
  refine region_anyC (fun _ => true) (fun W => Only W5 W z) (by kernel_rfl) ?_
  have hS5 : Only W5 W5.drew z := (Only.refl _ _).drew
  refine anyL_take 1 (v := ?_) rfl (by kernel_rfl) (fun _ _ _ h => h) (Or.inl ⟨by rfl, ?_⟩) hS5 ?_
  rotate_left
  focus (intro W hW; go_simp; try with_reducible rfl)
  simp only [Act.put, List.setIfInBounds_toArray, List.set_cons_zero, List.set_cons_succ]
  refine anyL_take 2 (v := ?_) rfl (by kernel_rfl) (fun _ _ _ h => h) (Or.inl ⟨by rfl, ?_⟩) hS5 ?_
  rotate_left
  focus (intro W hW; obtain ⟨f0, f1, f2, f3, f4⟩ := hfacts.out W hW; go_simp; try with_reducible rfl)
  simp only [Act.put, List.setIfInBounds_toArray, List.set_cons_zero, List.set_cons_succ]
  refine anyL_take 4 (v := ?_) rfl (by kernel_rfl) (fun _ _ _ h => h) (Or.inl ⟨by rfl, ?_⟩) hS5 ?_
  rotate_left
  focus (intro W hW; go_simp; try with_reducible rfl)
  simp only [Act.put, List.setIfInBounds_toArray, List.set_cons_zero, List.set_cons_succ]
  refine anyL_take 5 (v := ?_) rfl (by kernel_rfl) (fun _ _ _ h => h) (Or.inl ⟨by rfl, ?_⟩) hS5 ?_
  rotate_left
  focus (intro W hW; go_simp; try with_reducible rfl)
  simp only [Act.put, List.setIfInBounds_toArray, List.set_cons_zero, List.set_cons_succ]
  refine anyL_take 6 (v := ?_) rfl (by kernel_rfl) (fun _ _ _ h => h) (Or.inl ⟨by rfl, ?_⟩) hS5 ?_
  rotate_left
  focus (intro W hW; go_simp; try with_reducible rfl)
  simp only [Act.put, List.setIfInBounds_toArray, List.set_cons_zero, List.set_cons_succ]
  refine anyL_take 7 (v := ?_) rfl (by kernel_rfl) (fun _ _ _ h => h) (Or.inl ⟨by rfl, ?_⟩) hS5 ?_
  rotate_left
  focus (intro W hW; go_simp; try with_reducible rfl)
  simp only [Act.put, List.setIfInBounds_toArray, List.set_cons_zero, List.set_cons_succ]
  refine anyL_take 8 (v := ?_) rfl (by kernel_rfl) (fun _ _ _ h => h) (Or.inl ⟨by rfl, ?_⟩) hS5 ?_
  rotate_left
  focus (intro W hW; obtain ⟨f0, f1, f2, f3, f4⟩ := hfacts.out W hW; go_simp; try with_reducible rfl)
  simp only [Act.put, List.setIfInBounds_toArray, List.set_cons_zero, List.set_cons_succ]
  refine anyL_take 9 (v := ?_) rfl (by kernel_rfl) (fun _ _ _ h => h) (Or.inl ⟨by rfl, ?_⟩) hS5 ?_
  rotate_left
  focus (intro W hW; go_simp; try with_reducible rfl)
  simp only [Act.put, List.setIfInBounds_toArray, List.set_cons_zero, List.set_cons_succ]
  refine anyL_take 10 (v := ?_) rfl (by kernel_rfl) (fun _ _ _ h => h) (Or.inl ⟨by rfl, ?_⟩) hS5 ?_
  rotate_left
  focus (intro W hW; obtain ⟨f0, f1, f2, f3, f4⟩ := hfacts.out W hW; go_simp; try with_reducible rfl)
  simp only [Act.put, List.setIfInBounds_toArray, List.set_cons_zero, List.set_cons_succ]
  refine anyL_take 11 (v := ?_) rfl (by kernel_rfl) (fun _ _ _ h => h) (Or.inl ⟨by rfl, ?_⟩) hS5 ?_
  rotate_left
  focus (intro W hW; go_simp; try with_reducible rfl)
  simp only [Act.put, List.setIfInBounds_toArray, List.set_cons_zero, List.set_cons_succ]
  refine anyL_take 12 (v := ?_) rfl (by kernel_rfl) (fun _ _ _ h => h) (Or.inl ⟨by rfl, ?_⟩) hS5 ?_
  rotate_left
  focus (intro W hW; obtain ⟨f0, f1, f2, f3, f4⟩ := hfacts.out W hW; go_simp; try with_reducible rfl)
  simp only [Act.put, List.setIfInBounds_toArray, List.set_cons_zero, List.set_cons_succ]
  refine anyL_one 0 rfl (by kernel_rfl) (fun K hK => ?_)
  go_simp
  refine (commands_any _).mono ?_
  rintro e' w6 ⟨rfl, hb6⟩
  have ho6 := hS5.trans (Only.of_below hb6 z)
  have hb7 := (Below.refl W5.heap.size W5).drew.trans (hb6.mono (by simp))
  dsimp only
  refine hK.out _ _ (fun _ => ho6) ?_
  clear hK K
  try simp only [Act.put, List.setIfInBounds_toArray, List.set_cons_zero, List.set_cons_succ]
  refine anyL_take 3 (v := ?_) rfl (by kernel_rfl) (fun _ _ _ h => h) (Or.inl ⟨by rfl, ?_⟩) ho6 ?_
  rotate_left
  focus (intro W hW; have h9 := hix.out W; go_simp; try with_reducible rfl)
  simp only [Act.put, List.setIfInBounds_toArray, List.set_cons_zero, List.set_cons_succ]
  refine anyL_one 13 rfl (by kernel_rfl) (fun K hK => ?_)
  go_simp
  refine (hx.out _ (hXH.out.1.below hb7)).mono ?_
  rintro e' w7 ⟨rfl, hM7, ho7⟩
  have ho8 := ho6.trans ho7
  dsimp only
  refine hK.out _ _ (fun _ => ho8) ?_
  clear hK K
  try simp only [Act.put, List.setIfInBounds_toArray, List.set_cons_zero, List.set_cons_succ]
  refine anyL_take 14 (v := ?_) rfl (by kernel_rfl) (fun _ _ _ h => h) (Or.inl ⟨by rfl, ?_⟩) ho8 ?_
  rotate_left
  focus (intro W hW; go_simp; try with_reducible rfl)
  simp only [Act.put, List.setIfInBounds_toArray, List.set_cons_zero, List.set_cons_succ]
  refine anyL_take 15 (v := ?_) rfl (by kernel_rfl) (fun _ _ _ h => h) (Or.inl ⟨by rfl, ?_⟩) ho8 ?_
  rotate_left
  focus (intro W hW; go_simp; try with_reducible rfl)
  simp only [Act.put, List.setIfInBounds_toArray, List.set_cons_zero, List.set_cons_succ]
  refine anyL_take 16 (v := ?_) rfl (by kernel_rfl) (fun _ _ _ h => h) (Or.inl ⟨by rfl, ?_⟩) ho8 ?_
  rotate_left
  focus (intro W hW; go_simp; try with_reducible rfl)
  simp only [Act.put, List.setIfInBounds_toArray, List.set_cons_zero, List.set_cons_succ]
  refine anyL_take 17 (v := ?_) rfl (by kernel_rfl) (fun _ _ _ h => h) (Or.inl ⟨by rfl, ?_⟩) ho8 ?_
  rotate_left
  focus (intro W hW; go_simp; try with_reducible rfl)
  simp only [Act.put, List.setIfInBounds_toArray, List.set_cons_zero, List.set_cons_succ]
  refine anyC_done (by kernel_rfl) ?_ _
  go_wp2
  go_ret2
  exact ⟨rfl, hM7, (Only.of_below hXH.out.2.1 z).trans ho8⟩
theorem do_any (g z : Nat) (m : Mc) (k zz a n : Int) (w : World) (hM : MAt w g z m) (hok : m.Ok) (ha : a ≤ 9223372036854775807) :
    Calls Tryz.prog 102 #[.pointer (some ⟨g, 0, none⟩), .agg #[.int .i64 k, .int .i64 zz, .int .i64 a, .int .i64 n]] w (CmdPost w g z m (doM m k zz a n)) := by
  unfold doM
  by_cases h : k < 1 ∨ 7 < k
  · rw [if_pos h]
    exact do_kind g z m k zz a n w hM h
  · rw [if_neg h]
    by_cases h2 : hasB m zz = false
    · rw [if_pos h2]
      exact do_range g z m k zz a n w hM (by omega) (by omega) h2
    · rw [if_neg h2]
      have h3 := Zon.hasB_iff.1 (show hasB m zz = true by simpa using h2)
      obtain ⟨i, rfl⟩ : ∃ i : Nat, zz = (i : Int) := ⟨zz.toNat, by omega⟩
      rw [Int.toNat_natCast]
      have hi : i < m.zs.length := by omega
      unfold act
      rcases (by omega : k = 1 ∨ k = 2 ∨ k = 3 ∨ k = 4 ∨ k = 5 ∨ k = 6 ∨ k = 7) with rfl | rfl | rfl | rfl | rfl | rfl | rfl
      · exact do_1 g z m i a n w hM hok hi ha
      · exact do_2 g z m i a n w hM hok hi
      · exact do_3 g z m i a n w hM hok hi
      · exact do_4 g z m i a n w hM hok hi
      · exact do_5 g z m i a n w hM hok hi
      · exact do_6 g z m i a n w hM hok hi
      · exact do_7 g z m i a n w hM hok hi ha
end Go.Proofs.YtpmhfalhieinjaaGreatDoor
namespace Go.Proofs.YtpmhfalhieinjaaGreatDoor
open Go.RowKit Zon
theorem infoZ : (Tryz.prog.info? 118).map (fun i => (i.zero, i.size, i.bytes)) = some (some (.agg #[.int .i64 0, .int .i64 0]), 2, 16) := by kernel_rfl
/-- A machine in new memory: its blocks are those of the call. -/
def MNew (w w' : World) (g z : Nat) (m : Mc) : Prop := MAt w' g z m ∧ w.heap.size ≤ z ∧ w.heap.size ≤ g ∧ Below w.heap.size w w'
theorem made_two (v : Value) (n j : Nat) (hj : j < n * 2) : (madeCells #[v, v] (n * 2))[j]? = some v := by
  unfold madeCells
  rw [Array.getElem?_map, Array.getElem?_range, if_pos hj]
  simp only [Option.map_some]
  congr 1
  have : j % 2 = 0 ∨ j % 2 = 1 := by omega
  rcases this with h | h <;> simp [h]
theorem made_zones (w : World) (n : Nat) (t : TypeId) : ZAt (w.alloc (.cells (madeCells #[.int .i64 0, .int .i64 0] (n * 2)) t)) w.heap.size (List.replicate n ⟨0, 0⟩) := fun i hi => by
  have hi' : i < n := by simpa using hi
  rw [World.cell?_alloc_new, World.cell?_alloc_new, made_two _ _ _ (by omega), made_two _ _ _ (by omega), List.getElem_replicate]
  have hf := fun j => World.frozen?_alloc_mark w (madeCells #[.int .i64 0, .int .i64 0] (n * 2)) t 0 0 j
  refine ⟨rfl, rfl, (hf _).trans (by simp), (hf _).trans (by simp)⟩
theorem mnew_made (w : World) (n : Nat) (b o a : Int) (t t' : TypeId) :
    MNew w ((w.alloc (.cells (madeCells #[.int .i64 0, .int .i64 0] (n * 2)) t)).alloc (.cells #[.slice (some ⟨w.heap.size, 0, none⟩) n n, .int .i64 b, .int .i64 o, .int .i64 a] t')) (w.heap.size + 1) w.heap.size (newM n b o a) := by
  have hz := made_zones w n t
  have hg := World.grownBy_alloc (w.alloc (.cells (madeCells #[.int .i64 0, .int .i64 0] (n * 2)) t)) (.cells #[.slice (some ⟨w.heap.size, 0, none⟩) n n, .int .i64 b, .int .i64 o, .int .i64 a] t') none
  refine ⟨⟨⟨n, ?_⟩, ?_, ?_, ?_, by omega, by simp; omega, ?_⟩, Nat.le_refl _, by omega, ((Below.refl _ _).alloc (Nat.le_refl _) _).alloc (by simp) _⟩
  · show _ = some (Value.slice _ (List.replicate _ _).length n)
    rw [List.length_replicate, Int.toNat_natCast]
    go_simp
  · show _ = some (Value.int .i64 b); go_simp
  · show _ = some (Value.int .i64 o); go_simp
  · show _ = some (Value.int .i64 a); go_simp
  · show ZAt _ _ (List.replicate (n : Int).toNat _)
    rw [Int.toNat_natCast]
    exact hz.kept (by simp) hg (by simp)
/-- What New answers where it may be. -/
def NewPost (w : World) (k : IntKind) (z b o a : Int) (e : Ending) (w' : World) : Prop := ∃ g y, e = .returned (.tuple #[.pointer (some ⟨g, 0, none⟩), .int k 0]) ∧ MNew w w' g y (newM z b o a)
def NewPost1 (w : World) (z b o a : Int) (e : Ending) (w' : World) : Prop := ∃ g y, e = .returned (.pointer (some ⟨g, 0, none⟩)) ∧ MNew w w' g y (newM z b o a)
theorem new_good (z b o a : Int) (w : World) (h : newOk z b o a = true) :
    Calls Tryz.prog 101 #[.int .i64 z, .int .i64 b, .int .i64 o, .int .i64 a] w (NewPost w .i64 z b o a) := by
  obtain ⟨h1, h2, h3, h4, h5, h6, h7⟩ := Zon.newOk_iff.1 h
  obtain ⟨n, rfl⟩ := Int.eq_ofNat_of_zero_le (show 0 ≤ z by omega)
  obtain ⟨i0, hi, hz0, hz1, hz2⟩ := info_parts infoZ
  have hmk := fun W => run_make_m (P := Tryz.prog) 195 118 i0 (.agg #[.int .i64 0, .int .i64 0]) Tryz.underlying195 hi hz0 .i64 .i64 n n (Nat.le_refl _) (by rw [hz2]; omega) (by omega) W
  rw [hz1] at hmk
  clear hi hz0 hz1 hz2 h
  go_enter Tryz.func101, Tryz.ntmps101
  go_wp2
  go_ret2
  exact ⟨_, _, rfl, mnew_made w n b o a _ _⟩
end Go.Proofs.YtpmhfalhieinjaaGreatDoor
