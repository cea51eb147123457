/- What a command to a drive does. -/
import Derived.Test.YtpmhfalhieinjaaGreatDoorMDf
import Derived.Test.YtpmhfalhieinjaaGreatDoorMDw
import Derived.Test.YtpmhfalhieinjaaGreatDoorMZd
namespace Go.Proofs.YtpmhfalhieinjaaGreatDoor
open Go.RowKit Zon Drv
theorem doM_read (m : Mc) (i : Nat) (k a n : Int) (hk : k = 7) (h : (doM m k (i : Int) a n).2.1 = 0) : (doM m k (i : Int) a n).1 = a ∧ 0 ≤ a ∧ 1 ≤ n ∧ n ≤ (zAt m.zs i).l - a := by
  subst hk
  unfold doM at h ⊢
  rw [if_neg (by omega)] at h ⊢
  split at h
  · cases h
  rename_i h1
  rw [if_neg h1]
  have e : ((7 : Int).toNat) = 7 := rfl
  rw [Int.toNat_natCast, e] at h ⊢
  unfold act at h ⊢
  rw [if_neg (by decide), if_neg (by decide), if_neg (by decide), if_neg (by decide), if_neg (by decide), if_neg (by decide)] at h ⊢
  unfold rea at h ⊢
  split at h
  · rename_i h2
    rw [if_pos h2]
    have h3 := Zon.within_iff.1 h2
    exact ⟨rfl, h3.1, h3.2.1, h3.2.2⟩
  · cases h
theorem doM_write (m : Mc) (i : Nat) (k a n : Int) (hk : k = 1 ∨ k = 2) (h : (doM m k (i : Int) a n).2.1 = 0) : 1 ≤ n ∧ n ≤ m.b - (zAt m.zs i).l := by
  have hw : ∀ x y z : Int, ¬ withinB x y z = false → 1 ≤ y ∧ y ≤ z - x := fun x y z h => (Zon.within_iff.1 (by simpa using h)).2
  unfold doM at h
  rw [if_neg (by omega)] at h
  split at h
  · cases h
  rw [Int.toNat_natCast] at h
  unfold act at h
  rcases hk with rfl | rfl
  · rw [if_pos (by decide)] at h
    unfold wrt at h
    split at h
    · cases h
    rename_i h1
    split at h
    · cases h
    split at h
    · cases h
    rename_i h3
    have h4 := hw _ _ _ h1
    omega
  · rw [if_neg (by decide), if_pos (by decide)] at h
    unfold app at h
    split at h
    · cases h
    split at h
    · cases h
    split at h
    · cases h
    rename_i h3
    exact hw _ _ _ h3
/-- What a command leaves. -/
def DoPost (w : World) (F : Nat → Prop) (d : Nat) (r : (List UInt8 × Int × Int) × Dr) (e : Ending) (w' : World) : Prop :=
  e = .returned (.tuple #[.string ⟨r.1.1.toArray⟩, .int .i64 r.1.2.1, .int .i64 r.1.2.2]) ∧ (∃ F', DAt w' F' d r.2 ∧ ∀ b, F' b → F b ∨ w.heap.size ≤ b) ∧ Turn w w' F
/-- The command in its box, block X. -/
structure Bx (w W : World) (X : Nat) (k zz a n : Int) : Prop where
  x0 : W.cell? ⟨X, 0, none⟩ = some (.int .i64 k)
  x1 : W.cell? ⟨X, 1, none⟩ = some (.int .i64 zz)
  x2 : W.cell? ⟨X, 2, none⟩ = some (.int .i64 a)
  x3 : W.cell? ⟨X, 3, none⟩ = some (.int .i64 n)
theorem Bx.new (w : World) (k zz a n : Int) (t : TypeId) : Bx w (w.alloc (.cells #[.int .i64 k, .int .i64 zz, .int .i64 a, .int .i64 n] t)) w.heap.size k zz a n := ⟨by go_simp, by go_simp, by go_simp, by go_simp⟩
theorem Bx.turn {w W W' : World} {X : Nat} {k zz a n : Int} (h : Bx w W X k zz a n) {F : Nat → Prop} (ht : Turn W W' F) (hX : ¬ F X) : Bx w W' X k zz a n := ⟨ht.cell h.x0 hX, ht.cell h.x1 hX, ht.cell h.x2 hX, ht.cell h.x3 hX⟩
/-- A drive and the box, behind the machine's turn. -/
structure ExW (w W : World) (F : Nat → Prop) (d : Nat) (B : Blk) (D : Dr) (k zz a n : Int) : Prop where
  l : Lies W d B D
  i : Lies.In F d B D.cs.length
  t : Turn w W F
  x : Bx w W w.heap.size k zz a n
theorem ExW.below {w W W' : World} {F : Nat → Prop} {d : Nat} {B : Blk} {D : Dr} {k zz a n : Int} (h : ExW w W F d B D k zz a n) (hb : Below W.heap.size W W') : ExW w W' F d B D k zz a n :=
  ⟨h.l.below hb, h.i, h.t.trans (Turn.of_below hb _), h.x.turn (F := fun _ => False) (Turn.of_below hb _) id⟩
set_option maxRecDepth 100000 in
set_option maxHeartbeats 1000000 in
theorem exec_refused (w : World) (F : Nat → Prop) (d : Nat) (D : Dr) (k zz a n : Int) (s : ByteArray) (h : DAt w F d D) (hok : D.Ok) (ha : a ≤ 9223372036854775807) (hF : ∀ b, F b → b < w.heap.size)
    (hev : (doM D.m k zz a n).2.1 ≠ 0) :
    Calls Tryz.prog 105 #[.pointer (some ⟨d, 0, none⟩), .agg #[.int .i64 k, .int .i64 zz, .int .i64 a, .int .i64 n], .string s] w (DoPost w F d (exec D k zz a n s.data.toList)) := by
  obtain ⟨B, h, hin⟩ := h
  have hzs := (doM_refused D.m k zz a n).resolve_left hev
  unfold exec
  rw [if_neg hev]
  have hdo := Lib.hid (fun W (hM : MAt W B.g B.z D.m) => do_any B.g B.z D.m k zz a n W hM hok.m ha)
  unfold CmdPost at hdo
  generalize (doM D.m k zz a n).2.1 = ev at *
  generalize (doM D.m k zz a n).1 = av at *
  generalize (doM D.m k zz a n).2.2 = zs at *
  have hzsH := hzs
  clear hzs
  have hzs := Lib.hid hzsH
  clear hzsH
  have hev' : (ev != 0) = true := by simp [hev]
  have hX0 := Lib.hid (show ExW w (w.alloc (.cells #[.int .i64 k, .int .i64 zz, .int .i64 a, .int .i64 n] 116)) F d B D k zz a n from ⟨h.below ((Below.refl _ _).alloc (Nat.le_refl _) _), hin, (Turn.refl _ _).trans (Turn.of_below ((Below.refl _ _).alloc (Nat.le_refl _) _) _), Bx.new w k zz a n _⟩)
  have hXz : w.heap.size ≠ B.z := by have := h.m.zl; omega
  have hXn : ¬ F w.heap.size := fun hf => by have := hF _ hf; omega
  clear h hin hok ha
  go_enter Tryz.func105, Tryz.ntmps105
  go_wp2_with fail
  refine fresh_world (fun W => ExW w W F d B D k zz a n) hX0.out ?_
  intro W5 hX
  clear hX0
  have c0 := hX.l.c0
  have hdz := hX.l.dz
  have hf := Lib.hid (fun W (hW : Only W5 W B.z) => (⟨hW.cell c0 hdz, hW.cell hX.x.x0 hXz, hW.cell hX.x.x1 hXz, hW.cell hX.x.x2 hXz, hW.cell hX.x.x3 hXz⟩ : W.cell? ⟨d, 0, none⟩ = some (.pointer (some ⟨B.g, 0, none⟩)) ∧ W.cell? ⟨w.heap.size, 0, none⟩ = some (.int .i64 k) ∧ W.cell? ⟨w.heap.size, 1, none⟩ = some (.int .i64 zz) ∧ W.cell? ⟨w.heap.size, 2, none⟩ = some (.int .i64 a) ∧ W.cell? ⟨w.heap.size, 3, none⟩ = some (.int .i64 n)))
  have hXH := Lib.hid hX
  clear hX c0
  refine region_anyC (fun _ => true) (fun W => Only W5 W B.z) (by kernel_rfl) ?_
  have hS5 : Only W5 W5.drew B.z := (Only.refl _ _).drew
  refine anyL_take 0 (v := ?_) rfl (by kernel_rfl) (fun _ _ _ h => h) (Or.inl ⟨by rfl, ?_⟩) hS5 ?_
  rotate_left
  focus (intro W hW; go_simp; try with_reducible rfl)
  simp only [Act.put, List.setIfInBounds_toArray, List.set_cons_zero, List.set_cons_succ]
  refine anyL_take 1 (v := ?_) rfl (by kernel_rfl) (fun _ _ _ h => h) (Or.inl ⟨by rfl, ?_⟩) hS5 ?_
  rotate_left
  focus (intro W hW; go_simp; try with_reducible rfl)
  simp only [Act.put, List.setIfInBounds_toArray, List.set_cons_zero, List.set_cons_succ]
  refine anyL_take 2 (v := ?_) rfl (by kernel_rfl) (fun _ _ _ h => h) (Or.inl ⟨by rfl, ?_⟩) hS5 ?_
  rotate_left
  focus (intro W hW; go_simp; try with_reducible rfl)
  simp only [Act.put, List.setIfInBounds_toArray, List.set_cons_zero, List.set_cons_succ]
  refine anyL_take 3 (v := ?_) rfl (by kernel_rfl) (fun _ _ _ h => h) (Or.inl ⟨by rfl, ?_⟩) hS5 ?_
  rotate_left
  focus (intro W hW; obtain ⟨f0, f1, f2, f3, f4⟩ := hf.out W hW; go_simp; try with_reducible rfl)
  simp only [Act.put, List.setIfInBounds_toArray, List.set_cons_zero, List.set_cons_succ]
  refine anyL_take 4 (v := ?_) rfl (by kernel_rfl) (fun _ _ _ h => h) (Or.inl ⟨by rfl, ?_⟩) hS5 ?_
  rotate_left
  focus (intro W hW; obtain ⟨f0, f1, f2, f3, f4⟩ := hf.out W hW; go_simp; try with_reducible rfl)
  simp only [Act.put, List.setIfInBounds_toArray, List.set_cons_zero, List.set_cons_succ]
  refine anyL_one 5 rfl (by kernel_rfl) (fun K hK => ?_)
  go_simp
  refine (hdo.out _ (hXH.out.l.m.below (Below.refl _ _).drew)).mono ?_
  rintro e' w7 ⟨rfl, hM7, ho7⟩
  have ho8 := hS5.trans ho7
  dsimp only
  refine hK.out _ _ (fun _ => ho8) ?_
  clear hK K
  try simp only [Act.put, List.setIfInBounds_toArray, List.set_cons_zero, List.set_cons_succ]
  refine anyL_take 6 (v := ?_) rfl (by kernel_rfl) (fun _ _ _ h => h) (Or.inl ⟨by rfl, ?_⟩) ho8 ?_
  rotate_left
  focus (intro W hW; go_simp; try with_reducible rfl)
  simp only [Act.put, List.setIfInBounds_toArray, List.set_cons_zero, List.set_cons_succ]
  refine anyL_take 7 (v := ?_) rfl (by kernel_rfl) (fun _ _ _ h => h) (Or.inl ⟨by rfl, ?_⟩) ho8 ?_
  rotate_left
  focus (intro W hW; go_simp; try with_reducible rfl)
  simp only [Act.put, List.setIfInBounds_toArray, List.set_cons_zero, List.set_cons_succ]
  refine anyL_take 8 (v := ?_) rfl (by kernel_rfl) (fun _ _ _ h => h) (Or.inl ⟨by rfl, ?_⟩) ho8 ?_
  rotate_left
  focus (intro W hW; go_simp; try with_reducible rfl)
  simp only [Act.put, List.setIfInBounds_toArray, List.set_cons_zero, List.set_cons_succ]
  refine anyL_take 9 (v := ?_) rfl (by kernel_rfl) (fun _ _ _ h => h) (Or.inl ⟨by rfl, ?_⟩) ho8 ?_
  rotate_left
  focus (intro W hW; go_simp; try with_reducible rfl)
  simp only [Act.put, List.setIfInBounds_toArray, List.set_cons_zero, List.set_cons_succ]
  refine anyL_take 10 (v := ?_) rfl (by kernel_rfl) (fun _ _ _ h => h) (Or.inl ⟨by rfl, ?_⟩) ho8 ?_
  rotate_left
  focus (intro W hW; go_simp; try with_reducible rfl)
  simp only [Act.put, List.setIfInBounds_toArray, List.set_cons_zero, List.set_cons_succ]
  refine anyC_done (by kernel_rfl) ?_ _
  go_wp2
  go_ret3
  refine ⟨rfl, ⟨F, ⟨B, ?_, hXH.out.i⟩, fun b hb => .inl hb⟩, hXH.out.t.trans (Turn.of_only ho8 hXH.out.i.z)⟩
  have h9 := (hXH.out.l).machine ho8 hM7
  rw [hzs.out] at h9
  exact h9
set_option maxRecDepth 100000 in
set_option maxHeartbeats 1000000 in
theorem exec_other (w : World) (F : Nat → Prop) (d : Nat) (D : Dr) (k a n : Int) (s : ByteArray) (h : DAt w F d D) (hok : D.Ok) (ha : a ≤ 9223372036854775807) (hF : ∀ b, F b → b < w.heap.size)
    (i : Nat) (hi : i < D.m.zs.length) (hev : (doM D.m k (i : Int) a n).2.1 = 0) (hk : k = 5 ∨ k = 6) :
    Calls Tryz.prog 105 #[.pointer (some ⟨d, 0, none⟩), .agg #[.int .i64 k, .int .i64 (i : Int), .int .i64 a, .int .i64 n], .string s] w (DoPost w F d (exec D k (i : Int) a n s.data.toList)) := by
  obtain ⟨B, h, hin⟩ := h
  have hfx : exec D k (i : Int) a n s.data.toList = (([], (doM D.m k (i : Int) a n).1, 0), { D with m := D.m.with (doM D.m k (i : Int) a n).2.2 }) := by
    unfold exec turned
    rw [if_pos hev, Int.toNat_natCast, if_neg (show ¬ k = 7 by omega), if_neg (show ¬ writesB k = true by unfold writesB; simp; omega), if_neg (show ¬ k = 3 by omega), if_neg (show ¬ k = 3 by omega), if_neg (show ¬ k = 4 by omega)]
  rw [hfx]
  clear hfx
  have hz2 := hok.m.z2
  have hic : i < D.cs.length := by rw [hok.cl]; exact hi
  have hil : i < D.ls.length := by rw [hok.ll]; exact hi
  have hlcc := Lib.hid (show D.ls.length = D.cs.length by rw [hok.cl, hok.ll])
  have hcn : D.cs.length ≤ 64 := by rw [hok.cl]; exact hz2
  have hln : D.ls.length ≤ 64 := by rw [hok.ll]; exact hz2
  have hcz := hok.cz i hi
  have hzo := (hok.m.at_ hi)
  have hb2 := hok.m.b2
  have hdo := Lib.hid (fun W (hM : MAt W B.g B.z D.m) => do_any B.g B.z D.m k (i : Int) a n W hM hok.m ha)
  unfold CmdPost at hdo
  generalize (doM D.m k (i : Int) a n).2.1 = ev at *
  generalize (doM D.m k (i : Int) a n).1 = av at *
  generalize (doM D.m k (i : Int) a n).2.2 = zs at *
  subst hev
  have hX0 := Lib.hid (show ExW w (w.alloc (.cells #[.int .i64 k, .int .i64 (i : Int), .int .i64 a, .int .i64 n] 116)) F d B D k (i : Int) a n from ⟨h.below ((Below.refl _ _).alloc (Nat.le_refl _) _), hin, (Turn.refl _ _).trans (Turn.of_below ((Below.refl _ _).alloc (Nat.le_refl _) _) _), Bx.new w k (i : Int) a n _⟩)
  have hXz : w.heap.size ≠ B.z := by have := h.m.zl; omega
  have hXn : ¬ F w.heap.size := fun hf => by have := hF _ hf; omega
  clear h hin hok ha
  have hkH := Lib.hid hk
  clear hk
  go_enter Tryz.func105, Tryz.ntmps105
  go_wp2_with fail
  refine fresh_world (fun W => ExW w W F d B D k (i : Int) a n) hX0.out ?_
  intro W5 hX
  clear hX0
  have c0 := hX.l.c0
  have hdz := hX.l.dz
  have hf := Lib.hid (fun W (hW : Only W5 W B.z) => (⟨hW.cell c0 hdz, hW.cell hX.x.x0 hXz, hW.cell hX.x.x1 hXz, hW.cell hX.x.x2 hXz, hW.cell hX.x.x3 hXz⟩ : W.cell? ⟨d, 0, none⟩ = some (.pointer (some ⟨B.g, 0, none⟩)) ∧ W.cell? ⟨w.heap.size, 0, none⟩ = some (.int .i64 k) ∧ W.cell? ⟨w.heap.size, 1, none⟩ = some (.int .i64 (i : Int)) ∧ W.cell? ⟨w.heap.size, 2, none⟩ = some (.int .i64 a) ∧ W.cell? ⟨w.heap.size, 3, none⟩ = some (.int .i64 n)))
  have hXH := Lib.hid hX
  clear hX c0
  refine region_anyC (fun _ => true) (fun W => Only W5 W B.z) (by kernel_rfl) ?_
  have hS5 : Only W5 W5.drew B.z := (Only.refl _ _).drew
  refine anyL_take 0 (v := ?_) rfl (by kernel_rfl) (fun _ _ _ h => h) (Or.inl ⟨by rfl, ?_⟩) hS5 ?_
  rotate_left
  focus (intro W hW; go_simp; try with_reducible rfl)
  simp only [Act.put, List.setIfInBounds_toArray, List.set_cons_zero, List.set_cons_succ]
  refine anyL_take 1 (v := ?_) rfl (by kernel_rfl) (fun _ _ _ h => h) (Or.inl ⟨by rfl, ?_⟩) hS5 ?_
  rotate_left
  focus (intro W hW; go_simp; try with_reducible rfl)
  simp only [Act.put, List.setIfInBounds_toArray, List.set_cons_zero, List.set_cons_succ]
  refine anyL_take 2 (v := ?_) rfl (by kernel_rfl) (fun _ _ _ h => h) (Or.inl ⟨by rfl, ?_⟩) hS5 ?_
  rotate_left
  focus (intro W hW; go_simp; try with_reducible rfl)
  simp only [Act.put, List.setIfInBounds_toArray, List.set_cons_zero, List.set_cons_succ]
  refine anyL_take 3 (v := ?_) rfl (by kernel_rfl) (fun _ _ _ h => h) (Or.inl ⟨by rfl, ?_⟩) hS5 ?_
  rotate_left
  focus (intro W hW; obtain ⟨f0, f1, f2, f3, f4⟩ := hf.out W hW; go_simp; try with_reducible rfl)
  simp only [Act.put, List.setIfInBounds_toArray, List.set_cons_zero, List.set_cons_succ]
  refine anyL_take 4 (v := ?_) rfl (by kernel_rfl) (fun _ _ _ h => h) (Or.inl ⟨by rfl, ?_⟩) hS5 ?_
  rotate_left
  focus (intro W hW; obtain ⟨f0, f1, f2, f3, f4⟩ := hf.out W hW; go_simp; try with_reducible rfl)
  simp only [Act.put, List.setIfInBounds_toArray, List.set_cons_zero, List.set_cons_succ]
  refine anyL_one 5 rfl (by kernel_rfl) (fun K hK => ?_)
  go_simp
  refine (hdo.out _ (hXH.out.l.m.below (Below.refl _ _).drew)).mono ?_
  rintro e' w7 ⟨rfl, hM7, ho7⟩
  have ho8 := hS5.trans ho7
  dsimp only
  refine hK.out _ _ (fun _ => ho8) ?_
  clear hK K
  try simp only [Act.put, List.setIfInBounds_toArray, List.set_cons_zero, List.set_cons_succ]
  refine anyL_take 6 (v := ?_) rfl (by kernel_rfl) (fun _ _ _ h => h) (Or.inl ⟨by rfl, ?_⟩) ho8 ?_
  rotate_left
  focus (intro W hW; go_simp; try with_reducible rfl)
  simp only [Act.put, List.setIfInBounds_toArray, List.set_cons_zero, List.set_cons_succ]
  refine anyL_take 7 (v := ?_) rfl (by kernel_rfl) (fun _ _ _ h => h) (Or.inl ⟨by rfl, ?_⟩) ho8 ?_
  rotate_left
  focus (intro W hW; go_simp; try with_reducible rfl)
  simp only [Act.put, List.setIfInBounds_toArray, List.set_cons_zero, List.set_cons_succ]
  refine anyL_take 8 (v := ?_) rfl (by kernel_rfl) (fun _ _ _ h => h) (Or.inl ⟨by rfl, ?_⟩) ho8 ?_
  rotate_left
  focus (intro W hW; go_simp; try with_reducible rfl)
  simp only [Act.put, List.setIfInBounds_toArray, List.set_cons_zero, List.set_cons_succ]
  refine anyL_take 9 (v := ?_) rfl (by kernel_rfl) (fun _ _ _ h => h) (Or.inl ⟨by rfl, ?_⟩) ho8 ?_
  rotate_left
  focus (intro W hW; go_simp; try with_reducible rfl)
  simp only [Act.put, List.setIfInBounds_toArray, List.set_cons_zero, List.set_cons_succ]
  refine anyL_take 10 (v := ?_) rfl (by kernel_rfl) (fun _ _ _ h => h) (Or.inl ⟨by rfl, ?_⟩) ho8 ?_
  rotate_left
  focus (intro W hW; go_simp; try with_reducible rfl)
  simp only [Act.put, List.setIfInBounds_toArray, List.set_cons_zero, List.set_cons_succ]
  refine anyC_done (by kernel_rfl) ?_ _
  refine fresh_K (fun W => ExW w W F d B { D with m := D.m.with zs } k (i : Int) a n) ⟨(hXH.out.l).machine ho8 hM7, hXH.out.i, hXH.out.t.trans (Turn.of_only ho8 hXH.out.i.z), hXH.out.x.turn (F := fun b => b = B.z) (Turn.of_only ho8 rfl) hXz⟩ ?_
  clear hM7 ho8 ho7 hS5 hXH hf hdo
  intro W8 hX
  have x0 := hX.x.x0
  have hk := hkH.out
  have k1 : (k == 1) = false := by simp; omega
  have k2 : (k == 2) = false := by simp; omega
  have k3 : (k == 3) = false := by simp; omega
  have k4 : (k == 4) = false := by simp; omega
  have k7 : (k == 7) = false := by simp; omega
  have hXH := Lib.hid hX
  clear hX hk
  go_wp2
  go_ret3
  exact ⟨rfl, ⟨F, ⟨B, hXH.out.l, hXH.out.i⟩, fun b hb => .inl hb⟩, hXH.out.t⟩
set_option maxRecDepth 100000 in
set_option maxHeartbeats 1000000 in
theorem exec_reset (w : World) (F : Nat → Prop) (d : Nat) (D : Dr) (k a n : Int) (s : ByteArray) (h : DAt w F d D) (hok : D.Ok) (ha : a ≤ 9223372036854775807) (hF : ∀ b, F b → b < w.heap.size)
    (i : Nat) (hi : i < D.m.zs.length) (hev : (doM D.m k (i : Int) a n).2.1 = 0) (hk : k = 3) :
    Calls Tryz.prog 105 #[.pointer (some ⟨d, 0, none⟩), .agg #[.int .i64 k, .int .i64 (i : Int), .int .i64 a, .int .i64 n], .string s] w (DoPost w F d (exec D k (i : Int) a n s.data.toList)) := by
  obtain ⟨B, h, hin⟩ := h
  have hfx : exec D k (i : Int) a n s.data.toList = (([], (doM D.m k (i : Int) a n).1, 0), ⟨D.m.with (doM D.m k (i : Int) a n).2.2, D.cs.set i [], D.ls.set i 0, D.dead⟩) := by
    unfold exec turned
    rw [if_pos hev, Int.toNat_natCast, if_neg (show ¬ k = 7 by omega), if_neg (show ¬ writesB k = true by unfold writesB; simp; omega), if_pos hk, if_pos hk]
  rw [hfx]
  clear hfx
  have hz2 := hok.m.z2
  have hic : i < D.cs.length := by rw [hok.cl]; exact hi
  have hil : i < D.ls.length := by rw [hok.ll]; exact hi
  have hlcc := Lib.hid (show D.ls.length = D.cs.length by rw [hok.cl, hok.ll])
  have hcn : D.cs.length ≤ 64 := by rw [hok.cl]; exact hz2
  have hln : D.ls.length ≤ 64 := by rw [hok.ll]; exact hz2
  have hcz := hok.cz i hi
  have hzo := (hok.m.at_ hi)
  have hb2 := hok.m.b2
  have hdo := Lib.hid (fun W (hM : MAt W B.g B.z D.m) => do_any B.g B.z D.m k (i : Int) a n W hM hok.m ha)
  unfold CmdPost at hdo
  generalize (doM D.m k (i : Int) a n).2.1 = ev at *
  generalize (doM D.m k (i : Int) a n).1 = av at *
  generalize (doM D.m k (i : Int) a n).2.2 = zs at *
  subst hev
  have hX0 := Lib.hid (show ExW w (w.alloc (.cells #[.int .i64 k, .int .i64 (i : Int), .int .i64 a, .int .i64 n] 116)) F d B D k (i : Int) a n from ⟨h.below ((Below.refl _ _).alloc (Nat.le_refl _) _), hin, (Turn.refl _ _).trans (Turn.of_below ((Below.refl _ _).alloc (Nat.le_refl _) _) _), Bx.new w k (i : Int) a n _⟩)
  have hXz : w.heap.size ≠ B.z := by have := h.m.zl; omega
  have hXn : ¬ F w.heap.size := fun hf => by have := hF _ hf; omega
  clear h hin hok ha
  have hkH := Lib.hid hk
  clear hk
  go_enter Tryz.func105, Tryz.ntmps105
  go_wp2_with fail
  refine fresh_world (fun W => ExW w W F d B D k (i : Int) a n) hX0.out ?_
  intro W5 hX
  clear hX0
  have c0 := hX.l.c0
  have hdz := hX.l.dz
  have hf := Lib.hid (fun W (hW : Only W5 W B.z) => (⟨hW.cell c0 hdz, hW.cell hX.x.x0 hXz, hW.cell hX.x.x1 hXz, hW.cell hX.x.x2 hXz, hW.cell hX.x.x3 hXz⟩ : W.cell? ⟨d, 0, none⟩ = some (.pointer (some ⟨B.g, 0, none⟩)) ∧ W.cell? ⟨w.heap.size, 0, none⟩ = some (.int .i64 k) ∧ W.cell? ⟨w.heap.size, 1, none⟩ = some (.int .i64 (i : Int)) ∧ W.cell? ⟨w.heap.size, 2, none⟩ = some (.int .i64 a) ∧ W.cell? ⟨w.heap.size, 3, none⟩ = some (.int .i64 n)))
  have hXH := Lib.hid hX
  clear hX c0
  refine region_anyC (fun _ => true) (fun W => Only W5 W B.z) (by kernel_rfl) ?_
  have hS5 : Only W5 W5.drew B.z := (Only.refl _ _).drew
  refine anyL_take 0 (v := ?_) rfl (by kernel_rfl) (fun _ _ _ h => h) (Or.inl ⟨by rfl, ?_⟩) hS5 ?_
  rotate_left
  focus (intro W hW; go_simp; try with_reducible rfl)
  simp only [Act.put, List.setIfInBounds_toArray, List.set_cons_zero, List.set_cons_succ]
  refine anyL_take 1 (v := ?_) rfl (by kernel_rfl) (fun _ _ _ h => h) (Or.inl ⟨by rfl, ?_⟩) hS5 ?_
  rotate_left
  focus (intro W hW; go_simp; try with_reducible rfl)
  simp only [Act.put, List.setIfInBounds_toArray, List.set_cons_zero, List.set_cons_succ]
  refine anyL_take 2 (v := ?_) rfl (by kernel_rfl) (fun _ _ _ h => h) (Or.inl ⟨by rfl, ?_⟩) hS5 ?_
  rotate_left
  focus (intro W hW; go_simp; try with_reducible rfl)
  simp only [Act.put, List.setIfInBounds_toArray, List.set_cons_zero, List.set_cons_succ]
  refine anyL_take 3 (v := ?_) rfl (by kernel_rfl) (fun _ _ _ h => h) (Or.inl ⟨by rfl, ?_⟩) hS5 ?_
  rotate_left
  focus (intro W hW; obtain ⟨f0, f1, f2, f3, f4⟩ := hf.out W hW; go_simp; try with_reducible rfl)
  simp only [Act.put, List.setIfInBounds_toArray, List.set_cons_zero, List.set_cons_succ]
  refine anyL_take 4 (v := ?_) rfl (by kernel_rfl) (fun _ _ _ h => h) (Or.inl ⟨by rfl, ?_⟩) hS5 ?_
  rotate_left
  focus (intro W hW; obtain ⟨f0, f1, f2, f3, f4⟩ := hf.out W hW; go_simp; try with_reducible rfl)
  simp only [Act.put, List.setIfInBounds_toArray, List.set_cons_zero, List.set_cons_succ]
  refine anyL_one 5 rfl (by kernel_rfl) (fun K hK => ?_)
  go_simp
  refine (hdo.out _ (hXH.out.l.m.below (Below.refl _ _).drew)).mono ?_
  rintro e' w7 ⟨rfl, hM7, ho7⟩
  have ho8 := hS5.trans ho7
  dsimp only
  refine hK.out _ _ (fun _ => ho8) ?_
  clear hK K
  try simp only [Act.put, List.setIfInBounds_toArray, List.set_cons_zero, List.set_cons_succ]
  refine anyL_take 6 (v := ?_) rfl (by kernel_rfl) (fun _ _ _ h => h) (Or.inl ⟨by rfl, ?_⟩) ho8 ?_
  rotate_left
  focus (intro W hW; go_simp; try with_reducible rfl)
  simp only [Act.put, List.setIfInBounds_toArray, List.set_cons_zero, List.set_cons_succ]
  refine anyL_take 7 (v := ?_) rfl (by kernel_rfl) (fun _ _ _ h => h) (Or.inl ⟨by rfl, ?_⟩) ho8 ?_
  rotate_left
  focus (intro W hW; go_simp; try with_reducible rfl)
  simp only [Act.put, List.setIfInBounds_toArray, List.set_cons_zero, List.set_cons_succ]
  refine anyL_take 8 (v := ?_) rfl (by kernel_rfl) (fun _ _ _ h => h) (Or.inl ⟨by rfl, ?_⟩) ho8 ?_
  rotate_left
  focus (intro W hW; go_simp; try with_reducible rfl)
  simp only [Act.put, List.setIfInBounds_toArray, List.set_cons_zero, List.set_cons_succ]
  refine anyL_take 9 (v := ?_) rfl (by kernel_rfl) (fun _ _ _ h => h) (Or.inl ⟨by rfl, ?_⟩) ho8 ?_
  rotate_left
  focus (intro W hW; go_simp; try with_reducible rfl)
  simp only [Act.put, List.setIfInBounds_toArray, List.set_cons_zero, List.set_cons_succ]
  refine anyL_take 10 (v := ?_) rfl (by kernel_rfl) (fun _ _ _ h => h) (Or.inl ⟨by rfl, ?_⟩) ho8 ?_
  rotate_left
  focus (intro W hW; go_simp; try with_reducible rfl)
  simp only [Act.put, List.setIfInBounds_toArray, List.set_cons_zero, List.set_cons_succ]
  refine anyC_done (by kernel_rfl) ?_ _
  refine fresh_K (fun W => ExW w W F d B { D with m := D.m.with zs } k (i : Int) a n) ⟨(hXH.out.l).machine ho8 hM7, hXH.out.i, hXH.out.t.trans (Turn.of_only ho8 hXH.out.i.z), hXH.out.x.turn (F := fun b => b = B.z) (Turn.of_only ho8 rfl) hXz⟩ ?_
  clear hM7 ho8 ho7 hS5 hXH hf hdo
  intro W8 hX
  have x0 := hX.x.x0
  rw [hkH.out] at x0
  have c1 := hX.l.c1
  have c2 := hX.l.c2
  have r1 := hX.l.row i hic
  have l1 := hX.l.lrow i hil
  have hdc := hX.l.dc
  have hlc := hX.l.cl
  have hll := hX.l.ll
  have hXc : w.heap.size ≠ B.c := fun e => hXn (e ▸ hX.i.c)
  have hf := Lib.hid (fun W (hW : Turn W8 W (fun b => b = B.c)) => (⟨hW.cell c1 hdc, hW.cell c2 hdc, hW.cell hX.x.x1 hXc, hW.cell l1.1 (fun e => hlc e.symm), (same_frozen (hW.block _ hll (fun e => hlc e.symm))).trans l1.2⟩ : W.cell? ⟨d, 1, none⟩ = some (.slice (some ⟨B.c, 0, none⟩) D.cs.length D.cs.length) ∧ W.cell? ⟨d, 2, none⟩ = some (.slice (some ⟨B.l, 0, none⟩) D.ls.length D.ls.length) ∧ W.cell? ⟨w.heap.size, 1, none⟩ = some (.int .i64 (i : Int)) ∧ W.cell? ⟨B.l, i, none⟩ = some (.int .i64 (D.l i : Int)) ∧ W.frozen? ⟨B.l, i, none⟩ = false))
  have hXH := Lib.hid hX
  obtain ⟨l2, l3⟩ := l1
  clear hX c1 c2
  go_wp2_with fail
  refine region_anyC (fun i => i != 15) (fun W => Turn W8 W (fun b => b = B.c)) (by kernel_rfl) ?_
  have hS : Turn W8 W8.drew (fun b => b = B.c) := Turn.of_below (Below.refl _ _).drew _
  refine anyL_take 0 (v := ?_) rfl (by kernel_rfl) (fun _ _ _ h => h) (Or.inl ⟨by rfl, ?_⟩) hS ?_
  rotate_left
  focus (intro W hW; go_simp; try with_reducible rfl)
  simp only [Act.put, List.setIfInBounds_toArray, List.set_cons_zero, List.set_cons_succ]
  refine anyL_take 1 (v := ?_) rfl (by kernel_rfl) (fun _ _ _ h => h) (Or.inl ⟨by rfl, ?_⟩) hS ?_
  rotate_left
  focus (intro W hW; go_simp; try with_reducible rfl)
  simp only [Act.put, List.setIfInBounds_toArray, List.set_cons_zero, List.set_cons_succ]
  refine anyL_take 2 (v := ?_) rfl (by kernel_rfl) (fun _ _ _ h => h) (Or.inl ⟨by rfl, ?_⟩) hS ?_
  rotate_left
  focus (intro W hW; go_simp; try with_reducible rfl)
  simp only [Act.put, List.setIfInBounds_toArray, List.set_cons_zero, List.set_cons_succ]
  refine anyL_take 3 (v := ?_) rfl (by kernel_rfl) (fun _ _ _ h => h) (Or.inl ⟨by rfl, ?_⟩) hS ?_
  rotate_left
  focus (intro W hW; obtain ⟨f0, f1, f2, f3, f4⟩ := hf.out W hW; go_simp; try with_reducible rfl)
  simp only [Act.put, List.setIfInBounds_toArray, List.set_cons_zero, List.set_cons_succ]
  refine anyL_take 4 (v := ?_) rfl (by kernel_rfl) (fun _ _ _ h => h) (Or.inl ⟨by rfl, ?_⟩) hS ?_
  rotate_left
  focus (intro W hW; go_simp; try with_reducible rfl)
  simp only [Act.put, List.setIfInBounds_toArray, List.set_cons_zero, List.set_cons_succ]
  refine anyL_take 5 (v := ?_) rfl (by kernel_rfl) (fun _ _ _ h => h) (Or.inl ⟨by rfl, ?_⟩) hS ?_
  rotate_left
  focus (intro W hW; obtain ⟨f0, f1, f2, f3, f4⟩ := hf.out W hW; go_simp; try with_reducible rfl)
  simp only [Act.put, List.setIfInBounds_toArray, List.set_cons_zero, List.set_cons_succ]
  refine anyL_take 6 (v := ?_) rfl (by kernel_rfl) (fun _ _ _ h => h) (Or.inl ⟨by rfl, ?_⟩) hS ?_
  rotate_left
  focus (intro W hW; go_simp; try with_reducible rfl)
  simp only [Act.put, List.setIfInBounds_toArray, List.set_cons_zero, List.set_cons_succ]
  refine anyL_take 7 (v := ?_) rfl (by kernel_rfl) (fun _ _ _ h => h) (Or.inl ⟨by rfl, ?_⟩) hS ?_
  rotate_left
  focus (intro W hW; go_simp; try with_reducible rfl)
  simp only [Act.put, List.setIfInBounds_toArray, List.set_cons_zero, List.set_cons_succ]
  refine anyL_take 8 (v := ?_) rfl (by kernel_rfl) (fun _ _ _ h => h) (Or.inl ⟨by rfl, ?_⟩) hS ?_
  rotate_left
  focus (intro W hW; go_simp; try with_reducible rfl)
  simp only [Act.put, List.setIfInBounds_toArray, List.set_cons_zero, List.set_cons_succ]
  refine anyL_take 9 (v := ?_) rfl (by kernel_rfl) (fun _ _ _ h => h) (Or.inl ⟨by rfl, ?_⟩) hS ?_
  rotate_left
  focus (intro W hW; obtain ⟨f0, f1, f2, f3, f4⟩ := hf.out W hW; go_simp; try with_reducible rfl)
  simp only [Act.put, List.setIfInBounds_toArray, List.set_cons_zero, List.set_cons_succ]
  refine anyL_take 10 (v := ?_) rfl (by kernel_rfl) (fun _ _ _ h => h) (Or.inl ⟨by rfl, ?_⟩) hS ?_
  rotate_left
  focus (intro W hW; go_simp; try with_reducible rfl)
  simp only [Act.put, List.setIfInBounds_toArray, List.set_cons_zero, List.set_cons_succ]
  refine anyL_take 11 (v := ?_) rfl (by kernel_rfl) (fun _ _ _ h => h) (Or.inl ⟨by rfl, ?_⟩) hS ?_
  rotate_left
  focus (intro W hW; obtain ⟨f0, f1, f2, f3, f4⟩ := hf.out W hW; go_simp; try with_reducible rfl)
  simp only [Act.put, List.setIfInBounds_toArray, List.set_cons_zero, List.set_cons_succ]
  refine anyL_take 12 (v := ?_) rfl (by kernel_rfl) (fun _ _ _ h => h) (Or.inl ⟨by rfl, ?_⟩) hS ?_
  rotate_left
  focus (intro W hW; go_simp; try with_reducible rfl)
  simp only [Act.put, List.setIfInBounds_toArray, List.set_cons_zero, List.set_cons_succ]
  refine anyL_one 13 rfl (by kernel_rfl) (fun K hK => ?_)
  have hS3 : Turn W8 (W8.drew.setCell ⟨B.c, i, none⟩ (.slice none 0 0)) (fun b => b = B.c) := hS.trans (Turn.set _ (F := fun b => b = B.c) rfl _ _)
  have r2 := r1.1
  have r3 := r1.2
  go_simp
  refine hK.out _ _ (fun _ => hS3) ?_
  clear hK K
  try simp only [Act.put, List.setIfInBounds_toArray, List.set_cons_zero, List.set_cons_succ]
  refine anyL_take 14 (v := ?_) rfl (by kernel_rfl) (fun _ _ _ h => h) (Or.inl ⟨by rfl, ?_⟩) hS3 ?_
  rotate_left
  focus (intro W hW; go_simp; try with_reducible rfl)
  simp only [Act.put, List.setIfInBounds_toArray, List.set_cons_zero, List.set_cons_succ]
  refine anyL_one 15 rfl (by kernel_rfl) (fun K hK => ?_)
  obtain ⟨f0, f1, f2, f3, f4⟩ := hf.out _ hS3
  go_simp
  refine hK.out _ _ (fun h => absurd h (by decide)) ?_
  clear hK K
  try simp only [Act.put, List.setIfInBounds_toArray, List.set_cons_zero, List.set_cons_succ]
  refine anyC_done (by kernel_rfl) ?_ _
  go_wp2
  go_ret3
  have h1 := (hXH.out.l.below (Below.refl _ _).drew).put_c (i := i) hic (v := .slice none 0 0) (x := []) (⟨rfl, rfl, rfl, Nat.le_refl _, fun _ _ _ => rfl⟩ : W8.drew.grownBy W8.drew (B.v i).ownBlock) (World.ownsRow_nil _ _ _ _) (.inl rfl)
  have h2 := h1.put_l (i := i) hil 0
  refine ⟨rfl, ⟨F, ⟨B.put i (.slice none 0 0), h2, ?_⟩, fun b hb => .inl hb⟩, hXH.out.t.trans (((Turn.of_below (Below.refl _ _).drew F).trans (Turn.set _ hXH.out.i.c _ _)).trans (Turn.set _ hXH.out.i.l _ _))⟩
  have hF := hXH.out.i
  refine ⟨hF.d, hF.g, hF.z, hF.c, hF.l, fun j hj b hb => ?_⟩
  rw [B.put_v (by rw [hXH.out.l.vl]; exact hic)] at hb
  by_cases e : i = j
  · rw [if_pos e] at hb; cases hb
  · rw [if_neg e] at hb
    exact hF.o j (by simpa using hj) b hb
set_option maxRecDepth 100000 in
set_option maxHeartbeats 1000000 in
theorem exec_finish (w : World) (F : Nat → Prop) (d : Nat) (D : Dr) (k a n : Int) (s : ByteArray) (h : DAt w F d D) (hok : D.Ok) (ha : a ≤ 9223372036854775807) (hF : ∀ b, F b → b < w.heap.size)
    (i : Nat) (hi : i < D.m.zs.length) (hev : (doM D.m k (i : Int) a n).2.1 = 0) (hk : k = 4) :
    Calls Tryz.prog 105 #[.pointer (some ⟨d, 0, none⟩), .agg #[.int .i64 k, .int .i64 (i : Int), .int .i64 a, .int .i64 n], .string s] w (DoPost w F d (exec D k (i : Int) a n s.data.toList)) := by
  obtain ⟨B, h, hin⟩ := h
  have hfx : exec D k (i : Int) a n s.data.toList = (([], (doM D.m k (i : Int) a n).1, 0), Drv.settle { D with m := D.m.with (doM D.m k (i : Int) a n).2.2 } i) := by
    unfold exec turned
    rw [if_pos hev, Int.toNat_natCast, if_neg (show ¬ k = 7 by omega), if_neg (show ¬ writesB k = true by unfold writesB; simp; omega), if_neg (show ¬ k = 3 by omega), if_neg (show ¬ k = 3 by omega), if_pos hk]; rfl -- ]
  rw [hfx]
  clear hfx
  have hz2 := hok.m.z2
  have hic : i < D.cs.length := by rw [hok.cl]; exact hi
  have hil : i < D.ls.length := by rw [hok.ll]; exact hi
  have hlcc := Lib.hid (show D.ls.length = D.cs.length by rw [hok.cl, hok.ll])
  have hcn : D.cs.length ≤ 64 := by rw [hok.cl]; exact hz2
  have hln : D.ls.length ≤ 64 := by rw [hok.ll]; exact hz2
  have hcz := hok.cz i hi
  have hzo := (hok.m.at_ hi)
  have hb2 := hok.m.b2
  have hdo := Lib.hid (fun W (hM : MAt W B.g B.z D.m) => do_any B.g B.z D.m k (i : Int) a n W hM hok.m ha)
  unfold CmdPost at hdo
  generalize (doM D.m k (i : Int) a n).2.1 = ev at *
  generalize (doM D.m k (i : Int) a n).1 = av at *
  generalize (doM D.m k (i : Int) a n).2.2 = zs at *
  subst hev
  have hX0 := Lib.hid (show ExW w (w.alloc (.cells #[.int .i64 k, .int .i64 (i : Int), .int .i64 a, .int .i64 n] 116)) F d B D k (i : Int) a n from ⟨h.below ((Below.refl _ _).alloc (Nat.le_refl _) _), hin, (Turn.refl _ _).trans (Turn.of_below ((Below.refl _ _).alloc (Nat.le_refl _) _) _), Bx.new w k (i : Int) a n _⟩)
  have hXz : w.heap.size ≠ B.z := by have := h.m.zl; omega
  have hXn : ¬ F w.heap.size := fun hf => by have := hF _ hf; omega
  clear h hin hok ha
  have hkH := Lib.hid hk
  clear hk
  go_enter Tryz.func105, Tryz.ntmps105
  go_wp2_with fail
  refine fresh_world (fun W => ExW w W F d B D k (i : Int) a n) hX0.out ?_
  intro W5 hX
  clear hX0
  have c0 := hX.l.c0
  have hdz := hX.l.dz
  have hf := Lib.hid (fun W (hW : Only W5 W B.z) => (⟨hW.cell c0 hdz, hW.cell hX.x.x0 hXz, hW.cell hX.x.x1 hXz, hW.cell hX.x.x2 hXz, hW.cell hX.x.x3 hXz⟩ : W.cell? ⟨d, 0, none⟩ = some (.pointer (some ⟨B.g, 0, none⟩)) ∧ W.cell? ⟨w.heap.size, 0, none⟩ = some (.int .i64 k) ∧ W.cell? ⟨w.heap.size, 1, none⟩ = some (.int .i64 (i : Int)) ∧ W.cell? ⟨w.heap.size, 2, none⟩ = some (.int .i64 a) ∧ W.cell? ⟨w.heap.size, 3, none⟩ = some (.int .i64 n)))
  have hXH := Lib.hid hX
  clear hX c0
  refine region_anyC (fun _ => true) (fun W => Only W5 W B.z) (by kernel_rfl) ?_
  have hS5 : Only W5 W5.drew B.z := (Only.refl _ _).drew
  refine anyL_take 0 (v := ?_) rfl (by kernel_rfl) (fun _ _ _ h => h) (Or.inl ⟨by rfl, ?_⟩) hS5 ?_
  rotate_left
  focus (intro W hW; go_simp; try with_reducible rfl)
  simp only [Act.put, List.setIfInBounds_toArray, List.set_cons_zero, List.set_cons_succ]
  refine anyL_take 1 (v := ?_) rfl (by kernel_rfl) (fun _ _ _ h => h) (Or.inl ⟨by rfl, ?_⟩) hS5 ?_
  rotate_left
  focus (intro W hW; go_simp; try with_reducible rfl)
  simp only [Act.put, List.setIfInBounds_toArray, List.set_cons_zero, List.set_cons_succ]
  refine anyL_take 2 (v := ?_) rfl (by kernel_rfl) (fun _ _ _ h => h) (Or.inl ⟨by rfl, ?_⟩) hS5 ?_
  rotate_left
  focus (intro W hW; go_simp; try with_reducible rfl)
  simp only [Act.put, List.setIfInBounds_toArray, List.set_cons_zero, List.set_cons_succ]
  refine anyL_take 3 (v := ?_) rfl (by kernel_rfl) (fun _ _ _ h => h) (Or.inl ⟨by rfl, ?_⟩) hS5 ?_
  rotate_left
  focus (intro W hW; obtain ⟨f0, f1, f2, f3, f4⟩ := hf.out W hW; go_simp; try with_reducible rfl)
  simp only [Act.put, List.setIfInBounds_toArray, List.set_cons_zero, List.set_cons_succ]
  refine anyL_take 4 (v := ?_) rfl (by kernel_rfl) (fun _ _ _ h => h) (Or.inl ⟨by rfl, ?_⟩) hS5 ?_
  rotate_left
  focus (intro W hW; obtain ⟨f0, f1, f2, f3, f4⟩ := hf.out W hW; go_simp; try with_reducible rfl)
  simp only [Act.put, List.setIfInBounds_toArray, List.set_cons_zero, List.set_cons_succ]
  refine anyL_one 5 rfl (by kernel_rfl) (fun K hK => ?_)
  go_simp
  refine (hdo.out _ (hXH.out.l.m.below (Below.refl _ _).drew)).mono ?_
  rintro e' w7 ⟨rfl, hM7, ho7⟩
  have ho8 := hS5.trans ho7
  dsimp only
  refine hK.out _ _ (fun _ => ho8) ?_
  clear hK K
  try simp only [Act.put, List.setIfInBounds_toArray, List.set_cons_zero, List.set_cons_succ]
  refine anyL_take 6 (v := ?_) rfl (by kernel_rfl) (fun _ _ _ h => h) (Or.inl ⟨by rfl, ?_⟩) ho8 ?_
  rotate_left
  focus (intro W hW; go_simp; try with_reducible rfl)
  simp only [Act.put, List.setIfInBounds_toArray, List.set_cons_zero, List.set_cons_succ]
  refine anyL_take 7 (v := ?_) rfl (by kernel_rfl) (fun _ _ _ h => h) (Or.inl ⟨by rfl, ?_⟩) ho8 ?_
  rotate_left
  focus (intro W hW; go_simp; try with_reducible rfl)
  simp only [Act.put, List.setIfInBounds_toArray, List.set_cons_zero, List.set_cons_succ]
  refine anyL_take 8 (v := ?_) rfl (by kernel_rfl) (fun _ _ _ h => h) (Or.inl ⟨by rfl, ?_⟩) ho8 ?_
  rotate_left
  focus (intro W hW; go_simp; try with_reducible rfl)
  simp only [Act.put, List.setIfInBounds_toArray, List.set_cons_zero, List.set_cons_succ]
  refine anyL_take 9 (v := ?_) rfl (by kernel_rfl) (fun _ _ _ h => h) (Or.inl ⟨by rfl, ?_⟩) ho8 ?_
  rotate_left
  focus (intro W hW; go_simp; try with_reducible rfl)
  simp only [Act.put, List.setIfInBounds_toArray, List.set_cons_zero, List.set_cons_succ]
  refine anyL_take 10 (v := ?_) rfl (by kernel_rfl) (fun _ _ _ h => h) (Or.inl ⟨by rfl, ?_⟩) ho8 ?_
  rotate_left
  focus (intro W hW; go_simp; try with_reducible rfl)
  simp only [Act.put, List.setIfInBounds_toArray, List.set_cons_zero, List.set_cons_succ]
  refine anyC_done (by kernel_rfl) ?_ _
  refine fresh_K (fun W => ExW w W F d B { D with m := D.m.with zs } k (i : Int) a n) ⟨(hXH.out.l).machine ho8 hM7, hXH.out.i, hXH.out.t.trans (Turn.of_only ho8 hXH.out.i.z), hXH.out.x.turn (F := fun b => b = B.z) (Turn.of_only ho8 rfl) hXz⟩ ?_
  clear hM7 ho8 ho7 hS5 hXH hf hdo
  intro W8 hX
  have x0 := hX.x.x0
  rw [hkH.out] at x0
  have x1 := hX.x.x1
  have hse := Lib.hid (settle_any W8 d B { D with m := D.m.with zs } i hX.l hic hlcc.out (by show (D.c i).length ≤ _; unfold zOk at hzo; omega))
  have hXH := Lib.hid hX
  clear hX hzo hcz
  go_wp2_with (go_at_call 98; refine hse.out.mono ?_; rintro e w1 ⟨rfl, hM1, ho1⟩)
  go_ret3
  exact ⟨rfl, ⟨F, ⟨B, hM1, hXH.out.i⟩, fun b hb => .inl hb⟩, hXH.out.t.trans (ho1.one hXH.out.i.l)⟩
set_option maxRecDepth 100000 in
set_option maxHeartbeats 1000000 in
theorem exec_read (w : World) (F : Nat → Prop) (d : Nat) (D : Dr) (k a n : Int) (s : ByteArray) (h : DAt w F d D) (hok : D.Ok) (ha : a ≤ 9223372036854775807) (hF : ∀ b, F b → b < w.heap.size)
    (i : Nat) (hi : i < D.m.zs.length) (hev : (doM D.m k (i : Int) a n).2.1 = 0) (hk : k = 7) :
    Calls Tryz.prog 105 #[.pointer (some ⟨d, 0, none⟩), .agg #[.int .i64 k, .int .i64 (i : Int), .int .i64 a, .int .i64 n], .string s] w (DoPost w F d (exec D k (i : Int) a n s.data.toList)) := by
  obtain ⟨B, h, hin⟩ := h
  have hfx : exec D k (i : Int) a n s.data.toList = ((cut (D.c i) (doM D.m k (i : Int) a n).1 n, (doM D.m k (i : Int) a n).1, 0), { D with m := D.m.with (doM D.m k (i : Int) a n).2.2 }) := by
    unfold exec turned
    rw [if_pos hev, Int.toNat_natCast, if_pos hk, if_neg (show ¬ writesB k = true by unfold writesB; simp; omega), if_neg (show ¬ k = 3 by omega), if_neg (show ¬ k = 3 by omega), if_neg (show ¬ k = 4 by omega)]
  rw [hfx]
  clear hfx
  have hz2 := hok.m.z2
  have hic : i < D.cs.length := by rw [hok.cl]; exact hi
  have hil : i < D.ls.length := by rw [hok.ll]; exact hi
  have hlcc := Lib.hid (show D.ls.length = D.cs.length by rw [hok.cl, hok.ll])
  have hcn : D.cs.length ≤ 64 := by rw [hok.cl]; exact hz2
  have hln : D.ls.length ≤ 64 := by rw [hok.ll]; exact hz2
  have hcz := hok.cz i hi
  have hzo := (hok.m.at_ hi)
  have hb2 := hok.m.b2
  have hrng := Lib.hid (show ∃ p q : Nat, (doM D.m k (i : Int) a n).1 = (p : Int) ∧ n = (q : Int) ∧ 1 ≤ q ∧ 64 * (p + q) ≤ (D.c i).length by
    obtain ⟨h1, h2, h3, h4⟩ := doM_read D.m i k a n hk hev
    rw [h1]
    refine ⟨a.toNat, n.toNat, by omega, by omega, by omega, by omega⟩)
  have hdo := Lib.hid (fun W (hM : MAt W B.g B.z D.m) => do_any B.g B.z D.m k (i : Int) a n W hM hok.m ha)
  unfold CmdPost at hdo
  generalize (doM D.m k (i : Int) a n).2.1 = ev at *
  generalize (doM D.m k (i : Int) a n).1 = av at *
  generalize (doM D.m k (i : Int) a n).2.2 = zs at *
  subst hev
  have hX0 := Lib.hid (show ExW w (w.alloc (.cells #[.int .i64 k, .int .i64 (i : Int), .int .i64 a, .int .i64 n] 116)) F d B D k (i : Int) a n from ⟨h.below ((Below.refl _ _).alloc (Nat.le_refl _) _), hin, (Turn.refl _ _).trans (Turn.of_below ((Below.refl _ _).alloc (Nat.le_refl _) _) _), Bx.new w k (i : Int) a n _⟩)
  have hXz : w.heap.size ≠ B.z := by have := h.m.zl; omega
  have hXn : ¬ F w.heap.size := fun hf => by have := hF _ hf; omega
  clear h hin hok ha
  have hkH := Lib.hid hk
  clear hk
  go_enter Tryz.func105, Tryz.ntmps105
  go_wp2_with fail
  refine fresh_world (fun W => ExW w W F d B D k (i : Int) a n) hX0.out ?_
  intro W5 hX
  clear hX0
  have c0 := hX.l.c0
  have hdz := hX.l.dz
  have hf := Lib.hid (fun W (hW : Only W5 W B.z) => (⟨hW.cell c0 hdz, hW.cell hX.x.x0 hXz, hW.cell hX.x.x1 hXz, hW.cell hX.x.x2 hXz, hW.cell hX.x.x3 hXz⟩ : W.cell? ⟨d, 0, none⟩ = some (.pointer (some ⟨B.g, 0, none⟩)) ∧ W.cell? ⟨w.heap.size, 0, none⟩ = some (.int .i64 k) ∧ W.cell? ⟨w.heap.size, 1, none⟩ = some (.int .i64 (i : Int)) ∧ W.cell? ⟨w.heap.size, 2, none⟩ = some (.int .i64 a) ∧ W.cell? ⟨w.heap.size, 3, none⟩ = some (.int .i64 n)))
  have hXH := Lib.hid hX
  clear hX c0
  refine region_anyC (fun _ => true) (fun W => Only W5 W B.z) (by kernel_rfl) ?_
  have hS5 : Only W5 W5.drew B.z := (Only.refl _ _).drew
  refine anyL_take 0 (v := ?_) rfl (by kernel_rfl) (fun _ _ _ h => h) (Or.inl ⟨by rfl, ?_⟩) hS5 ?_
  rotate_left
  focus (intro W hW; go_simp; try with_reducible rfl)
  simp only [Act.put, List.setIfInBounds_toArray, List.set_cons_zero, List.set_cons_succ]
  refine anyL_take 1 (v := ?_) rfl (by kernel_rfl) (fun _ _ _ h => h) (Or.inl ⟨by rfl, ?_⟩) hS5 ?_
  rotate_left
  focus (intro W hW; go_simp; try with_reducible rfl)
  simp only [Act.put, List.setIfInBounds_toArray, List.set_cons_zero, List.set_cons_succ]
  refine anyL_take 2 (v := ?_) rfl (by kernel_rfl) (fun _ _ _ h => h) (Or.inl ⟨by rfl, ?_⟩) hS5 ?_
  rotate_left
  focus (intro W hW; go_simp; try with_reducible rfl)
  simp only [Act.put, List.setIfInBounds_toArray, List.set_cons_zero, List.set_cons_succ]
  refine anyL_take 3 (v := ?_) rfl (by kernel_rfl) (fun _ _ _ h => h) (Or.inl ⟨by rfl, ?_⟩) hS5 ?_
  rotate_left
  focus (intro W hW; obtain ⟨f0, f1, f2, f3, f4⟩ := hf.out W hW; go_simp; try with_reducible rfl)
  simp only [Act.put, List.setIfInBounds_toArray, List.set_cons_zero, List.set_cons_succ]
  refine anyL_take 4 (v := ?_) rfl (by kernel_rfl) (fun _ _ _ h => h) (Or.inl ⟨by rfl, ?_⟩) hS5 ?_
  rotate_left
  focus (intro W hW; obtain ⟨f0, f1, f2, f3, f4⟩ := hf.out W hW; go_simp; try with_reducible rfl)
  simp only [Act.put, List.setIfInBounds_toArray, List.set_cons_zero, List.set_cons_succ]
  refine anyL_one 5 rfl (by kernel_rfl) (fun K hK => ?_)
  go_simp
  refine (hdo.out _ (hXH.out.l.m.below (Below.refl _ _).drew)).mono ?_
  rintro e' w7 ⟨rfl, hM7, ho7⟩
  have ho8 := hS5.trans ho7
  dsimp only
  refine hK.out _ _ (fun _ => ho8) ?_
  clear hK K
  try simp only [Act.put, List.setIfInBounds_toArray, List.set_cons_zero, List.set_cons_succ]
  refine anyL_take 6 (v := ?_) rfl (by kernel_rfl) (fun _ _ _ h => h) (Or.inl ⟨by rfl, ?_⟩) ho8 ?_
  rotate_left
  focus (intro W hW; go_simp; try with_reducible rfl)
  simp only [Act.put, List.setIfInBounds_toArray, List.set_cons_zero, List.set_cons_succ]
  refine anyL_take 7 (v := ?_) rfl (by kernel_rfl) (fun _ _ _ h => h) (Or.inl ⟨by rfl, ?_⟩) ho8 ?_
  rotate_left
  focus (intro W hW; go_simp; try with_reducible rfl)
  simp only [Act.put, List.setIfInBounds_toArray, List.set_cons_zero, List.set_cons_succ]
  refine anyL_take 8 (v := ?_) rfl (by kernel_rfl) (fun _ _ _ h => h) (Or.inl ⟨by rfl, ?_⟩) ho8 ?_
  rotate_left
  focus (intro W hW; go_simp; try with_reducible rfl)
  simp only [Act.put, List.setIfInBounds_toArray, List.set_cons_zero, List.set_cons_succ]
  refine anyL_take 9 (v := ?_) rfl (by kernel_rfl) (fun _ _ _ h => h) (Or.inl ⟨by rfl, ?_⟩) ho8 ?_
  rotate_left
  focus (intro W hW; go_simp; try with_reducible rfl)
  simp only [Act.put, List.setIfInBounds_toArray, List.set_cons_zero, List.set_cons_succ]
  refine anyL_take 10 (v := ?_) rfl (by kernel_rfl) (fun _ _ _ h => h) (Or.inl ⟨by rfl, ?_⟩) ho8 ?_
  rotate_left
  focus (intro W hW; go_simp; try with_reducible rfl)
  simp only [Act.put, List.setIfInBounds_toArray, List.set_cons_zero, List.set_cons_succ]
  refine anyC_done (by kernel_rfl) ?_ _
  refine fresh_K (fun W => ExW w W F d B { D with m := D.m.with zs } k (i : Int) a n) ⟨(hXH.out.l).machine ho8 hM7, hXH.out.i, hXH.out.t.trans (Turn.of_only ho8 hXH.out.i.z), hXH.out.x.turn (F := fun b => b = B.z) (Turn.of_only ho8 rfl) hXz⟩ ?_
  clear hM7 ho8 ho7 hS5 hXH hf hdo
  intro W8 hX
  have x0 := hX.x.x0
  rw [hkH.out] at x0
  obtain ⟨p, q, rfl, rfl, hq, hpq⟩ := hrng.out
  have e64 : (64 * ((p : Nat) : Int)).toNat = 64 * p := by omega
  have e65 : (64 * ((q : Nat) : Int)).toNat = 64 * q := by omega
  have hv : ∃ g cap', B.v i = .slice (some ⟨g, 0, none⟩) (D.c i).length cap' ∧ (D.c i).length ≤ cap' ∧ cap' ≤ maxLen ∧ (∀ j (h : j < (D.c i).length), ∀ W, Below W8.heap.size W8 W → W.cell? ⟨g, j, none⟩ = some (.int .u8 ((D.c i)[j].toNat : Int))) := by
    have o1 := hX.l.own i hic
    rcases o1.2 with ⟨e, e2⟩ | ⟨g, cap', cur, e, _, hg, hle, hm, _⟩
    · have : (D.c i).length = 0 := e2
      omega
    · refine ⟨g, cap', e, hle, hm, fun j hj W hb => ?_⟩
      have h1 := o1.cells (g := g) (by show (B.v i).ownBlock = some g; rw [e]; rfl) j (Value.int .u8 ((D.c i)[j].toNat : Int)) (by show (u8s (D.c i))[j]? = _; unfold u8s; rw [List.getElem?_map, List.getElem?_eq_getElem hj]; rfl)
      rw [Addr.add_lit, Nat.zero_add] at h1
      exact (hb.cell (p := ⟨g, j, none⟩) (Array.getElem?_eq_some_iff.1 hg).1).trans h1
  obtain ⟨g, cap', hv, hle, hcm, hcell⟩ := hv
  have hlen : (((D.c i).drop (64 * p)).take (64 * q)).length = 64 * q := by rw [List.length_take, List.length_drop]; omega
  have hcb := Lib.hid (fun W (hb : Below W8.heap.size W8 W) => by
    have h1 := run_convert_bytes_back (P := Tryz.prog) W 45 9 5 ⟨g, 64 * p, none⟩ (cap' - 64 * p) (((D.c i).drop (64 * p)).take (64 * q)) Tryz.underlying45 Tryz.underlying5 Tryz.underlying9 (fun j hj => by
      rw [Addr.add_lit, hcell (64 * p + j) (by omega) W hb]
      simp [List.getElem_take, List.getElem_drop])
    rw [hlen] at h1
    exact h1)
  have hct : cut (D.c i) (p : Int) (q : Int) = ((D.c i).drop (64 * p)).take (64 * q) := by unfold cut; rw [e64, e65]
  rw [← hct] at hcb
  have hctH := Lib.hid hct
  clear hct
  obtain ⟨out, hout⟩ : ∃ x, x = (cut (D.c i) (p : Int) (q : Int)).toArray := ⟨_, rfl⟩
  rw [← hout] at hcb
  have houtH := Lib.hid hout
  have c1 := hX.l.c1
  have r1 := (hX.l.row i hic).1
  have hMc := hX.l.lc
  rw [hv] at r1
  have hXl : w.heap.size < W8.heap.size := lt_of_cell x0
  have hf := Lib.hid (fun W (hb : Below W8.heap.size W8 W) => (⟨(hb.cell (p := ⟨d, 1, none⟩) (lt_of_cell c1)).trans c1, (hb.cell (p := ⟨w.heap.size, 1, none⟩) hXl).trans hX.x.x1, (hb.cell (p := ⟨w.heap.size, 3, none⟩) hXl).trans hX.x.x3, (hb.cell (p := ⟨B.c, i, none⟩) hMc).trans r1⟩ : W.cell? ⟨d, 1, none⟩ = some (.slice (some ⟨B.c, 0, none⟩) D.cs.length D.cs.length) ∧ W.cell? ⟨w.heap.size, 1, none⟩ = some (.int .i64 (i : Int)) ∧ W.cell? ⟨w.heap.size, 3, none⟩ = some (.int .i64 (q : Int)) ∧ W.cell? ⟨B.c, i, none⟩ = some (.slice (some ⟨g, 0, none⟩) (D.c i).length cap')))
  have hXH := Lib.hid hX
  clear hX c1 r1 hlen hcell hout hv
  generalize (D.c i).length = N at *
  unfold maxLen at hcm
  clear hcz hzo
  obtain ⟨P6, hP6⟩ : ∃ x, x = 64 * p := ⟨_, rfl⟩
  obtain ⟨Q6, hQ6⟩ : ∃ x, x = 64 * q := ⟨_, rfl⟩
  obtain ⟨T6, hT6⟩ : ∃ x, x = 64 * (p + q) := ⟨_, rfl⟩
  rw [← hP6, ← hQ6] at hcb
  have hw1 : IntKind.i64.wrap ((p : Int) * 64) = (P6 : Int) := by
    rw [IntWalk.i64_in _ (by omega)]; omega
  have hw2 : IntKind.i64.wrap ((p : Int) + (q : Int)) = (p : Int) + (q : Int) := IntWalk.i64_in _ (by omega)
  have hw3 : IntKind.i64.wrap (((p : Int) + (q : Int)) * 64) = (T6 : Int) := by
    rw [IntWalk.i64_in _ (by omega)]; omega
  have hb1 : P6 ≤ T6 := by omega
  have hb2 : T6 ≤ cap' := by omega
  have hb3 : ¬ cap' = P6 := by omega
  have hb4 : T6 - P6 = Q6 := by omega
  clear hP6 hQ6 hT6 e64 e65
  go_wp2_with fail
  refine region_anyC (fun _ => true) (fun W => Below W8.heap.size W8 W) (by kernel_rfl) ?_
  have hS : Below W8.heap.size W8 W8.drew := (Below.refl _ _).drew
  refine anyL_take 0 (v := ?_) rfl (by kernel_rfl) (fun _ _ _ h => h) (Or.inl ⟨by rfl, ?_⟩) hS ?_
  rotate_left
  focus (intro W hW; go_simp; try with_reducible rfl)
  simp only [Act.put, List.setIfInBounds_toArray, List.set_cons_zero, List.set_cons_succ]
  refine anyL_take 1 (v := ?_) rfl (by kernel_rfl) (fun _ _ _ h => h) (Or.inl ⟨by rfl, ?_⟩) hS ?_
  rotate_left
  focus (intro W hW; go_simp; try with_reducible rfl)
  simp only [Act.put, List.setIfInBounds_toArray, List.set_cons_zero, List.set_cons_succ]
  refine anyL_take 2 (v := ?_) rfl (by kernel_rfl) (fun _ _ _ h => h) (Or.inl ⟨by rfl, ?_⟩) hS ?_
  rotate_left
  focus (intro W hW; go_simp; try with_reducible rfl)
  simp only [Act.put, List.setIfInBounds_toArray, List.set_cons_zero, List.set_cons_succ]
  refine anyL_take 3 (v := ?_) rfl (by kernel_rfl) (fun _ _ _ h => h) (Or.inl ⟨by rfl, ?_⟩) hS ?_
  rotate_left
  focus (intro W hW; obtain ⟨f0, f1, f2, f3⟩ := hf.out W hW; go_simp; try with_reducible rfl)
  simp only [Act.put, List.setIfInBounds_toArray, List.set_cons_zero, List.set_cons_succ]
  refine anyL_take 4 (v := ?_) rfl (by kernel_rfl) (fun _ _ _ h => h) (Or.inl ⟨by rfl, ?_⟩) hS ?_
  rotate_left
  focus (intro W hW; go_simp; try with_reducible rfl)
  simp only [Act.put, List.setIfInBounds_toArray, List.set_cons_zero, List.set_cons_succ]
  refine anyL_take 5 (v := ?_) rfl (by kernel_rfl) (fun _ _ _ h => h) (Or.inl ⟨by rfl, ?_⟩) hS ?_
  rotate_left
  focus (intro W hW; obtain ⟨f0, f1, f2, f3⟩ := hf.out W hW; go_simp; try with_reducible rfl)
  simp only [Act.put, List.setIfInBounds_toArray, List.set_cons_zero, List.set_cons_succ]
  refine anyL_take 6 (v := ?_) rfl (by kernel_rfl) (fun _ _ _ h => h) (Or.inl ⟨by rfl, ?_⟩) hS ?_
  rotate_left
  focus (intro W hW; go_simp; try with_reducible rfl)
  simp only [Act.put, List.setIfInBounds_toArray, List.set_cons_zero, List.set_cons_succ]
  refine anyL_take 7 (v := ?_) rfl (by kernel_rfl) (fun _ _ _ h => h) (Or.inl ⟨by rfl, ?_⟩) hS ?_
  rotate_left
  focus (intro W hW; obtain ⟨f0, f1, f2, f3⟩ := hf.out W hW; go_simp; try with_reducible rfl)
  simp only [Act.put, List.setIfInBounds_toArray, List.set_cons_zero, List.set_cons_succ]
  refine anyL_take 8 (v := ?_) rfl (by kernel_rfl) (fun _ _ _ h => h) (Or.inl ⟨by rfl, ?_⟩) hS ?_
  rotate_left
  focus (intro W hW; go_simp; try with_reducible rfl)
  simp only [Act.put, List.setIfInBounds_toArray, List.set_cons_zero, List.set_cons_succ]
  refine anyL_take 9 (v := ?_) rfl (by kernel_rfl) (fun _ _ _ h => h) (Or.inl ⟨by rfl, ?_⟩) hS ?_
  rotate_left
  focus (intro W hW; go_simp; try with_reducible rfl)
  simp only [Act.put, List.setIfInBounds_toArray, List.set_cons_zero, List.set_cons_succ]
  refine anyL_take 10 (v := ?_) rfl (by kernel_rfl) (fun _ _ _ h => h) (Or.inl ⟨by rfl, ?_⟩) hS ?_
  rotate_left
  focus (intro W hW; go_simp; try with_reducible rfl)
  simp only [Act.put, List.setIfInBounds_toArray, List.set_cons_zero, List.set_cons_succ]
  refine anyL_take 11 (v := ?_) rfl (by kernel_rfl) (fun _ _ _ h => h) (Or.inl ⟨by rfl, ?_⟩) hS ?_
  rotate_left
  focus (intro W hW; go_simp; try with_reducible rfl)
  simp only [Act.put, List.setIfInBounds_toArray, List.set_cons_zero, List.set_cons_succ]
  refine anyL_take 12 (v := ?_) rfl (by kernel_rfl) (fun _ _ _ h => h) (Or.inl ⟨by rfl, ?_⟩) hS ?_
  rotate_left
  focus (intro W hW; obtain ⟨f0, f1, f2, f3⟩ := hf.out W hW; go_simp; try with_reducible rfl)
  simp only [Act.put, List.setIfInBounds_toArray, List.set_cons_zero, List.set_cons_succ]
  refine anyL_take 13 (v := ?_) rfl (by kernel_rfl) (fun _ _ _ h => h) (Or.inl ⟨by rfl, ?_⟩) hS ?_
  rotate_left
  focus (intro W hW; go_simp; try with_reducible rfl)
  simp only [Act.put, List.setIfInBounds_toArray, List.set_cons_zero, List.set_cons_succ]
  refine anyL_take 14 (v := ?_) rfl (by kernel_rfl) (fun _ _ _ h => h) (Or.inl ⟨by rfl, ?_⟩) hS ?_
  rotate_left
  focus (intro W hW; go_simp; try with_reducible rfl)
  simp only [Act.put, List.setIfInBounds_toArray, List.set_cons_zero, List.set_cons_succ]
  refine anyL_take 15 (v := ?_) rfl (by kernel_rfl) (fun _ _ _ h => h) (Or.inl ⟨by rfl, ?_⟩) hS ?_
  rotate_left
  focus (intro W hW; go_simp; try with_reducible rfl)
  simp only [Act.put, List.setIfInBounds_toArray, List.set_cons_zero, List.set_cons_succ]
  refine anyL_take 16 (v := ?_) rfl (by kernel_rfl) (fun _ _ _ h => h) (Or.inl ⟨by rfl, ?_⟩) hS ?_
  rotate_left
  focus (intro W hW; have h9 := hcb.out W hW; go_simp; try with_reducible rfl)
  simp only [Act.put, List.setIfInBounds_toArray, List.set_cons_zero, List.set_cons_succ]
  refine anyL_take 17 (v := ?_) rfl (by kernel_rfl) (fun _ _ _ h => h) (Or.inl ⟨by rfl, ?_⟩) hS ?_
  rotate_left
  focus (intro W hW; go_simp; try with_reducible rfl)
  simp only [Act.put, List.setIfInBounds_toArray, List.set_cons_zero, List.set_cons_succ]
  refine anyL_take 18 (v := ?_) rfl (by kernel_rfl) (fun _ _ _ h => h) (Or.inl ⟨by rfl, ?_⟩) hS ?_
  rotate_left
  focus (intro W hW; go_simp; try with_reducible rfl)
  simp only [Act.put, List.setIfInBounds_toArray, List.set_cons_zero, List.set_cons_succ]
  refine anyL_take 19 (v := ?_) rfl (by kernel_rfl) (fun _ _ _ h => h) (Or.inl ⟨by rfl, ?_⟩) hS ?_
  rotate_left
  focus (intro W hW; go_simp; try with_reducible rfl)
  simp only [Act.put, List.setIfInBounds_toArray, List.set_cons_zero, List.set_cons_succ]
  refine anyL_take 20 (v := ?_) rfl (by kernel_rfl) (fun _ _ _ h => h) (Or.inl ⟨by rfl, ?_⟩) hS ?_
  rotate_left
  focus (intro W hW; go_simp; try with_reducible rfl)
  simp only [Act.put, List.setIfInBounds_toArray, List.set_cons_zero, List.set_cons_succ]
  refine anyC_done (by kernel_rfl) ?_ _
  go_wp2
  go_ret3
  refine ⟨?_, ⟨F, ⟨B, hXH.out.l.below hS, hXH.out.i⟩, fun b hb => .inl hb⟩, hXH.out.t.trans (Turn.of_below hS F)⟩
  show _ = Ending.returned (Value.tuple #[.string ⟨(cut (D.c i) (p : Int) (q : Int)).toArray⟩, .int .i64 (p : Int), .int .i64 0])
  rw [← houtH.out]
  rfl
set_option maxRecDepth 100000 in
set_option maxHeartbeats 1000000 in
theorem exec_write1 (w : World) (F : Nat → Prop) (d : Nat) (D : Dr) (k a n : Int) (s : ByteArray) (h : DAt w F d D) (hok : D.Ok) (ha : a ≤ 9223372036854775807) (hF : ∀ b, F b → b < w.heap.size)
    (i : Nat) (hi : i < D.m.zs.length) (hev : (doM D.m k (i : Int) a n).2.1 = 0) (hk : k = 1) (hfit : fits k n s.size = true) :
    Calls Tryz.prog 105 #[.pointer (some ⟨d, 0, none⟩), .agg #[.int .i64 k, .int .i64 (i : Int), .int .i64 a, .int .i64 n], .string s] w (DoPost w F d (exec D k (i : Int) a n s.data.toList)) := by
  obtain ⟨B, h, hin⟩ := h
  have hfx : exec D k (i : Int) a n s.data.toList = (([], (doM D.m k (i : Int) a n).1, 0), ⟨D.m.with (doM D.m k (i : Int) a n).2.2, D.cs.set i (D.c i ++ s.data.toList), D.ls, D.dead⟩) := by
    unfold exec turned
    rw [if_pos hev, Int.toNat_natCast, if_neg (show ¬ k = 7 by omega), if_pos (show writesB k = true by rw [hk]; rfl), if_neg (show ¬ k = 3 by omega), if_neg (show ¬ k = 4 by omega)]
  rw [hfx]
  clear hfx
  have hz2 := hok.m.z2
  have hic : i < D.cs.length := by rw [hok.cl]; exact hi
  have hil : i < D.ls.length := by rw [hok.ll]; exact hi
  have hlcc := Lib.hid (show D.ls.length = D.cs.length by rw [hok.cl, hok.ll])
  have hcn : D.cs.length ≤ 64 := by rw [hok.cl]; exact hz2
  have hln : D.ls.length ≤ 64 := by rw [hok.ll]; exact hz2
  have hcz := hok.cz i hi
  have hzo := (hok.m.at_ hi)
  have hb2 := hok.m.b2
  have hsz : (D.c i).length + s.size ≤ 1048576 := by
    obtain ⟨h1, h2⟩ := doM_write D.m i k a n (by omega) hev
    have h3 : writesB k = true ∧ 0 ≤ n := ⟨by rw [hk]; rfl, by omega⟩
    unfold fits at hfit
    rw [if_pos h3] at hfit
    have h4 := of_decide_eq_true hfit
    unfold zOk at hzo
    omega
  have hdo := Lib.hid (fun W (hM : MAt W B.g B.z D.m) => do_any B.g B.z D.m k (i : Int) a n W hM hok.m ha)
  unfold CmdPost at hdo
  generalize (doM D.m k (i : Int) a n).2.1 = ev at *
  generalize (doM D.m k (i : Int) a n).1 = av at *
  generalize (doM D.m k (i : Int) a n).2.2 = zs at *
  subst hev
  have hX0 := Lib.hid (show ExW w (w.alloc (.cells #[.int .i64 k, .int .i64 (i : Int), .int .i64 a, .int .i64 n] 116)) F d B D k (i : Int) a n from ⟨h.below ((Below.refl _ _).alloc (Nat.le_refl _) _), hin, (Turn.refl _ _).trans (Turn.of_below ((Below.refl _ _).alloc (Nat.le_refl _) _) _), Bx.new w k (i : Int) a n _⟩)
  have hXz : w.heap.size ≠ B.z := by have := h.m.zl; omega
  have hXn : ¬ F w.heap.size := fun hf => by have := hF _ hf; omega
  clear h hin hok ha
  have hkH := Lib.hid hk
  clear hk
  go_enter Tryz.func105, Tryz.ntmps105
  go_wp2_with fail
  refine fresh_world (fun W => ExW w W F d B D k (i : Int) a n) hX0.out ?_
  intro W5 hX
  clear hX0
  have c0 := hX.l.c0
  have hdz := hX.l.dz
  have hf := Lib.hid (fun W (hW : Only W5 W B.z) => (⟨hW.cell c0 hdz, hW.cell hX.x.x0 hXz, hW.cell hX.x.x1 hXz, hW.cell hX.x.x2 hXz, hW.cell hX.x.x3 hXz⟩ : W.cell? ⟨d, 0, none⟩ = some (.pointer (some ⟨B.g, 0, none⟩)) ∧ W.cell? ⟨w.heap.size, 0, none⟩ = some (.int .i64 k) ∧ W.cell? ⟨w.heap.size, 1, none⟩ = some (.int .i64 (i : Int)) ∧ W.cell? ⟨w.heap.size, 2, none⟩ = some (.int .i64 a) ∧ W.cell? ⟨w.heap.size, 3, none⟩ = some (.int .i64 n)))
  have hXH := Lib.hid hX
  clear hX c0
  refine region_anyC (fun _ => true) (fun W => Only W5 W B.z) (by kernel_rfl) ?_
  have hS5 : Only W5 W5.drew B.z := (Only.refl _ _).drew
  refine anyL_take 0 (v := ?_) rfl (by kernel_rfl) (fun _ _ _ h => h) (Or.inl ⟨by rfl, ?_⟩) hS5 ?_
  rotate_left
  focus (intro W hW; go_simp; try with_reducible rfl)
  simp only [Act.put, List.setIfInBounds_toArray, List.set_cons_zero, List.set_cons_succ]
  refine anyL_take 1 (v := ?_) rfl (by kernel_rfl) (fun _ _ _ h => h) (Or.inl ⟨by rfl, ?_⟩) hS5 ?_
  rotate_left
  focus (intro W hW; go_simp; try with_reducible rfl)
  simp only [Act.put, List.setIfInBounds_toArray, List.set_cons_zero, List.set_cons_succ]
  refine anyL_take 2 (v := ?_) rfl (by kernel_rfl) (fun _ _ _ h => h) (Or.inl ⟨by rfl, ?_⟩) hS5 ?_
  rotate_left
  focus (intro W hW; go_simp; try with_reducible rfl)
  simp only [Act.put, List.setIfInBounds_toArray, List.set_cons_zero, List.set_cons_succ]
  refine anyL_take 3 (v := ?_) rfl (by kernel_rfl) (fun _ _ _ h => h) (Or.inl ⟨by rfl, ?_⟩) hS5 ?_
  rotate_left
  focus (intro W hW; obtain ⟨f0, f1, f2, f3, f4⟩ := hf.out W hW; go_simp; try with_reducible rfl)
  simp only [Act.put, List.setIfInBounds_toArray, List.set_cons_zero, List.set_cons_succ]
  refine anyL_take 4 (v := ?_) rfl (by kernel_rfl) (fun _ _ _ h => h) (Or.inl ⟨by rfl, ?_⟩) hS5 ?_
  rotate_left
  focus (intro W hW; obtain ⟨f0, f1, f2, f3, f4⟩ := hf.out W hW; go_simp; try with_reducible rfl)
  simp only [Act.put, List.setIfInBounds_toArray, List.set_cons_zero, List.set_cons_succ]
  refine anyL_one 5 rfl (by kernel_rfl) (fun K hK => ?_)
  go_simp
  refine (hdo.out _ (hXH.out.l.m.below (Below.refl _ _).drew)).mono ?_
  rintro e' w7 ⟨rfl, hM7, ho7⟩
  have ho8 := hS5.trans ho7
  dsimp only
  refine hK.out _ _ (fun _ => ho8) ?_
  clear hK K
  try simp only [Act.put, List.setIfInBounds_toArray, List.set_cons_zero, List.set_cons_succ]
  refine anyL_take 6 (v := ?_) rfl (by kernel_rfl) (fun _ _ _ h => h) (Or.inl ⟨by rfl, ?_⟩) ho8 ?_
  rotate_left
  focus (intro W hW; go_simp; try with_reducible rfl)
  simp only [Act.put, List.setIfInBounds_toArray, List.set_cons_zero, List.set_cons_succ]
  refine anyL_take 7 (v := ?_) rfl (by kernel_rfl) (fun _ _ _ h => h) (Or.inl ⟨by rfl, ?_⟩) ho8 ?_
  rotate_left
  focus (intro W hW; go_simp; try with_reducible rfl)
  simp only [Act.put, List.setIfInBounds_toArray, List.set_cons_zero, List.set_cons_succ]
  refine anyL_take 8 (v := ?_) rfl (by kernel_rfl) (fun _ _ _ h => h) (Or.inl ⟨by rfl, ?_⟩) ho8 ?_
  rotate_left
  focus (intro W hW; go_simp; try with_reducible rfl)
  simp only [Act.put, List.setIfInBounds_toArray, List.set_cons_zero, List.set_cons_succ]
  refine anyL_take 9 (v := ?_) rfl (by kernel_rfl) (fun _ _ _ h => h) (Or.inl ⟨by rfl, ?_⟩) ho8 ?_
  rotate_left
  focus (intro W hW; go_simp; try with_reducible rfl)
  simp only [Act.put, List.setIfInBounds_toArray, List.set_cons_zero, List.set_cons_succ]
  refine anyL_take 10 (v := ?_) rfl (by kernel_rfl) (fun _ _ _ h => h) (Or.inl ⟨by rfl, ?_⟩) ho8 ?_
  rotate_left
  focus (intro W hW; go_simp; try with_reducible rfl)
  simp only [Act.put, List.setIfInBounds_toArray, List.set_cons_zero, List.set_cons_succ]
  refine anyC_done (by kernel_rfl) ?_ _
  refine fresh_K (fun W => ExW w W F d B { D with m := D.m.with zs } k (i : Int) a n) ⟨(hXH.out.l).machine ho8 hM7, hXH.out.i, hXH.out.t.trans (Turn.of_only ho8 hXH.out.i.z), hXH.out.x.turn (F := fun b => b = B.z) (Turn.of_only ho8 rfl) hXz⟩ ?_
  clear hM7 ho8 ho7 hS5 hXH hf hdo
  intro W8 hX
  have x0 := hX.x.x0
  rw [hkH.out] at x0
  have hown := hX.l.own i hic
  have hv : ∃ A' cap', B.v i = .slice A' (D.c i).length cap' := by
    rcases hown.2 with ⟨e, e2⟩ | ⟨g, cap', cur, e, _⟩
    · exact ⟨none, 0, by rw [e]; show _ = Value.slice none (D.c i).length 0; rw [show (D.c i).length = 0 from e2]⟩
    · exact ⟨_, cap', e⟩
  obtain ⟨A', cap', hv⟩ := hv
  have hG : ∀ b, (B.v i).ownBlock = some b → b ≠ d ∧ b ≠ B.c ∧ b ≠ w.heap.size ∧ F b := fun b hb => by
    have h1 := hX.l.od i hic b hb
    have h2 := hX.i.o i hic b hb
    exact ⟨h1.1, h1.2.2.2.1, fun e => hXn (e ▸ h2), h2⟩
  have hap := Lib.hid (text_append W8.drew 45 (B.v i) (D.c i) (hown.drew) s hsz)
  have c1 := hX.l.c1
  have r1 := hX.l.row i hic
  have hMc := hX.l.lc
  have hf := Lib.hid (fun W (hW : Turn W8 W (fun b => (B.v i).ownBlock = some b)) => (⟨hW.cell c1 (fun h => (hG _ h).1 rfl), hW.cell hX.x.x1 (fun h => (hG _ h).2.2.1 rfl), hW.cell r1.1 (fun h => (hG _ h).2.1 rfl), (same_frozen (hW.block _ hMc (fun h => (hG _ h).2.1 rfl))).trans r1.2⟩ : W.cell? ⟨d, 1, none⟩ = some (.slice (some ⟨B.c, 0, none⟩) D.cs.length D.cs.length) ∧ W.cell? ⟨w.heap.size, 1, none⟩ = some (.int .i64 (i : Int)) ∧ W.cell? ⟨B.c, i, none⟩ = some (B.v i) ∧ W.frozen? ⟨B.c, i, none⟩ = false))
  rw [hv] at hf hap
  have hvH := Lib.hid hv
  have hGH := Lib.hid hG
  have hXH := Lib.hid hX
  have hGn : (fun b => (B.v i).ownBlock = some b) = (fun b => (Value.slice A' (D.c i).length cap').ownBlock = some b) := by rw [hv]
  have hGnH := Lib.hid hGn
  clear hX hown hG c1 r1 hv hGn hsz hfit hcz hzo
  go_wp2_with fail
  refine region_anyC (fun i => i != 17) (fun W => Turn W8 W (fun b => (Value.slice A' (D.c i).length cap').ownBlock = some b)) (by kernel_rfl) ?_
  have hS : Turn W8 W8.drew (fun b => (Value.slice A' (D.c i).length cap').ownBlock = some b) := Turn.of_below (Below.refl _ _).drew _
  refine anyL_take 0 (v := ?_) rfl (by kernel_rfl) (fun _ _ _ h => h) (Or.inl ⟨by rfl, ?_⟩) hS ?_
  rotate_left
  focus (intro W hW; go_simp; try with_reducible rfl)
  simp only [Act.put, List.setIfInBounds_toArray, List.set_cons_zero, List.set_cons_succ]
  refine anyL_take 1 (v := ?_) rfl (by kernel_rfl) (fun _ _ _ h => h) (Or.inl ⟨by rfl, ?_⟩) hS ?_
  rotate_left
  focus (intro W hW; go_simp; try with_reducible rfl)
  simp only [Act.put, List.setIfInBounds_toArray, List.set_cons_zero, List.set_cons_succ]
  refine anyL_take 2 (v := ?_) rfl (by kernel_rfl) (fun _ _ _ h => h) (Or.inl ⟨by rfl, ?_⟩) hS ?_
  rotate_left
  focus (intro W hW; go_simp; try with_reducible rfl)
  simp only [Act.put, List.setIfInBounds_toArray, List.set_cons_zero, List.set_cons_succ]
  refine anyL_take 3 (v := ?_) rfl (by kernel_rfl) (fun _ _ _ h => h) (Or.inl ⟨by rfl, ?_⟩) hS ?_
  rotate_left
  focus (intro W hW; obtain ⟨f0, f1, f2, f3⟩ := hf.out W hW; go_simp; try with_reducible rfl)
  simp only [Act.put, List.setIfInBounds_toArray, List.set_cons_zero, List.set_cons_succ]
  refine anyL_take 4 (v := ?_) rfl (by kernel_rfl) (fun _ _ _ h => h) (Or.inl ⟨by rfl, ?_⟩) hS ?_
  rotate_left
  focus (intro W hW; go_simp; try with_reducible rfl)
  simp only [Act.put, List.setIfInBounds_toArray, List.set_cons_zero, List.set_cons_succ]
  refine anyL_take 5 (v := ?_) rfl (by kernel_rfl) (fun _ _ _ h => h) (Or.inl ⟨by rfl, ?_⟩) hS ?_
  rotate_left
  focus (intro W hW; obtain ⟨f0, f1, f2, f3⟩ := hf.out W hW; go_simp; try with_reducible rfl)
  simp only [Act.put, List.setIfInBounds_toArray, List.set_cons_zero, List.set_cons_succ]
  refine anyL_take 6 (v := ?_) rfl (by kernel_rfl) (fun _ _ _ h => h) (Or.inl ⟨by rfl, ?_⟩) hS ?_
  rotate_left
  focus (intro W hW; go_simp; try with_reducible rfl)
  simp only [Act.put, List.setIfInBounds_toArray, List.set_cons_zero, List.set_cons_succ]
  refine anyL_take 7 (v := ?_) rfl (by kernel_rfl) (fun _ _ _ h => h) (Or.inl ⟨by rfl, ?_⟩) hS ?_
  rotate_left
  focus (intro W hW; go_simp; try with_reducible rfl)
  simp only [Act.put, List.setIfInBounds_toArray, List.set_cons_zero, List.set_cons_succ]
  refine anyL_take 8 (v := ?_) rfl (by kernel_rfl) (fun _ _ _ h => h) (Or.inl ⟨by rfl, ?_⟩) hS ?_
  rotate_left
  focus (intro W hW; go_simp; try with_reducible rfl)
  simp only [Act.put, List.setIfInBounds_toArray, List.set_cons_zero, List.set_cons_succ]
  refine anyL_take 9 (v := ?_) rfl (by kernel_rfl) (fun _ _ _ h => h) (Or.inl ⟨by rfl, ?_⟩) hS ?_
  rotate_left
  focus (intro W hW; obtain ⟨f0, f1, f2, f3⟩ := hf.out W hW; go_simp; try with_reducible rfl)
  simp only [Act.put, List.setIfInBounds_toArray, List.set_cons_zero, List.set_cons_succ]
  refine anyL_take 10 (v := ?_) rfl (by kernel_rfl) (fun _ _ _ h => h) (Or.inl ⟨by rfl, ?_⟩) hS ?_
  rotate_left
  focus (intro W hW; go_simp; try with_reducible rfl)
  simp only [Act.put, List.setIfInBounds_toArray, List.set_cons_zero, List.set_cons_succ]
  refine anyL_take 11 (v := ?_) rfl (by kernel_rfl) (fun _ _ _ h => h) (Or.inl ⟨by rfl, ?_⟩) hS ?_
  rotate_left
  focus (intro W hW; obtain ⟨f0, f1, f2, f3⟩ := hf.out W hW; go_simp; try with_reducible rfl)
  simp only [Act.put, List.setIfInBounds_toArray, List.set_cons_zero, List.set_cons_succ]
  refine anyL_take 12 (v := ?_) rfl (by kernel_rfl) (fun _ _ _ h => h) (Or.inl ⟨by rfl, ?_⟩) hS ?_
  rotate_left
  focus (intro W hW; go_simp; try with_reducible rfl)
  simp only [Act.put, List.setIfInBounds_toArray, List.set_cons_zero, List.set_cons_succ]
  refine anyL_take 13 (v := ?_) rfl (by kernel_rfl) (fun _ _ _ h => h) (Or.inl ⟨by rfl, ?_⟩) hS ?_
  rotate_left
  focus (intro W hW; obtain ⟨f0, f1, f2, f3⟩ := hf.out W hW; go_simp; try with_reducible rfl)
  simp only [Act.put, List.setIfInBounds_toArray, List.set_cons_zero, List.set_cons_succ]
  refine anyL_take 14 (v := ?_) rfl (by kernel_rfl) (fun _ _ _ h => h) (Or.inl ⟨by rfl, ?_⟩) hS ?_
  rotate_left
  focus (intro W hW; go_simp; try with_reducible rfl)
  simp only [Act.put, List.setIfInBounds_toArray, List.set_cons_zero, List.set_cons_succ]
  obtain ⟨v2, w9, hrun, hown9, hgr9, hat9⟩ := hap.out
  have ht9 : Turn W8 w9 (fun b => (Value.slice A' (D.c i).length cap').ownBlock = some b) := hS.trans (Turn.of_grown hgr9 fun _ h => h)
  have hv2 : ∃ A2 n2 cap2, v2 = .slice A2 n2 cap2 := by
    rcases hown9.2 with ⟨e, _⟩ | ⟨g, cap2, cur, e, _⟩
    · exact ⟨_, _, _, e⟩
    · exact ⟨_, _, _, e⟩
  obtain ⟨A2, n2, cap2, rfl⟩ := hv2
  have hat9H := Lib.hid hat9
  have hown9H := Lib.hid hown9
  clear hat9 hown9
  refine anyL_one 15 rfl (by kernel_rfl) (fun K hK => ?_)
  refine append_str_step rfl (.tmp 41) (.tmp 42) 45 9 rfl rfl rfl hrun ?_
  refine hK.out _ _ (fun _ => ht9) ?_
  clear hK K
  try simp only [Act.put, List.setIfInBounds_toArray, List.set_cons_zero, List.set_cons_succ]
  refine anyL_take 16 (v := ?_) rfl (by kernel_rfl) (fun _ _ _ h => h) (Or.inl ⟨by rfl, ?_⟩) ht9 ?_
  rotate_left
  focus (intro W hW; obtain ⟨f0, f1, f2, f3⟩ := hf.out W hW; go_simp; try with_reducible rfl)
  simp only [Act.put, List.setIfInBounds_toArray, List.set_cons_zero, List.set_cons_succ]
  refine anyL_one 17 rfl (by kernel_rfl) (fun K hK => ?_)
  obtain ⟨f0, f1, f2, f3⟩ := hf.out _ ht9
  go_simp
  refine hK.out _ _ (fun h => absurd h (by decide)) ?_
  clear hK K
  try simp only [Act.put, List.setIfInBounds_toArray, List.set_cons_zero, List.set_cons_succ]
  refine anyC_done (by kernel_rfl) ?_ _
  go_wp2
  go_ret3
  have hgr := hgr9
  rw [← hvH.out] at hgr
  have hat : (Value.slice A2 n2 cap2).ownBlock = none ∨ (Value.slice A2 n2 cap2).ownBlock = (B.v i).ownBlock ∨ ∃ b, (Value.slice A2 n2 cap2).ownBlock = some b ∧ W8.drew.heap.size ≤ b := by
    rcases hat9H.out with h | h
    · rw [← hvH.out] at h
      exact .inr (.inl h)
    · exact .inr (.inr ⟨_, h, Nat.le_refl _⟩)
  have h1 := (hXH.out.l.below (Below.refl _ _).drew).put_c (i := i) hic (v := .slice A2 n2 cap2) (x := D.c i ++ s.data.toList) hgr hown9H.out hat
  have hFs : ∀ b, (Value.slice A2 n2 cap2).ownBlock = some b → F b ∨ w.heap.size ≤ b := fun b hb => by
    rcases hat with h | h | ⟨b', h, hl⟩
    · rw [h] at hb; cases hb
    · rw [h] at hb; exact .inl (hGH.out b hb).2.2.2
    · rw [h] at hb
      injection hb with e
      have := hXH.out.t.size
      have e8 : W8.drew.heap.size = W8.heap.size := rfl
      exact .inr (by omega)
  have hF := hXH.out.i
  refine ⟨rfl, ⟨fun b => F b ∨ w.heap.size ≤ b, ⟨B.put i (.slice A2 n2 cap2), h1, ⟨.inl hF.d, .inl hF.g, .inl hF.z, .inl hF.c, .inl hF.l, fun j hj b hb => ?_⟩⟩, fun b hb => hb⟩, hXH.out.t.trans ((ht9.mono fun b _ hb => (hGH.out b (by rw [hvH.out]; exact hb)).2.2.2).trans (Turn.set _ hF.c _ _))⟩
  rw [B.put_v (by rw [hXH.out.l.vl]; exact hic)] at hb
  by_cases e : i = j
  · rw [if_pos e] at hb
    exact hFs b hb
  · rw [if_neg e] at hb
    exact .inl (hF.o j (by simpa using hj) b hb)
set_option maxRecDepth 100000 in
set_option maxHeartbeats 1000000 in
theorem exec_write2 (w : World) (F : Nat → Prop) (d : Nat) (D : Dr) (k a n : Int) (s : ByteArray) (h : DAt w F d D) (hok : D.Ok) (ha : a ≤ 9223372036854775807) (hF : ∀ b, F b → b < w.heap.size)
    (i : Nat) (hi : i < D.m.zs.length) (hev : (doM D.m k (i : Int) a n).2.1 = 0) (hk : k = 2) (hfit : fits k n s.size = true) :
    Calls Tryz.prog 105 #[.pointer (some ⟨d, 0, none⟩), .agg #[.int .i64 k, .int .i64 (i : Int), .int .i64 a, .int .i64 n], .string s] w (DoPost w F d (exec D k (i : Int) a n s.data.toList)) := by
  obtain ⟨B, h, hin⟩ := h
  have hfx : exec D k (i : Int) a n s.data.toList = (([], (doM D.m k (i : Int) a n).1, 0), ⟨D.m.with (doM D.m k (i : Int) a n).2.2, D.cs.set i (D.c i ++ s.data.toList), D.ls, D.dead⟩) := by
    unfold exec turned
    rw [if_pos hev, Int.toNat_natCast, if_neg (show ¬ k = 7 by omega), if_pos (show writesB k = true by rw [hk]; rfl), if_neg (show ¬ k = 3 by omega), if_neg (show ¬ k = 4 by omega)]
  rw [hfx]
  clear hfx
  have hz2 := hok.m.z2
  have hic : i < D.cs.length := by rw [hok.cl]; exact hi
  have hil : i < D.ls.length := by rw [hok.ll]; exact hi
  have hlcc := Lib.hid (show D.ls.length = D.cs.length by rw [hok.cl, hok.ll])
  have hcn : D.cs.length ≤ 64 := by rw [hok.cl]; exact hz2
  have hln : D.ls.length ≤ 64 := by rw [hok.ll]; exact hz2
  have hcz := hok.cz i hi
  have hzo := (hok.m.at_ hi)
  have hb2 := hok.m.b2
  have hsz : (D.c i).length + s.size ≤ 1048576 := by
    obtain ⟨h1, h2⟩ := doM_write D.m i k a n (by omega) hev
    have h3 : writesB k = true ∧ 0 ≤ n := ⟨by rw [hk]; rfl, by omega⟩
    unfold fits at hfit
    rw [if_pos h3] at hfit
    have h4 := of_decide_eq_true hfit
    unfold zOk at hzo
    omega
  have hdo := Lib.hid (fun W (hM : MAt W B.g B.z D.m) => do_any B.g B.z D.m k (i : Int) a n W hM hok.m ha)
  unfold CmdPost at hdo
  generalize (doM D.m k (i : Int) a n).2.1 = ev at *
  generalize (doM D.m k (i : Int) a n).1 = av at *
  generalize (doM D.m k (i : Int) a n).2.2 = zs at *
  subst hev
  have hX0 := Lib.hid (show ExW w (w.alloc (.cells #[.int .i64 k, .int .i64 (i : Int), .int .i64 a, .int .i64 n] 116)) F d B D k (i : Int) a n from ⟨h.below ((Below.refl _ _).alloc (Nat.le_refl _) _), hin, (Turn.refl _ _).trans (Turn.of_below ((Below.refl _ _).alloc (Nat.le_refl _) _) _), Bx.new w k (i : Int) a n _⟩)
  have hXz : w.heap.size ≠ B.z := by have := h.m.zl; omega
  have hXn : ¬ F w.heap.size := fun hf => by have := hF _ hf; omega
  clear h hin hok ha
  have hkH := Lib.hid hk
  clear hk
  go_enter Tryz.func105, Tryz.ntmps105
  go_wp2_with fail
  refine fresh_world (fun W => ExW w W F d B D k (i : Int) a n) hX0.out ?_
  intro W5 hX
  clear hX0
  have c0 := hX.l.c0
  have hdz := hX.l.dz
  have hf := Lib.hid (fun W (hW : Only W5 W B.z) => (⟨hW.cell c0 hdz, hW.cell hX.x.x0 hXz, hW.cell hX.x.x1 hXz, hW.cell hX.x.x2 hXz, hW.cell hX.x.x3 hXz⟩ : W.cell? ⟨d, 0, none⟩ = some (.pointer (some ⟨B.g, 0, none⟩)) ∧ W.cell? ⟨w.heap.size, 0, none⟩ = some (.int .i64 k) ∧ W.cell? ⟨w.heap.size, 1, none⟩ = some (.int .i64 (i : Int)) ∧ W.cell? ⟨w.heap.size, 2, none⟩ = some (.int .i64 a) ∧ W.cell? ⟨w.heap.size, 3, none⟩ = some (.int .i64 n)))
  have hXH := Lib.hid hX
  clear hX c0
  refine region_anyC (fun _ => true) (fun W => Only W5 W B.z) (by kernel_rfl) ?_
  have hS5 : Only W5 W5.drew B.z := (Only.refl _ _).drew
  refine anyL_take 0 (v := ?_) rfl (by kernel_rfl) (fun _ _ _ h => h) (Or.inl ⟨by rfl, ?_⟩) hS5 ?_
  rotate_left
  focus (intro W hW; go_simp; try with_reducible rfl)
  simp only [Act.put, List.setIfInBounds_toArray, List.set_cons_zero, List.set_cons_succ]
  refine anyL_take 1 (v := ?_) rfl (by kernel_rfl) (fun _ _ _ h => h) (Or.inl ⟨by rfl, ?_⟩) hS5 ?_
  rotate_left
  focus (intro W hW; go_simp; try with_reducible rfl)
  simp only [Act.put, List.setIfInBounds_toArray, List.set_cons_zero, List.set_cons_succ]
  refine anyL_take 2 (v := ?_) rfl (by kernel_rfl) (fun _ _ _ h => h) (Or.inl ⟨by rfl, ?_⟩) hS5 ?_
  rotate_left
  focus (intro W hW; go_simp; try with_reducible rfl)
  simp only [Act.put, List.setIfInBounds_toArray, List.set_cons_zero, List.set_cons_succ]
  refine anyL_take 3 (v := ?_) rfl (by kernel_rfl) (fun _ _ _ h => h) (Or.inl ⟨by rfl, ?_⟩) hS5 ?_
  rotate_left
  focus (intro W hW; obtain ⟨f0, f1, f2, f3, f4⟩ := hf.out W hW; go_simp; try with_reducible rfl)
  simp only [Act.put, List.setIfInBounds_toArray, List.set_cons_zero, List.set_cons_succ]
  refine anyL_take 4 (v := ?_) rfl (by kernel_rfl) (fun _ _ _ h => h) (Or.inl ⟨by rfl, ?_⟩) hS5 ?_
  rotate_left
  focus (intro W hW; obtain ⟨f0, f1, f2, f3, f4⟩ := hf.out W hW; go_simp; try with_reducible rfl)
  simp only [Act.put, List.setIfInBounds_toArray, List.set_cons_zero, List.set_cons_succ]
  refine anyL_one 5 rfl (by kernel_rfl) (fun K hK => ?_)
  go_simp
  refine (hdo.out _ (hXH.out.l.m.below (Below.refl _ _).drew)).mono ?_
  rintro e' w7 ⟨rfl, hM7, ho7⟩
  have ho8 := hS5.trans ho7
  dsimp only
  refine hK.out _ _ (fun _ => ho8) ?_
  clear hK K
  try simp only [Act.put, List.setIfInBounds_toArray, List.set_cons_zero, List.set_cons_succ]
  refine anyL_take 6 (v := ?_) rfl (by kernel_rfl) (fun _ _ _ h => h) (Or.inl ⟨by rfl, ?_⟩) ho8 ?_
  rotate_left
  focus (intro W hW; go_simp; try with_reducible rfl)
  simp only [Act.put, List.setIfInBounds_toArray, List.set_cons_zero, List.set_cons_succ]
  refine anyL_take 7 (v := ?_) rfl (by kernel_rfl) (fun _ _ _ h => h) (Or.inl ⟨by rfl, ?_⟩) ho8 ?_
  rotate_left
  focus (intro W hW; go_simp; try with_reducible rfl)
  simp only [Act.put, List.setIfInBounds_toArray, List.set_cons_zero, List.set_cons_succ]
  refine anyL_take 8 (v := ?_) rfl (by kernel_rfl) (fun _ _ _ h => h) (Or.inl ⟨by rfl, ?_⟩) ho8 ?_
  rotate_left
  focus (intro W hW; go_simp; try with_reducible rfl)
  simp only [Act.put, List.setIfInBounds_toArray, List.set_cons_zero, List.set_cons_succ]
  refine anyL_take 9 (v := ?_) rfl (by kernel_rfl) (fun _ _ _ h => h) (Or.inl ⟨by rfl, ?_⟩) ho8 ?_
  rotate_left
  focus (intro W hW; go_simp; try with_reducible rfl)
  simp only [Act.put, List.setIfInBounds_toArray, List.set_cons_zero, List.set_cons_succ]
  refine anyL_take 10 (v := ?_) rfl (by kernel_rfl) (fun _ _ _ h => h) (Or.inl ⟨by rfl, ?_⟩) ho8 ?_
  rotate_left
  focus (intro W hW; go_simp; try with_reducible rfl)
  simp only [Act.put, List.setIfInBounds_toArray, List.set_cons_zero, List.set_cons_succ]
  refine anyC_done (by kernel_rfl) ?_ _
  refine fresh_K (fun W => ExW w W F d B { D with m := D.m.with zs } k (i : Int) a n) ⟨(hXH.out.l).machine ho8 hM7, hXH.out.i, hXH.out.t.trans (Turn.of_only ho8 hXH.out.i.z), hXH.out.x.turn (F := fun b => b = B.z) (Turn.of_only ho8 rfl) hXz⟩ ?_
  clear hM7 ho8 ho7 hS5 hXH hf hdo
  intro W8 hX
  have x0 := hX.x.x0
  rw [hkH.out] at x0
  have hown := hX.l.own i hic
  have hv : ∃ A' cap', B.v i = .slice A' (D.c i).length cap' := by
    rcases hown.2 with ⟨e, e2⟩ | ⟨g, cap', cur, e, _⟩
    · exact ⟨none, 0, by rw [e]; show _ = Value.slice none (D.c i).length 0; rw [show (D.c i).length = 0 from e2]⟩
    · exact ⟨_, cap', e⟩
  obtain ⟨A', cap', hv⟩ := hv
  have hG : ∀ b, (B.v i).ownBlock = some b → b ≠ d ∧ b ≠ B.c ∧ b ≠ w.heap.size ∧ F b := fun b hb => by
    have h1 := hX.l.od i hic b hb
    have h2 := hX.i.o i hic b hb
    exact ⟨h1.1, h1.2.2.2.1, fun e => hXn (e ▸ h2), h2⟩
  have hap := Lib.hid (text_append W8.drew 45 (B.v i) (D.c i) (hown.drew) s hsz)
  have c1 := hX.l.c1
  have r1 := hX.l.row i hic
  have hMc := hX.l.lc
  have hf := Lib.hid (fun W (hW : Turn W8 W (fun b => (B.v i).ownBlock = some b)) => (⟨hW.cell c1 (fun h => (hG _ h).1 rfl), hW.cell hX.x.x1 (fun h => (hG _ h).2.2.1 rfl), hW.cell r1.1 (fun h => (hG _ h).2.1 rfl), (same_frozen (hW.block _ hMc (fun h => (hG _ h).2.1 rfl))).trans r1.2⟩ : W.cell? ⟨d, 1, none⟩ = some (.slice (some ⟨B.c, 0, none⟩) D.cs.length D.cs.length) ∧ W.cell? ⟨w.heap.size, 1, none⟩ = some (.int .i64 (i : Int)) ∧ W.cell? ⟨B.c, i, none⟩ = some (B.v i) ∧ W.frozen? ⟨B.c, i, none⟩ = false))
  rw [hv] at hf hap
  have hvH := Lib.hid hv
  have hGH := Lib.hid hG
  have hXH := Lib.hid hX
  have hGn : (fun b => (B.v i).ownBlock = some b) = (fun b => (Value.slice A' (D.c i).length cap').ownBlock = some b) := by rw [hv]
  have hGnH := Lib.hid hGn
  clear hX hown hG c1 r1 hv hGn hsz hfit hcz hzo
  go_wp2_with fail
  refine region_anyC (fun i => i != 17) (fun W => Turn W8 W (fun b => (Value.slice A' (D.c i).length cap').ownBlock = some b)) (by kernel_rfl) ?_
  have hS : Turn W8 W8.drew (fun b => (Value.slice A' (D.c i).length cap').ownBlock = some b) := Turn.of_below (Below.refl _ _).drew _
  refine anyL_take 0 (v := ?_) rfl (by kernel_rfl) (fun _ _ _ h => h) (Or.inl ⟨by rfl, ?_⟩) hS ?_
  rotate_left
  focus (intro W hW; go_simp; try with_reducible rfl)
  simp only [Act.put, List.setIfInBounds_toArray, List.set_cons_zero, List.set_cons_succ]
  refine anyL_take 1 (v := ?_) rfl (by kernel_rfl) (fun _ _ _ h => h) (Or.inl ⟨by rfl, ?_⟩) hS ?_
  rotate_left
  focus (intro W hW; go_simp; try with_reducible rfl)
  simp only [Act.put, List.setIfInBounds_toArray, List.set_cons_zero, List.set_cons_succ]
  refine anyL_take 2 (v := ?_) rfl (by kernel_rfl) (fun _ _ _ h => h) (Or.inl ⟨by rfl, ?_⟩) hS ?_
  rotate_left
  focus (intro W hW; go_simp; try with_reducible rfl)
  simp only [Act.put, List.setIfInBounds_toArray, List.set_cons_zero, List.set_cons_succ]
  refine anyL_take 3 (v := ?_) rfl (by kernel_rfl) (fun _ _ _ h => h) (Or.inl ⟨by rfl, ?_⟩) hS ?_
  rotate_left
  focus (intro W hW; obtain ⟨f0, f1, f2, f3⟩ := hf.out W hW; go_simp; try with_reducible rfl)
  simp only [Act.put, List.setIfInBounds_toArray, List.set_cons_zero, List.set_cons_succ]
  refine anyL_take 4 (v := ?_) rfl (by kernel_rfl) (fun _ _ _ h => h) (Or.inl ⟨by rfl, ?_⟩) hS ?_
  rotate_left
  focus (intro W hW; go_simp; try with_reducible rfl)
  simp only [Act.put, List.setIfInBounds_toArray, List.set_cons_zero, List.set_cons_succ]
  refine anyL_take 5 (v := ?_) rfl (by kernel_rfl) (fun _ _ _ h => h) (Or.inl ⟨by rfl, ?_⟩) hS ?_
  rotate_left
  focus (intro W hW; obtain ⟨f0, f1, f2, f3⟩ := hf.out W hW; go_simp; try with_reducible rfl)
  simp only [Act.put, List.setIfInBounds_toArray, List.set_cons_zero, List.set_cons_succ]
  refine anyL_take 6 (v := ?_) rfl (by kernel_rfl) (fun _ _ _ h => h) (Or.inl ⟨by rfl, ?_⟩) hS ?_
  rotate_left
  focus (intro W hW; go_simp; try with_reducible rfl)
  simp only [Act.put, List.setIfInBounds_toArray, List.set_cons_zero, List.set_cons_succ]
  refine anyL_take 7 (v := ?_) rfl (by kernel_rfl) (fun _ _ _ h => h) (Or.inl ⟨by rfl, ?_⟩) hS ?_
  rotate_left
  focus (intro W hW; go_simp; try with_reducible rfl)
  simp only [Act.put, List.setIfInBounds_toArray, List.set_cons_zero, List.set_cons_succ]
  refine anyL_take 8 (v := ?_) rfl (by kernel_rfl) (fun _ _ _ h => h) (Or.inl ⟨by rfl, ?_⟩) hS ?_
  rotate_left
  focus (intro W hW; go_simp; try with_reducible rfl)
  simp only [Act.put, List.setIfInBounds_toArray, List.set_cons_zero, List.set_cons_succ]
  refine anyL_take 9 (v := ?_) rfl (by kernel_rfl) (fun _ _ _ h => h) (Or.inl ⟨by rfl, ?_⟩) hS ?_
  rotate_left
  focus (intro W hW; obtain ⟨f0, f1, f2, f3⟩ := hf.out W hW; go_simp; try with_reducible rfl)
  simp only [Act.put, List.setIfInBounds_toArray, List.set_cons_zero, List.set_cons_succ]
  refine anyL_take 10 (v := ?_) rfl (by kernel_rfl) (fun _ _ _ h => h) (Or.inl ⟨by rfl, ?_⟩) hS ?_
  rotate_left
  focus (intro W hW; go_simp; try with_reducible rfl)
  simp only [Act.put, List.setIfInBounds_toArray, List.set_cons_zero, List.set_cons_succ]
  refine anyL_take 11 (v := ?_) rfl (by kernel_rfl) (fun _ _ _ h => h) (Or.inl ⟨by rfl, ?_⟩) hS ?_
  rotate_left
  focus (intro W hW; obtain ⟨f0, f1, f2, f3⟩ := hf.out W hW; go_simp; try with_reducible rfl)
  simp only [Act.put, List.setIfInBounds_toArray, List.set_cons_zero, List.set_cons_succ]
  refine anyL_take 12 (v := ?_) rfl (by kernel_rfl) (fun _ _ _ h => h) (Or.inl ⟨by rfl, ?_⟩) hS ?_
  rotate_left
  focus (intro W hW; go_simp; try with_reducible rfl)
  simp only [Act.put, List.setIfInBounds_toArray, List.set_cons_zero, List.set_cons_succ]
  refine anyL_take 13 (v := ?_) rfl (by kernel_rfl) (fun _ _ _ h => h) (Or.inl ⟨by rfl, ?_⟩) hS ?_
  rotate_left
  focus (intro W hW; obtain ⟨f0, f1, f2, f3⟩ := hf.out W hW; go_simp; try with_reducible rfl)
  simp only [Act.put, List.setIfInBounds_toArray, List.set_cons_zero, List.set_cons_succ]
  refine anyL_take 14 (v := ?_) rfl (by kernel_rfl) (fun _ _ _ h => h) (Or.inl ⟨by rfl, ?_⟩) hS ?_
  rotate_left
  focus (intro W hW; go_simp; try with_reducible rfl)
  simp only [Act.put, List.setIfInBounds_toArray, List.set_cons_zero, List.set_cons_succ]
  obtain ⟨v2, w9, hrun, hown9, hgr9, hat9⟩ := hap.out
  have ht9 : Turn W8 w9 (fun b => (Value.slice A' (D.c i).length cap').ownBlock = some b) := hS.trans (Turn.of_grown hgr9 fun _ h => h)
  have hv2 : ∃ A2 n2 cap2, v2 = .slice A2 n2 cap2 := by
    rcases hown9.2 with ⟨e, _⟩ | ⟨g, cap2, cur, e, _⟩
    · exact ⟨_, _, _, e⟩
    · exact ⟨_, _, _, e⟩
  obtain ⟨A2, n2, cap2, rfl⟩ := hv2
  have hat9H := Lib.hid hat9
  have hown9H := Lib.hid hown9
  clear hat9 hown9
  refine anyL_one 15 rfl (by kernel_rfl) (fun K hK => ?_)
  refine append_str_step rfl (.tmp 41) (.tmp 42) 45 9 rfl rfl rfl hrun ?_
  refine hK.out _ _ (fun _ => ht9) ?_
  clear hK K
  try simp only [Act.put, List.setIfInBounds_toArray, List.set_cons_zero, List.set_cons_succ]
  refine anyL_take 16 (v := ?_) rfl (by kernel_rfl) (fun _ _ _ h => h) (Or.inl ⟨by rfl, ?_⟩) ht9 ?_
  rotate_left
  focus (intro W hW; obtain ⟨f0, f1, f2, f3⟩ := hf.out W hW; go_simp; try with_reducible rfl)
  simp only [Act.put, List.setIfInBounds_toArray, List.set_cons_zero, List.set_cons_succ]
  refine anyL_one 17 rfl (by kernel_rfl) (fun K hK => ?_)
  obtain ⟨f0, f1, f2, f3⟩ := hf.out _ ht9
  go_simp
  refine hK.out _ _ (fun h => absurd h (by decide)) ?_
  clear hK K
  try simp only [Act.put, List.setIfInBounds_toArray, List.set_cons_zero, List.set_cons_succ]
  refine anyC_done (by kernel_rfl) ?_ _
  go_wp2
  go_ret3
  have hgr := hgr9
  rw [← hvH.out] at hgr
  have hat : (Value.slice A2 n2 cap2).ownBlock = none ∨ (Value.slice A2 n2 cap2).ownBlock = (B.v i).ownBlock ∨ ∃ b, (Value.slice A2 n2 cap2).ownBlock = some b ∧ W8.drew.heap.size ≤ b := by
    rcases hat9H.out with h | h
    · rw [← hvH.out] at h
      exact .inr (.inl h)
    · exact .inr (.inr ⟨_, h, Nat.le_refl _⟩)
  have h1 := (hXH.out.l.below (Below.refl _ _).drew).put_c (i := i) hic (v := .slice A2 n2 cap2) (x := D.c i ++ s.data.toList) hgr hown9H.out hat
  have hFs : ∀ b, (Value.slice A2 n2 cap2).ownBlock = some b → F b ∨ w.heap.size ≤ b := fun b hb => by
    rcases hat with h | h | ⟨b', h, hl⟩
    · rw [h] at hb; cases hb
    · rw [h] at hb; exact .inl (hGH.out b hb).2.2.2
    · rw [h] at hb
      injection hb with e
      have := hXH.out.t.size
      have e8 : W8.drew.heap.size = W8.heap.size := rfl
      exact .inr (by omega)
  have hF := hXH.out.i
  refine ⟨rfl, ⟨fun b => F b ∨ w.heap.size ≤ b, ⟨B.put i (.slice A2 n2 cap2), h1, ⟨.inl hF.d, .inl hF.g, .inl hF.z, .inl hF.c, .inl hF.l, fun j hj b hb => ?_⟩⟩, fun b hb => hb⟩, hXH.out.t.trans ((ht9.mono fun b _ hb => (hGH.out b (by rw [hvH.out]; exact hb)).2.2.2).trans (Turn.set _ hF.c _ _))⟩
  rw [B.put_v (by rw [hXH.out.l.vl]; exact hic)] at hb
  by_cases e : i = j
  · rw [if_pos e] at hb
    exact hFs b hb
  · rw [if_neg e] at hb
    exact .inl (hF.o j (by simpa using hj) b hb)
theorem doM_ok (m : Mc) (k zz a n : Int) (h : (doM m k zz a n).2.1 = 0) : 1 ≤ k ∧ k ≤ 7 ∧ 0 ≤ zz ∧ zz < m.zs.length := by
  unfold doM at h
  split at h
  · cases h
  rename_i h1
  split at h
  · cases h
  rename_i h2
  have h3 := Zon.hasB_iff.1 (show hasB m zz = true by simpa using h2)
  omega
theorem exec_any (w : World) (F : Nat → Prop) (d : Nat) (D : Dr) (k zz a n : Int) (s : ByteArray) (h : DAt w F d D) (hok : D.Ok) (ha : a ≤ 9223372036854775807) (hF : ∀ b, F b → b < w.heap.size) (hfit : fits k n s.size = true) :
    Calls Tryz.prog 105 #[.pointer (some ⟨d, 0, none⟩), .agg #[.int .i64 k, .int .i64 zz, .int .i64 a, .int .i64 n], .string s] w (DoPost w F d (exec D k zz a n s.data.toList)) := by
  by_cases hev : (doM D.m k zz a n).2.1 = 0
  · obtain ⟨h1, h2, h3, h4⟩ := doM_ok D.m k zz a n hev
    obtain ⟨i, rfl⟩ := Int.eq_ofNat_of_zero_le h3
    have hi : i < D.m.zs.length := by omega
    rcases (by omega : k = 1 ∨ k = 2 ∨ k = 3 ∨ k = 4 ∨ (k = 5 ∨ k = 6) ∨ k = 7) with hk | hk | hk | hk | hk | hk
    · exact exec_write1 w F d D k a n s h hok ha hF i hi hev hk hfit
    · exact exec_write2 w F d D k a n s h hok ha hF i hi hev hk hfit
    · exact exec_reset w F d D k a n s h hok ha hF i hi hev hk
    · exact exec_finish w F d D k a n s h hok ha hF i hi hev hk
    · exact exec_other w F d D k a n s h hok ha hF i hi hev hk
    · exact exec_read w F d D k a n s h hok ha hF i hi hev hk
  · exact exec_refused w F d D k zz a n s h hok ha hF hev
end Go.Proofs.YtpmhfalhieinjaaGreatDoor
