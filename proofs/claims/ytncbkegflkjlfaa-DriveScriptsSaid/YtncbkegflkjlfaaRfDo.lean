/- What the document's Do of a drive does. -/
import Derived.Test.YtncbkegflkjlfaaRfFlush
import Derived.Test.YtncbkegflkjlfaaDrvExec
import Derived.Test.YtncbkegflkjlfaaZonRDoA
namespace Go.Proofs.Ytncbkegflkjlfaa
open Go.RowKit Zon Drv

/-- What a command leaves. -/
def RDoPost (w : World) (F : Nat → Prop) (d : Nat) (r : (List UInt8 × Int × Int) × Dr) (e : Ending) (w' : World) : Prop :=
  e = .returned (.tuple #[.string ⟨r.1.1.toArray⟩, .int .i64 r.1.2.1, .int .i64 r.1.2.2]) ∧ (∃ F', RAt w' F' d r.2 ∧ ∀ b, F' b → F b ∨ w.heap.size ≤ b) ∧ Turn w w' F
/-- A drive and the command's box, behind the machine's turn. -/
structure RxW (w W : World) (F : Nat → Prop) (d : Nat) (B : Blk) (D : Dr) (k zz a n : Int) : Prop where
  l : RLies W d B D
  i : RLies.In F d B D.cs.length
  t : Turn w W F
  x : Bx w W w.heap.size k zz a n
theorem RxW.below {w W W' : World} {F : Nat → Prop} {d : Nat} {B : Blk} {D : Dr} {k zz a n : Int} (h : RxW w W F d B D k zz a n) (hb : Below W.heap.size W W') : RxW w W' F d B D k zz a n :=
  ⟨h.l.below hb, h.i, h.t.trans (Turn.of_below hb _), h.x.turn (F := fun _ => False) (Turn.of_below hb _) id⟩
/-- How the length of the data is met. -/
theorem fits_cases {k n : Int} {l : Nat} (h : fits k n l = true) (hl : l ≤ 1000000) : ((k == 1) = true ∧ 0 < n ∧ n ≤ 1000000 ∧ (l : Int) = 64 * n) ∨ ((k == 1) = false ∧ (k == 2) = true ∧ 0 < n ∧ n ≤ 1000000 ∧ (l : Int) = 64 * n) ∨
    ((k == 1) = true ∧ n ≤ 0 ∧ (l : Int) = 0) ∨ ((k == 1) = false ∧ (k == 2) = true ∧ n ≤ 0 ∧ (l : Int) = 0) ∨ ((k == 1) = false ∧ (k == 2) = false ∧ (l : Int) = 0) := by
  unfold fits writesB at h
  cases h1 : (k == 1) <;> cases h2 : (k == 2) <;> rw [h1, h2] at h <;> by_cases h3 : 0 ≤ n <;> simp [h3] at h <;> simp <;> omega
theorem fits_not {k n : Int} {l : Nat} (h : fits k n l = false) : ((k == 1) = true ∧ 0 < n ∧ n ≤ 1073741824 ∧ ¬ (l : Int) = 64 * n) ∨ ((k == 1) = false ∧ (k == 2) = true ∧ 0 < n ∧ n ≤ 1073741824 ∧ ¬ (l : Int) = 64 * n) ∨
    ((k == 1) = true ∧ n ≤ 0 ∧ ¬ (l : Int) = 0) ∨ ((k == 1) = false ∧ (k == 2) = true ∧ n ≤ 0 ∧ ¬ (l : Int) = 0) ∨ ((k == 1) = false ∧ (k == 2) = false ∧ ¬ (l : Int) = 0) ∨ ((k == 1) = true ∧ 1073741824 < n) ∨ ((k == 1) = false ∧ (k == 2) = true ∧ 1073741824 < n) := by
  unfold fits writesB at h
  cases h1 : (k == 1) <;> cases h2 : (k == 2) <;> rw [h1, h2] at h <;> by_cases h3 : 0 ≤ n <;> simp [h3] at h <;> simp <;> omega
set_option maxRecDepth 100000 in
theorem rdo7_dead (w : World) (F : Nat → Prop) (d : Nat) (D : Dr) (k zz a n : Int) (s : ByteArray) (h : RAt w F d D) (hd : D.dead = true) :
    Calls Try.prog 22 #[.pointer (some ⟨d, 0, none⟩), .agg #[.int .i64 k, .int .i64 zz, .int .i64 a, .int .i64 n], .string s] w (RDoPost w F d (([], 0, 7), D)) := by
  obtain ⟨B, h, hin⟩ := h
  have c3 := h.c3
  rw [hd] at c3
  have hdl := h.dlt
  have hb : Below w.heap.size w (w.alloc (.cells #[.int .i64 k, .int .i64 zz, .int .i64 a, .int .i64 n] 49)) := (Below.refl _ _).alloc (Nat.le_refl _) _
  have hH := Lib.hid (show RAt (w.alloc (.cells #[.int .i64 k, .int .i64 zz, .int .i64 a, .int .i64 n] 49)) F d D from ⟨B, h.below hb, hin⟩)
  have hbH := Lib.hid hb
  clear h hin hd hb
  go_enter Try.func22, Try.ntmps22
  go_wp2
  go_ret3
  exact ⟨rfl, ⟨F, hH.out, fun b hb => .inl hb⟩, Turn.of_below hbH.out F⟩
set_option maxRecDepth 100000 in
set_option maxHeartbeats 1000000 in
theorem rdo7_unfit (w : World) (F : Nat → Prop) (d : Nat) (D : Dr) (k zz a n : Int) (s : ByteArray) (h : RAt w F d D) (hd : D.dead = false) (hfit : fits k n s.size = false) :
    Calls Try.prog 22 #[.pointer (some ⟨d, 0, none⟩), .agg #[.int .i64 k, .int .i64 zz, .int .i64 a, .int .i64 n], .string s] w (RDoPost w F d (([], 0, 1), D)) := by
  obtain ⟨B, h, hin⟩ := h
  have c3 := h.c3
  rw [hd] at c3
  have hdl := h.dlt
  have hb : Below w.heap.size w (w.alloc (.cells #[.int .i64 k, .int .i64 zz, .int .i64 a, .int .i64 n] 49)) := (Below.refl _ _).alloc (Nat.le_refl _) _
  have hH := Lib.hid (show RAt (w.alloc (.cells #[.int .i64 k, .int .i64 zz, .int .i64 a, .int .i64 n] 49)) F d D from ⟨B, h.below hb, hin⟩)
  have hbH := Lib.hid hb
  clear h hin hd hb
  rcases fits_not hfit with ⟨k1, n1, n2, hsz⟩ | ⟨k1, k2, n1, n2, hsz⟩ | ⟨k1, n1, hsz⟩ | ⟨k1, k2, n1, hsz⟩ | ⟨k1, k2, hsz⟩ | ⟨k1, n1⟩ | ⟨k1, k2, n1⟩
  all_goals
    clear hfit
    go_enter Try.func22, Try.ntmps22
    go_wp2
    go_ret3
    exact ⟨rfl, ⟨F, hH.out, fun b hb => .inl hb⟩, Turn.of_below hbH.out F⟩

set_option maxRecDepth 100000 in
set_option maxHeartbeats 1000000 in
theorem rdo7_refused (w : World) (F : Nat → Prop) (d : Nat) (D : Dr) (k zz a n : Int) (s : ByteArray) (h : RAt w F d D) (hok : D.Ok) (hd : D.dead = false) (hF : ∀ b, F b → b < w.heap.size) (hfit : fits k n s.size = true) (hsl : s.size ≤ 1000000)
    (hev : (doM D.m k zz a n).2.1 ≠ 0) :
    Calls Try.prog 22 #[.pointer (some ⟨d, 0, none⟩), .agg #[.int .i64 k, .int .i64 zz, .int .i64 a, .int .i64 n], .string s] w (RDoPost w F d (exec D k zz a n s.data.toList)) := by
  obtain ⟨B, h, hin⟩ := h
  have c3 := h.c3
  rw [hd] at c3
  have hdl := h.dlt
  have hzs := (doM_refused D.m k zz a n).resolve_left hev
  unfold exec
  rw [if_neg hev]
  have hdo := Lib.hid (fun W (hM : MAt W B.g B.z D.m) => rdo_any B.g B.z D.m k zz a n W hM hok.m)
  unfold CmdPost at hdo
  generalize (doM D.m k zz a n).2.1 = ev at *
  generalize (doM D.m k zz a n).1 = av at *
  generalize (doM D.m k zz a n).2.2 = zs at *
  have hzsH := hzs
  clear hzs
  have hzs := Lib.hid hzsH
  clear hzsH
  have hev' : (ev != 0) = true := by simp [hev]
  rcases fits_cases hfit hsl with ⟨k1, n1, n2, hsz⟩ | ⟨k1, k2, n1, n2, hsz⟩ | ⟨k1, n1, hsz⟩ | ⟨k1, k2, n1, hsz⟩ | ⟨k1, k2, hsz⟩
  all_goals
    have hX0 := Lib.hid (show RxW w (w.alloc (.cells #[.int .i64 k, .int .i64 zz, .int .i64 a, .int .i64 n] 49)) F d B D k zz a n from ⟨h.below ((Below.refl _ _).alloc (Nat.le_refl _) _), hin, (Turn.refl _ _).trans (Turn.of_below ((Below.refl _ _).alloc (Nat.le_refl _) _) _), Bx.new w k zz a n _⟩)
    have hXz : w.heap.size ≠ B.z := by have := h.m.zl; omega
    have hXn : ¬ F w.heap.size := fun hf => by have := hF _ hf; omega
    clear h hin hok hfit hd hsl
    go_enter Try.func22, Try.ntmps22
    go_wp2_with fail
    refine fresh_world (fun W => RxW w W F d B D k zz a n) hX0.out ?_
    intro W5 hX
    clear hX0 c3
    have c0 := hX.l.c0
    have hdz := hX.l.dz
    have hf := Lib.hid (fun W (hW : Only W5 W B.z) => (⟨hW.cell c0 hdz, hW.cell hX.x.x0 hXz, hW.cell hX.x.x1 hXz, hW.cell hX.x.x2 hXz, hW.cell hX.x.x3 hXz⟩ : W.cell? ⟨d, 0, none⟩ = some (.pointer (some ⟨B.g, 0, none⟩)) ∧ W.cell? ⟨w.heap.size, 0, none⟩ = some (.int .i64 k) ∧ W.cell? ⟨w.heap.size, 1, none⟩ = some (.int .i64 zz) ∧ W.cell? ⟨w.heap.size, 2, none⟩ = some (.int .i64 a) ∧ W.cell? ⟨w.heap.size, 3, none⟩ = some (.int .i64 n)))
    have hXH := Lib.hid hX
    clear hX c0
    refine region_anyC (fun _ => true) (fun W => Only W5 W B.z) (by kernel_rfl) ?_
    have hS5 : Only W5 W5.drew B.z := (Only.refl _ _).drew
    refine anyL_take 0 (v := ?_) rfl (by kernel_rfl) (fun _ _ _ h => h) (Or.inl ⟨by rfl, ?_⟩) hS5 ?_
    rotate_left
    focus (intro W hW; go_simp; try with_reducible rfl)
    simp only [Act.put, List.setIfInBounds_toArray, List.set_cons_zero, List.set_cons_succ]
    refine anyL_take 1 (v := ?_) rfl (by kernel_rfl) (fun _ _ _ h => h) (Or.inl ⟨by rfl, ?_⟩) hS5 ?_
    rotate_left
    focus (intro W hW; go_simp; try with_reducible rfl)
    simp only [Act.put, List.setIfInBounds_toArray, List.set_cons_zero, List.set_cons_succ]
    refine anyL_take 2 (v := ?_) rfl (by kernel_rfl) (fun _ _ _ h => h) (Or.inl ⟨by rfl, ?_⟩) hS5 ?_
    rotate_left
    focus (intro W hW; go_simp; try with_reducible rfl)
    simp only [Act.put, List.setIfInBounds_toArray, List.set_cons_zero, List.set_cons_succ]
    refine anyL_take 3 (v := ?_) rfl (by kernel_rfl) (fun _ _ _ h => h) (Or.inl ⟨by rfl, ?_⟩) hS5 ?_
    rotate_left
    focus (intro W hW; obtain ⟨f0, f1, f2, f3, f4⟩ := hf.out W hW; go_simp; try with_reducible rfl)
    simp only [Act.put, List.setIfInBounds_toArray, List.set_cons_zero, List.set_cons_succ]
    refine anyL_take 4 (v := ?_) rfl (by kernel_rfl) (fun _ _ _ h => h) (Or.inl ⟨by rfl, ?_⟩) hS5 ?_
    rotate_left
    focus (intro W hW; obtain ⟨f0, f1, f2, f3, f4⟩ := hf.out W hW; go_simp; try with_reducible rfl)
    simp only [Act.put, List.setIfInBounds_toArray, List.set_cons_zero, List.set_cons_succ]
    refine anyL_one 5 rfl (by kernel_rfl) (fun K hK => ?_)
    go_simp
    refine (hdo.out _ (hXH.out.l.m.below (Below.refl _ _).drew)).mono ?_
    rintro e' w7 ⟨rfl, hM7, ho7⟩
    have ho8 := hS5.trans ho7
    dsimp only
    refine hK.out _ _ (fun _ => ho8) ?_
    clear hK K
    try simp only [Act.put, List.setIfInBounds_toArray, List.set_cons_zero, List.set_cons_succ]
    refine anyL_take 6 (v := ?_) rfl (by kernel_rfl) (fun _ _ _ h => h) (Or.inl ⟨by rfl, ?_⟩) ho8 ?_
    rotate_left
    focus (intro W hW; go_simp; try with_reducible rfl)
    simp only [Act.put, List.setIfInBounds_toArray, List.set_cons_zero, List.set_cons_succ]
    refine anyL_take 7 (v := ?_) rfl (by kernel_rfl) (fun _ _ _ h => h) (Or.inl ⟨by rfl, ?_⟩) ho8 ?_
    rotate_left
    focus (intro W hW; go_simp; try with_reducible rfl)
    simp only [Act.put, List.setIfInBounds_toArray, List.set_cons_zero, List.set_cons_succ]
    refine anyL_take 8 (v := ?_) rfl (by kernel_rfl) (fun _ _ _ h => h) (Or.inl ⟨by rfl, ?_⟩) ho8 ?_
    rotate_left
    focus (intro W hW; go_simp; try with_reducible rfl)
    simp only [Act.put, List.setIfInBounds_toArray, List.set_cons_zero, List.set_cons_succ]
    refine anyL_take 9 (v := ?_) rfl (by kernel_rfl) (fun _ _ _ h => h) (Or.inl ⟨by rfl, ?_⟩) ho8 ?_
    rotate_left
    focus (intro W hW; go_simp; try with_reducible rfl)
    simp only [Act.put, List.setIfInBounds_toArray, List.set_cons_zero, List.set_cons_succ]
    refine anyL_take 10 (v := ?_) rfl (by kernel_rfl) (fun _ _ _ h => h) (Or.inl ⟨by rfl, ?_⟩) ho8 ?_
    rotate_left
    focus (intro W hW; go_simp; try with_reducible rfl)
    simp only [Act.put, List.setIfInBounds_toArray, List.set_cons_zero, List.set_cons_succ]
    refine anyC_done (by kernel_rfl) ?_ _
    go_wp2
    go_ret3
    refine ⟨rfl, ⟨F, ⟨B, ?_, hXH.out.i⟩, fun b hb => .inl hb⟩, hXH.out.t.trans (Turn.of_only ho8 hXH.out.i.z)⟩
    have h9 := (hXH.out.l).machine ho8 hM7
    rw [hzs.out] at h9
    exact h9

set_option maxRecDepth 100000 in
set_option maxHeartbeats 1000000 in
theorem rdo7_other (w : World) (F : Nat → Prop) (d : Nat) (D : Dr) (k a n : Int) (s : ByteArray) (h : RAt w F d D) (hok : D.Ok) (hd : D.dead = false) (hF : ∀ b, F b → b < w.heap.size) (hfit : fits k n s.size = true) (hsl : s.size ≤ 1000000)
    (i : Nat) (hi : i < D.m.zs.length) (hev : (doM D.m k (i : Int) a n).2.1 = 0) (hk : k = 5 ∨ k = 6) :
    Calls Try.prog 22 #[.pointer (some ⟨d, 0, none⟩), .agg #[.int .i64 k, .int .i64 (i : Int), .int .i64 a, .int .i64 n], .string s] w (RDoPost w F d (exec D k (i : Int) a n s.data.toList)) := by
  obtain ⟨B, h, hin⟩ := h
  have c3 := h.c3
  rw [hd] at c3
  have hdl := h.dlt
  have hfx : exec D k (i : Int) a n s.data.toList = (([], (doM D.m k (i : Int) a n).1, 0), { D with m := D.m.with (doM D.m k (i : Int) a n).2.2 }) := by
    unfold exec turned
    rw [if_pos hev, Int.toNat_natCast, if_neg (show ¬ k = 7 by omega), if_neg (show ¬ writesB k = true by unfold writesB; simp; omega), if_neg (show ¬ k = 3 by omega), if_neg (show ¬ k = 3 by omega), if_neg (show ¬ k = 4 by omega)]
  rw [hfx]
  clear hfx
  have hz2 := hok.m.z2
  have hic : i < D.cs.length := by rw [hok.cl]; exact hi
  have hil : i < D.ls.length := by rw [hok.ll]; exact hi
  have hlcc := Lib.hid (show D.ls.length = D.cs.length by rw [hok.cl, hok.ll])
  have hcn : D.cs.length ≤ 64 := by rw [hok.cl]; exact hz2
  have hln : D.ls.length ≤ 64 := by rw [hok.ll]; exact hz2
  have hcz := hok.cz i hi
  have hzo := (hok.m.at_ hi)
  have hb2 := hok.m.b2
  have hsz : (s.size : Int) = 0 := by
    rcases fits_cases hfit hsl with ⟨k1, _⟩ | ⟨_, k2, _⟩ | ⟨k1, _⟩ | ⟨_, k2, _⟩ | ⟨_, _, h⟩
    · have := eq_of_beq k1; omega
    · have := eq_of_beq k2; omega
    · have := eq_of_beq k1; omega
    · have := eq_of_beq k2; omega
    · exact h
  have k1 : (k == 1) = false := by simp; omega
  have k2 : (k == 2) = false := by simp; omega
  have hdo := Lib.hid (fun W (hM : MAt W B.g B.z D.m) => rdo_any B.g B.z D.m k (i : Int) a n W hM hok.m)
  unfold CmdPost at hdo
  generalize (doM D.m k (i : Int) a n).2.1 = ev at *
  generalize (doM D.m k (i : Int) a n).1 = av at *
  generalize (doM D.m k (i : Int) a n).2.2 = zs at *
  subst hev
  have hX0 := Lib.hid (show RxW w (w.alloc (.cells #[.int .i64 k, .int .i64 (i : Int), .int .i64 a, .int .i64 n] 49)) F d B D k (i : Int) a n from ⟨h.below ((Below.refl _ _).alloc (Nat.le_refl _) _), hin, (Turn.refl _ _).trans (Turn.of_below ((Below.refl _ _).alloc (Nat.le_refl _) _) _), Bx.new w k (i : Int) a n _⟩)
  have hXz : w.heap.size ≠ B.z := by have := h.m.zl; omega
  have hXn : ¬ F w.heap.size := fun hf => by have := hF _ hf; omega
  clear h hin hok hfit hd hsl
  have hkH := Lib.hid hk
  clear hk
  go_enter Try.func22, Try.ntmps22
  go_wp2_with fail
  refine fresh_world (fun W => RxW w W F d B D k (i : Int) a n) hX0.out ?_
  intro W5 hX
  clear hX0 c3
  have c0 := hX.l.c0
  have hdz := hX.l.dz
  have hf := Lib.hid (fun W (hW : Only W5 W B.z) => (⟨hW.cell c0 hdz, hW.cell hX.x.x0 hXz, hW.cell hX.x.x1 hXz, hW.cell hX.x.x2 hXz, hW.cell hX.x.x3 hXz⟩ : W.cell? ⟨d, 0, none⟩ = some (.pointer (some ⟨B.g, 0, none⟩)) ∧ W.cell? ⟨w.heap.size, 0, none⟩ = some (.int .i64 k) ∧ W.cell? ⟨w.heap.size, 1, none⟩ = some (.int .i64 (i : Int)) ∧ W.cell? ⟨w.heap.size, 2, none⟩ = some (.int .i64 a) ∧ W.cell? ⟨w.heap.size, 3, none⟩ = some (.int .i64 n)))
  have hXH := Lib.hid hX
  clear hX c0
  refine region_anyC (fun _ => true) (fun W => Only W5 W B.z) (by kernel_rfl) ?_
  have hS5 : Only W5 W5.drew B.z := (Only.refl _ _).drew
  refine anyL_take 0 (v := ?_) rfl (by kernel_rfl) (fun _ _ _ h => h) (Or.inl ⟨by rfl, ?_⟩) hS5 ?_
  rotate_left
  focus (intro W hW; go_simp; try with_reducible rfl)
  simp only [Act.put, List.setIfInBounds_toArray, List.set_cons_zero, List.set_cons_succ]
  refine anyL_take 1 (v := ?_) rfl (by kernel_rfl) (fun _ _ _ h => h) (Or.inl ⟨by rfl, ?_⟩) hS5 ?_
  rotate_left
  focus (intro W hW; go_simp; try with_reducible rfl)
  simp only [Act.put, List.setIfInBounds_toArray, List.set_cons_zero, List.set_cons_succ]
  refine anyL_take 2 (v := ?_) rfl (by kernel_rfl) (fun _ _ _ h => h) (Or.inl ⟨by rfl, ?_⟩) hS5 ?_
  rotate_left
  focus (intro W hW; go_simp; try with_reducible rfl)
  simp only [Act.put, List.setIfInBounds_toArray, List.set_cons_zero, List.set_cons_succ]
  refine anyL_take 3 (v := ?_) rfl (by kernel_rfl) (fun _ _ _ h => h) (Or.inl ⟨by rfl, ?_⟩) hS5 ?_
  rotate_left
  focus (intro W hW; obtain ⟨f0, f1, f2, f3, f4⟩ := hf.out W hW; go_simp; try with_reducible rfl)
  simp only [Act.put, List.setIfInBounds_toArray, List.set_cons_zero, List.set_cons_succ]
  refine anyL_take 4 (v := ?_) rfl (by kernel_rfl) (fun _ _ _ h => h) (Or.inl ⟨by rfl, ?_⟩) hS5 ?_
  rotate_left
  focus (intro W hW; obtain ⟨f0, f1, f2, f3, f4⟩ := hf.out W hW; go_simp; try with_reducible rfl)
  simp only [Act.put, List.setIfInBounds_toArray, List.set_cons_zero, List.set_cons_succ]
  refine anyL_one 5 rfl (by kernel_rfl) (fun K hK => ?_)
  go_simp
  refine (hdo.out _ (hXH.out.l.m.below (Below.refl _ _).drew)).mono ?_
  rintro e' w7 ⟨rfl, hM7, ho7⟩
  have ho8 := hS5.trans ho7
  dsimp only
  refine hK.out _ _ (fun _ => ho8) ?_
  clear hK K
  try simp only [Act.put, List.setIfInBounds_toArray, List.set_cons_zero, List.set_cons_succ]
  refine anyL_take 6 (v := ?_) rfl (by kernel_rfl) (fun _ _ _ h => h) (Or.inl ⟨by rfl, ?_⟩) ho8 ?_
  rotate_left
  focus (intro W hW; go_simp; try with_reducible rfl)
  simp only [Act.put, List.setIfInBounds_toArray, List.set_cons_zero, List.set_cons_succ]
  refine anyL_take 7 (v := ?_) rfl (by kernel_rfl) (fun _ _ _ h => h) (Or.inl ⟨by rfl, ?_⟩) ho8 ?_
  rotate_left
  focus (intro W hW; go_simp; try with_reducible rfl)
  simp only [Act.put, List.setIfInBounds_toArray, List.set_cons_zero, List.set_cons_succ]
  refine anyL_take 8 (v := ?_) rfl (by kernel_rfl) (fun _ _ _ h => h) (Or.inl ⟨by rfl, ?_⟩) ho8 ?_
  rotate_left
  focus (intro W hW; go_simp; try with_reducible rfl)
  simp only [Act.put, List.setIfInBounds_toArray, List.set_cons_zero, List.set_cons_succ]
  refine anyL_take 9 (v := ?_) rfl (by kernel_rfl) (fun _ _ _ h => h) (Or.inl ⟨by rfl, ?_⟩) ho8 ?_
  rotate_left
  focus (intro W hW; go_simp; try with_reducible rfl)
  simp only [Act.put, List.setIfInBounds_toArray, List.set_cons_zero, List.set_cons_succ]
  refine anyL_take 10 (v := ?_) rfl (by kernel_rfl) (fun _ _ _ h => h) (Or.inl ⟨by rfl, ?_⟩) ho8 ?_
  rotate_left
  focus (intro W hW; go_simp; try with_reducible rfl)
  simp only [Act.put, List.setIfInBounds_toArray, List.set_cons_zero, List.set_cons_succ]
  refine anyC_done (by kernel_rfl) ?_ _
  refine fresh_K (fun W => RxW w W F d B { D with m := D.m.with zs } k (i : Int) a n) ⟨(hXH.out.l).machine ho8 hM7, hXH.out.i, hXH.out.t.trans (Turn.of_only ho8 hXH.out.i.z), hXH.out.x.turn (F := fun b => b = B.z) (Turn.of_only ho8 rfl) hXz⟩ ?_
  clear hM7 ho8 ho7 hS5 hXH hf hdo
  intro W8 hX
  have x0 := hX.x.x0
  have hk := hkH.out
  have k3 : (k == 3) = false := by simp; omega
  have k4 : (k == 4) = false := by simp; omega
  have k7 : (k == 7) = false := by simp; omega
  have hXH := Lib.hid hX
  clear hX hk
  go_wp2
  go_ret3
  exact ⟨rfl, ⟨F, ⟨B, hXH.out.l, hXH.out.i⟩, fun b hb => .inl hb⟩, hXH.out.t⟩

set_option maxRecDepth 100000 in
set_option maxHeartbeats 1000000 in
theorem rdo7_reset (w : World) (F : Nat → Prop) (d : Nat) (D : Dr) (k a n : Int) (s : ByteArray) (h : RAt w F d D) (hok : D.Ok) (hd : D.dead = false) (hF : ∀ b, F b → b < w.heap.size) (hfit : fits k n s.size = true) (hsl : s.size ≤ 1000000)
    (i : Nat) (hi : i < D.m.zs.length) (hev : (doM D.m k (i : Int) a n).2.1 = 0) (hk : k = 3) :
    Calls Try.prog 22 #[.pointer (some ⟨d, 0, none⟩), .agg #[.int .i64 k, .int .i64 (i : Int), .int .i64 a, .int .i64 n], .string s] w (RDoPost w F d (exec D k (i : Int) a n s.data.toList)) := by
  obtain ⟨B, h, hin⟩ := h
  have c3 := h.c3
  rw [hd] at c3
  have hdl := h.dlt
  have hfx : exec D k (i : Int) a n s.data.toList = (([], (doM D.m k (i : Int) a n).1, 0), ⟨D.m.with (doM D.m k (i : Int) a n).2.2, D.cs.set i [], D.ls.set i 0, D.dead⟩) := by
    unfold exec turned
    rw [if_pos hev, Int.toNat_natCast, if_neg (show ¬ k = 7 by omega), if_neg (show ¬ writesB k = true by unfold writesB; simp; omega), if_pos hk, if_pos hk]
  rw [hfx]
  clear hfx
  have hz2 := hok.m.z2
  have hic : i < D.cs.length := by rw [hok.cl]; exact hi
  have hil : i < D.ls.length := by rw [hok.ll]; exact hi
  have hlcc := Lib.hid (show D.ls.length = D.cs.length by rw [hok.cl, hok.ll])
  have hcn : D.cs.length ≤ 64 := by rw [hok.cl]; exact hz2
  have hln : D.ls.length ≤ 64 := by rw [hok.ll]; exact hz2
  have hcz := hok.cz i hi
  have hzo := (hok.m.at_ hi)
  have hb2 := hok.m.b2
  have hsz : (s.size : Int) = 0 := by
    rcases fits_cases hfit hsl with ⟨k1, _⟩ | ⟨_, k2, _⟩ | ⟨k1, _⟩ | ⟨_, k2, _⟩ | ⟨_, _, h⟩
    · have := eq_of_beq k1; omega
    · have := eq_of_beq k2; omega
    · have := eq_of_beq k1; omega
    · have := eq_of_beq k2; omega
    · exact h
  have k1 : (k == 1) = false := by simp; omega
  have k2 : (k == 2) = false := by simp; omega
  have hdo := Lib.hid (fun W (hM : MAt W B.g B.z D.m) => rdo_any B.g B.z D.m k (i : Int) a n W hM hok.m)
  unfold CmdPost at hdo
  generalize (doM D.m k (i : Int) a n).2.1 = ev at *
  generalize (doM D.m k (i : Int) a n).1 = av at *
  generalize (doM D.m k (i : Int) a n).2.2 = zs at *
  subst hev
  have hX0 := Lib.hid (show RxW w (w.alloc (.cells #[.int .i64 k, .int .i64 (i : Int), .int .i64 a, .int .i64 n] 49)) F d B D k (i : Int) a n from ⟨h.below ((Below.refl _ _).alloc (Nat.le_refl _) _), hin, (Turn.refl _ _).trans (Turn.of_below ((Below.refl _ _).alloc (Nat.le_refl _) _) _), Bx.new w k (i : Int) a n _⟩)
  have hXz : w.heap.size ≠ B.z := by have := h.m.zl; omega
  have hXn : ¬ F w.heap.size := fun hf => by have := hF _ hf; omega
  clear h hin hok hfit hd hsl
  have hkH := Lib.hid hk
  clear hk
  go_enter Try.func22, Try.ntmps22
  go_wp2_with fail
  refine fresh_world (fun W => RxW w W F d B D k (i : Int) a n) hX0.out ?_
  intro W5 hX
  clear hX0 c3
  have c0 := hX.l.c0
  have hdz := hX.l.dz
  have hf := Lib.hid (fun W (hW : Only W5 W B.z) => (⟨hW.cell c0 hdz, hW.cell hX.x.x0 hXz, hW.cell hX.x.x1 hXz, hW.cell hX.x.x2 hXz, hW.cell hX.x.x3 hXz⟩ : W.cell? ⟨d, 0, none⟩ = some (.pointer (some ⟨B.g, 0, none⟩)) ∧ W.cell? ⟨w.heap.size, 0, none⟩ = some (.int .i64 k) ∧ W.cell? ⟨w.heap.size, 1, none⟩ = some (.int .i64 (i : Int)) ∧ W.cell? ⟨w.heap.size, 2, none⟩ = some (.int .i64 a) ∧ W.cell? ⟨w.heap.size, 3, none⟩ = some (.int .i64 n)))
  have hXH := Lib.hid hX
  clear hX c0
  refine region_anyC (fun _ => true) (fun W => Only W5 W B.z) (by kernel_rfl) ?_
  have hS5 : Only W5 W5.drew B.z := (Only.refl _ _).drew
  refine anyL_take 0 (v := ?_) rfl (by kernel_rfl) (fun _ _ _ h => h) (Or.inl ⟨by rfl, ?_⟩) hS5 ?_
  rotate_left
  focus (intro W hW; go_simp; try with_reducible rfl)
  simp only [Act.put, List.setIfInBounds_toArray, List.set_cons_zero, List.set_cons_succ]
  refine anyL_take 1 (v := ?_) rfl (by kernel_rfl) (fun _ _ _ h => h) (Or.inl ⟨by rfl, ?_⟩) hS5 ?_
  rotate_left
  focus (intro W hW; go_simp; try with_reducible rfl)
  simp only [Act.put, List.setIfInBounds_toArray, List.set_cons_zero, List.set_cons_succ]
  refine anyL_take 2 (v := ?_) rfl (by kernel_rfl) (fun _ _ _ h => h) (Or.inl ⟨by rfl, ?_⟩) hS5 ?_
  rotate_left
  focus (intro W hW; go_simp; try with_reducible rfl)
  simp only [Act.put, List.setIfInBounds_toArray, List.set_cons_zero, List.set_cons_succ]
  refine anyL_take 3 (v := ?_) rfl (by kernel_rfl) (fun _ _ _ h => h) (Or.inl ⟨by rfl, ?_⟩) hS5 ?_
  rotate_left
  focus (intro W hW; obtain ⟨f0, f1, f2, f3, f4⟩ := hf.out W hW; go_simp; try with_reducible rfl)
  simp only [Act.put, List.setIfInBounds_toArray, List.set_cons_zero, List.set_cons_succ]
  refine anyL_take 4 (v := ?_) rfl (by kernel_rfl) (fun _ _ _ h => h) (Or.inl ⟨by rfl, ?_⟩) hS5 ?_
  rotate_left
  focus (intro W hW; obtain ⟨f0, f1, f2, f3, f4⟩ := hf.out W hW; go_simp; try with_reducible rfl)
  simp only [Act.put, List.setIfInBounds_toArray, List.set_cons_zero, List.set_cons_succ]
  refine anyL_one 5 rfl (by kernel_rfl) (fun K hK => ?_)
  go_simp
  refine (hdo.out _ (hXH.out.l.m.below (Below.refl _ _).drew)).mono ?_
  rintro e' w7 ⟨rfl, hM7, ho7⟩
  have ho8 := hS5.trans ho7
  dsimp only
  refine hK.out _ _ (fun _ => ho8) ?_
  clear hK K
  try simp only [Act.put, List.setIfInBounds_toArray, List.set_cons_zero, List.set_cons_succ]
  refine anyL_take 6 (v := ?_) rfl (by kernel_rfl) (fun _ _ _ h => h) (Or.inl ⟨by rfl, ?_⟩) ho8 ?_
  rotate_left
  focus (intro W hW; go_simp; try with_reducible rfl)
  simp only [Act.put, List.setIfInBounds_toArray, List.set_cons_zero, List.set_cons_succ]
  refine anyL_take 7 (v := ?_) rfl (by kernel_rfl) (fun _ _ _ h => h) (Or.inl ⟨by rfl, ?_⟩) ho8 ?_
  rotate_left
  focus (intro W hW; go_simp; try with_reducible rfl)
  simp only [Act.put, List.setIfInBounds_toArray, List.set_cons_zero, List.set_cons_succ]
  refine anyL_take 8 (v := ?_) rfl (by kernel_rfl) (fun _ _ _ h => h) (Or.inl ⟨by rfl, ?_⟩) ho8 ?_
  rotate_left
  focus (intro W hW; go_simp; try with_reducible rfl)
  simp only [Act.put, List.setIfInBounds_toArray, List.set_cons_zero, List.set_cons_succ]
  refine anyL_take 9 (v := ?_) rfl (by kernel_rfl) (fun _ _ _ h => h) (Or.inl ⟨by rfl, ?_⟩) ho8 ?_
  rotate_left
  focus (intro W hW; go_simp; try with_reducible rfl)
  simp only [Act.put, List.setIfInBounds_toArray, List.set_cons_zero, List.set_cons_succ]
  refine anyL_take 10 (v := ?_) rfl (by kernel_rfl) (fun _ _ _ h => h) (Or.inl ⟨by rfl, ?_⟩) ho8 ?_
  rotate_left
  focus (intro W hW; go_simp; try with_reducible rfl)
  simp only [Act.put, List.setIfInBounds_toArray, List.set_cons_zero, List.set_cons_succ]
  refine anyC_done (by kernel_rfl) ?_ _
  refine fresh_K (fun W => RxW w W F d B { D with m := D.m.with zs } k (i : Int) a n) ⟨(hXH.out.l).machine ho8 hM7, hXH.out.i, hXH.out.t.trans (Turn.of_only ho8 hXH.out.i.z), hXH.out.x.turn (F := fun b => b = B.z) (Turn.of_only ho8 rfl) hXz⟩ ?_
  clear hM7 ho8 ho7 hS5 hXH hf hdo
  intro W8 hX
  have x0 := hX.x.x0
  rw [hkH.out] at x0
  clear k1 k2
  have c1 := hX.l.c1
  have c2 := hX.l.c2
  have r1 := hX.l.row i hic
  have l1 := hX.l.lrow i hil
  have hdc := hX.l.dc
  have hlc := hX.l.cl
  have hll := hX.l.ll
  have hXc : w.heap.size ≠ B.c := fun e => hXn (e ▸ hX.i.c)
  have hf := Lib.hid (fun W (hW : Turn W8 W (fun b => b = B.c)) => (⟨hW.cell c1 hdc, hW.cell c2 hdc, hW.cell hX.x.x1 hXc, hW.cell l1.1 (fun e => hlc e.symm), (same_frozen (hW.block _ hll (fun e => hlc e.symm))).trans l1.2⟩ : W.cell? ⟨d, 1, none⟩ = some (.slice (some ⟨B.c, 0, none⟩) D.cs.length D.cs.length) ∧ W.cell? ⟨d, 2, none⟩ = some (.slice (some ⟨B.l, 0, none⟩) D.ls.length D.ls.length) ∧ W.cell? ⟨w.heap.size, 1, none⟩ = some (.int .i64 (i : Int)) ∧ W.cell? ⟨B.l, i, none⟩ = some (.int .i64 (D.l i : Int)) ∧ W.frozen? ⟨B.l, i, none⟩ = false))
  have hXH := Lib.hid hX
  obtain ⟨l2, l3⟩ := l1
  clear hX c1 c2
  go_wp2_with fail
  refine region_anyC (fun i => i != 8) (fun W => Turn W8 W (fun b => b = B.c)) (by kernel_rfl) ?_
  have hS : Turn W8 W8.drew (fun b => b = B.c) := Turn.of_below (Below.refl _ _).drew _
  refine anyL_take 0 (v := ?_) rfl (by kernel_rfl) (fun _ _ _ h => h) (Or.inl ⟨by rfl, ?_⟩) hS ?_
  rotate_left
  focus (intro W hW; go_simp; try with_reducible rfl)
  simp only [Act.put, List.setIfInBounds_toArray, List.set_cons_zero, List.set_cons_succ]
  refine anyL_take 1 (v := ?_) rfl (by kernel_rfl) (fun _ _ _ h => h) (Or.inl ⟨by rfl, ?_⟩) hS ?_
  rotate_left
  focus (intro W hW; go_simp; try with_reducible rfl)
  simp only [Act.put, List.setIfInBounds_toArray, List.set_cons_zero, List.set_cons_succ]
  refine anyL_take 2 (v := ?_) rfl (by kernel_rfl) (fun _ _ _ h => h) (Or.inl ⟨by rfl, ?_⟩) hS ?_
  rotate_left
  focus (intro W hW; go_simp; try with_reducible rfl)
  simp only [Act.put, List.setIfInBounds_toArray, List.set_cons_zero, List.set_cons_succ]
  refine anyL_take 3 (v := ?_) rfl (by kernel_rfl) (fun _ _ _ h => h) (Or.inl ⟨by rfl, ?_⟩) hS ?_
  rotate_left
  focus (intro W hW; obtain ⟨f0, f1, f2, f3, f4⟩ := hf.out W hW; go_simp; try with_reducible rfl)
  simp only [Act.put, List.setIfInBounds_toArray, List.set_cons_zero, List.set_cons_succ]
  refine anyL_take 4 (v := ?_) rfl (by kernel_rfl) (fun _ _ _ h => h) (Or.inl ⟨by rfl, ?_⟩) hS ?_
  rotate_left
  focus (intro W hW; go_simp; try with_reducible rfl)
  simp only [Act.put, List.setIfInBounds_toArray, List.set_cons_zero, List.set_cons_succ]
  refine anyL_take 5 (v := ?_) rfl (by kernel_rfl) (fun _ _ _ h => h) (Or.inl ⟨by rfl, ?_⟩) hS ?_
  rotate_left
  focus (intro W hW; obtain ⟨f0, f1, f2, f3, f4⟩ := hf.out W hW; go_simp; try with_reducible rfl)
  simp only [Act.put, List.setIfInBounds_toArray, List.set_cons_zero, List.set_cons_succ]
  refine anyL_take 6 (v := ?_) rfl (by kernel_rfl) (fun _ _ _ h => h) (Or.inl ⟨by rfl, ?_⟩) hS ?_
  rotate_left
  focus (intro W hW; go_simp; try with_reducible rfl)
  simp only [Act.put, List.setIfInBounds_toArray, List.set_cons_zero, List.set_cons_succ]
  refine anyL_take 7 (v := ?_) rfl (by kernel_rfl) (fun _ _ _ h => h) (Or.inl ⟨by rfl, ?_⟩) hS ?_
  rotate_left
  focus (intro W hW; go_simp; try with_reducible rfl)
  simp only [Act.put, List.setIfInBounds_toArray, List.set_cons_zero, List.set_cons_succ]
  refine anyL_one 8 rfl (by kernel_rfl) (fun K hK => ?_)
  have r2 := r1.1
  have r3 := r1.2
  go_simp
  refine hK.out _ _ (fun h => absurd h (by decide)) ?_
  clear hK K
  try simp only [Act.put, List.setIfInBounds_toArray, List.set_cons_zero, List.set_cons_succ]
  refine anyC_done (by kernel_rfl) ?_ _
  go_wp2_with fail
  have hS2 : Turn W8 (W8.drew.setCell ⟨B.c, i, none⟩ (.slice none 0 0)) (fun b => b = B.c) := hS.trans (Turn.set _ (F := fun b => b = B.c) rfl _ _)
  refine region_anyC (fun i => i != 7) (fun W => Turn W8 W (fun b => b = B.c)) (by kernel_rfl) ?_
  have hS3 : Turn W8 (W8.drew.setCell ⟨B.c, i, none⟩ (.slice none 0 0)).drew (fun b => b = B.c) := hS2.trans (Turn.of_below (Below.refl _ _).drew _)
  refine anyL_take 0 (v := ?_) rfl (by kernel_rfl) (fun _ _ _ h => h) (Or.inl ⟨by rfl, ?_⟩) hS3 ?_
  rotate_left
  focus (intro W hW; go_simp; try with_reducible rfl)
  simp only [Act.put, List.setIfInBounds_toArray, List.set_cons_zero, List.set_cons_succ]
  refine anyL_take 1 (v := ?_) rfl (by kernel_rfl) (fun _ _ _ h => h) (Or.inl ⟨by rfl, ?_⟩) hS3 ?_
  rotate_left
  focus (intro W hW; go_simp; try with_reducible rfl)
  simp only [Act.put, List.setIfInBounds_toArray, List.set_cons_zero, List.set_cons_succ]
  refine anyL_take 2 (v := ?_) rfl (by kernel_rfl) (fun _ _ _ h => h) (Or.inl ⟨by rfl, ?_⟩) hS3 ?_
  rotate_left
  focus (intro W hW; go_simp; try with_reducible rfl)
  simp only [Act.put, List.setIfInBounds_toArray, List.set_cons_zero, List.set_cons_succ]
  refine anyL_take 3 (v := ?_) rfl (by kernel_rfl) (fun _ _ _ h => h) (Or.inl ⟨by rfl, ?_⟩) hS3 ?_
  rotate_left
  focus (intro W hW; obtain ⟨f0, f1, f2, f3, f4⟩ := hf.out W hW; go_simp; try with_reducible rfl)
  simp only [Act.put, List.setIfInBounds_toArray, List.set_cons_zero, List.set_cons_succ]
  refine anyL_take 4 (v := ?_) rfl (by kernel_rfl) (fun _ _ _ h => h) (Or.inl ⟨by rfl, ?_⟩) hS3 ?_
  rotate_left
  focus (intro W hW; go_simp; try with_reducible rfl)
  simp only [Act.put, List.setIfInBounds_toArray, List.set_cons_zero, List.set_cons_succ]
  refine anyL_take 5 (v := ?_) rfl (by kernel_rfl) (fun _ _ _ h => h) (Or.inl ⟨by rfl, ?_⟩) hS3 ?_
  rotate_left
  focus (intro W hW; obtain ⟨f0, f1, f2, f3, f4⟩ := hf.out W hW; go_simp; try with_reducible rfl)
  simp only [Act.put, List.setIfInBounds_toArray, List.set_cons_zero, List.set_cons_succ]
  refine anyL_take 6 (v := ?_) rfl (by kernel_rfl) (fun _ _ _ h => h) (Or.inl ⟨by rfl, ?_⟩) hS3 ?_
  rotate_left
  focus (intro W hW; go_simp; try with_reducible rfl)
  simp only [Act.put, List.setIfInBounds_toArray, List.set_cons_zero, List.set_cons_succ]
  refine anyL_one 7 rfl (by kernel_rfl) (fun K hK => ?_)
  obtain ⟨f0, f1, f2, f3, f4⟩ := hf.out _ hS3
  go_simp
  refine hK.out _ _ (fun h => absurd h (by decide)) ?_
  clear hK K
  try simp only [Act.put, List.setIfInBounds_toArray, List.set_cons_zero, List.set_cons_succ]
  refine anyC_done (by kernel_rfl) ?_ _
  go_wp2
  go_ret3
  have h1 := (hXH.out.l.below (Below.refl _ _).drew).put_c (i := i) hic (v := .slice none 0 0) (x := []) (⟨rfl, rfl, rfl, Nat.le_refl _, fun _ _ _ => rfl⟩ : W8.drew.grownBy W8.drew (B.v i).ownBlock) (World.ownsRow_nil _ _ _ _) (.inl rfl)
  have h2 := (h1.below (Below.refl _ _).drew).put_l (i := i) hil 0
  refine ⟨rfl, ⟨F, ⟨B.put i (.slice none 0 0), h2, ?_⟩, fun b hb => .inl hb⟩, hXH.out.t.trans ((((Turn.of_below (Below.refl _ _).drew F).trans (Turn.set _ hXH.out.i.c _ _)).trans (Turn.of_below (Below.refl _ _).drew F)).trans (Turn.set _ hXH.out.i.l _ _))⟩
  have hF := hXH.out.i
  refine ⟨hF.d, hF.g, hF.z, hF.c, hF.l, fun j hj b hb => ?_⟩
  rw [B.put_v (by rw [hXH.out.l.vl]; exact hic)] at hb
  by_cases e : i = j
  · rw [if_pos e] at hb; cases hb
  · rw [if_neg e] at hb
    exact hF.o j (by simpa using hj) b hb

set_option maxRecDepth 100000 in
set_option maxHeartbeats 1000000 in
theorem rdo7_finish (w : World) (F : Nat → Prop) (d : Nat) (D : Dr) (k a n : Int) (s : ByteArray) (h : RAt w F d D) (hok : D.Ok) (hd : D.dead = false) (hF : ∀ b, F b → b < w.heap.size) (hfit : fits k n s.size = true) (hsl : s.size ≤ 1000000)
    (i : Nat) (hi : i < D.m.zs.length) (hev : (doM D.m k (i : Int) a n).2.1 = 0) (hk : k = 4) :
    Calls Try.prog 22 #[.pointer (some ⟨d, 0, none⟩), .agg #[.int .i64 k, .int .i64 (i : Int), .int .i64 a, .int .i64 n], .string s] w (RDoPost w F d (exec D k (i : Int) a n s.data.toList)) := by
  obtain ⟨B, h, hin⟩ := h
  have c3 := h.c3
  rw [hd] at c3
  have hdl := h.dlt
  have hfx : exec D k (i : Int) a n s.data.toList = (([], (doM D.m k (i : Int) a n).1, 0), Drv.settle { D with m := D.m.with (doM D.m k (i : Int) a n).2.2 } i) := by
    unfold exec turned
    rw [if_pos hev, Int.toNat_natCast, if_neg (show ¬ k = 7 by omega), if_neg (show ¬ writesB k = true by unfold writesB; simp; omega), if_neg (show ¬ k = 3 by omega), if_neg (show ¬ k = 3 by omega), if_pos hk]; rfl -- ]
  rw [hfx]
  clear hfx
  have hz2 := hok.m.z2
  have hic : i < D.cs.length := by rw [hok.cl]; exact hi
  have hil : i < D.ls.length := by rw [hok.ll]; exact hi
  have hlcc := Lib.hid (show D.ls.length = D.cs.length by rw [hok.cl, hok.ll])
  have hcn : D.cs.length ≤ 64 := by rw [hok.cl]; exact hz2
  have hln : D.ls.length ≤ 64 := by rw [hok.ll]; exact hz2
  have hcz := hok.cz i hi
  have hzo := (hok.m.at_ hi)
  have hb2 := hok.m.b2
  have hsz : (s.size : Int) = 0 := by
    rcases fits_cases hfit hsl with ⟨k1, _⟩ | ⟨_, k2, _⟩ | ⟨k1, _⟩ | ⟨_, k2, _⟩ | ⟨_, _, h⟩
    · have := eq_of_beq k1; omega
    · have := eq_of_beq k2; omega
    · have := eq_of_beq k1; omega
    · have := eq_of_beq k2; omega
    · exact h
  have k1 : (k == 1) = false := by simp; omega
  have k2 : (k == 2) = false := by simp; omega
  have hdo := Lib.hid (fun W (hM : MAt W B.g B.z D.m) => rdo_any B.g B.z D.m k (i : Int) a n W hM hok.m)
  unfold CmdPost at hdo
  generalize (doM D.m k (i : Int) a n).2.1 = ev at *
  generalize (doM D.m k (i : Int) a n).1 = av at *
  generalize (doM D.m k (i : Int) a n).2.2 = zs at *
  subst hev
  have hX0 := Lib.hid (show RxW w (w.alloc (.cells #[.int .i64 k, .int .i64 (i : Int), .int .i64 a, .int .i64 n] 49)) F d B D k (i : Int) a n from ⟨h.below ((Below.refl _ _).alloc (Nat.le_refl _) _), hin, (Turn.refl _ _).trans (Turn.of_below ((Below.refl _ _).alloc (Nat.le_refl _) _) _), Bx.new w k (i : Int) a n _⟩)
  have hXz : w.heap.size ≠ B.z := by have := h.m.zl; omega
  have hXn : ¬ F w.heap.size := fun hf => by have := hF _ hf; omega
  clear h hin hok hfit hd hsl
  have hkH := Lib.hid hk
  clear hk
  go_enter Try.func22, Try.ntmps22
  go_wp2_with fail
  refine fresh_world (fun W => RxW w W F d B D k (i : Int) a n) hX0.out ?_
  intro W5 hX
  clear hX0 c3
  have c0 := hX.l.c0
  have hdz := hX.l.dz
  have hf := Lib.hid (fun W (hW : Only W5 W B.z) => (⟨hW.cell c0 hdz, hW.cell hX.x.x0 hXz, hW.cell hX.x.x1 hXz, hW.cell hX.x.x2 hXz, hW.cell hX.x.x3 hXz⟩ : W.cell? ⟨d, 0, none⟩ = some (.pointer (some ⟨B.g, 0, none⟩)) ∧ W.cell? ⟨w.heap.size, 0, none⟩ = some (.int .i64 k) ∧ W.cell? ⟨w.heap.size, 1, none⟩ = some (.int .i64 (i : Int)) ∧ W.cell? ⟨w.heap.size, 2, none⟩ = some (.int .i64 a) ∧ W.cell? ⟨w.heap.size, 3, none⟩ = some (.int .i64 n)))
  have hXH := Lib.hid hX
  clear hX c0
  refine region_anyC (fun _ => true) (fun W => Only W5 W B.z) (by kernel_rfl) ?_
  have hS5 : Only W5 W5.drew B.z := (Only.refl _ _).drew
  refine anyL_take 0 (v := ?_) rfl (by kernel_rfl) (fun _ _ _ h => h) (Or.inl ⟨by rfl, ?_⟩) hS5 ?_
  rotate_left
  focus (intro W hW; go_simp; try with_reducible rfl)
  simp only [Act.put, List.setIfInBounds_toArray, List.set_cons_zero, List.set_cons_succ]
  refine anyL_take 1 (v := ?_) rfl (by kernel_rfl) (fun _ _ _ h => h) (Or.inl ⟨by rfl, ?_⟩) hS5 ?_
  rotate_left
  focus (intro W hW; go_simp; try with_reducible rfl)
  simp only [Act.put, List.setIfInBounds_toArray, List.set_cons_zero, List.set_cons_succ]
  refine anyL_take 2 (v := ?_) rfl (by kernel_rfl) (fun _ _ _ h => h) (Or.inl ⟨by rfl, ?_⟩) hS5 ?_
  rotate_left
  focus (intro W hW; go_simp; try with_reducible rfl)
  simp only [Act.put, List.setIfInBounds_toArray, List.set_cons_zero, List.set_cons_succ]
  refine anyL_take 3 (v := ?_) rfl (by kernel_rfl) (fun _ _ _ h => h) (Or.inl ⟨by rfl, ?_⟩) hS5 ?_
  rotate_left
  focus (intro W hW; obtain ⟨f0, f1, f2, f3, f4⟩ := hf.out W hW; go_simp; try with_reducible rfl)
  simp only [Act.put, List.setIfInBounds_toArray, List.set_cons_zero, List.set_cons_succ]
  refine anyL_take 4 (v := ?_) rfl (by kernel_rfl) (fun _ _ _ h => h) (Or.inl ⟨by rfl, ?_⟩) hS5 ?_
  rotate_left
  focus (intro W hW; obtain ⟨f0, f1, f2, f3, f4⟩ := hf.out W hW; go_simp; try with_reducible rfl)
  simp only [Act.put, List.setIfInBounds_toArray, List.set_cons_zero, List.set_cons_succ]
  refine anyL_one 5 rfl (by kernel_rfl) (fun K hK => ?_)
  go_simp
  refine (hdo.out _ (hXH.out.l.m.below (Below.refl _ _).drew)).mono ?_
  rintro e' w7 ⟨rfl, hM7, ho7⟩
  have ho8 := hS5.trans ho7
  dsimp only
  refine hK.out _ _ (fun _ => ho8) ?_
  clear hK K
  try simp only [Act.put, List.setIfInBounds_toArray, List.set_cons_zero, List.set_cons_succ]
  refine anyL_take 6 (v := ?_) rfl (by kernel_rfl) (fun _ _ _ h => h) (Or.inl ⟨by rfl, ?_⟩) ho8 ?_
  rotate_left
  focus (intro W hW; go_simp; try with_reducible rfl)
  simp only [Act.put, List.setIfInBounds_toArray, List.set_cons_zero, List.set_cons_succ]
  refine anyL_take 7 (v := ?_) rfl (by kernel_rfl) (fun _ _ _ h => h) (Or.inl ⟨by rfl, ?_⟩) ho8 ?_
  rotate_left
  focus (intro W hW; go_simp; try with_reducible rfl)
  simp only [Act.put, List.setIfInBounds_toArray, List.set_cons_zero, List.set_cons_succ]
  refine anyL_take 8 (v := ?_) rfl (by kernel_rfl) (fun _ _ _ h => h) (Or.inl ⟨by rfl, ?_⟩) ho8 ?_
  rotate_left
  focus (intro W hW; go_simp; try with_reducible rfl)
  simp only [Act.put, List.setIfInBounds_toArray, List.set_cons_zero, List.set_cons_succ]
  refine anyL_take 9 (v := ?_) rfl (by kernel_rfl) (fun _ _ _ h => h) (Or.inl ⟨by rfl, ?_⟩) ho8 ?_
  rotate_left
  focus (intro W hW; go_simp; try with_reducible rfl)
  simp only [Act.put, List.setIfInBounds_toArray, List.set_cons_zero, List.set_cons_succ]
  refine anyL_take 10 (v := ?_) rfl (by kernel_rfl) (fun _ _ _ h => h) (Or.inl ⟨by rfl, ?_⟩) ho8 ?_
  rotate_left
  focus (intro W hW; go_simp; try with_reducible rfl)
  simp only [Act.put, List.setIfInBounds_toArray, List.set_cons_zero, List.set_cons_succ]
  refine anyC_done (by kernel_rfl) ?_ _
  refine fresh_K (fun W => RxW w W F d B { D with m := D.m.with zs } k (i : Int) a n) ⟨(hXH.out.l).machine ho8 hM7, hXH.out.i, hXH.out.t.trans (Turn.of_only ho8 hXH.out.i.z), hXH.out.x.turn (F := fun b => b = B.z) (Turn.of_only ho8 rfl) hXz⟩ ?_
  clear hM7 ho8 ho7 hS5 hXH hf hdo
  intro W8 hX
  have x0 := hX.x.x0
  rw [hkH.out] at x0
  clear k1 k2
  obtain ⟨A, cap, hv, _, _⟩ := hX.l.form (i := i) hic
  have hv' : B.v i = .slice A ((D.c i).length / 64) cap := hv
  have c1 : W8.cell? ⟨d, 1, none⟩ = some (.slice (some ⟨B.c, 0, none⟩) D.cs.length D.cs.length) := hX.l.c1
  have c2 : W8.cell? ⟨d, 2, none⟩ = some (.slice (some ⟨B.l, 0, none⟩) D.ls.length D.ls.length) := hX.l.c2
  have r1 := (hX.l.row i hic).1
  rw [hv'] at r1
  have l1 : W8.cell? ⟨B.l, i, none⟩ = some (.int .i64 (D.l i : Int)) ∧ W8.frozen? ⟨B.l, i, none⟩ = false := hX.l.lrow i hil
  have hXl : w.heap.size < W8.heap.size := lt_of_cell x0
  have hf := Lib.hid (fun W (hb : Below W8.heap.size W8 W) => (⟨(hb.cell (p := ⟨d, 1, none⟩) (lt_of_cell c1)).trans c1, (hb.cell (p := ⟨d, 2, none⟩) (lt_of_cell c1)).trans c2, (hb.cell (p := ⟨w.heap.size, 1, none⟩) hXl).trans hX.x.x1, (hb.cell (p := ⟨B.c, i, none⟩) (lt_of_cell r1)).trans r1, (hb.cell (p := ⟨B.l, i, none⟩) (lt_of_cell l1.1)).trans l1.1, (hb.frozen (p := ⟨B.l, i, none⟩) (lt_of_cell l1.1)).trans l1.2⟩ : W.cell? ⟨d, 1, none⟩ = some (.slice (some ⟨B.c, 0, none⟩) D.cs.length D.cs.length) ∧ W.cell? ⟨d, 2, none⟩ = some (.slice (some ⟨B.l, 0, none⟩) D.ls.length D.ls.length) ∧ W.cell? ⟨w.heap.size, 1, none⟩ = some (.int .i64 (i : Int)) ∧ W.cell? ⟨B.c, i, none⟩ = some (.slice A ((D.c i).length / 64) cap) ∧ W.cell? ⟨B.l, i, none⟩ = some (.int .i64 (D.l i : Int)) ∧ W.frozen? ⟨B.l, i, none⟩ = false))
  have hp := Lib.hid (fun W (hb : Below W8.heap.size W8 W) => (hX.l.below hb).put_l (i := i) hil ((D.c i).length / 64))
  have hXH := Lib.hid hX
  clear hX c1 c2 r1 l1 hv hv' hcz hzo
  generalize D.l i = lk at hf
  go_wp2_with fail
  refine region_anyC (fun i => i != 17) (fun W => Below W8.heap.size W8 W) (by kernel_rfl) ?_
  have hS : Below W8.heap.size W8 W8.drew := (Below.refl _ _).drew
  refine anyL_take 0 (v := ?_) rfl (by kernel_rfl) (fun _ _ _ h => h) (Or.inl ⟨by rfl, ?_⟩) hS ?_
  rotate_left
  focus (intro W hW; go_simp; try with_reducible rfl)
  simp only [Act.put, List.setIfInBounds_toArray, List.set_cons_zero, List.set_cons_succ]
  refine anyL_take 1 (v := ?_) rfl (by kernel_rfl) (fun _ _ _ h => h) (Or.inl ⟨by rfl, ?_⟩) hS ?_
  rotate_left
  focus (intro W hW; go_simp; try with_reducible rfl)
  simp only [Act.put, List.setIfInBounds_toArray, List.set_cons_zero, List.set_cons_succ]
  refine anyL_take 2 (v := ?_) rfl (by kernel_rfl) (fun _ _ _ h => h) (Or.inl ⟨by rfl, ?_⟩) hS ?_
  rotate_left
  focus (intro W hW; go_simp; try with_reducible rfl)
  simp only [Act.put, List.setIfInBounds_toArray, List.set_cons_zero, List.set_cons_succ]
  refine anyL_take 3 (v := ?_) rfl (by kernel_rfl) (fun _ _ _ h => h) (Or.inl ⟨by rfl, ?_⟩) hS ?_
  rotate_left
  focus (intro W hW; obtain ⟨f0, f1, f2, f3, f4, f5⟩ := hf.out W hW; go_simp; try with_reducible rfl)
  simp only [Act.put, List.setIfInBounds_toArray, List.set_cons_zero, List.set_cons_succ]
  refine anyL_take 4 (v := ?_) rfl (by kernel_rfl) (fun _ _ _ h => h) (Or.inl ⟨by rfl, ?_⟩) hS ?_
  rotate_left
  focus (intro W hW; go_simp; try with_reducible rfl)
  simp only [Act.put, List.setIfInBounds_toArray, List.set_cons_zero, List.set_cons_succ]
  refine anyL_take 5 (v := ?_) rfl (by kernel_rfl) (fun _ _ _ h => h) (Or.inl ⟨by rfl, ?_⟩) hS ?_
  rotate_left
  focus (intro W hW; obtain ⟨f0, f1, f2, f3, f4, f5⟩ := hf.out W hW; go_simp; try with_reducible rfl)
  simp only [Act.put, List.setIfInBounds_toArray, List.set_cons_zero, List.set_cons_succ]
  refine anyL_take 6 (v := ?_) rfl (by kernel_rfl) (fun _ _ _ h => h) (Or.inl ⟨by rfl, ?_⟩) hS ?_
  rotate_left
  focus (intro W hW; go_simp; try with_reducible rfl)
  simp only [Act.put, List.setIfInBounds_toArray, List.set_cons_zero, List.set_cons_succ]
  refine anyL_take 7 (v := ?_) rfl (by kernel_rfl) (fun _ _ _ h => h) (Or.inl ⟨by rfl, ?_⟩) hS ?_
  rotate_left
  focus (intro W hW; go_simp; try with_reducible rfl)
  simp only [Act.put, List.setIfInBounds_toArray, List.set_cons_zero, List.set_cons_succ]
  refine anyL_take 8 (v := ?_) rfl (by kernel_rfl) (fun _ _ _ h => h) (Or.inl ⟨by rfl, ?_⟩) hS ?_
  rotate_left
  focus (intro W hW; go_simp; try with_reducible rfl)
  simp only [Act.put, List.setIfInBounds_toArray, List.set_cons_zero, List.set_cons_succ]
  refine anyL_take 9 (v := ?_) rfl (by kernel_rfl) (fun _ _ _ h => h) (Or.inl ⟨by rfl, ?_⟩) hS ?_
  rotate_left
  focus (intro W hW; obtain ⟨f0, f1, f2, f3, f4, f5⟩ := hf.out W hW; go_simp; try with_reducible rfl)
  simp only [Act.put, List.setIfInBounds_toArray, List.set_cons_zero, List.set_cons_succ]
  refine anyL_take 10 (v := ?_) rfl (by kernel_rfl) (fun _ _ _ h => h) (Or.inl ⟨by rfl, ?_⟩) hS ?_
  rotate_left
  focus (intro W hW; go_simp; try with_reducible rfl)
  simp only [Act.put, List.setIfInBounds_toArray, List.set_cons_zero, List.set_cons_succ]
  refine anyL_take 11 (v := ?_) rfl (by kernel_rfl) (fun _ _ _ h => h) (Or.inl ⟨by rfl, ?_⟩) hS ?_
  rotate_left
  focus (intro W hW; obtain ⟨f0, f1, f2, f3, f4, f5⟩ := hf.out W hW; go_simp; try with_reducible rfl)
  simp only [Act.put, List.setIfInBounds_toArray, List.set_cons_zero, List.set_cons_succ]
  refine anyL_take 12 (v := ?_) rfl (by kernel_rfl) (fun _ _ _ h => h) (Or.inl ⟨by rfl, ?_⟩) hS ?_
  rotate_left
  focus (intro W hW; go_simp; try with_reducible rfl)
  simp only [Act.put, List.setIfInBounds_toArray, List.set_cons_zero, List.set_cons_succ]
  refine anyL_take 13 (v := ?_) rfl (by kernel_rfl) (fun _ _ _ h => h) (Or.inl ⟨by rfl, ?_⟩) hS ?_
  rotate_left
  focus (intro W hW; go_simp; try with_reducible rfl)
  simp only [Act.put, List.setIfInBounds_toArray, List.set_cons_zero, List.set_cons_succ]
  refine anyL_take 14 (v := ?_) rfl (by kernel_rfl) (fun _ _ _ h => h) (Or.inl ⟨by rfl, ?_⟩) hS ?_
  rotate_left
  focus (intro W hW; obtain ⟨f0, f1, f2, f3, f4, f5⟩ := hf.out W hW; go_simp; try with_reducible rfl)
  simp only [Act.put, List.setIfInBounds_toArray, List.set_cons_zero, List.set_cons_succ]
  refine anyL_take 15 (v := ?_) rfl (by kernel_rfl) (fun _ _ _ h => h) (Or.inl ⟨by rfl, ?_⟩) hS ?_
  rotate_left
  focus (intro W hW; go_simp; try with_reducible rfl)
  simp only [Act.put, List.setIfInBounds_toArray, List.set_cons_zero, List.set_cons_succ]
  refine anyL_take 16 (v := ?_) rfl (by kernel_rfl) (fun _ _ _ h => h) (Or.inl ⟨by rfl, ?_⟩) hS ?_
  rotate_left
  focus (intro W hW; go_simp; try with_reducible rfl)
  simp only [Act.put, List.setIfInBounds_toArray, List.set_cons_zero, List.set_cons_succ]
  refine anyL_one 17 rfl (by kernel_rfl) (fun K hK => ?_)
  obtain ⟨f0, f1, f2, f3, f4, f5⟩ := hf.out _ hS
  go_simp
  refine hK.out _ _ (fun h => absurd h (by decide)) ?_
  clear hK K
  try simp only [Act.put, List.setIfInBounds_toArray, List.set_cons_zero, List.set_cons_succ]
  refine anyC_done (by kernel_rfl) ?_ _
  go_wp2
  go_ret3
  exact ⟨rfl, ⟨F, ⟨B, hp.out _ hS, hXH.out.i⟩, fun b hb => .inl hb⟩, hXH.out.t.trans ((Turn.of_below hS F).trans (Turn.set _ hXH.out.i.l _ _))⟩
end Go.Proofs.Ytncbkegflkjlfaa
