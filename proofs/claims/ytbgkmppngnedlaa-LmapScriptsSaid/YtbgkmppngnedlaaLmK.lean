/- How Live orders the blocks of a zone. -/
import Derived.Test.YtbgkmppngnedlaaLmI
import Derived.Shelf.SlSortCmp.InsertionK
import Derived.Shelf.GgSortFunc.InsertionK
import Derived.Lib.Small
namespace Go.Proofs.Ytbgkmppngnedlaa
open Go.RowKit Go.Sort Go.Shelf

/-- A block of a zone, as Live tells it. -/
structure Lv where
  b : Int
  t : Bool
  z : Int
  a : Int
  e : Int
instance : Inhabited Lv := ⟨⟨0, false, 0, 0, 0⟩⟩
def lvE : Enc Lv := ⟨fun x => [.int .i64 x.b, .bool x.t, .int .i64 x.z, .int .i64 x.a, .int .i64 x.e], 5, fun _ => rfl, fun _ u hu => by
  simp only [List.mem_cons, List.not_mem_nil, or_false] at hu
  rcases hu with rfl | rfl | rfl | rfl | rfl <;> rfl⟩
theorem nan_any (a : Int) (W : World) : Calls Try.prog 84 #[.int .i64 a] W fun e w' => e = .returned (.bool false) ∧ w' = W := by
  have h : (a != a) = false := by simp
  go_enter Try.func84, Try.ntmps84
  go_wp2_with fail
  go_ret
  first | exact ⟨rfl, rfl⟩ | exact ⟨by simp, rfl⟩
theorem cmp_any (a b : Int) (W : World) : Calls Try.prog 50 #[.int .i64 a, .int .i64 b] W fun e w' => e = .returned (.int .i64 (Go.Lib.compareInt a b)) ∧ w' = W := by
  have h1 := Lib.hid (nan_any a)
  have h2 := Lib.hid (nan_any b)
  by_cases h : a < b
  · have e : Go.Lib.compareInt a b = -1 := by unfold Go.Lib.compareInt; rw [if_pos h]
    rw [e]
    clear e
    go_enter Try.func50, Try.ntmps50
    go_wp2_with fail
    (with_reducible refine (h1.out _).mono ?_)
    rintro e w1 ⟨rfl, rfl⟩
    go_wp2_with fail
    (with_reducible refine (h2.out _).mono ?_)
    rintro e w1 ⟨rfl, rfl⟩
    go_wp2_with fail
    go_ret
    exact ⟨rfl, rfl⟩
  · by_cases h' : b < a
    · have e : Go.Lib.compareInt a b = 1 := by unfold Go.Lib.compareInt; rw [if_neg h, if_pos h']
      rw [e]
      clear e
      go_enter Try.func50, Try.ntmps50
      go_wp2_with fail
      (with_reducible refine (h1.out _).mono ?_)
      rintro e w1 ⟨rfl, rfl⟩
      go_wp2_with fail
      (with_reducible refine (h2.out _).mono ?_)
      rintro e w1 ⟨rfl, rfl⟩
      go_wp2_with fail
      go_ret
      exact ⟨rfl, rfl⟩
    · have e : Go.Lib.compareInt a b = 0 := by unfold Go.Lib.compareInt; rw [if_neg h, if_neg h']
      rw [e]
      clear e
      go_enter Try.func50, Try.ntmps50
      go_wp2_with fail
      (with_reducible refine (h1.out _).mono ?_)
      rintro e w1 ⟨rfl, rfl⟩
      go_wp2_with fail
      (with_reducible refine (h2.out _).mono ?_)
      rintro e w1 ⟨rfl, rfl⟩
      go_wp2_with fail
      go_ret
      exact ⟨rfl, rfl⟩
def orI (a b c : Int) : Int := if a ≠ 0 then a else if b ≠ 0 then b else c
set_option maxRecDepth 100000 in
theorem or_any (W : World) (R : Nat) (a b c : Int) (h0 : W.cell? ⟨R, 0, none⟩ = some (.int .i64 a)) (h1 : W.cell? ⟨R, 1, none⟩ = some (.int .i64 b)) (h2 : W.cell? ⟨R, 2, none⟩ = some (.int .i64 c)) :
    Calls Try.prog 49 #[.slice (some ⟨R, 0, none⟩) 3 3] W fun e w' => e = .returned (.int .i64 (orI a b c)) ∧ w' = W := by
  by_cases ha : a = 0
  case neg =>
    have e : orI a b c = a := if_pos ha
    have hab : (a != 0) = true := by simp [ha]
    rw [e]
    clear e
    go_enter Try.func49, Try.ntmps49
    go_wp2
    refine wp_loop_rounds 1 ?_
    rw [rounds_succ]
    go_wp2
    go_ret
    exact ⟨rfl, rfl⟩
  case pos =>
    subst ha
    by_cases hb : b = 0
    case neg =>
      have e : orI 0 b c = b := by unfold orI; rw [if_neg (by simp), if_pos hb]
      have hbb : (b != 0) = true := by simp [hb]
      rw [e]
      clear e
      go_enter Try.func49, Try.ntmps49
      go_wp2
      refine wp_loop_rounds 2 ?_
      rw [rounds_succ]
      go_wp2
      rw [rounds_succ]
      go_wp2
      go_ret
      exact ⟨rfl, rfl⟩
    case pos =>
      subst hb
      have e : orI 0 0 c = c := by unfold orI; rw [if_neg (by simp), if_neg (by simp)]
      rw [e]
      clear e
      by_cases hc : c = 0
      case neg =>
        have hcb : (c != 0) = true := by simp [hc]
        go_enter Try.func49, Try.ntmps49
        go_wp2
        refine wp_loop_rounds 3 ?_
        rw [rounds_succ]
        go_wp2
        rw [rounds_succ]
        go_wp2
        rw [rounds_succ]
        go_wp2
        go_ret
        exact ⟨rfl, rfl⟩
      case pos =>
        subst hc
        go_enter Try.func49, Try.ntmps49
        go_wp2
        refine wp_loop_rounds 4 ?_
        rw [rounds_succ]
        go_wp2
        rw [rounds_succ]
        go_wp2
        rw [rounds_succ]
        go_wp2
        rw [rounds_succ]
        go_wp2
        go_ret
        exact ⟨rfl, rfl⟩
def cmpL (x y : Lv) : Int := orI (Go.Lib.compareInt x.a y.a) (Go.Lib.compareInt x.e y.e) (Go.Lib.compareInt x.b y.b)
def lvLt (x y : Lv) : Prop := x.a < y.a ∨ (x.a = y.a ∧ (x.e < y.e ∨ (x.e = y.e ∧ x.b < y.b)))
instance (x y : Lv) : Decidable (lvLt x y) := by unfold lvLt; infer_instance
theorem ltL (x y : Lv) : ltOf cmpL x y = decide (lvLt x y) := by
  unfold ltOf cmpL lvLt orI Go.Lib.compareInt
  by_cases a1 : x.a < y.a
  · simp [a1]
  · by_cases a2 : y.a < x.a
    · have : ¬ x.a = y.a := by omega
      simp [a1, a2, this]
    · have a3 : x.a = y.a := by omega
      by_cases e1 : x.e < y.e
      · simp [a3, e1]
      · by_cases e2 : y.e < x.e
        · have : ¬ x.e = y.e := by omega
          simp [a3, e1, e2, this]
        · have e3 : x.e = y.e := by omega
          by_cases b1 : x.b < y.b
          · simp [a3, e3, b1]
          · by_cases b2 : y.b < x.b <;> simp [a3, e3, b1, b2]
theorem swoL : SWO (ltOf cmpL) where
  irrefl x := by rw [ltL]; simp [lvLt]
  trans x y z h1 h2 := by rw [ltL, decide_eq_true_eq] at h1 h2 ⊢; unfold lvLt at h1 h2 ⊢; omega
  ntrans x y z h1 h2 := by rw [ltL, decide_eq_false_iff_not] at h1 h2 ⊢; unfold lvLt at h1 h2 ⊢; omega
theorem grow_drewL (w : World) (os : Array Obj) : (grow w os).drew = grow w.drew os := rfl
set_option maxRecDepth 100000 in
set_option maxHeartbeats 2000000 in
theorem byL_any (x y : Lv) (W : World) : Calls Try.prog 60 #[.agg #[.int .i64 x.b, .bool x.t, .int .i64 x.z, .int .i64 x.a, .int .i64 x.e], .agg #[.int .i64 y.b, .bool y.t, .int .i64 y.z, .int .i64 y.a, .int .i64 y.e]] W fun e w' => e = .returned (.int .i64 (cmpL x y)) ∧ ∃ q os', w' = grow (W.drewN q) os' := by
  have hc1 := Lib.hid (cmp_any x.a y.a)
  have hc2 := Lib.hid (cmp_any x.e y.e)
  have hc3 := Lib.hid (cmp_any x.b y.b)
  have hor := Lib.hid (fun W R h0 h1 h2 => or_any W R (Go.Lib.compareInt x.a y.a) (Go.Lib.compareInt x.e y.e) (Go.Lib.compareInt x.b y.b) h0 h1 h2)
  unfold cmpL
  generalize Go.Lib.compareInt x.a y.a = r1 at hc1 hor ⊢
  generalize Go.Lib.compareInt x.e y.e = r2 at hc2 hor ⊢
  generalize Go.Lib.compareInt x.b y.b = r3 at hc3 hor ⊢
  have hF : ∃ Wd, Wd = ((W.alloc (.cells #[.int .i64 x.b, .bool x.t, .int .i64 x.z, .int .i64 x.a, .int .i64 x.e] 71)).alloc (.cells #[.int .i64 y.b, .bool y.t, .int .i64 y.z, .int .i64 y.a, .int .i64 y.e] 71)).drew ∧ Wd.cell? ⟨W.heap.size, 0, none⟩ = some (.int .i64 x.b) ∧ Wd.cell? ⟨W.heap.size, 3, none⟩ = some (.int .i64 x.a) ∧ Wd.cell? ⟨W.heap.size, 4, none⟩ = some (.int .i64 x.e) ∧ Wd.cell? ⟨W.heap.size + 1, 0, none⟩ = some (.int .i64 y.b) ∧ Wd.cell? ⟨W.heap.size + 1, 3, none⟩ = some (.int .i64 y.a) ∧ Wd.cell? ⟨W.heap.size + 1, 4, none⟩ = some (.int .i64 y.e) := by
    have hs := World.size_alloc W (.cells #[.int .i64 x.b, .bool x.t, .int .i64 x.z, .int .i64 x.a, .int .i64 x.e] 71)
    rw [← hs]
    exact ⟨_, rfl, by go_simp, by go_simp, by go_simp, by go_simp, by go_simp, by go_simp⟩
  obtain ⟨Wd, hWd, x0, x3, x4, y0, y3, y4⟩ := hF
  have hWdH := Lib.hid hWd
  have hfin : Hid (∀ o, ∃ q os', Wd.alloc o = grow (W.drewN q) os') := Lib.hid (fun o => by
    have e := hWd
    rw [alloc_eq_grow, alloc_eq_grow, grow_drewL, grow_drewL, grow_grow] at e
    rw [e, alloc_eq_grow, grow_grow]
    exact ⟨1, _, rfl⟩)
  clear hWd
  go_enter Try.func60, Try.ntmps60
  go_upto_region 1 with fail
  have hS0 : (fun V => V = Wd) Wd := rfl
  refine region_anyC (fun i => decide (i < 19)) (fun V => V = Wd) (by kernel_rfl) ?_
  rw [← hWdH.out]
  refine anyL_take 0 (v := ?_) rfl (by kernel_rfl) (fun _ _ _ h => h) (Or.inl ⟨by rfl, ?_⟩) hS0 ?_
  rotate_left
  focus (intro W hW; go_simp; try with_reducible rfl)
  simp only [Act.put, List.setIfInBounds_toArray, List.set_cons_zero, List.set_cons_succ]
  refine anyL_take 1 (v := ?_) rfl (by kernel_rfl) (fun _ _ _ h => h) (Or.inl ⟨by rfl, ?_⟩) hS0 ?_
  rotate_left
  focus (intro W hW; go_simp; try with_reducible rfl)
  simp only [Act.put, List.setIfInBounds_toArray, List.set_cons_zero, List.set_cons_succ]
  refine anyL_take 2 (v := ?_) rfl (by kernel_rfl) (fun _ _ _ h => h) (Or.inl ⟨by rfl, ?_⟩) hS0 ?_
  rotate_left
  focus (intro W hW; obtain rfl := hW; go_simp; try with_reducible rfl)
  simp only [Act.put, List.setIfInBounds_toArray, List.set_cons_zero, List.set_cons_succ]
  refine anyL_take 3 (v := ?_) rfl (by kernel_rfl) (fun _ _ _ h => h) (Or.inl ⟨by rfl, ?_⟩) hS0 ?_
  rotate_left
  focus (intro W hW; go_simp; try with_reducible rfl)
  simp only [Act.put, List.setIfInBounds_toArray, List.set_cons_zero, List.set_cons_succ]
  refine anyL_take 4 (v := ?_) rfl (by kernel_rfl) (fun _ _ _ h => h) (Or.inl ⟨by rfl, ?_⟩) hS0 ?_
  rotate_left
  focus (intro W hW; go_simp; try with_reducible rfl)
  simp only [Act.put, List.setIfInBounds_toArray, List.set_cons_zero, List.set_cons_succ]
  refine anyL_take 5 (v := ?_) rfl (by kernel_rfl) (fun _ _ _ h => h) (Or.inl ⟨by rfl, ?_⟩) hS0 ?_
  rotate_left
  focus (intro W hW; obtain rfl := hW; go_simp; try with_reducible rfl)
  simp only [Act.put, List.setIfInBounds_toArray, List.set_cons_zero, List.set_cons_succ]
  refine anyL_take 7 (v := ?_) rfl (by kernel_rfl) (fun _ _ _ h => h) (Or.inl ⟨by rfl, ?_⟩) hS0 ?_
  rotate_left
  focus (intro W hW; go_simp; try with_reducible rfl)
  simp only [Act.put, List.setIfInBounds_toArray, List.set_cons_zero, List.set_cons_succ]
  refine anyL_take 8 (v := ?_) rfl (by kernel_rfl) (fun _ _ _ h => h) (Or.inl ⟨by rfl, ?_⟩) hS0 ?_
  rotate_left
  focus (intro W hW; go_simp; try with_reducible rfl)
  simp only [Act.put, List.setIfInBounds_toArray, List.set_cons_zero, List.set_cons_succ]
  refine anyL_take 9 (v := ?_) rfl (by kernel_rfl) (fun _ _ _ h => h) (Or.inl ⟨by rfl, ?_⟩) hS0 ?_
  rotate_left
  focus (intro W hW; obtain rfl := hW; go_simp; try with_reducible rfl)
  simp only [Act.put, List.setIfInBounds_toArray, List.set_cons_zero, List.set_cons_succ]
  refine anyL_take 10 (v := ?_) rfl (by kernel_rfl) (fun _ _ _ h => h) (Or.inl ⟨by rfl, ?_⟩) hS0 ?_
  rotate_left
  focus (intro W hW; go_simp; try with_reducible rfl)
  simp only [Act.put, List.setIfInBounds_toArray, List.set_cons_zero, List.set_cons_succ]
  refine anyL_take 11 (v := ?_) rfl (by kernel_rfl) (fun _ _ _ h => h) (Or.inl ⟨by rfl, ?_⟩) hS0 ?_
  rotate_left
  focus (intro W hW; go_simp; try with_reducible rfl)
  simp only [Act.put, List.setIfInBounds_toArray, List.set_cons_zero, List.set_cons_succ]
  refine anyL_take 12 (v := ?_) rfl (by kernel_rfl) (fun _ _ _ h => h) (Or.inl ⟨by rfl, ?_⟩) hS0 ?_
  rotate_left
  focus (intro W hW; obtain rfl := hW; go_simp; try with_reducible rfl)
  simp only [Act.put, List.setIfInBounds_toArray, List.set_cons_zero, List.set_cons_succ]
  refine anyL_take 14 (v := ?_) rfl (by kernel_rfl) (fun _ _ _ h => h) (Or.inl ⟨by rfl, ?_⟩) hS0 ?_
  rotate_left
  focus (intro W hW; go_simp; try with_reducible rfl)
  simp only [Act.put, List.setIfInBounds_toArray, List.set_cons_zero, List.set_cons_succ]
  refine anyL_take 15 (v := ?_) rfl (by kernel_rfl) (fun _ _ _ h => h) (Or.inl ⟨by rfl, ?_⟩) hS0 ?_
  rotate_left
  focus (intro W hW; obtain rfl := hW; go_simp; try with_reducible rfl)
  simp only [Act.put, List.setIfInBounds_toArray, List.set_cons_zero, List.set_cons_succ]
  refine anyL_take 16 (v := ?_) rfl (by kernel_rfl) (fun _ _ _ h => h) (Or.inl ⟨by rfl, ?_⟩) hS0 ?_
  rotate_left
  focus (intro W hW; go_simp; try with_reducible rfl)
  simp only [Act.put, List.setIfInBounds_toArray, List.set_cons_zero, List.set_cons_succ]
  refine anyL_take 17 (v := ?_) rfl (by kernel_rfl) (fun _ _ _ h => h) (Or.inl ⟨by rfl, ?_⟩) hS0 ?_
  rotate_left
  focus (intro W hW; obtain rfl := hW; go_simp; try with_reducible rfl)
  simp only [Act.put, List.setIfInBounds_toArray, List.set_cons_zero, List.set_cons_succ]
  refine anyL_one 6 rfl (by kernel_rfl) (fun K hK => ?_)
  go_simp
  refine (hc1.out _).mono ?_
  rintro e' w6 ⟨rfl, rfl⟩
  dsimp only
  refine hK.out _ _ (fun _ => hS0) ?_
  clear hK K
  try simp only [Act.put, List.setIfInBounds_toArray, List.set_cons_zero, List.set_cons_succ]
  refine anyL_one 13 rfl (by kernel_rfl) (fun K hK => ?_)
  go_simp
  refine (hc2.out _).mono ?_
  rintro e' w6 ⟨rfl, rfl⟩
  dsimp only
  refine hK.out _ _ (fun _ => hS0) ?_
  clear hK K
  try simp only [Act.put, List.setIfInBounds_toArray, List.set_cons_zero, List.set_cons_succ]
  refine anyL_one 18 rfl (by kernel_rfl) (fun K hK => ?_)
  go_simp
  refine (hc3.out _).mono ?_
  rintro e' w6 ⟨rfl, rfl⟩
  dsimp only
  refine hK.out _ _ (fun _ => hS0) ?_
  clear hK K
  try simp only [Act.put, List.setIfInBounds_toArray, List.set_cons_zero, List.set_cons_succ]
  refine anyL_one 19 rfl (by kernel_rfl) (fun K hK => ?_)
  go_simp
  refine hK.out _ _ (fun h => absurd h (by decide)) ?_
  clear hK K
  try simp only [Act.put, List.setIfInBounds_toArray, List.set_cons_zero, List.set_cons_succ]
  refine anyL_one 20 rfl (by kernel_rfl) (fun K hK => ?_)
  go_simp
  refine (hor.out _ _ (by go_simp) (by go_simp) (by go_simp)).mono ?_
  rintro e' w6 ⟨rfl, rfl⟩
  dsimp only
  refine hK.out _ _ (fun h => absurd h (by decide)) ?_
  clear hK K
  try simp only [Act.put, List.setIfInBounds_toArray, List.set_cons_zero, List.set_cons_succ]
  refine anyL_one 21 rfl (by kernel_rfl) (fun K hK => ?_)
  go_simp
  refine hK.out _ _ (fun h => absurd h (by decide)) ?_
  clear hK K
  try simp only [Act.put, List.setIfInBounds_toArray, List.set_cons_zero, List.set_cons_succ]
  refine anyC_done (by kernel_rfl) ?_ _
  go_wp2_with fail
  go_ret
  exact ⟨rfl, hfin.out _⟩
theorem cmpLaysL (blk off size : Nat) (w : World) : CmpLays Try.prog 60 #[] lvE.c 5 cmpL blk off size w :=
  fun _ _ _ _ x y => byL_any x y _
end Go.Proofs.Ytbgkmppngnedlaa
