/- The order of notes by their rows. -/
import Derived.Test.YtbgkmppngnedlabDoorNtSt
import Derived.Shelf.SlSortCmp.InsertionK
import Derived.Lib.Small
namespace Go.Proofs.YtbgkmppngnedlabDoor
open Go.RowKit Rec Go.Maps Go.Sort Go.Shelf

theorem nan_any (a : Int) (W : World) : Calls Tryd.prog 19 #[.int .i64 a] W fun e w' => e = .returned (.bool false) ∧ w' = W := by
  have h : (a != a) = false := by simp
  go_enter Tryd.func19, Tryd.ntmps19
  go_wp2_with fail
  go_ret
  first | exact ⟨rfl, rfl⟩ | exact ⟨by simp, rfl⟩
def cmpR (x y : Nt) : Int := Go.Lib.compareInt x.r y.r
theorem cmp_any (a b : Int) (W : World) : Calls Tryd.prog 15 #[.int .i64 a, .int .i64 b] W fun e w' => e = .returned (.int .i64 (Go.Lib.compareInt a b)) ∧ w' = W := by
  have h1 := Lib.hid (nan_any a)
  have h2 := Lib.hid (nan_any b)
  by_cases h : a < b
  · have e : Go.Lib.compareInt a b = -1 := by unfold Go.Lib.compareInt; rw [if_pos h]
    rw [e]
    clear e
    go_enter Tryd.func15, Tryd.ntmps15
    go_wp2_with fail
    (with_reducible refine (h1.out _).mono ?_)
    rintro e w1 ⟨rfl, rfl⟩
    go_wp2_with fail
    (with_reducible refine (h2.out _).mono ?_)
    rintro e w1 ⟨rfl, rfl⟩
    go_wp2_with fail
    go_ret
    exact ⟨rfl, rfl⟩
  · by_cases h' : b < a
    · have e : Go.Lib.compareInt a b = 1 := by unfold Go.Lib.compareInt; rw [if_neg h, if_pos h']
      rw [e]
      clear e
      go_enter Tryd.func15, Tryd.ntmps15
      go_wp2_with fail
      (with_reducible refine (h1.out _).mono ?_)
      rintro e w1 ⟨rfl, rfl⟩
      go_wp2_with fail
      (with_reducible refine (h2.out _).mono ?_)
      rintro e w1 ⟨rfl, rfl⟩
      go_wp2_with fail
      go_ret
      exact ⟨rfl, rfl⟩
    · have e : Go.Lib.compareInt a b = 0 := by unfold Go.Lib.compareInt; rw [if_neg h, if_neg h']
      rw [e]
      clear e
      go_enter Tryd.func15, Tryd.ntmps15
      go_wp2_with fail
      (with_reducible refine (h1.out _).mono ?_)
      rintro e w1 ⟨rfl, rfl⟩
      go_wp2_with fail
      (with_reducible refine (h2.out _).mono ?_)
      rintro e w1 ⟨rfl, rfl⟩
      go_wp2_with fail
      go_ret
      exact ⟨rfl, rfl⟩
theorem ltR (x y : Nt) : ltOf cmpR x y = decide (x.r < y.r) := by
  unfold ltOf cmpR Go.Lib.compareInt
  by_cases h1 : x.r < y.r
  · simp [h1]
  · by_cases h2 : y.r < x.r <;> simp [h1, h2]
theorem swoR : SWO (ltOf cmpR) where
  irrefl x := by rw [ltR]; simp
  trans x y z h1 h2 := by rw [ltR] at *; simp at *; omega
  ntrans x y z h1 h2 := by rw [ltR] at *; simp at *; omega
theorem byRow_any (x y : Nt) (W : World) : Calls Tryd.prog 14 #[.agg #[.int .i64 x.r, .int .i64 x.c, .string x.p], .agg #[.int .i64 y.r, .int .i64 y.c, .string y.p]] W fun e w' => e = .returned (.int .i64 (cmpR x y)) ∧ ∃ q os', w' = grow (W.drewN q) os' := by
  have hcon := Lib.hid (cmp_any x.r y.r)
  unfold cmpR
  generalize Go.Lib.compareInt x.r y.r = r at hcon ⊢
  go_enter Tryd.func14, Tryd.ntmps14
  go_wp2_with fail
  (with_reducible refine (hcon.out _).mono ?_)
  rintro e w1 ⟨rfl, rfl⟩
  go_wp2_with fail
  go_ret
  exact ⟨rfl, 0, _, by rw [alloc_eq_grow, alloc_eq_grow, grow_grow]; rfl⟩
theorem cmpLays (blk off size : Nat) (w : World) : CmpLays Tryd.prog 14 #[] ntE.c 3 cmpR blk off size w :=
  fun _ _ _ _ x y => byRow_any x y _
end Go.Proofs.YtbgkmppngnedlabDoor
