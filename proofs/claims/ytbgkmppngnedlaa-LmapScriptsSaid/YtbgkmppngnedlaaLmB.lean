/- New, Get and Seq of a map. -/
import Derived.Test.YtbgkmppngnedlaaLmA
namespace Go.Proofs.Ytbgkmppngnedlaa
open Go.RowKit Go.Maps

def NewPost (w : World) (e : Ending) (w' : World) : Prop := ∃ g mb, e = .returned (.pointer (some ⟨g, 0, none⟩)) ∧ LmAt w' g mb 0 Lm.new ∧ Below w.heap.size w w' ∧ w.heap.size ≤ g ∧ w.heap.size ≤ mb
theorem new_any (w : World) : Calls Try.prog 57 #[] w (NewPost w) := by
  have hmm := @run_makeMap Try.prog
  have hM := MapE.made w
  have hb1 := (Below.refl w.heap.size w).alloc (Nat.le_refl _) (.map #[] 0)
  have hs1 := World.size_alloc w (.map #[] 0)
  have hF : NewPost w (.returned (.pointer (some ⟨w.heap.size + 1, 0, none⟩))) ((w.alloc (.map #[] 0)).alloc (.cells #[.map (some w.heap.size), .int .i64 0, .bool false] 121)) := by
    generalize w.alloc (.map #[] 0) = W1 at hM hb1 hs1 ⊢
    refine ⟨w.heap.size + 1, w.heap.size, rfl, ?_, hb1.alloc (by omega) _, by omega, Nat.le_refl _⟩
    rw [← hs1]
    exact ⟨by go_simp, by go_simp; rfl, by go_simp; rfl, by go_simp, by go_simp, hM.below ((Below.refl _ _).alloc (Nat.le_refl _) _), by omega⟩
  have hFH := Lib.hid hF
  clear hF hM hb1 hs1
  go_enter Try.func57, Try.ntmps57
  go_wp2_with fail
  go_ret
  exact hFH.out
theorem seq_any (w : World) (g mb n : Nat) (m : Lm) (h : LmAt w g mb n m) : Calls Try.prog 33 #[.pointer (some ⟨g, 0, none⟩)] w fun e w' => e = .returned (.int .i64 m.q) ∧ w' = w := by
  have c1 := h.c1
  clear h
  go_enter Try.func33, Try.ntmps33
  go_wp2_with fail
  go_ret
  exact ⟨rfl, rfl⟩
theorem seq_nil (w : World) : Calls Try.prog 33 #[.pointer none] w fun e w' => e = .returned (.int .i64 0) ∧ w' = w := by
  go_enter Try.func33, Try.ntmps33
  go_wp2_with fail
  go_ret
  exact ⟨rfl, rfl⟩
def GetPost (w : World) (y : Option En) (e : Ending) (w' : World) : Prop := e = .returned (.tuple #[.agg #[.int .i64 (y.getD zE).z, .int .i64 (y.getD zE).a, .int .i64 (y.getD zE).e], .bool (y.getD zE).t, .bool y.isSome]) ∧ Below w.heap.size w w'
theorem get_nil (w : World) (b : Int) : Calls Try.prog 29 #[.pointer none, .int .i64 b] w (GetPost w none) := by
  have hF : Below w.heap.size w (w.alloc (.cells #[.int .i64 0, .int .i64 0, .int .i64 0] 62)) := (Below.refl _ _).alloc (Nat.le_refl _) _
  have hFH := Lib.hid hF
  clear hF
  unfold GetPost
  go_enter Try.func29, Try.ntmps29
  go_wp2_with fail
  refine bodyPost_ret (v := .tuple #[.agg #[.int .i64 0, .int .i64 0, .int .i64 0], .bool false, .bool false]) (by simp [results, Try.results29, go_sem]) rfl ?_
  exact ⟨rfl, hFH.out⟩
end Go.Proofs.Ytbgkmppngnedlaa
