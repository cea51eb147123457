/- Get of a map. -/
import Derived.Test.YtbgkmppngnedlaaLmB
namespace Go.Proofs.Ytbgkmppngnedlaa
open Go.RowKit Go.Maps

theorem fresh_postL {P : Program} {f : Func} {Q : Ending → World → Prop} {x : Exit} {a : Act} {W : World} (R : World → Prop) (hR : R W) (h : ∀ W2, R W2 → bodyPost P f Q x a W2) : bodyPost P f Q x a W := h W hR
/-- An entry in a box, and the place where the answer goes. -/
structure GtW (w W : World) (X E : Nat) (y : En) : Prop where
  e1 : W.cell? ⟨E, 1, none⟩ = some (.bool y.t)
  e2 : W.cell? ⟨E, 2, none⟩ = some (.int .i64 y.z)
  e3 : W.cell? ⟨E, 3, none⟩ = some (.int .i64 y.a)
  e4 : W.cell? ⟨E, 4, none⟩ = some (.int .i64 y.e)
  sh : ∃ u0 u1 u2, W.cell? ⟨X, 0, none⟩ = some u0 ∧ W.cell? ⟨X, 1, none⟩ = some u1 ∧ W.cell? ⟨X, 2, none⟩ = some u2
  fz : W.frozen? ⟨X, 0, none⟩ = false ∧ W.frozen? ⟨X, 1, none⟩ = false ∧ W.frozen? ⟨X, 2, none⟩ = false
  ne : X < E
  le : w.heap.size ≤ X
  bw : Below w.heap.size w W
def GtE (w W : World) (X : Nat) (y : En) : Prop := W.cell? ⟨X, 0, none⟩ = some (.int .i64 y.z) ∧ W.cell? ⟨X, 1, none⟩ = some (.int .i64 y.a) ∧ W.cell? ⟨X, 2, none⟩ = some (.int .i64 y.e) ∧ Below w.heap.size w W
theorem GtW.set {w W : World} {X E : Nat} {y : En} (h : GtW w W X E y) : GtE w (((W.setCell ⟨X, 0, none⟩ (.int .i64 y.z)).setCell ⟨X, 1, none⟩ (.int .i64 y.a)).setCell ⟨X, 2, none⟩ (.int .i64 y.e)) X y := by
  obtain ⟨u0, u1, u2, h0, h1, h2⟩ := h.sh
  refine ⟨?_, ?_, ?_, ((h.bw.setCell h.le _).setCell h.le _).setCell h.le _⟩ <;> go_simp
set_option maxRecDepth 100000 in
theorem get_any (w : World) (g mb n : Nat) (m : Lm) (b : Int) (h : LmAt w g mb n m) (hb : WfI b) : Calls Try.prog 29 #[.pointer (some ⟨g, 0, none⟩), .int .i64 b] w (GetPost w (m.f b)) := by
  have b1 := (Below.refl w.heap.size w).alloc (Nat.le_refl _) (.cells #[.int .i64 0, .int .i64 0, .int .i64 0] 62)
  have h1 := h.below b1
  have c0 := h1.c0
  have hlk := h1.mp.look hb
  unfold GetPost
  have hsz := World.size_alloc w (.cells #[.int .i64 0, .int .i64 0, .int .i64 0] 62)
  have hgl := h.lt.1
  have hF : ∀ y : En, GtW w ((w.alloc (.cells #[.int .i64 0, .int .i64 0, .int .i64 0] 62)).alloc (.cells #[.int .i64 y.s, .bool y.t, .int .i64 y.z, .int .i64 y.a, .int .i64 y.e] 117)) w.heap.size (w.heap.size + 1) y := fun y => by
    rw [← hsz]
    exact ⟨by go_simp, by go_simp, by go_simp, by go_simp, ⟨_, _, _, by go_simp; rfl, by go_simp; rfl, by go_simp; rfl⟩, ⟨by go_simp, by go_simp, by go_simp⟩, by omega, Nat.le_refl _, b1.alloc (by omega) _⟩
  have hFH := Lib.hid hF
  generalize hy : m.f b = yo at hlk
  have hyH := Lib.hid hy
  generalize hyy : yo.getD zE = y at hlk
  have hyyH := Lib.hid hyy
  clear hF h h1 b1 hsz hb hy hyy
  unfold enV at hlk
  go_enter Try.func29, Try.ntmps29
  go_upto_region 4 with fail
  refine fresh_world (fun W => GtW w W w.heap.size (w.heap.size + 1) y) (hFH.out y) ?_
  clear hFH hlk c0
  generalize w.heap.size + 1 = E
  generalize hX : w.heap.size = X
  have hXH := Lib.hid hX
  clear hX
  rintro W4 ⟨e1, e2, e3, e4, ⟨u0, u1, u2, x0, x1, x2⟩, ⟨z0, z1, z2⟩, hne, hle, hbw⟩
  have hS := Lib.hid (GtW.set (w := w) (W := W4) (X := X) (E := E) (y := y) ⟨e1, e2, e3, e4, ⟨u0, u1, u2, x0, x1, x2⟩, ⟨z0, z1, z2⟩, hne, hle, hbw⟩)
  clear hle hbw
  go_region
  go_wp2_with fail
  refine fresh_postL (fun W => GtE w W X y) ⟨hS.out.1, hS.out.2.1, hS.out.2.2.1, hS.out.2.2.2.drew⟩ ?_
  rintro W5 ⟨k0, k1, k2, hb5⟩
  have hbH := Lib.hid hb5
  clear hb5 hS
  refine bodyPost_ret (v := .tuple #[.agg #[.int .i64 y.z, .int .i64 y.a, .int .i64 y.e], .bool y.t, .bool yo.isSome]) (by simp [results, Try.results29, go_sem, k0, k1, k2]) rfl ?_
  exact ⟨rfl, hbH.out⟩
end Go.Proofs.Ytbgkmppngnedlaa
