/- plan's word: three blocks on three drives; steps that are compared. -/
import Derived.Test.YtpgnajcbahklgaaPlWr
namespace Go.Proofs.Ytpgnajcbahklgaa
open Go.RowKit Pl Tl

theorem struct_five {P : Program} {t : TypeId} {k0 k1 k2 k3 k4 : TypeId × Nat × Bool} (h : (P.fieldsOf t).toList.map fKey = [k0, k1, k2, k3, k4]) :
    ∃ f0 f1 f2 f3 f4, (P.fieldsOf t).toList = [f0, f1, f2, f3, f4] ∧ fKey f0 = k0 ∧ fKey f1 = k1 ∧ fKey f2 = k2 ∧ fKey f3 = k3 ∧ fKey f4 = k4 := by
  generalize (P.fieldsOf t).toList = l at h
  match l, h with
  | [a, b, c, d, e], h => simp at h; exact ⟨a, b, c, d, e, rfl, h.1, h.2.1, h.2.2.1, h.2.2.2.1, h.2.2.2.2⟩
def eqSt (x y : St) : Bool := x.k == y.k && x.s == y.s && x.r == y.r && x.b == y.b && x.c == y.c
theorem eqSt_iff {x y : St} : eqSt x y = true ↔ x = y := by
  obtain ⟨a, b, c, d, e⟩ := x
  obtain ⟨a', b', c', d', e'⟩ := y
  simp [eqSt, and_assoc]
theorem eqSt_self (x : St) : eqSt x x = true := eqSt_iff.2 rfl
theorem st_eql (w : World) (x y : St) : (binOp .eql 76 (.agg #[.int .i64 x.k, .int .i64 x.s, .int .i64 x.r, .int .i64 x.b, .int .i64 x.c]) (.agg #[.int .i64 y.k, .int .i64 y.s, .int .i64 y.r, .int .i64 y.b, .int .i64 y.c])).run Try.prog w = .ok (.bool (eqSt x y)) w ∧
    (binOp .neq 76 (.agg #[.int .i64 x.k, .int .i64 x.s, .int .i64 x.r, .int .i64 x.b, .int .i64 x.c]) (.agg #[.int .i64 y.k, .int .i64 y.s, .int .i64 y.r, .int .i64 y.b, .int .i64 y.c])).run Try.prog w = .ok (.bool (!eqSt x y)) w := by
  obtain ⟨f0, f1, f2, f3, f4, hl, h0, h1, h2, h3, h4⟩ := struct_five (P := Try.prog) (t := 76) (k0 := (3, 0, true)) (k1 := (3, 1, true)) (k2 := (3, 2, true)) (k3 := (3, 3, true)) (k4 := (3, 4, true)) (by kernel_rfl)
  refine eql_of (by kernel_rfl) (by kernel_rfl) ?_
  rw [hl,
    eqF_cons h0 (a := .int .i64 x.k) (b := .int .i64 y.k) (by kernel_rfl) (by kernel_rfl) (run_equalIn_int _ 9998 _ _ .i64 _ _ Try.underlying3),
    eqF_cons h1 (a := .int .i64 x.s) (b := .int .i64 y.s) (by kernel_rfl) (by kernel_rfl) (run_equalIn_int _ 9998 _ _ .i64 _ _ Try.underlying3),
    eqF_cons h2 (a := .int .i64 x.r) (b := .int .i64 y.r) (by kernel_rfl) (by kernel_rfl) (run_equalIn_int _ 9998 _ _ .i64 _ _ Try.underlying3),
    eqF_cons h3 (a := .int .i64 x.b) (b := .int .i64 y.b) (by kernel_rfl) (by kernel_rfl) (run_equalIn_int _ 9998 _ _ .i64 _ _ Try.underlying3),
    eqF_cons h4 (a := .int .i64 x.c) (b := .int .i64 y.c) (by kernel_rfl) (by kernel_rfl) (run_equalIn_int _ 9998 _ _ .i64 _ _ Try.underlying3), eqF_nil]
  unfold eqSt
  generalize (x.k == y.k) = b0
  generalize (x.s == y.s) = b1
  generalize (x.r == y.r) = b2
  generalize (x.b == y.b) = b3
  generalize (x.c == y.c) = b4
  cases b0 <;> cases b1 <;> cases b2 <;> cases b3 <;> cases b4 <;> rfl
/-- A step of a row in memory. -/
theorem st_at {W : World} {base cap : Nat} {A : Option Addr} {l : List St} (h : stE.Row W base 76 A cap l) {i : Nat} (hi : i < l.length) :
    ∃ g, A = some ⟨g, 0, none⟩ ∧ l.length ≤ cap ∧ W.cell? ⟨g, i * 5, none⟩ = some (.int .i64 l[i].k) ∧ W.cell? ⟨g, i * 5 + 1, none⟩ = some (.int .i64 l[i].s) ∧ W.cell? ⟨g, i * 5 + 2, none⟩ = some (.int .i64 l[i].r) ∧ W.cell? ⟨g, i * 5 + 3, none⟩ = some (.int .i64 l[i].b) ∧ W.cell? ⟨g, i * 5 + 4, none⟩ = some (.int .i64 l[i].c) := by
  obtain ⟨g, e, _, _, hcap, hc, _⟩ := h.at_ hi
  exact ⟨g, e, hcap, hc 0 (by decide), hc 1 (by decide), hc 2 (by decide), hc 3 (by decide), hc 4 (by decide)⟩
/-- The word's steps. -/
def spk5 : List St := [⟨1, 1, 0, 0, 0⟩, ⟨1, 2, 0, 1, 0⟩, ⟨2, 0, 0, 0, 0⟩, ⟨1, 2, 1, 2, 0⟩, ⟨3, 1, 1, 0, 1⟩]
theorem spk_steps : steps 2 0 3 0 3 = spk5 := rfl
set_option maxHeartbeats 1000000 in
theorem speaks13 (w : World) : Calls Try.prog 25 #[] w fun e w' => e = .returned (.bool true) ∧ Below w.heap.size w w' := by
  have c1 := Lib.hid (fun W => (show Calls Try.prog 26 #[.agg #[.int .i64 3, .int .i64 5, .int .i64 4, .int .i64 1, .int .i64 1], .int .i64 0, .int .i64 0, .int .i64 3] W (YesPost W spk5) from by
    rw [← spk_steps]; exact write_good 2 0 0 3 3 5 4 1 1 rfl W (by decide) (by decide) (by decide) (by decide)))
  have q1 := Lib.hid (fun W => (st_eql W ⟨2, 0, 0, 0, 0⟩ ⟨2, 0, 0, 0, 0⟩).1)
  have q2 := Lib.hid (fun W => (st_eql W ⟨3, 1, 1, 0, 1⟩ ⟨3, 1, 1, 0, 1⟩).1)
  go_enter Try.func25, Try.ntmps25
  go_wp2_with fail
  (with_reducible refine (c1.out _).mono ?_)
  rintro e w1 ⟨A, cap, rfl, hR, hb⟩
  obtain ⟨g, rfl, hcap, a0, a1, a2, a3, a4⟩ := st_at hR (i := 2) (by decide)
  obtain ⟨g', e', _, b0, b1, b2, b3, b4⟩ := st_at hR (i := 4) (by decide)
  injection e' with e'
  injection e' with e'
  subst e'
  change _ = some (Value.int .i64 2) at a0
  change _ = some (Value.int .i64 0) at a1
  change _ = some (Value.int .i64 0) at a2
  change _ = some (Value.int .i64 0) at a3
  change _ = some (Value.int .i64 0) at a4
  change _ = some (Value.int .i64 3) at b0
  change _ = some (Value.int .i64 1) at b1
  change _ = some (Value.int .i64 1) at b2
  change _ = some (Value.int .i64 0) at b3
  change _ = some (Value.int .i64 1) at b4
  have q1w := q1.out w1
  have q2w := q2.out w1
  have hbH := Lib.hid hb
  have hlen : spk5.length = 5 := rfl
  rw [hlen]
  rw [hlen] at hcap
  clear q1 q2 hb hR hlen
  go_wp2
  go_ret
  exact ⟨rfl, hbH.out⟩
end Go.Proofs.Ytpgnajcbahklgaa
