/- What the small calls of a book do: isIndex, subjectOf, cursor. -/
import Derived.Test.YtpmhfalhieinjaaBkMem
import Derived.Lib.Hide
import Derived.Deep.QuietTactic
import Derived.BigQuiet
import Derived.RegionTactic
import Derived.BigRegion
namespace Go.Proofs.Ytpmhfalhieinjaa
open Go.RowKit Rec Bk

theorem isIndex_any (n l : Int) (w : World) :
    Calls Try.prog 30 #[.int .i64 n, .int .i64 l] w fun e w' => e = .returned (.bool (decide (0 ≤ n ∧ n < l))) ∧ w = w' := by
  by_cases h1 : 0 ≤ n
  · by_cases h2 : n < l
    · have e : decide (0 ≤ n ∧ n < l) = true := decide_eq_true ⟨h1, h2⟩
      rw [e]; clear e
      go_enter Try.func30, Try.ntmps30
      go_wp2
      go_ret
      exact ⟨rfl, rfl⟩
    · have e : decide (0 ≤ n ∧ n < l) = false := decide_eq_false (fun h => h2 h.2)
      rw [e]; clear e
      go_enter Try.func30, Try.ntmps30
      go_wp2
      go_ret
      exact ⟨rfl, rfl⟩
  · have e : decide (0 ≤ n ∧ n < l) = false := decide_eq_false (fun h => h1 h.1)
    rw [e]; clear e
    go_enter Try.func30, Try.ntmps30
    go_wp2
    go_ret
    exact ⟨rfl, rfl⟩
theorem subjectOf_any (x : Rc) (w : World) :
    Calls Try.prog 34 #[.agg #[.int .i64 x.k, .int .i64 x.s, .int .i64 x.a, .int .i64 x.b, .int .i64 x.c, .int .i64 x.d, .string x.body]] w fun e w' => e = .returned (.agg #[.int .i64 (sub x).1, .int .i64 (sub x).2]) ∧ Below w.heap.size w w' := by
  unfold sub
  by_cases h : x.k = 6
  · rw [if_pos h]
    have h1 : (x.k == 6) = true := by simp [h]
    clear h
    go_enter Try.func34, Try.ntmps34
    go_wp2
    refine bodyPost_ret (v := .agg #[.int .i64 6, .int .i64 0]) (by simp [results, Try.results34, go_sem]) rfl ⟨rfl, ?_⟩
    exact ((Below.refl _ _).alloc (Nat.le_refl _) _).alloc (by simp) _
  · rw [if_neg h]
    have h1 : (x.k == 6) = false := by simp [h]
    clear h
    go_enter Try.func34, Try.ntmps34
    go_wp2
    refine bodyPost_ret (v := .agg #[.int .i64 x.k, .int .i64 x.a]) (by simp [results, Try.results34, go_sem]) rfl ⟨rfl, ?_⟩
    exact ((Below.refl _ _).alloc (Nat.le_refl _) _).alloc (by simp) _
theorem cursor_any (w : World) (A1 : Option Addr) (c1 : Nat) (A2 : Option Addr) (c2 : Nat) (b : Bo) :
    Calls Try.prog 27 #[.agg #[.int .i64 b.q, .slice A1 b.zs.length c1, .slice A2 b.ms.length c2, .int .i64 b.sl, .int .i64 b.cu]] w fun e w' => e = .returned (curR b).val ∧ Below w.heap.size w w' := by
  unfold curR Rec.Rc.val
  generalize b.zs.length = n1
  generalize b.ms.length = n2
  by_cases h : b.sl < 0
  · rw [if_pos h]
    go_enter Try.func27, Try.ntmps27
    go_wp2
    refine bodyPost_ret (v := .agg #[.int .i64 6, .int .i64 0, .int .i64 65535, .int .i64 0, .int .i64 0, .int .i64 0, .string ⟨#[]⟩]) (by simp [results, Try.results27, go_sem]) rfl ⟨rfl, ?_⟩
    exact ((Below.refl _ _).alloc (Nat.le_refl _) _).alloc (by simp) _
  · rw [if_neg h]
    go_enter Try.func27, Try.ntmps27
    go_wp2
    refine bodyPost_ret (v := .agg #[.int .i64 6, .int .i64 0, .int .i64 b.sl, .int .i64 b.cu, .int .i64 0, .int .i64 0, .string ⟨#[]⟩]) (by simp [results, Try.results27, go_sem]) rfl ⟨rfl, ?_⟩
    exact ((Below.refl _ _).alloc (Nat.le_refl _) _).alloc (by simp) _
end Go.Proofs.Ytpmhfalhieinjaa
