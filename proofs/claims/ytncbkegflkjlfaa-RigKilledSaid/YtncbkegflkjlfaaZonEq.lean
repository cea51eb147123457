/- Two zones compared as whole structs. -/
import Derived.Test.YtncbkegflkjlfaaStructEq
namespace Go.Proofs.Ytncbkegflkjlfaa
open Go.RowKit

theorem zone_eql (w : World) (s l s' l' : Int) : (binOp .eql 54 (.agg #[.int .i64 s, .int .i64 l]) (.agg #[.int .i64 s', .int .i64 l'])).run Try.prog w = .ok (.bool (s == s' && l == l')) w ∧
    (binOp .neq 54 (.agg #[.int .i64 s, .int .i64 l]) (.agg #[.int .i64 s', .int .i64 l'])).run Try.prog w = .ok (.bool (!(s == s' && l == l'))) w := by
  obtain ⟨f0, f1, hl, h0, h1⟩ := struct_two (P := Try.prog) (t := 54) (k0 := (3, 0, true)) (k1 := (3, 1, true)) (by kernel_rfl)
  refine eql_of (by kernel_rfl) (by kernel_rfl) ?_
  rw [hl, eqF_cons h0 (a := .int .i64 s) (b := .int .i64 s') (by kernel_rfl) (by kernel_rfl) (run_equalIn_int _ 9998 _ _ .i64 _ _ Try.underlying3),
    eqF_cons h1 (a := .int .i64 l) (b := .int .i64 l') (by kernel_rfl) (by kernel_rfl) (run_equalIn_int _ 9998 _ _ .i64 _ _ Try.underlying3), eqF_nil]
  cases h2 : (s == s') <;> cases h3 : (l == l') <;> rfl
end Go.Proofs.Ytncbkegflkjlfaa
