/- What New of stripe does. -/
import Derived.Test.YtonoanjakfaloaaSpA
namespace Go.Proofs.Ytonoanjakfaloaa
open Go.RowKit Sp
set_option maxHeartbeats 1000000 in
theorem newS_any (n : Int) (w : World) (h : 2 ≤ n ∧ n ≤ 15) :
    Calls Try.prog 13 #[.int .i64 n] w fun e w' => e = .returned (.tuple #[rowV [] n, .int .i64 0]) ∧ Below w.heap.size w w' := by
  rw [rowV_nil]
  obtain ⟨h1, h2⟩ := h
  go_enter Try.func13, Try.ntmps13
  go_wp2
  refine bodyPost_ret (v := .tuple #[.agg #[.string ⟨#[]⟩, .string ⟨#[]⟩, .string ⟨#[]⟩, .string ⟨#[]⟩, .string ⟨#[]⟩, .string ⟨#[]⟩, .string ⟨#[]⟩, .string ⟨#[]⟩, .string ⟨#[]⟩, .string ⟨#[]⟩, .string ⟨#[]⟩, .string ⟨#[]⟩, .string ⟨#[]⟩, .string ⟨#[]⟩, .string ⟨#[]⟩, .int .i64 0, .int .i64 n], .int .i64 0]) (by simp [results, Try.results13, go_sem]) rfl ⟨rfl, ?_⟩
  exact (Below.refl _ _).alloc (Nat.le_refl _) _
end Go.Proofs.Ytonoanjakfaloaa
