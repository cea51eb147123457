/- A number brought between 0 and n, as the laws do it. -/
import Derived.Test.YtlignckncgceaabDoorBytes
namespace Go.Proofs.YtlignckncgceaabDoor
open Go.RowKit

theorem wrap_in {x : Int} (h : -9223372036854775808 ≤ x ∧ x ≤ 9223372036854775807) : IntKind.i64.wrap x = x := by
  rw [IntKind.wrap_i64]; omega
theorem mod_in (x n : Int) (hn : 0 < n) (hb : n ≤ 1000000) : ∃ t y : Int, x.tmod n = t ∧ (t + n).tmod n = y ∧ 0 ≤ y ∧ y < n ∧ -1000000 ≤ t ∧ t ≤ 1000000 ∧ IntKind.i64.wrap t = t ∧ IntKind.i64.wrap (t + n) = t + n ∧ IntKind.i64.wrap y = y := by
  have h1 := Int.tmod_lt_of_pos x hn
  have h2 := Int.tmod_lt_of_pos (-x) hn
  rw [Int.neg_tmod] at h2
  have h3 : (x.tmod n + n).tmod n = (x.tmod n + n) % n := Int.tmod_eq_emod_of_nonneg (by omega)
  have h4 := Int.emod_nonneg (x.tmod n + n) (show n ≠ 0 by omega)
  have h5 := Int.emod_lt_of_pos (x.tmod n + n) hn
  exact ⟨_, _, rfl, h3, h4, h5, by omega, by omega, wrap_in (by omega), wrap_in (by omega), wrap_in (by omega)⟩

end Go.Proofs.YtlignckncgceaabDoor
