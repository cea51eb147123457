/- What Blocks and numbers do. -/
import Derived.Test.YtlignckncgceaabDoorRecMath
import Derived.Test.YtlignckncgceaabDoorNumPut
import Derived.Laws.EntriesVeiled
namespace Go.Proofs.YtlignckncgceaabDoor
open Go.RowKit Rec Crc Num

theorem blocks_any (k : Int) (w : World) :
    Calls Tryd.prog 13 #[.int .i64 k] w fun e w' => e = .returned (.int .i64 (nBlocks k : Int)) ∧ w = w' := by
  unfold nBlocks
  by_cases h1 : k < 1
  · rw [if_pos (.inl h1)]
    go_enter Tryd.func13, Tryd.ntmps13
    go_wp2
    go_ret
    exact ⟨rfl, rfl⟩
  by_cases h2 : 6 < k
  · rw [if_pos (.inr h2)]
    go_enter Tryd.func13, Tryd.ntmps13
    go_wp2
    go_ret
    exact ⟨rfl, rfl⟩
  rw [if_neg (by omega)]
  by_cases h3 : k = 4
  · subst h3
    rw [if_pos rfl]
    clear h1 h2
    go_enter Tryd.func13, Tryd.ntmps13
    go_wp2
    go_ret
    exact ⟨rfl, rfl⟩
  · rw [if_neg h3]
    have h3' : (k == 4) = false := by simp [h3]
    clear h3
    go_enter Tryd.func13, Tryd.ntmps13
    go_wp2
    go_ret
    exact ⟨rfl, rfl⟩

/-- The numbers of a record: widths, limits, and where a record has them. -/
def numsV : Value := .agg #[.int .i64 1, .int .i64 6, .func (Fn.func 36) #[] #[], .int .i64 6, .int .i64 1099511627776, .func (Fn.func 37) #[] #[], .int .i64 2, .int .i64 65535, .func (Fn.func 38) #[] #[], .int .i64 2, .int .i64 65535, .func (Fn.func 39) #[] #[], .int .i64 6, .int .i64 1099511627776, .func (Fn.func 40) #[] #[], .int .i64 2, .int .i64 65535, .func (Fn.func 41) #[] #[]]
theorem numbers_any (w : World) :
    Calls Tryd.prog 24 #[] w fun e w' => e = .returned numsV ∧ Below w.heap.size w w' := by
  go_enter Tryd.func24, Tryd.ntmps24
  go_wp2
  refine bodyPost_ret (v := numsV) (results_cell_row Tryd.results24 _ _ w.heap.size 72 _ (0, 0) _ rfl (heap_alloc_new w _) Tryd.underlying72 rfl (by kernel_rfl)) rfl ⟨rfl, ?_⟩
  exact (Below.refl _ _).alloc (Nat.le_refl _) _
end Go.Proofs.YtlignckncgceaabDoor
