/- What New, Clone and Lost do. -/
import Derived.Test.YtncbkegflkjlfaaZonNw
import Derived.Test.YtncbkegflkjlfaaMake
import Derived.Test.YtncbkegflkjlfaaAppRun
import Derived.Laws.OwnMore
import Derived.OwnWalk
namespace Go.Proofs.Ytncbkegflkjlfaa
open Go.RowKit Zon

theorem new_bad (z b o a : Int) (w : World) (h : newOk z b o a = false) :
    Calls Try.prog 56 #[.int .i64 z, .int .i64 b, .int .i64 o, .int .i64 a] w fun e w' => e = .returned (.tuple #[.pointer none, .int .i64 1]) ∧ w = w' := by
  have h' : ¬ (1 ≤ z ∧ z ≤ 64 ∧ 1 ≤ b ∧ b ≤ 4096 ∧ 1 ≤ o ∧ o ≤ a ∧ a ≤ z) := of_decide_eq_false h
  clear h
  by_cases h1 : z < 1
  · clear h'
    go_enter Try.func56, Try.ntmps56
    go_wp2
    go_ret2
    exact ⟨rfl, rfl⟩
  by_cases h2 : 64 < z
  · clear h'
    go_enter Try.func56, Try.ntmps56
    go_wp2
    go_ret2
    exact ⟨rfl, rfl⟩
  by_cases h3 : b < 1
  · clear h'
    go_enter Try.func56, Try.ntmps56
    go_wp2
    go_ret2
    exact ⟨rfl, rfl⟩
  by_cases h4 : 4096 < b
  · clear h'
    go_enter Try.func56, Try.ntmps56
    go_wp2
    go_ret2
    exact ⟨rfl, rfl⟩
  by_cases h5 : o < 1
  · clear h'
    go_enter Try.func56, Try.ntmps56
    go_wp2
    go_ret2
    exact ⟨rfl, rfl⟩
  by_cases h6 : a < o
  · clear h'
    go_enter Try.func56, Try.ntmps56
    go_wp2
    go_ret2
    exact ⟨rfl, rfl⟩
  · have h7 : z < a := by omega
    clear h'
    go_enter Try.func56, Try.ntmps56
    go_wp2
    go_ret2
    exact ⟨rfl, rfl⟩

theorem rnew_bad (z b o a : Int) (w : World) (h : newOk z b o a = false) :
    Calls Try.prog 42 #[.int .i64 z, .int .i64 b, .int .i64 o, .int .i64 a] w fun e w' => e = .returned (.pointer none) ∧ w = w' := by
  have h' : ¬ (1 ≤ z ∧ z ≤ 64 ∧ 1 ≤ b ∧ b ≤ 4096 ∧ 1 ≤ o ∧ o ≤ a ∧ a ≤ z) := of_decide_eq_false h
  clear h
  by_cases h1 : z < 1
  · clear h'
    go_enter Try.func42, Try.ntmps42
    go_wp2
    go_ret
    exact ⟨rfl, rfl⟩
  by_cases h2 : 64 < z
  · clear h'
    go_enter Try.func42, Try.ntmps42
    go_wp2
    go_ret
    exact ⟨rfl, rfl⟩
  by_cases h3 : b < 1
  · clear h'
    go_enter Try.func42, Try.ntmps42
    go_wp2
    go_ret
    exact ⟨rfl, rfl⟩
  by_cases h4 : 4096 < b
  · clear h'
    go_enter Try.func42, Try.ntmps42
    go_wp2
    go_ret
    exact ⟨rfl, rfl⟩
  by_cases h5 : o < 1
  · clear h'
    go_enter Try.func42, Try.ntmps42
    go_wp2
    go_ret
    exact ⟨rfl, rfl⟩
  by_cases h6 : a < o
  · clear h'
    go_enter Try.func42, Try.ntmps42
    go_wp2
    go_ret
    exact ⟨rfl, rfl⟩
  · have h7 : z < a := by omega
    clear h'
    go_enter Try.func42, Try.ntmps42
    go_wp2
    go_ret
    exact ⟨rfl, rfl⟩

theorem infoRZ : (Try.prog.info? 96).map (fun i => (i.zero, i.size, i.bytes)) = some (some (.agg #[.int .i64 0, .int .i64 0]), 2, 16) := by kernel_rfl
theorem rnew_good (z b o a : Int) (w : World) (h : newOk z b o a = true) :
    Calls Try.prog 42 #[.int .i64 z, .int .i64 b, .int .i64 o, .int .i64 a] w (NewPost1 w z b o a) := by
  obtain ⟨h1, h2, h3, h4, h5, h6, h7⟩ := Zon.newOk_iff.1 h
  obtain ⟨n, rfl⟩ := Int.eq_ofNat_of_zero_le (show 0 ≤ z by omega)
  obtain ⟨i0, hi, hz0, hz1, hz2⟩ := info_parts infoRZ
  have hmk := fun W => run_make_m (P := Try.prog) 97 96 i0 (.agg #[.int .i64 0, .int .i64 0]) Try.underlying97 hi hz0 .i64 .i64 n n (Nat.le_refl _) (by rw [hz2]; omega) (by omega) W
  rw [hz1] at hmk
  clear hi hz0 hz1 hz2 h
  go_enter Try.func42, Try.ntmps42
  go_wp2
  go_ret
  exact ⟨_, _, rfl, mnew_made w n b o a _ _⟩
end Go.Proofs.Ytncbkegflkjlfaa
