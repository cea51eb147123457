/- The product of one and a number, as the library has it. -/
import Derived.Test.YtpgnajcbahklgaaPlSpk
import Derived.Shelf.Bits.Mul64
namespace Go.Proofs.Ytpgnajcbahklgaa
open Go.RowKit Pl Tl

theorem mul64_one (n : Nat) (hn : n ≤ 16) (w : World) : Calls Try.prog 77 #[.int .u64 1, .int .u64 (n : Int)] w fun e w' => e = .returned (.tuple #[.int .u64 0, .int .u64 (n : Int)]) ∧ w = w' := by
  have m1 : bits .and .u64 (1 : Int) 4294967295 = 1 := by have := Mul64.maskN 1 (by omega); simpa using this
  have mn : bits .and .u64 (n : Int) 4294967295 = (n : Int) := by
    have h := Mul64.maskN n (by omega)
    rw [Nat.mod_eq_of_lt (by omega)] at h; exact h
  have m0 : bits .and .u64 (0 : Int) 4294967295 = 0 := by have := Mul64.maskN 0 (by omega); simpa using this
  have dn : (n : Int) / 4294967296 = 0 := by omega
  have d1 : (1 : Int) / 4294967296 = 0 := by omega
  have wn : IntKind.u64.wrap (n : Int) = (n : Int) := Mul64.wrapN n (by omega)
  clear hn
  go_enter Try.func77, Try.ntmps77
  go_wp2
  go_ret2
  exact ⟨rfl, rfl⟩
theorem mul_one64 (n : Nat) (hn : n ≤ 16) (w : World) : Calls Try.prog 71 #[.int .u64 1, .int .u64 (n : Int)] w fun e w' => e = .returned (.tuple #[.int .u64 0, .int .u64 (n : Int)]) ∧ w = w' := by
  have c := Lib.hid (fun W => mul64_one n hn W)
  clear hn
  go_enter Try.func71, Try.ntmps71
  go_wp2_with fail
  (with_reducible refine (c.out _).mono ?_)
  rintro e w1 ⟨rfl, rfl⟩
  go_wp2
  go_ret2
  exact ⟨rfl, rfl⟩
end Go.Proofs.Ytpgnajcbahklgaa
