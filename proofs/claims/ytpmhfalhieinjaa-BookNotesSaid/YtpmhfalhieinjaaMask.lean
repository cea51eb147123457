/- The lowest bits of a number. -/
import Derived.Test.YtpmhfalhieinjaaKit
import Derived.Laws.BitsAllLaws
namespace Go.Proofs.Ytpmhfalhieinjaa
open Go.RowKit

theorem and_mask2 (n : Int) (k M : Nat) (hM : M = 2 ^ k - 1) (hk : k ≤ 62) : bits .and .i64 n (M : Int) = n % ((2 ^ k : Nat) : Int) := by
  have h62 : 2 ^ k ≤ 2 ^ 62 := Nat.pow_le_pow_right (by omega) hk
  have hpos : 0 < 2 ^ k := Nat.two_pow_pos k
  have hdvd : 2 ^ k ∣ 2 ^ 64 := Nat.pow_dvd_pow 2 (by omega)
  show IntKind.i64.wrap ((BitVec.ofInt 64 n &&& BitVec.ofInt 64 (M : Int)).toNat : Int) = _
  have h2 : (BitVec.ofInt 64 (M : Int)).toNat = M := by
    rw [BitVec.ofInt_natCast, BitVec.toNat_ofNat]; exact Nat.mod_eq_of_lt (by omega)
  have h1 : ((BitVec.ofInt 64 n).toNat : Int) = n % ((2 ^ 64 : Nat) : Int) := by
    rw [BitVec.toNat_ofInt]; exact Int.toNat_of_nonneg (Int.emod_nonneg _ (by decide))
  rw [BitVec.toNat_and, h2, hM, Nat.and_two_pow_sub_one_eq_mod, Int.natCast_emod, h1, Int.emod_emod_of_dvd _ (by exact_mod_cast hdvd), IntKind.wrap_i64]
  generalize hP : 2 ^ k = P at *
  have := Int.emod_nonneg n (b := (P : Int)) (by omega)
  have := Int.emod_lt_of_pos n (b := (P : Int)) (by omega)
  omega
theorem mask_nat2 (n : Int) (k M : Nat) (hM : M = 2 ^ k - 1) (hk : k ≤ 62) : ∃ m : Nat, m < 2 ^ k ∧ bits .and .i64 n (M : Int) = (m : Int) := by
  have hpos : 0 < 2 ^ k := Nat.two_pow_pos k
  have h1 := Int.emod_nonneg n (b := ((2 ^ k : Nat) : Int)) (by omega)
  have h2 := Int.emod_lt_of_pos n (b := ((2 ^ k : Nat) : Int)) (by omega)
  refine ⟨(n % ((2 ^ k : Nat) : Int)).toNat, by omega, ?_⟩
  rw [and_mask2 n k M hM hk]; omega
end Go.Proofs.Ytpmhfalhieinjaa
