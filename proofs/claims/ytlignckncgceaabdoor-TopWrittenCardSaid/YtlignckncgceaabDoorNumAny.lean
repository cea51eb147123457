/- nums.Put and nums.Get at every argument. -/
import Derived.Test.YtlignckncgceaabDoorNumWalks
namespace Go.Proofs.YtlignckncgceaabDoor
open Go.RowKit Num

/-- The text of a number: empty where it can't be written so. -/
def putS (n k : Int) : ByteArray := if 1 ≤ k ∧ k ≤ 7 ∧ 0 ≤ n ∧ n.toNat < 256 ^ k.toNat then ⟨(putL n.toNat k.toNat).toArray⟩ else ByteArray.empty
theorem nput_any (n k : Int) (w : World) :
    Calls Tryd.prog 25 #[.int .i64 n, .int .i64 k] w fun e w' => e = .returned (.string (putS n k)) ∧ Below w.heap.size w w' := by
  by_cases h : k < 1 ∨ 7 < k ∨ n < 0
  · have e : putS n k = ByteArray.empty := by unfold putS; rw [if_neg (by omega)]
    rw [e]
    exact (put_bad n k w h).mono fun _ _ ⟨h1, h2⟩ => ⟨h1, by rw [← h2]; exact Below.refl _ _⟩
  · obtain ⟨m, rfl⟩ := Int.eq_ofNat_of_zero_le (show 0 ≤ n by omega)
    obtain ⟨j, rfl⟩ := Int.eq_ofNat_of_zero_le (show 0 ≤ k by omega)
    unfold putS
    simp only [Int.toNat_natCast]
    by_cases h2 : m < 256 ^ j
    · rw [if_pos ⟨by omega, by omega, by omega, h2⟩]
      exact put_ok m j w (by omega) (by omega) h2
    · rw [if_neg (by omega)]
      exact (put_great m j w (by omega) (by omega) (by omega)).mono fun _ _ ⟨h1, h2⟩ => ⟨h1, by rw [← h2]; exact Below.refl _ _⟩

def getN (s : ByteArray) : Int := if 1 ≤ s.size ∧ s.size ≤ 7 then ((numL s.data.toList : Nat) : Int) else 0
def getB (s : ByteArray) : Bool := decide (1 ≤ s.size ∧ s.size ≤ 7)
theorem nget_any (s : ByteArray) (w : World) (hs : s.size ≤ maxLen) :
    Calls Tryd.prog 44 #[.string s] w fun e w' => e = .returned (.tuple #[.int .i64 (getN s), .bool (getB s)]) ∧ w = w' := by
  unfold getN getB
  by_cases h : 1 ≤ s.size ∧ s.size ≤ 7
  · rw [if_pos h, decide_eq_true h]
    exact get_ok s w h.1 h.2
  · rw [if_neg h, decide_eq_false h]
    exact get_bad s w (by omega) hs
end Go.Proofs.YtlignckncgceaabDoor
