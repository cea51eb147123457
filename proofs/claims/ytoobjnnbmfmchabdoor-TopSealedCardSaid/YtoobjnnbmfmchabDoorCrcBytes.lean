/- A place in a text; the sum of one text; one byte turned. -/
import Derived.Test.YtoobjnnbmfmchabDoorCrcWalks
import Derived.Test.YtoobjnnbmfmchabDoorBytes
namespace Go.Proofs.YtoobjnnbmfmchabDoor
open Go.RowKit Crc

theorem place (a : Int) (n : Nat) (hn : 0 < n) (h5 : n ≤ 5000) :
    ∃ p : Nat, p < n ∧ (a.tmod (n : Int) + (n : Int)).tmod (n : Int) = (p : Int) ∧ -5000 ≤ a.tmod (n : Int) ∧ a.tmod (n : Int) ≤ 5000 := by
  have h1 := Int.tmod_lt_of_pos a (b := (n : Int)) (by omega)
  have h2 : -(n : Int) < a.tmod n := by
    have := Int.tmod_lt_of_pos (-a) (b := (n : Int)) (by omega)
    rw [Int.neg_tmod] at this
    omega
  refine ⟨((a.tmod (n : Int) + (n : Int)).tmod (n : Int)).toNat, ?_, ?_, by omega, by omega⟩
  · have := Int.tmod_lt_of_pos (a.tmod (n : Int) + (n : Int)) (b := (n : Int)) (by omega)
    omega
  · have := Int.tmod_nonneg (n : Int) (a := a.tmod (n : Int) + (n : Int)) (by omega)
    omega

theorem sum_turn (l : List UInt8) (p q : Nat) (hp : p < l.length) (y d : UInt8) (hd : d = l[p] ^^^ y) (hq : q = l.length - 1 - p) : bits .xor .u32 (sumI l) (turnI q y) = sumI (l.set p d) := by
  subst hd; subst hq
  unfold sumI turnI sumW turnW
  rw [bits_xor_u32, reg_set _ _ _ hp, not_xor]

theorem sum_one (s : ByteArray) (b : Nat) (w : World) (hT : Tab w) (hs : s.size ≤ maxLen) (hc : w.cell? ⟨b, 0, none⟩ = some (.string s)) :
    Calls Tryd.prog 11 #[.slice (some ⟨b, 0, none⟩) 1 1] w fun e w' => e = .returned (.int .u32 (sumI s.data.toList)) ∧ w = w' := by
  have := sum_any [s] b 0 1 w hT (by simp) (by intro x h; simp only [List.mem_cons, List.not_mem_nil, or_false] at h; subst h; exact hs) (by
    intro i hi
    match i, hi with
    | 0, _ => exact hc)
  simpa [flat] using this

end Go.Proofs.YtoobjnnbmfmchabDoor
