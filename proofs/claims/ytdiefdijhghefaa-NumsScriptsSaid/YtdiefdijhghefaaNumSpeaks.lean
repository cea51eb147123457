/- What every law of the first layer asks first: that the package answers at all. And Put and Get at every argument. -/
import Derived.Test.YtdiefdijhghefaaNumWalks
import Derived.Test.YtdiefdijhghefaaSetNext
import Derived.Test.YtdiefdijhghefaaSetOf
namespace Go.Proofs.Ytdiefdijhghefaa
open Go.RowKit Sets Num

/-- The text of a number: empty where it can't be written so. -/
def putS (n k : Int) : ByteArray := if 1 ≤ k ∧ k ≤ 7 ∧ 0 ≤ n ∧ n.toNat < 256 ^ k.toNat then ⟨(putL n.toNat k.toNat).toArray⟩ else ByteArray.empty
theorem put_any (n k : Int) (w : World) :
    Calls Try.prog 11 #[.int .i64 n, .int .i64 k] w fun e w' => e = .returned (.string (putS n k)) ∧ Below w.heap.size w w' := by
  by_cases h : k < 1 ∨ 7 < k ∨ n < 0
  · have e : putS n k = ByteArray.empty := by unfold putS; rw [if_neg (by omega)]
    rw [e]
    exact (put_bad n k w h).mono fun _ _ ⟨h1, h2⟩ => ⟨h1, by rw [← h2]; exact Below.refl _ _⟩
  · obtain ⟨m, rfl⟩ := Int.eq_ofNat_of_zero_le (show 0 ≤ n by omega)
    obtain ⟨j, rfl⟩ := Int.eq_ofNat_of_zero_le (show 0 ≤ k by omega)
    unfold putS
    simp only [Int.toNat_natCast]
    by_cases h2 : m < 256 ^ j
    · rw [if_pos ⟨by omega, by omega, by omega, h2⟩]
      exact put_ok m j w (by omega) (by omega) h2
    · rw [if_neg (by omega)]
      exact (put_great m j w (by omega) (by omega) (by omega)).mono fun _ _ ⟨h1, h2⟩ => ⟨h1, by rw [← h2]; exact Below.refl _ _⟩

def getN (s : ByteArray) : Int := if 1 ≤ s.size ∧ s.size ≤ 7 then ((numL s.data.toList : Nat) : Int) else 0
def getB (s : ByteArray) : Bool := decide (1 ≤ s.size ∧ s.size ≤ 7)
theorem get_any (s : ByteArray) (w : World) (hs : s.size ≤ maxLen) :
    Calls Try.prog 13 #[.string s] w fun e w' => e = .returned (.tuple #[.int .i64 (getN s), .bool (getB s)]) ∧ w = w' := by
  unfold getN getB
  by_cases h : 1 ≤ s.size ∧ s.size ≤ 7
  · rw [if_pos h, decide_eq_true h]
    exact get_ok s w h.1 h.2
  · rw [if_neg h, decide_eq_false h]
    exact get_bad s w (by omega) hs

theorem speaks_put : putS 258 3 = ⟨#[0, 1, 2]⟩ := by
  unfold putS
  rw [if_pos (by decide)]
  congr 1
theorem speaks_count : ((elems (ofL [3, 1, 300])).length : Int) = 2 := by decide +kernel
theorem speaks_has : (ofL [3, 1, 300]).hasI 3 = true := by decide +kernel
theorem speaks_next : nextL (elems (ofL [3, 1, 300])) 2 = 3 := by decide +kernel

set_option maxRecDepth 100000 in
set_option maxHeartbeats 1000000 in
theorem speaks1 (w : World) :
    Calls Try.prog 10 #[] w fun e w' => e = .returned (.bool true) ∧ Below w.heap.size w w' := by
  have hb0 : Below w.heap.size w (w.alloc (.cells #[.int .i64 3, .int .i64 1, .int .i64 300] 3)) := (Below.refl _ _).alloc (Nat.le_refl _) _
  have hof := of_any (some ⟨w.heap.size, 0, none⟩) 3 [3, 1, 300] (w.alloc (.cells #[.int .i64 3, .int .i64 1, .int .i64 300] 3)) (by decide) (.inr ⟨w.heap.size, 0, rfl, by simp, by
    intro i hi
    match i, hi with
    | 0, _ => go_simp
    | 1, _ => go_simp
    | 2, _ => go_simp⟩)
  have hput := fun W => put_any 258 3 W
  rw [speaks_put] at hput
  have hok := ofL_ok [3, 1, 300]
  have hcount := fun W => count_any _ hok W
  rw [speaks_count] at hcount
  have hhas := fun W => has_any _ hok 3 W
  rw [speaks_has] at hhas
  have hnext := fun W => next_any _ hok 2 W
  rw [speaks_next] at hnext
  unfold W4.val at hof hcount hhas hnext
  generalize ofL [3, 1, 300] = s at hof hcount hhas hnext
  have hofH := Lib.hid hof
  have hputH := Lib.hid hput
  have hcountH := Lib.hid hcount
  have hhasH := Lib.hid hhas
  have hnextH := Lib.hid hnext
  clear hof hput hcount hhas hnext hok
  go_enter Try.func10, Try.ntmps10
  go_wp2_with fail
  refine hofH.out.mono ?_
  rintro e w1 ⟨rfl, hb1⟩
  go_wp2_with fail
  have hS1 := setAt_new w1 s
  have hB1 := (hb0.trans (hb1.mono (by simp))).alloc (Nat.le_trans hb0.size hb1.size) (.cells #[.int .u64 (s.a : Int), .int .u64 (s.b : Int), .int .u64 (s.c : Int), .int .u64 (s.d : Int)] 33)
  clear hb0 hb1
  refine (hputH.out _).mono ?_
  rintro e w2 ⟨rfl, hb2⟩
  have hS2 := hS1.below hb2
  have hB2 := bmore hB1 hb2
  clear hS1 hB1 hb2
  generalize w1.heap.size = B at hS2 ⊢
  have hH := Lib.hid hS2
  obtain ⟨c0, c1, c2, c3, _⟩ := hS2
  go_wp2_with fail
  refine (hcountH.out _).mono ?_
  rintro e w3 ⟨rfl, hb3⟩
  have hS3 := hH.out.below hb3
  have hB3 := bmore hB2 hb3
  clear c0 c1 c2 c3 hH hB2 hb3
  have hH := Lib.hid hS3
  obtain ⟨c0, c1, c2, c3, _⟩ := hS3
  go_wp2_with fail
  refine (hhasH.out _).mono ?_
  rintro e w4 ⟨rfl, hb4⟩
  have hS4 := hH.out.below hb4
  have hB4 := bmore hB3 hb4
  clear c0 c1 c2 c3 hH hB3 hb4
  obtain ⟨c0, c1, c2, c3, _⟩ := hS4
  go_wp2_with fail
  refine (hnextH.out _).mono ?_
  rintro e w5 ⟨rfl, hb5⟩
  have hB5 := bmore hB4 hb5
  clear hB4 hb5
  go_wp2
  go_ret
  exact ⟨rfl, hB5⟩
end Go.Proofs.Ytdiefdijhghefaa
