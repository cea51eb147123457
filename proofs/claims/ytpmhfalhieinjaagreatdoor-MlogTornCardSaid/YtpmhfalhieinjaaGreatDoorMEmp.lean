/- What Encode of a record does, of any. -/
import Derived.Test.YtpmhfalhieinjaaGreatDoorMRec
import Derived.Test.YtpmhfalhieinjaaGreatDoorMEnc
import Derived.Test.YtpmhfalhieinjaaGreatDoorMBase
namespace Go.Proofs.YtpmhfalhieinjaaGreatDoor
open Go.RowKit
theorem size_of_list {t : ByteArray} {l : List UInt8} (h : t.data.toList = l) : t.size = l.length := by
  rw [← h, Array.length_toList]; rfl
theorem not_empty_of {t : ByteArray} (h : 0 < t.size) : ¬ t.toList = [] ∧ t.toList.isEmpty = false := by
  have h1 : ¬ t.toList = [] := by
    rw [ByteArray.toList_eq]
    intro e
    have := size_of_list e
    rw [List.length_nil] at this; omega
  exact ⟨h1, by simpa using h1⟩
theorem full_of {s : ByteArray} (h : ¬ s = ⟨#[]⟩) : 0 < s.size := Nat.pos_of_ne_zero fun e => h (by
  have := ByteArray.size_eq_zero_iff.1 e
  exact this)
end Go.Proofs.YtpmhfalhieinjaaGreatDoor
namespace Go.Proofs.YtpmhfalhieinjaaGreatDoor
open Go.RowKit Rec Crc Num
theorem encode_any (r : Rc) (w : World) (hT : Tab w) :
    Calls Tryz.prog 67 #[.agg #[.int .i64 r.k, .int .i64 r.s, .int .i64 r.a, .int .i64 r.b, .int .i64 r.c, .int .i64 r.d, .string r.body]] w fun e w' => e = .returned (.tuple #[.string (encS r), .int .i64 (if good r = true then 0 else 1)]) ∧ Below w.heap.size w w' := by
  by_cases hg : Rec.Good r
  · rw [encS_good hg, if_pos (good_iff.2 hg)]; exact encode_good r w hg hT
  · rw [encS_bad hg, if_neg (by rw [good_iff]; exact hg)]; exact encode_bad r w hg
/-- A record with a body of the right length, if it must have one. -/
def padS (b : ByteArray) : ByteArray := (b ++ ⟨(List.replicate 64 0).toArray⟩).extract 0 64
def wholeR (r : Rc) : Rc := if r.k = 4 ∧ r.body ≠ ⟨#[]⟩ then { r with body := padS r.body } else r
theorem padS_size (b : ByteArray) : (padS b).size = 64 := by
  unfold padS
  rw [ByteArray.size_extract, ByteArray.size_append]
  have : (⟨(List.replicate 64 0).toArray⟩ : ByteArray).size = 64 := by rw [ofList_size, List.length_replicate]
  omega
end Go.Proofs.YtpmhfalhieinjaaGreatDoor
