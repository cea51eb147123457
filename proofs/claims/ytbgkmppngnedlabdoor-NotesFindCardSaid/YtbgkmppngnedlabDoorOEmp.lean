/- Encode: an empty record. -/
import Derived.Test.YtbgkmppngnedlabDoorORec
namespace Go.Proofs.YtbgkmppngnedlabDoor
open Go.RowKit
theorem size_of_list {t : ByteArray} {l : List UInt8} (h : t.data.toList = l) : t.size = l.length := by
  rw [← h, Array.length_toList]; rfl
theorem not_empty_of {t : ByteArray} (h : 0 < t.size) : ¬ t.toList = [] ∧ t.toList.isEmpty = false := by
  have h1 : ¬ t.toList = [] := by
    rw [ByteArray.toList_eq]
    intro e
    have := size_of_list e
    rw [List.length_nil] at this; omega
  exact ⟨h1, by simpa using h1⟩
theorem full_of {s : ByteArray} (h : ¬ s = ⟨#[]⟩) : 0 < s.size := Nat.pos_of_ne_zero fun e => h (by
  have := ByteArray.size_eq_zero_iff.1 e
  exact this)
end Go.Proofs.YtbgkmppngnedlabDoor
