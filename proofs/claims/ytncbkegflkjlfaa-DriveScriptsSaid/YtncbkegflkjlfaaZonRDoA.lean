/- What the document's Do does: whatever command. -/
import Derived.Test.YtncbkegflkjlfaaZonRDo1
import Derived.Test.YtncbkegflkjlfaaZonRDo2
namespace Go.Proofs.Ytncbkegflkjlfaa
open Go.RowKit Zon

set_option maxRecDepth 100000 in
set_option maxHeartbeats 1000000 in
theorem rdo_kind (g z : Nat) (m : Mc) (k zz a n : Int) (w : World) (hM : MAt w g z m) (h : k < 1 ∨ 7 < k) :
    Calls Try.prog 48 #[.pointer (some ⟨g, 0, none⟩), .agg #[.int .i64 k, .int .i64 zz, .int .i64 a, .int .i64 n]] w (CmdPost w g z m (0, 1, m.zs)) := by
  have hXH := Lib.hid (BoxC.new hM k zz a n 49)
  clear hM
  by_cases h1 : k < 1
  · clear h
    go_enter Try.func48, Try.ntmps48
    go_wp2_with fail
    go_ret2
    exact hXH.out.end_
  · have h2 : 7 < k := by omega
    clear h
    go_enter Try.func48, Try.ntmps48
    go_wp2_with fail
    go_ret2
    exact hXH.out.end_
set_option maxRecDepth 100000 in
set_option maxHeartbeats 1000000 in
theorem rdo_range (g z : Nat) (m : Mc) (k zz a n : Int) (w : World) (hM : MAt w g z m) (hk1 : 1 ≤ k) (hk2 : k ≤ 7) (h : hasB m zz = false) :
    Calls Try.prog 48 #[.pointer (some ⟨g, 0, none⟩), .agg #[.int .i64 k, .int .i64 zz, .int .i64 a, .int .i64 n]] w (CmdPost w g z m (0, 2, m.zs)) := by
  have hXH := Lib.hid (BoxC.new hM k zz a n 49)
  have h' : ¬ (0 ≤ zz ∧ zz < m.zs.length) := by rw [← Zon.hasB_iff, h]; simp
  obtain ⟨⟨cap, c0⟩, c1, c2, c3, hne, hzl, _⟩ := hM
  have hgl := lt_of_cell c0
  by_cases h1 : zz < 0
  · clear h h'
    go_enter Try.func48, Try.ntmps48
    go_wp2_with fail
    go_quiet (fail)
    go_wp2_with fail
    go_ret2
    exact (hXH.out.drewN _).end_
  · have h2 : (m.zs.length : Int) ≤ zz := by omega
    have h1' : decide (zz < 0) = false := by simpa using h1
    clear h h'
    go_enter Try.func48, Try.ntmps48
    go_wp2_with fail
    go_quiet (fail)
    go_wp2_with fail
    go_ret2
    exact (hXH.out.drewN _).end_
theorem rdo_any (g z : Nat) (m : Mc) (k zz a n : Int) (w : World) (hM : MAt w g z m) (hok : m.Ok) :
    Calls Try.prog 48 #[.pointer (some ⟨g, 0, none⟩), .agg #[.int .i64 k, .int .i64 zz, .int .i64 a, .int .i64 n]] w (CmdPost w g z m (doM m k zz a n)) := by
  unfold doM
  by_cases h : k < 1 ∨ 7 < k
  · rw [if_pos h]
    exact rdo_kind g z m k zz a n w hM h
  · rw [if_neg h]
    by_cases h2 : hasB m zz = false
    · rw [if_pos h2]
      exact rdo_range g z m k zz a n w hM (by omega) (by omega) h2
    · rw [if_neg h2]
      have h3 := Zon.hasB_iff.1 (show hasB m zz = true by simpa using h2)
      obtain ⟨i, rfl⟩ : ∃ i : Nat, zz = (i : Int) := ⟨zz.toNat, by omega⟩
      rw [Int.toNat_natCast]
      have hi : i < m.zs.length := by omega
      unfold act
      rcases (by omega : k = 1 ∨ k = 2 ∨ k = 3 ∨ k = 4 ∨ k = 5 ∨ k = 6 ∨ k = 7) with rfl | rfl | rfl | rfl | rfl | rfl | rfl
      · exact rdo_1 g z m i a n w hM hok hi
      · exact rdo_2 g z m i a n w hM hok hi
      · exact rdo_3 g z m i a n w hM hok hi
      · exact rdo_4 g z m i a n w hM hok hi
      · exact rdo_5 g z m i a n w hM hok hi
      · exact rdo_6 g z m i a n w hM hok hi
      · exact rdo_7 g z m i a n w hM hok hi
end Go.Proofs.Ytncbkegflkjlfaa
