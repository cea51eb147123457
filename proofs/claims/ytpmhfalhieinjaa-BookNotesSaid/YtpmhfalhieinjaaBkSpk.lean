/- The law's own word on New, Free, Has. -/
import Derived.Test.YtpmhfalhieinjaaBkNew
import Derived.Test.YtpmhfalhieinjaaBkFre
import Derived.Test.YtpmhfalhieinjaaBkHas
namespace Go.Proofs.Ytpmhfalhieinjaa
open Go.RowKit Rec Bk

theorem newOf_five : newOf 3 5 4 1 1 = ⟨0, [⟨2, 1, 0⟩, ⟨3, 1, 0⟩], [0, 1, 2], -1, 0⟩ := by
  have h : goodB 3 5 4 1 1 = true := by decide
  unfold newOf
  rw [if_pos h]
  rfl
theorem free_five : IsFree [⟨2, 1, 0⟩, ⟨3, 1, 0⟩] 5 4 := by
  refine .inr ⟨by decide, by decide, fun z hz => ?_, fun p h1 h2 => ?_⟩
  · simp only [List.mem_cons, List.not_mem_nil, or_false] at hz
    rcases hz with rfl | rfl <;> decide
  · rcases (by omega : p = 2 ∨ p = 3) with rfl | rfl
    · exact ⟨_, List.mem_cons_self .., rfl⟩
    · exact ⟨_, List.mem_cons_of_mem _ (List.mem_cons_self ..), rfl⟩
set_option maxRecDepth 100000 in
set_option maxHeartbeats 2000000 in
theorem speaks10 (w : World) : Calls Try.prog 7 #[] w fun e w' => e = .returned (.bool true) ∧ Below w.heap.size w w' := by
  have hnw := Lib.hid (new_anyB w 3 5 4 1 1)
  rw [newOf_five] at hnw
  have hfr := Lib.hid (fun W A1 c1 A2 c2 (h : BkIn W A1 c1 A2 c2 ⟨0, [⟨2, 1, 0⟩, ⟨3, 1, 0⟩], [0, 1, 2], -1, 0⟩) => free_any W A1 c1 A2 c2 ⟨0, [⟨2, 1, 0⟩, ⟨3, 1, 0⟩], [0, 1, 2], -1, 0⟩ 3 5 4 1 1 h (by decide))
  have hha0 : ∀ W A1 c1 A2 c2, Calls Try.prog 17 #[.agg #[.int .i64 0, .slice A1 2 c1, .slice A2 3 c2, .int .i64 (-1), .int .i64 0], .int .i64 1, .int .i64 2] W fun e w' => e = .returned (.bool true) ∧ Below W.heap.size W w' := fun W A1 c1 A2 c2 => has_anyB W A1 c1 A2 c2 ⟨0, [⟨2, 1, 0⟩, ⟨3, 1, 0⟩], [0, 1, 2], -1, 0⟩ 1 2
  have hha := Lib.hid hha0
  clear hha0
  go_enter Try.func7, Try.ntmps7
  go_wp2_with fail
  refine hnw.out.mono ?_
  rintro e w1 ⟨A1, c1, A2, c2, rfl, hO, hb1⟩
  obtain ⟨g, rfl, -, hgl, -, z0, z1, z2, -⟩ := zo_own hO.z (i := 1) (by decide)
  have hcp1 : 2 ≤ c1 := by
    rcases hO.z.form with ⟨e, _⟩ | ⟨g', _, _, _, hc⟩
    · cases e
    · exact hc
  have hOH := Lib.hid hO.in_
  have hbH := Lib.hid hb1
  clear hO hb1 hnw
  have hX := BkAt.new w1 (some ⟨g, 0, none⟩) c1 A2 c2 ⟨0, [⟨2, 1, 0⟩, ⟨3, 1, 0⟩], [0, 1, 2], -1, 0⟩ 33
  have hz := (((Below.refl _ w1).alloc (Nat.le_refl _) (.cells #[.int .i64 0, .slice (some ⟨g, 0, none⟩) 2 c1, .slice A2 3 c2, .int .i64 (-1), .int .i64 0] 33)).cell (p := ⟨g, 1 * 3, none⟩) hgl).trans z0
  have hXH := Lib.hid hX
  have hzH := Lib.hid hz
  have hI := Lib.hid (hOH.out.below ((Below.refl _ w1).alloc (Nat.le_refl _) (.cells #[.int .i64 0, .slice (some ⟨g, 0, none⟩) 2 c1, .slice A2 3 c2, .int .i64 (-1), .int .i64 0] 33)))
  have hbw := Lib.hid (hbH.out.alloc hbH.out.size (.cells #[.int .i64 0, .slice (some ⟨g, 0, none⟩) 2 c1, .slice A2 3 c2, .int .i64 (-1), .int .i64 0] 33))
  clear hX hz z0 z1 z2
  go_upto_region 2 with fail
  refine fresh_world (fun W => BkAt W w1.heap.size (some ⟨g, 0, none⟩) c1 A2 c2 ⟨0, [⟨2, 1, 0⟩, ⟨3, 1, 0⟩], [0, 1, 2], -1, 0⟩ ∧ W.cell? ⟨g, 1 * 3, none⟩ = some (.int .i64 3) ∧ BkIn W (some ⟨g, 0, none⟩) c1 A2 c2 ⟨0, [⟨2, 1, 0⟩, ⟨3, 1, 0⟩], [0, 1, 2], -1, 0⟩ ∧ Below w.heap.size w W) ⟨hXH.out, hzH.out, hI.out, hbw.out⟩ ?_
  clear hXH hzH hI hbw hOH hbH
  generalize w1.heap.size = X
  rintro W ⟨hX, hz, hI, hb⟩
  have hXH := Lib.hid hX
  have hIH := Lib.hid hI
  have hbH := Lib.hid hb
  obtain ⟨b0, b1, b2, b3, b4, bf⟩ := hX
  clear hI hb
  go_wp2_with fail
  refine (hfr.out _ _ _ _ _ hIH.out).mono ?_
  rintro e w2 ⟨f, rfl, hf, hb2⟩
  obtain rfl := hf.uniq free_five
  have hX2 := hXH.out.below hb2
  have hB2 := Lib.hid (hbH.out.trans (hb2.mono hbH.out.size))
  clear b0 b1 b2 b3 b4 bf hf hz hb2
  obtain ⟨b0, b1, b2, b3, b4, bf⟩ := hX2
  go_wp2_with fail
  refine (hha.out _ _ _ _ _).mono ?_
  rintro e w3 ⟨rfl, hb3⟩
  have hB3 := Lib.hid (hB2.out.trans (hb3.mono hB2.out.size))
  clear b0 b1 b2 b3 b4 bf hb3
  go_wp2_with fail
  exact bodyPost_ret (v := .bool true) (by simp [results, Try.results7, go_sem]) rfl ⟨rfl, hB3.out⟩
end Go.Proofs.Ytpmhfalhieinjaa
