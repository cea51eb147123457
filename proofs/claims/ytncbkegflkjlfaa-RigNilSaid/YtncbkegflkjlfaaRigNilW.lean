/- What the law RigNil does. -/
import Derived.Test.YtncbkegflkjlfaaRigSpk
namespace Go.Proofs.Ytncbkegflkjlfaa
open Go.RowKit Zon Drv

set_option maxRecDepth 100000 in
set_option maxHeartbeats 2000000 in
theorem rignil_law (i z : Int) (w : World) :
    Calls Try.prog 9 #[.int .i64 i, .int .i64 z] w fun e w' => e = .returned (.bool true) ∧ Below w.heap.size w w' := by
  have heq := fun W => (zone_eql W 0 0 0 0).1
  simp only [beq_self_eq_true, Bool.and_self] at heq
  go_enter Try.func9, Try.ntmps9
  go_wp2_with fail
  refine (speaks8 _).mono ?_
  rintro e w1 ⟨rfl, hB1⟩
  go_wp2_with fail
  refine (rdo_nil i 7 0 0 0 ByteArray.empty _).mono ?_
  rintro e w2 ⟨rfl, hb2⟩
  have hB2 := hB1.trans (hb2.mono hB1.size)
  clear hB1 hb2
  go_wp2_with fail
  refine (rzone_nil i z _).mono ?_
  rintro e w3 ⟨rfl, hb3⟩
  have hB3 := hB2.trans (hb3.mono hB2.size)
  clear hB2 hb3
  go_wp2_with fail
  refine fresh_world_C (fun W => Below w.heap.size w W ∧ Zn2 W w3.heap.size 0 0) ⟨hB3.alloc hB3.size _, by constructor <;> go_simp⟩ ?_
  rintro W4 ⟨hB4, x0, x1⟩
  clear hB3
  refine (rcut_nil z none 0 0 _).mono ?_
  rintro e w4 ⟨rfl, rfl⟩
  go_wp2_with fail
  refine fresh_world_C (fun W => Below w.heap.size w W ∧ Zn2 W w3.heap.size 0 0) ⟨hB4.alloc hB4.size _, (World.cell?_alloc_lt _ _ _ (lt_of_cell x0)).trans x0, (World.cell?_alloc_lt _ _ _ (lt_of_cell x1)).trans x1⟩ ?_
  clear hB4 x0 x1
  rintro W5 ⟨hB5, x0, x1⟩
  refine (rcrash_nil _ _ _ _).mono ?_
  rintro e w5 ⟨rfl, rfl⟩
  go_wp2_with fail
  refine (ron_nil _).mono ?_
  rintro e w5 ⟨rfl, rfl⟩
  go_wp2_with fail
  refine (rkill_nil i _).mono ?_
  rintro e w5 ⟨rfl, rfl⟩
  have hBH := Lib.hid hB5
  clear hB5
  go_wp2_with fail
  refine (rflush_nil i _).mono ?_
  rintro e w5 ⟨rfl, rfl⟩
  go_wp2_with fail
  refine (roff_nil _).mono ?_
  rintro e w5 ⟨rfl, rfl⟩
  go_wp2_with fail
  refine (rdead_nil i _).mono ?_
  rintro e w5 ⟨rfl, rfl⟩
  go_wp2_with fail
  refine (rdrives_nil _).mono ?_
  rintro e w5 ⟨rfl, rfl⟩
  go_wp2_with fail
  refine (rcount_nil _).mono ?_
  rintro e w5 ⟨rfl, rfl⟩
  go_wp2_with fail
  refine (rblocks_nil _).mono ?_
  rintro e w5 ⟨rfl, rfl⟩
  go_wp2_with fail
  go_ret
  exact ⟨rfl, hBH.out⟩
end Go.Proofs.Ytncbkegflkjlfaa
