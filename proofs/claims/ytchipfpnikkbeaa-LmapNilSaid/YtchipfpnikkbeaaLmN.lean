/- LmapNil: the walk. -/
import Derived.Test.YtchipfpnikkbeaaLmE
namespace Go.Proofs.Ytchipfpnikkbeaa
open Go.RowKit

set_option maxRecDepth 100000 in
set_option maxHeartbeats 2000000 in
theorem nil_law (w : World) (b z : Int) : Calls Try.prog 5 #[.int .i64 b, .int .i64 z] w fun e w' => e = .returned (.bool true) ∧ Below w.heap.size w w' := by
  have hsp := Lib.hid (speaks19 w)
  have heq : ∀ W, (binOp .eql 32 (.agg #[.int .i64 0, .int .i64 0, .int .i64 0]) (.agg #[.int .i64 0, .int .i64 0, .int .i64 0])).run Try.prog W = .ok (.bool true) W := fun W => (where_eql W 0 0 0 0 0 0).1
  have had := Lib.hid (fun W v h => add_nil W z b v h)
  have hgt := Lib.hid (fun W => get_nil W b)
  have hlv := Lib.hid (fun W => live_nil W z)
  have hct := Lib.hid (fun W => counts_nil W 3)
  have hsq := Lib.hid (fun W => seq_nil W)
  go_enter Try.func5, Try.ntmps5
  go_wp2_with fail
  (with_reducible refine hsp.out.mono ?_)
  rintro e w1 ⟨rfl, hb1⟩
  have hal := Lib.hid (hb1.alloc hb1.size (.cells #[.int .i64 b, .bool false] 50))
  clear hb1 hsp
  go_wp2_with fail
  (with_reducible refine (had.out _ _ ⟨_, _, _, rfl⟩).mono ?_)
  rintro e w2 ⟨rfl, hb2⟩
  have hB2 := Lib.hid (hal.out.trans (hb2.mono hal.out.size))
  clear hb2 hal had
  go_wp2_with fail
  (with_reducible refine (hgt.out _).mono ?_)
  rintro e w3 ⟨rfl, hb3⟩
  have hB3 := Lib.hid (hB2.out.trans (hb3.mono hB2.out.size))
  clear hb3 hB2 hgt
  dsimp only [Option.getD_none, Option.isSome_none, zE]
  have hB4 := Lib.hid (hB3.out.alloc hB3.out.size (.cells #[.int .i64 0, .int .i64 0, .int .i64 0] 32))
  clear hB3
  go_wp2_with fail
  (with_reducible refine (hlv.out _).mono ?_)
  rintro e w4 ⟨rfl, hb4⟩
  have hB5 := Lib.hid (hB4.out.trans (hb4.mono hB4.out.size))
  clear hb4 hB4 hlv
  go_wp2_with fail
  (with_reducible refine (hct.out _).mono ?_)
  rintro e w5 ⟨rfl, hb5⟩
  have hB6 := Lib.hid (hB5.out.trans (hb5.mono hB5.out.size))
  clear hb5 hB5 hct
  go_wp2_with fail
  (with_reducible refine (hsq.out _).mono ?_)
  rintro e w6 ⟨rfl, rfl⟩
  go_wp2_with fail
  go_ret
  exact ⟨rfl, hB6.out⟩
end Go.Proofs.Ytchipfpnikkbeaa
