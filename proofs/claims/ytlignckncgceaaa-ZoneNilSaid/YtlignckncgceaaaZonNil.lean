/- What the law ZoneNil does: no zones. -/
import Derived.Test.YtlignckncgceaaaZonSame
namespace Go.Proofs.Ytlignckncgceaaa
open Go.RowKit Zon

theorem do_nil (k zz a n : Int) (w : World) :
    Calls Try.prog 13 #[.pointer none, .agg #[.int .i64 k, .int .i64 zz, .int .i64 a, .int .i64 n]] w fun e w' => e = .returned (.tuple #[.int .i64 0, .int .i64 1]) ∧ Below w.heap.size w w' := by
  go_enter Try.func13, Try.ntmps13
  go_wp2
  go_ret2
  exact ⟨rfl, (Below.refl _ _).alloc (Nat.le_refl _) _⟩
theorem get_nil (x : Int) (w : World) :
    Calls Try.prog 18 #[.pointer none, .int .i64 x] w fun e w' => e = .returned (.tuple #[.agg #[.int .i64 0, .int .i64 0], .bool false]) ∧ Below w.heap.size w w' := by
  go_enter Try.func18, Try.ntmps18
  go_wp2
  refine bodyPost_ret (v := .tuple #[.agg #[.int .i64 0, .int .i64 0], .bool false]) (by simp [results, Try.results18, go_sem]) rfl ⟨rfl, ?_⟩
  exact (Below.refl _ _).alloc (Nat.le_refl _) _
theorem counts_nil (w : World) :
    Calls Try.prog 19 #[.pointer none] w fun e w' => e = .returned (.tuple #[.int .i64 0, .int .i64 0]) ∧ w = w' := by
  go_enter Try.func19, Try.ntmps19
  go_wp2
  go_ret2
  exact ⟨rfl, rfl⟩
theorem lost_nil (v : Value) (w : World) :
    Calls Try.prog 16 #[.pointer none, v] w fun e w' => e = .returned (.tuple #[]) ∧ w = w' := by
  go_enter Try.func16, Try.ntmps16
  go_wp2
  exact bodyPost_ret (v := .tuple #[]) (by simp [results, Try.results16, go_sem]) rfl ⟨rfl, rfl⟩
theorem clone_nil (w : World) :
    Calls Try.prog 12 #[.pointer none] w fun e w' => e = .returned (.pointer none) ∧ w = w' := by
  go_enter Try.func12, Try.ntmps12
  go_wp2
  go_ret
  exact ⟨rfl, rfl⟩

set_option maxHeartbeats 1000000 in
theorem nil_law (k zz a n z : Int) (w : World) :
    Calls Try.prog 6 #[.agg #[.int .i64 k, .int .i64 zz, .int .i64 a, .int .i64 n], .int .i64 z] w fun e w' => e = .returned (.bool true) ∧ Below w.heap.size w w' := by
  have hz := fun W => (zone_eql W 0 0 0 0).1
  simp only [beq_self_eq_true, Bool.and_self] at hz
  go_enter Try.func6, Try.ntmps6
  go_wp2_with fail
  refine (speaks5 _).mono ?_
  rintro e w1 ⟨rfl, hb⟩
  have hB1 := ((Below.refl w.heap.size w).alloc (Nat.le_refl _) (.cells #[.int .i64 k, .int .i64 zz, .int .i64 a, .int .i64 n] 37)).trans (hb.mono (by simp))
  have hc : ∀ o, w1.cell? ⟨w.heap.size, o, none⟩ = (w.alloc (.cells #[.int .i64 k, .int .i64 zz, .int .i64 a, .int .i64 n] 37)).cell? ⟨w.heap.size, o, none⟩ := fun o => hb.cell (p := ⟨w.heap.size, o, none⟩) (by simp)
  have c0 := (hc 0).trans (show _ = some (Value.int .i64 k) by go_simp)
  have c1 := (hc 1).trans (show _ = some (Value.int .i64 zz) by go_simp)
  have c2 := (hc 2).trans (show _ = some (Value.int .i64 a) by go_simp)
  have c3 := (hc 3).trans (show _ = some (Value.int .i64 n) by go_simp)
  clear hc hb
  go_wp2_with fail
  refine (do_nil k zz a n _).mono ?_
  rintro e w2 ⟨rfl, hb2⟩
  have hB2 := hB1.trans (hb2.mono hB1.size)
  go_wp2_with fail
  refine (get_nil z _).mono ?_
  rintro e w3 ⟨rfl, hb3⟩
  have hB3 := hB2.trans (hb3.mono hB2.size)
  clear c0 c1 c2 c3 hB1 hB2 hb2 hb3
  go_wp2_with (first | (go_at_call 19; refine (counts_nil _).mono ?_; rintro e w4 ⟨rfl, rfl⟩) | (go_at_call 16; refine (lost_nil _ _).mono ?_; rintro e w5 ⟨rfl, rfl⟩) | (go_at_call 12; refine (clone_nil _).mono ?_; rintro e w6 ⟨rfl, rfl⟩))
  go_ret
  exact ⟨rfl, (hB3.alloc hB3.size _).alloc (Nat.le_trans hB3.size (by simp)) _⟩
end Go.Proofs.Ytlignckncgceaaa
