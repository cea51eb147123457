/- What the set's With, Without and Has do. -/
import Derived.Test.YtdiefdijhghefaaBytes
import Derived.Test.YtdiefdijhghefaaSetMath
import Derived.RegionTactic
namespace Go.Proofs.Ytdiefdijhghefaa
open Go.RowKit Sets

theorem possible_any (n : Int) (w : World) : Calls Try.prog 27 #[.int .i64 n] w fun e w' => e = .returned (.bool (decide (0 ≤ n ∧ n < 256))) ∧ w = w' := by
  by_cases h0 : 0 ≤ n
  · by_cases h1 : n < 256
    · rw [decide_eq_true ⟨h0, h1⟩]
      go_enter Try.func27, Try.ntmps27
      go_wp2
      go_ret
      exact ⟨by simp [*], rfl⟩
    · rw [decide_eq_false (by omega)]
      go_enter Try.func27, Try.ntmps27
      go_wp2
      go_ret
      exact ⟨by simp [*], rfl⟩
  · rw [decide_eq_false (by omega)]
    go_enter Try.func27, Try.ntmps27
    go_wp2
    go_ret
    exact ⟨by simp [*], rfl⟩


set_option maxHeartbeats 400000 in
theorem with_0 (a b c d n r X : Nat) (_hn : n < 256) (w : World) (hq : (n : Int) / 64 = 0) (hr : (n : Int) % 64 = (r : Int)) (_hr64 : r < 64) (hX : bits .or .u64 (a : Int) (IntKind.u64.wrap (2 ^ r)) = (X : Int)) :
    Calls Try.prog 17 #[.agg #[.int .u64 (a : Int), .int .u64 (b : Int), .int .u64 (c : Int), .int .u64 (d : Int)], .int .i64 (n : Int)] w fun e w' => e = .returned (.agg #[.int .u64 (X : Int), .int .u64 (b : Int), .int .u64 (c : Int), .int .u64 (d : Int)]) ∧ Below w.heap.size w w' := by
  have hp := possible_any n
  rw [decide_eq_true (by omega)] at hp
  have hpH := Lib.hid hp
  clear hp
  go_enter Try.func17, Try.ntmps17
  go_wp2_with (go_at_call 27; refine (hpH.out _).mono ?_; rintro e w' ⟨rfl, rfl⟩)
  go_region
  go_wp2
  refine bodyPost_ret (v := .agg #[.int .u64 (X : Int), .int .u64 (b : Int), .int .u64 (c : Int), .int .u64 (d : Int)]) (by simp [results, Try.results17, go_sem]) rfl ⟨rfl, ?_⟩
  exact (((Below.refl _ _).alloc (Nat.le_refl _) _).alloc (by simp) _).drew

set_option maxHeartbeats 400000 in
theorem with_1 (a b c d n r X : Nat) (_hn : n < 256) (w : World) (hq : (n : Int) / 64 = 1) (hr : (n : Int) % 64 = (r : Int)) (_hr64 : r < 64) (hX : bits .or .u64 (b : Int) (IntKind.u64.wrap (2 ^ r)) = (X : Int)) :
    Calls Try.prog 17 #[.agg #[.int .u64 (a : Int), .int .u64 (b : Int), .int .u64 (c : Int), .int .u64 (d : Int)], .int .i64 (n : Int)] w fun e w' => e = .returned (.agg #[.int .u64 (a : Int), .int .u64 (X : Int), .int .u64 (c : Int), .int .u64 (d : Int)]) ∧ Below w.heap.size w w' := by
  have hp := possible_any n
  rw [decide_eq_true (by omega)] at hp
  have hpH := Lib.hid hp
  clear hp
  go_enter Try.func17, Try.ntmps17
  go_wp2_with (go_at_call 27; refine (hpH.out _).mono ?_; rintro e w' ⟨rfl, rfl⟩)
  go_region
  go_wp2
  refine bodyPost_ret (v := .agg #[.int .u64 (a : Int), .int .u64 (X : Int), .int .u64 (c : Int), .int .u64 (d : Int)]) (by simp [results, Try.results17, go_sem]) rfl ⟨rfl, ?_⟩
  exact (((Below.refl _ _).alloc (Nat.le_refl _) _).alloc (by simp) _).drew

set_option maxHeartbeats 400000 in
theorem with_2 (a b c d n r X : Nat) (_hn : n < 256) (w : World) (hq : (n : Int) / 64 = 2) (hr : (n : Int) % 64 = (r : Int)) (_hr64 : r < 64) (hX : bits .or .u64 (c : Int) (IntKind.u64.wrap (2 ^ r)) = (X : Int)) :
    Calls Try.prog 17 #[.agg #[.int .u64 (a : Int), .int .u64 (b : Int), .int .u64 (c : Int), .int .u64 (d : Int)], .int .i64 (n : Int)] w fun e w' => e = .returned (.agg #[.int .u64 (a : Int), .int .u64 (b : Int), .int .u64 (X : Int), .int .u64 (d : Int)]) ∧ Below w.heap.size w w' := by
  have hp := possible_any n
  rw [decide_eq_true (by omega)] at hp
  have hpH := Lib.hid hp
  clear hp
  go_enter Try.func17, Try.ntmps17
  go_wp2_with (go_at_call 27; refine (hpH.out _).mono ?_; rintro e w' ⟨rfl, rfl⟩)
  go_region
  go_wp2
  refine bodyPost_ret (v := .agg #[.int .u64 (a : Int), .int .u64 (b : Int), .int .u64 (X : Int), .int .u64 (d : Int)]) (by simp [results, Try.results17, go_sem]) rfl ⟨rfl, ?_⟩
  exact (((Below.refl _ _).alloc (Nat.le_refl _) _).alloc (by simp) _).drew

set_option maxHeartbeats 400000 in
theorem with_3 (a b c d n r X : Nat) (_hn : n < 256) (w : World) (hq : (n : Int) / 64 = 3) (hr : (n : Int) % 64 = (r : Int)) (_hr64 : r < 64) (hX : bits .or .u64 (d : Int) (IntKind.u64.wrap (2 ^ r)) = (X : Int)) :
    Calls Try.prog 17 #[.agg #[.int .u64 (a : Int), .int .u64 (b : Int), .int .u64 (c : Int), .int .u64 (d : Int)], .int .i64 (n : Int)] w fun e w' => e = .returned (.agg #[.int .u64 (a : Int), .int .u64 (b : Int), .int .u64 (c : Int), .int .u64 (X : Int)]) ∧ Below w.heap.size w w' := by
  have hp := possible_any n
  rw [decide_eq_true (by omega)] at hp
  have hpH := Lib.hid hp
  clear hp
  go_enter Try.func17, Try.ntmps17
  go_wp2_with (go_at_call 27; refine (hpH.out _).mono ?_; rintro e w' ⟨rfl, rfl⟩)
  go_region
  go_wp2
  refine bodyPost_ret (v := .agg #[.int .u64 (a : Int), .int .u64 (b : Int), .int .u64 (c : Int), .int .u64 (X : Int)]) (by simp [results, Try.results17, go_sem]) rfl ⟨rfl, ?_⟩
  exact (((Below.refl _ _).alloc (Nat.le_refl _) _).alloc (by simp) _).drew

set_option maxHeartbeats 400000 in
theorem less_0 (a b c d n r X : Nat) (_hn : n < 256) (w : World) (hq : (n : Int) / 64 = 0) (hr : (n : Int) % 64 = (r : Int)) (_hr64 : r < 64) (hX : bits .andNot .u64 (a : Int) (IntKind.u64.wrap (2 ^ r)) = (X : Int)) :
    Calls Try.prog 15 #[.agg #[.int .u64 (a : Int), .int .u64 (b : Int), .int .u64 (c : Int), .int .u64 (d : Int)], .int .i64 (n : Int)] w fun e w' => e = .returned (.agg #[.int .u64 (X : Int), .int .u64 (b : Int), .int .u64 (c : Int), .int .u64 (d : Int)]) ∧ Below w.heap.size w w' := by
  have hp := possible_any n
  rw [decide_eq_true (by omega)] at hp
  have hpH := Lib.hid hp
  clear hp
  go_enter Try.func15, Try.ntmps15
  go_wp2_with (go_at_call 27; refine (hpH.out _).mono ?_; rintro e w' ⟨rfl, rfl⟩)
  go_region
  go_wp2
  refine bodyPost_ret (v := .agg #[.int .u64 (X : Int), .int .u64 (b : Int), .int .u64 (c : Int), .int .u64 (d : Int)]) (by simp [results, Try.results15, go_sem]) rfl ⟨rfl, ?_⟩
  exact (((Below.refl _ _).alloc (Nat.le_refl _) _).alloc (by simp) _).drew

set_option maxHeartbeats 400000 in
theorem less_1 (a b c d n r X : Nat) (_hn : n < 256) (w : World) (hq : (n : Int) / 64 = 1) (hr : (n : Int) % 64 = (r : Int)) (_hr64 : r < 64) (hX : bits .andNot .u64 (b : Int) (IntKind.u64.wrap (2 ^ r)) = (X : Int)) :
    Calls Try.prog 15 #[.agg #[.int .u64 (a : Int), .int .u64 (b : Int), .int .u64 (c : Int), .int .u64 (d : Int)], .int .i64 (n : Int)] w fun e w' => e = .returned (.agg #[.int .u64 (a : Int), .int .u64 (X : Int), .int .u64 (c : Int), .int .u64 (d : Int)]) ∧ Below w.heap.size w w' := by
  have hp := possible_any n
  rw [decide_eq_true (by omega)] at hp
  have hpH := Lib.hid hp
  clear hp
  go_enter Try.func15, Try.ntmps15
  go_wp2_with (go_at_call 27; refine (hpH.out _).mono ?_; rintro e w' ⟨rfl, rfl⟩)
  go_region
  go_wp2
  refine bodyPost_ret (v := .agg #[.int .u64 (a : Int), .int .u64 (X : Int), .int .u64 (c : Int), .int .u64 (d : Int)]) (by simp [results, Try.results15, go_sem]) rfl ⟨rfl, ?_⟩
  exact (((Below.refl _ _).alloc (Nat.le_refl _) _).alloc (by simp) _).drew

set_option maxHeartbeats 400000 in
theorem less_2 (a b c d n r X : Nat) (_hn : n < 256) (w : World) (hq : (n : Int) / 64 = 2) (hr : (n : Int) % 64 = (r : Int)) (_hr64 : r < 64) (hX : bits .andNot .u64 (c : Int) (IntKind.u64.wrap (2 ^ r)) = (X : Int)) :
    Calls Try.prog 15 #[.agg #[.int .u64 (a : Int), .int .u64 (b : Int), .int .u64 (c : Int), .int .u64 (d : Int)], .int .i64 (n : Int)] w fun e w' => e = .returned (.agg #[.int .u64 (a : Int), .int .u64 (b : Int), .int .u64 (X : Int), .int .u64 (d : Int)]) ∧ Below w.heap.size w w' := by
  have hp := possible_any n
  rw [decide_eq_true (by omega)] at hp
  have hpH := Lib.hid hp
  clear hp
  go_enter Try.func15, Try.ntmps15
  go_wp2_with (go_at_call 27; refine (hpH.out _).mono ?_; rintro e w' ⟨rfl, rfl⟩)
  go_region
  go_wp2
  refine bodyPost_ret (v := .agg #[.int .u64 (a : Int), .int .u64 (b : Int), .int .u64 (X : Int), .int .u64 (d : Int)]) (by simp [results, Try.results15, go_sem]) rfl ⟨rfl, ?_⟩
  exact (((Below.refl _ _).alloc (Nat.le_refl _) _).alloc (by simp) _).drew

set_option maxHeartbeats 400000 in
theorem less_3 (a b c d n r X : Nat) (_hn : n < 256) (w : World) (hq : (n : Int) / 64 = 3) (hr : (n : Int) % 64 = (r : Int)) (_hr64 : r < 64) (hX : bits .andNot .u64 (d : Int) (IntKind.u64.wrap (2 ^ r)) = (X : Int)) :
    Calls Try.prog 15 #[.agg #[.int .u64 (a : Int), .int .u64 (b : Int), .int .u64 (c : Int), .int .u64 (d : Int)], .int .i64 (n : Int)] w fun e w' => e = .returned (.agg #[.int .u64 (a : Int), .int .u64 (b : Int), .int .u64 (c : Int), .int .u64 (X : Int)]) ∧ Below w.heap.size w w' := by
  have hp := possible_any n
  rw [decide_eq_true (by omega)] at hp
  have hpH := Lib.hid hp
  clear hp
  go_enter Try.func15, Try.ntmps15
  go_wp2_with (go_at_call 27; refine (hpH.out _).mono ?_; rintro e w' ⟨rfl, rfl⟩)
  go_region
  go_wp2
  refine bodyPost_ret (v := .agg #[.int .u64 (a : Int), .int .u64 (b : Int), .int .u64 (c : Int), .int .u64 (X : Int)]) (by simp [results, Try.results15, go_sem]) rfl ⟨rfl, ?_⟩
  exact (((Below.refl _ _).alloc (Nat.le_refl _) _).alloc (by simp) _).drew

end Go.Proofs.Ytdiefdijhghefaa
