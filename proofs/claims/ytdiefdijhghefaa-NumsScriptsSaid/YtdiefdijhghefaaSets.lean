/- The set's With, Without and Has, over the words as one value. -/
import Derived.Test.YtdiefdijhghefaaSetWords
import Derived.ChangeKeysEq
namespace Go.Proofs.Ytdiefdijhghefaa
open Go.RowKit Sets

def Sets.W4.val (s : W4) : Value := .agg #[.int .u64 (s.a : Int), .int .u64 (s.b : Int), .int .u64 (s.c : Int), .int .u64 (s.d : Int)]

theorem one_shl (r : Nat) (hr : r < 64) : IntKind.u64.wrap (2 ^ r) = ((2 ^ r : Nat) : Int) := by
  have h := Nat.pow_lt_pow_right (a := 2) (by omega) hr
  rw [IntKind.wrap_u64]
  have e : ((2 ^ r : Nat) : Int) = 2 ^ r := by simp
  rw [← e]
  generalize 2 ^ r = P at *
  omega
theorem or_bit (x r : Nat) (hx : x < 2 ^ 64) (hr : r < 64) : bits .or .u64 (x : Int) (IntKind.u64.wrap (2 ^ r)) = ((x ||| 2 ^ r : Nat) : Int) := by
  rw [one_shl r hr, u64_or_nat _ _ (by simpa using hx) (by simpa using Nat.pow_lt_pow_right (a := 2) (by omega) hr)]
theorem andNot_bit (x r : Nat) (hx : x < 2 ^ 64) (hr : r < 64) : bits .andNot .u64 (x : Int) (IntKind.u64.wrap (2 ^ r)) = ((x &&& (2 ^ 64 - 1 - 2 ^ r) : Nat) : Int) := by
  rw [one_shl r hr, u64_andNot_nat _ _ (by simpa using hx) (by simpa using Nat.pow_lt_pow_right (a := 2) (by omega) hr)]

theorem with_any (s : W4) (hs : s.ok) (n : Int) (w : World) :
    Calls Try.prog 17 #[s.val, .int .i64 n] w fun e w' => e = .returned (s.withI n).val ∧ Below w.heap.size w w' := by
  obtain ⟨h1, h2, h3, h4⟩ := hs
  by_cases hn : 0 ≤ n ∧ n < 256
  · obtain ⟨m, rfl⟩ := Int.eq_ofNat_of_zero_le hn.1
    have hm : m < 256 := by omega
    have e : s.withI (m : Int) = s.put m := by unfold W4.withI; rw [if_pos hn]; simp
    rw [e]
    have hr : (m : Int) % 64 = ((m % 64 : Nat) : Int) := by omega
    have hr64 : m % 64 < 64 := by omega
    unfold W4.put W4.get W4.set
    rcases (by omega : m / 64 = 0 ∨ m / 64 = 1 ∨ m / 64 = 2 ∨ m / 64 = 3) with hq | hq | hq | hq
    · rw [hq]; exact with_0 s.a s.b s.c s.d m (m % 64) _ hm w (by omega) hr hr64 (or_bit _ _ h1 hr64)
    · rw [hq]; exact with_1 s.a s.b s.c s.d m (m % 64) _ hm w (by omega) hr hr64 (or_bit _ _ h2 hr64)
    · rw [hq]; exact with_2 s.a s.b s.c s.d m (m % 64) _ hm w (by omega) hr hr64 (or_bit _ _ h3 hr64)
    · rw [hq]; exact with_3 s.a s.b s.c s.d m (m % 64) _ hm w (by omega) hr hr64 (or_bit _ _ h4 hr64)
  · have e : s.withI n = s := by unfold W4.withI; rw [if_neg hn]
    rw [e]
    have hp := possible_any n
    rw [decide_eq_false hn] at hp
    have hpH := Lib.hid hp
    clear hp
    unfold W4.val
    generalize s.a = a; generalize s.b = b; generalize s.c = c; generalize s.d = d
    go_enter Try.func17, Try.ntmps17
    go_wp2_with (go_at_call 27; refine (hpH.out _).mono ?_; rintro e w' ⟨rfl, rfl⟩)
    refine bodyPost_ret (v := .agg #[.int .u64 (a : Int), .int .u64 (b : Int), .int .u64 (c : Int), .int .u64 (d : Int)]) (by simp [results, Try.results17, go_sem]) rfl ⟨rfl, ?_⟩
    exact ((Below.refl _ _).alloc (Nat.le_refl _) _).alloc (by simp) _

theorem less_any (s : W4) (hs : s.ok) (n : Int) (w : World) :
    Calls Try.prog 15 #[s.val, .int .i64 n] w fun e w' => e = .returned (s.lessI n).val ∧ Below w.heap.size w w' := by
  obtain ⟨h1, h2, h3, h4⟩ := hs
  by_cases hn : 0 ≤ n ∧ n < 256
  · obtain ⟨m, rfl⟩ := Int.eq_ofNat_of_zero_le hn.1
    have hm : m < 256 := by omega
    have e : s.lessI (m : Int) = s.del m := by unfold W4.lessI; rw [if_pos hn]; simp
    rw [e]
    have hr : (m : Int) % 64 = ((m % 64 : Nat) : Int) := by omega
    have hr64 : m % 64 < 64 := by omega
    unfold W4.del W4.get W4.set
    rcases (by omega : m / 64 = 0 ∨ m / 64 = 1 ∨ m / 64 = 2 ∨ m / 64 = 3) with hq | hq | hq | hq
    · rw [hq]; exact less_0 s.a s.b s.c s.d m (m % 64) _ hm w (by omega) hr hr64 (andNot_bit _ _ h1 hr64)
    · rw [hq]; exact less_1 s.a s.b s.c s.d m (m % 64) _ hm w (by omega) hr hr64 (andNot_bit _ _ h2 hr64)
    · rw [hq]; exact less_2 s.a s.b s.c s.d m (m % 64) _ hm w (by omega) hr hr64 (andNot_bit _ _ h3 hr64)
    · rw [hq]; exact less_3 s.a s.b s.c s.d m (m % 64) _ hm w (by omega) hr hr64 (andNot_bit _ _ h4 hr64)
  · have e : s.lessI n = s := by unfold W4.lessI; rw [if_neg hn]
    rw [e]
    have hp := possible_any n
    rw [decide_eq_false hn] at hp
    have hpH := Lib.hid hp
    clear hp
    unfold W4.val
    generalize s.a = a; generalize s.b = b; generalize s.c = c; generalize s.d = d
    go_enter Try.func15, Try.ntmps15
    go_wp2_with (go_at_call 27; refine (hpH.out _).mono ?_; rintro e w' ⟨rfl, rfl⟩)
    refine bodyPost_ret (v := .agg #[.int .u64 (a : Int), .int .u64 (b : Int), .int .u64 (c : Int), .int .u64 (d : Int)]) (by simp [results, Try.results15, go_sem]) rfl ⟨rfl, ?_⟩
    exact ((Below.refl _ _).alloc (Nat.le_refl _) _).alloc (by simp) _

theorem cellsU : Try.prog.cellsOf 30 = 1 := by kernel_rfl
theorem infoU : (Try.prog.info? 30).isSome = true := by kernel_rfl
theorem parts4 (a b c d : Int) (w : World) :
    (part 30 #[.int .u64 a, .int .u64 b, .int .u64 c, .int .u64 d] 0).run Try.prog w = .ok (.int .u64 a) w ∧ (part 30 #[.int .u64 a, .int .u64 b, .int .u64 c, .int .u64 d] 1).run Try.prog w = .ok (.int .u64 b) w
    ∧ (part 30 #[.int .u64 a, .int .u64 b, .int .u64 c, .int .u64 d] 2).run Try.prog w = .ok (.int .u64 c) w ∧ (part 30 #[.int .u64 a, .int .u64 b, .int .u64 c, .int .u64 d] 3).run Try.prog w = .ok (.int .u64 d) w :=
  ⟨by kernel_rfl, by kernel_rfl, by kernel_rfl, by kernel_rfl⟩
theorem eq4 (a b c d a' b' c' d' : Int) (w : World) :
    (Op.equalIn 10000 31 (.agg #[.int .u64 a, .int .u64 b, .int .u64 c, .int .u64 d]) (.agg #[.int .u64 a', .int .u64 b', .int .u64 c', .int .u64 d'])).run Try.prog w
      = .ok ((a == a') && (b == b') && (c == c') && (d == d')) w := by
  obtain ⟨i, hi⟩ := Option.isSome_iff_exists.1 infoU
  rw [run_equalIn_array w 9999 _ _ Try.underlying31 hi, cellsU]
  obtain ⟨p0, p1, p2, p3⟩ := parts4 a b c d w
  obtain ⟨q0, q1, q2, q3⟩ := parts4 a' b' c' d' w
  have e : List.range 4 = [0, 1, 2, 3] := rfl
  have hq : ∀ x y : Int, (Op.equalIn 9999 30 (.int .u64 x) (.int .u64 y)).run Try.prog w = .ok (x == y) w := fun x y => run_equalIn_int w 9998 _ _ _ x y Try.underlying30
  rw [e]
  simp only [Op.eqItems, Sem.run_bind, Nat.mul_one, p0, q0, hq, Result.andThen_ok]
  cases h1 : (a == a') <;> cases h2 : (b == b') <;> cases h3 : (c == c') <;> cases h4 : (d == d') <;> simp [p1, p2, p3, q1, q2, q3, hq, h2, h3, h4]

set_option maxHeartbeats 400000 in
theorem has_out (s : W4) (n : Int) (w : World) (hn : ¬ (0 ≤ n ∧ n < 256)) :
    Calls Try.prog 19 #[s.val, .int .i64 n] w fun e w' => e = .returned (.bool false) ∧ Below w.heap.size w w' := by
  have hp := possible_any n
  rw [decide_eq_false hn] at hp
  have hpH := Lib.hid hp
  clear hp
  unfold W4.val
  generalize s.a = a; generalize s.b = b; generalize s.c = c; generalize s.d = d
  go_enter Try.func19, Try.ntmps19
  go_wp2_with fail
  go_quiet ((go_at_call 27; exact quiet_left (hpH.out _)))
  go_wp2
  go_ret
  exact ⟨rfl, below_drewN ((Below.refl _ _).alloc (Nat.le_refl _) _) _⟩

set_option maxHeartbeats 400000 in
theorem has_in (s t : W4) (n : Int) (w : World) (hn : 0 ≤ n ∧ n < 256) (z : Bool) (hwith : ∀ w, Calls Try.prog 17 #[s.val, .int .i64 n] w fun e w' => e = .returned t.val ∧ Below w.heap.size w w')
    (hz : (((t.a : Int) == (s.a : Int)) && ((t.b : Int) == (s.b : Int)) && ((t.c : Int) == (s.c : Int)) && ((t.d : Int) == (s.d : Int))) = z) :
    Calls Try.prog 19 #[s.val, .int .i64 n] w fun e w' => e = .returned (.bool z) ∧ Below w.heap.size w w' := by
  have hp := possible_any n
  rw [decide_eq_true hn] at hp
  have hpH := Lib.hid hp
  clear hp
  unfold W4.val at hwith ⊢
  generalize s.a = a at hwith hz ⊢; generalize s.b = b at hwith hz ⊢; generalize s.c = c at hwith hz ⊢; generalize s.d = d at hwith hz ⊢
  generalize t.a = a' at hwith hz; generalize t.b = b' at hwith hz; generalize t.c = c' at hwith hz; generalize t.d = d' at hwith hz
  have hwH := Lib.hid hwith
  clear hwith
  have heq := fun w => eq4 a' b' c' d' a b c d w
  rw [hz] at heq
  have hfield : ∀ w, (Instr.field 33 (.agg #[.int .u64 (a' : Int), .int .u64 (b' : Int), .int .u64 (c' : Int), .int .u64 (d' : Int)]) 0).run Try.prog w = .ok (.agg #[.int .u64 (a' : Int), .int .u64 (b' : Int), .int .u64 (c' : Int), .int .u64 (d' : Int)]) w := fun _ => by kernel_rfl
  go_enter Try.func19, Try.ntmps19
  go_wp2_with fail
  go_region_with (first | (go_at_call 27; refine (hpH.out _).mono ?_; rintro e w' ⟨rfl, rfl⟩) | (go_at_call 17; refine (hwH.out _).mono ?_; rintro e w1 ⟨rfl, hb1⟩; obtain ⟨hc1, hf1⟩ := bcell hb1))
  all_goals
    go_wp2
    go_ret
    exact ⟨rfl, (((Below.refl _ _).alloc (Nat.le_refl _) _).drew).trans (hb1.mono (by simp))⟩

theorem has_any (s : W4) (hs : s.ok) (n : Int) (w : World) :
    Calls Try.prog 19 #[s.val, .int .i64 n] w fun e w' => e = .returned (.bool (s.hasI n)) ∧ Below w.heap.size w w' := by
  by_cases hn : 0 ≤ n ∧ n < 256
  · refine has_in s (s.withI n) n w hn (s.hasI n) (fun w => with_any s hs n w) ?_
    have h := W4.withI_same hs n hn
    have e : (((s.withI n).a : Int) == (s.a : Int) && ((s.withI n).b : Int) == (s.b : Int) && ((s.withI n).c : Int) == (s.c : Int) && ((s.withI n).d : Int) == (s.d : Int)) = true ↔ s.withI n = s := by
      simp only [Bool.and_eq_true, beq_iff_eq]
      constructor
      · rintro ⟨⟨⟨h1, h2⟩, h3⟩, h4⟩
        generalize s.withI n = t at *
        cases t; cases s
        simp only [W4.mk.injEq] at *
        omega
      · intro e; rw [e]; simp
    rw [Bool.eq_iff_iff, e, h]
  · have e : s.hasI n = false := by
      cases h : s.hasI n
      · rfl
      · exact absurd (W4.hasI_range h) hn
    rw [e]
    exact has_out s n w hn

end Go.Proofs.Ytdiefdijhghefaa
