/- What the laws ZoneFrees and ZoneGoes do. -/
import Derived.Test.YtlignckncgceaaaZonSame
import Derived.Test.YtlignckncgceaaaZonFreeM
import Derived.Test.YtlignckncgceaaaModIn
import Derived.Test.YtlignckncgceaaaMask
namespace Go.Proofs.Ytlignckncgceaaa
open Go.RowKit Zon

/-- The answer of Do, where the pure one is known. -/
theorem do_eq (g z : Nat) (m : Mc) (k zz a n : Int) (w : World) (hM : MAt w g z m) (hok : m.Ok) (ha : a ≤ 9223372036854775807) {x y : Int} {zs : List Zn} (h : doM m k zz a n = (x, y, zs)) :
    Calls Try.prog 13 #[.pointer (some ⟨g, 0, none⟩), .agg #[.int .i64 k, .int .i64 zz, .int .i64 a, .int .i64 n]] w fun e w' => e = .returned (.tuple #[.int .i64 x, .int .i64 y]) ∧ MAt w' g z (m.with zs) ∧ Only w w' z := by
  have := do_any g z m k zz a n w hM hok ha
  rw [h] at this
  exact this
set_option maxRecDepth 100000 in
set_option maxHeartbeats 2000000 in
theorem frees_law (x y : Int) (r : Bool) (w : World) :
    Calls Try.prog 8 #[.int .i64 x, .int .i64 y, .bool r] w fun e w' => e = .returned (.bool true) ∧ Below w.heap.size w w' := by
  obtain ⟨a0, ha0', hand0⟩ := mask_nat2 x 3 7 rfl (by omega)
  have hand : bits .and .i64 x 7 = (a0 : Int) := hand0
  have ha0 : a0 < 8 := ha0'
  clear hand0 ha0'
  obtain ⟨a, hae⟩ : ∃ a, a0 + 1 = a := ⟨_, rfl⟩
  have ha1 : 1 ≤ a := by omega
  have ha8 : a ≤ 8 := by omega
  have hsum : (1 : Int) + (a0 : Int) = (a : Int) := by omega
  obtain ⟨t, p, e1, e2, hp0, hp1, ht1, ht2, _, _, _⟩ := mod_in y (a : Int) (by omega) (by omega)
  obtain ⟨q, rfl⟩ := Int.eq_ofNat_of_zero_le hp0
  have hqa : q < a := by omega
  have hnew := Lib.hid (fun W => (show Calls Try.prog 10 #[.int .i64 ((a : Int) + 1), .int .i64 4, .int .i64 (a : Int), .int .i64 (a : Int)] W (fun e w' => ∃ g z, e = .returned (.tuple #[.pointer (some ⟨g, 0, none⟩), .int .i64 0]) ∧ MNew W w' g z (frM a 0)) from by
    rw [← fr_new]; exact new_good ((a : Int) + 1) 4 (a : Int) (a : Int) W (fr_newOk ha1 ha8)))
  have hstep := Lib.hid (fun k (hk : k < a) g z W (hM : MAt W g z (frM a k)) => do_eq g z (frM a k) 2 (k : Int) 0 1 W hM (fr_ok ha1 ha8 (by omega)) (by omega) (fr_step ha8 hk))
  have hfull := Lib.hid (fun g z W (hM : MAt W g z (frM a a)) => do_eq g z (frM a a) 2 (a : Int) 0 1 W hM (fr_ok ha1 ha8 (by omega)) (by omega) (fr_full ha1 ha8))
  obtain ⟨f1, f2, f3, f4, f5⟩ := fr_end ha8 hqa r
  have hok0 := fr_ok (a := a) (k := a) ha1 ha8 (Nat.le_refl _)
  have hok1 : (frM1 a q r).Ok := doM_ok hok0 _ _ _ _
  have hok2 : (frM2 a q r).Ok := doM_ok hok1 _ _ _ _
  have hd1 := fun g z W (hM : MAt W g z (frM a a)) => do_any g z (frM a a) (frK r) (q : Int) 0 0 W hM hok0 (by omega)
  have hd2 := fun g z W (hM : MAt W g z (frM1 a q r)) => do_any g z (frM1 a q r) 2 (a : Int) 0 1 W hM hok1 (by omega)
  have hcts := fun g z W (hM : MAt W g z (frM2 a q r)) => counts_any g z (frM2 a q r) W hM hok2.z2
  have e1' : ∀ g z W, MAt W g z (frM a a) → Calls Try.prog 13 #[.pointer (some ⟨g, 0, none⟩), .agg #[.int .i64 (frK r), .int .i64 (q : Int), .int .i64 0, .int .i64 0]] W fun e w' => e = .returned (.tuple #[.int .i64 0, .int .i64 0]) ∧ MAt w' g z (frM1 a q r) ∧ Only W w' z := fun g z W hM => by
    have := hd1 g z W hM
    unfold CmdPost at this
    rw [f1, f2] at this
    exact this
  have e2' : ∀ g z W, MAt W g z (frM1 a q r) → ∃ u, Calls Try.prog 13 #[.pointer (some ⟨g, 0, none⟩), .agg #[.int .i64 2, .int .i64 (a : Int), .int .i64 0, .int .i64 1]] W fun e w' => e = .returned (.tuple #[.int .i64 u, .int .i64 0]) ∧ MAt w' g z (frM2 a q r) ∧ Only W w' z := fun g z W hM => by
    have := hd2 g z W hM
    unfold CmdPost at this
    rw [f3] at this
    exact ⟨_, this⟩
  rw [f4, f5] at hcts
  have hK4 : r = false → frK r = 4 := fun h => by rw [h]; rfl
  have hK3 : r = true → frK r = 3 := fun h => by rw [h]; rfl
  generalize frK r = K at e1' hK4 hK3
  generalize frM2 a q r = m2 at e2' hcts
  generalize frM1 a q r = m1 at e1' e2'
  have hd1H := Lib.hid e1'
  have hd2H := Lib.hid e2'
  have hctsH := Lib.hid hcts
  have hK4H := Lib.hid hK4
  have hK3H := Lib.hid hK3
  clear hd1 hd2 hcts f1 f2 f3 f4 f5 hok0 hok1 hok2 e1' e2' hK4 hK3
  have hw1 := IntWalk.i64_in ((a : Int) + 1) (by omega)
  go_enter Try.func8, Try.ntmps8
  go_wp2_with fail
  refine (speaks5 _).mono ?_
  rintro e w1 ⟨rfl, hb1⟩
  go_wp2_with fail
  refine (hnew.out _).mono ?_
  rintro e w2 ⟨g, z, rfl, hM2, hzy, hgy, hb2⟩
  have hB2 := hb1.trans (hb2.mono hb1.size)
  have hwz : w.heap.size ≤ z := Nat.le_trans hb1.size hzy
  clear hb1 hb2 hnew hzy hgy
  go_wp2_with fail
  go_loopw [9] (fun i wr => ∃ k : Nat, k ≤ a ∧ i = .int .i64 (k : Int) ∧ MAt wr g z (frM a k) ∧ Below w.heap.size w wr) (fun i _ => a - (intOf i).toNat)
  case atStart => exact ⟨0, by omega, rfl, hM2, hB2⟩
  case round =>
    clear hM2 hB2
    obtain ⟨k, hk, rfl, hM, hB⟩ := hrel
    by_cases hlt : k < a
    · have hst := Lib.hid (hstep.out k hlt g z _ hM)
      clear hstep hfull hd1H hd2H hctsH
      go_wp2_with fail
      refine hst.out.mono ?_
      rintro e w3 ⟨rfl, hM3, ho3⟩
      have hB3 := hB.trans (ho3.below hwz hB.size)
      go_wp2_with fail
      go_roundw
      case rel => exact ⟨k + 1, by omega, by go_num, hM3, hB3⟩
      case measure => simp [intOf]; omega
    · obtain rfl : k = a := by omega
      clear hstep
      cases r
      case' false => obtain rfl : K = 4 := hK4H.out rfl
      case' true => obtain rfl : K = 3 := hK3H.out rfl
      all_goals
        go_wp2_with fail
        refine (hfull.out g z _ hM).mono ?_
        rintro e w3 ⟨rfl, hM3, ho3⟩
        have hB3 := hB.trans (ho3.below hwz hB.size)
        go_wp2_with fail
        refine (hd1H.out g z _ hM3).mono ?_
        rintro e w4 ⟨rfl, hM4, ho4⟩
        have hB4 := hB3.trans (ho4.below hwz hB3.size)
        have hd5 := Lib.hid (hd2H.out g z _ hM4)
        go_wp2_with fail
        obtain ⟨u, hd6⟩ := hd5.out
        refine hd6.mono ?_
        rintro e w5 ⟨rfl, hM5, ho5⟩
        have hB5 := hB4.trans (ho5.below hwz hB4.size)
        go_wp2_with fail
        refine (hctsH.out g z _ hM5).mono ?_
        rintro e w6 ⟨rfl, hb6⟩
        have hB6 := hB5.trans (hb6.mono hB5.size)
        go_wp2_with fail
        go_ret
        exact ⟨rfl, hB6⟩
end Go.Proofs.Ytlignckncgceaaa
