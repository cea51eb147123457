/- What the law ZoneGoes does. -/
import Derived.Test.YtlignckncgceaaaZonFreeW
namespace Go.Proofs.Ytlignckncgceaaa
open Go.RowKit Zon

theorem goM_with (b l x : Int) : (goM b l).with [goZ b x] = goM b x := rfl

set_option maxRecDepth 100000 in
set_option maxHeartbeats 4000000 in
theorem goes_law (x : Int) (A : Option Addr) (cap : Nat) (ps : List Int) (w : World) (hI : IntsIn w A ps) (hl : ps.length ≤ maxLen) :
    Calls Try.prog 5 #[.int .i64 x, .slice A ps.length cap] w fun e w' => e = .returned (.bool true) ∧ Below w.heap.size w w' := by
  unfold maxLen at hl
  have hIH := Lib.hid hI
  clear hI
  obtain ⟨b, hb1, hb2, hx⟩ : ∃ b : Int, 1 ≤ b ∧ b ≤ 64 ∧ ((x < 1 ∧ b = 9) ∨ (64 < x ∧ b = 9) ∨ (1 ≤ x ∧ x ≤ 64 ∧ x = b)) := by
    by_cases h1 : x < 1
    · exact ⟨9, by omega, by omega, .inl ⟨h1, rfl⟩⟩
    · by_cases h2 : 64 < x
      · exact ⟨9, by omega, by omega, .inr (.inl ⟨h2, rfl⟩)⟩
      · exact ⟨x, by omega, by omega, .inr (.inr ⟨by omega, by omega, rfl⟩)⟩
  have hnew := fun W => (show Calls Try.prog 10 #[.int .i64 1, .int .i64 b, .int .i64 1, .int .i64 1] W (fun e w' => ∃ g z, e = .returned (.tuple #[.pointer (some ⟨g, 0, none⟩), .int .i64 0]) ∧ MNew W w' g z (goM b b)) from by
    rw [← go_new]; exact new_good 1 b 1 1 W (Zon.newOk_iff.2 (by omega)))
  have happ := fun l (h0 : 0 < l) (h1 : l ≤ b) n (hn : 1 ≤ n) (hnl : n ≤ l) g z W (hM : MAt W g z (goM b l)) => do_eq g z (goM b l) 2 0 0 n W hM (go_ok hb1 hb2 (by omega) h1) (by omega) ((go_append b l n h0 h1 hn).trans (if_pos hnl))
  have hapn := fun l (h0 : 0 < l) (h1 : l ≤ b) n (hn : 1 ≤ n) (hnl : ¬ n ≤ l) g z W (hM : MAt W g z (goM b l)) => do_eq g z (goM b l) 2 0 0 n W hM (go_ok hb1 hb2 (by omega) h1) (by omega) ((go_append b l n h0 h1 hn).trans (if_neg hnl))
  have hwri := fun l (h0 : 0 < l) (h1 : l ≤ b) g z W (hM : MAt W g z (goM b l)) => do_eq g z (goM b l) 1 0 (b - l) 1 W hM (go_ok hb1 hb2 (by omega) h1) (by omega) (go_write b l h0 h1)
  obtain ⟨f1, f2, f3, f4, f5⟩ := go_full b hb1
  have hok0 : (goM b 0).Ok := go_ok hb1 hb2 (by omega) (by omega)
  have hokb : (goM b b).Ok := go_ok hb1 hb2 (by omega) (by omega)
  have hget := fun g z W (hM : MAt W g z (goM b 0)) => get_any g z (goM b 0) 0 W hM
  rw [f1, f2] at hget
  have he1 := fun g z W (hM : MAt W g z (goM b 0)) => do_eq g z (goM b 0) 2 0 0 1 W hM hok0 (by omega) f3
  have he2 := fun g z W (hM : MAt W g z (goM b 0)) => do_eq g z (goM b 0) 7 0 0 b W hM hok0 (by omega) f4
  have he3 := fun g z W (hM : MAt W g z (goM b 0)) => do_eq g z (goM b 0) 3 0 0 0 W hM hok0 (by omega) f5
  have he4 := fun g z W (hM : MAt W g z (goM b b)) => (show Calls Try.prog 13 #[.pointer (some ⟨g, 0, none⟩), .agg #[.int .i64 2, .int .i64 0, .int .i64 0, .int .i64 1]] W fun e w' => e = .returned (.tuple #[.int .i64 0, .int .i64 0]) ∧ Only W w' z from
    (do_any g z (goM b b) 2 0 0 1 W hM hokb (by omega)).mono fun e w' ⟨h1, _, h3⟩ => ⟨by rw [h1, (go_again b hb1).1, (go_again b hb1).2], h3⟩)
  have hz := fun W => (zone_eql W 4 b 4 b).1
  simp only [beq_self_eq_true, Bool.and_self] at hz
  simp only [goM_with] at happ hapn hwri he1 he2 he3
  have hnewH := Lib.hid hnew
  have happH := Lib.hid happ
  have hapnH := Lib.hid hapn
  have hwriH := Lib.hid hwri
  have hgetH := Lib.hid hget
  have he1H := Lib.hid he1
  have he2H := Lib.hid he2
  have he3H := Lib.hid he3
  have he4H := Lib.hid he4
  have hzH := Lib.hid hz
  clear hnew happ hapn hwri hget he1 he2 he3 he4 hz f1 f2 f3 f4 f5 hok0 hokb
  rcases hx with ⟨h1, rfl⟩ | ⟨h1, rfl⟩ | ⟨h1, h2, rfl⟩
  · go_enter Try.func5, Try.ntmps5
    go_wp2_with fail
    refine (speaks5 _).mono ?_
    rintro e w1 ⟨rfl, hbb1⟩
    go_wp2_with fail
    refine (hnewH.out _).mono ?_
    rintro e w2 ⟨g, z, rfl, hM2, hzy, hgy, hbb2⟩
    have hB2 := hbb1.trans (hbb2.mono hbb1.size)
    have hwz : w.heap.size ≤ z := Nat.le_trans hbb1.size hzy
    clear hbb1 hbb2 hnewH hzy hgy
    go_wp2_with fail
    go_loopw [7, 8] (fun lv i wr => ∃ (k : Nat) (l : Int), k ≤ ps.length ∧ i = .int .i64 (k : Int) ∧ lv = .int .i64 l ∧ 0 ≤ l ∧ l ≤ 9 ∧ MAt wr g z (goM 9 l) ∧ Below w.heap.size w wr) (fun _ i _ => ps.length - (intOf i).toNat)
    case atStart => exact ⟨0, 9, by omega, rfl, rfl, by omega, by omega, hM2, hB2⟩
    case round =>
      clear hM2 hB2
      obtain ⟨k, l, hk, rfl, rfl, hl0, hlb, hM, hB⟩ := hrel
      by_cases hrun : k < ps.length ∧ 0 < l
      · obtain ⟨hlt, hl1⟩ := hrun
        obtain ⟨pb, off, rfl, hltb, hc⟩ := (hIH.out.below (hB.mono (Nat.le_refl _))).at_ hlt
        obtain ⟨m, hm', hmask0⟩ := mask_nat2 ps[k] 4 15 rfl (by omega)
        have hmask : bits .and .i64 ps[k] 15 = (m : Int) := hmask0
        have hm : m < 16 := hm'
        clear hmask0 hm'
        generalize ps[k] = c at hc hmask
        by_cases hle : 1 + (m : Int) ≤ l
        · have hst := Lib.hid (happH.out l hl1 hlb (1 + (m : Int)) (by omega) (by omega) g z _ hM)
          clear happH hapnH hwriH hgetH he1H he2H he3H he4H hzH
          go_wp2_with fail
          refine hst.out.mono ?_
          rintro e w3 ⟨rfl, hM3, ho3⟩
          have hB3 := hB.trans (ho3.below hwz hB.size)
          go_wp2_with fail
          go_roundw
          case rel => exact ⟨k + 1, l - (1 + (m : Int)), by omega, by go_num, rfl, by omega, by omega, hM3, hB3⟩
          case measure => simp [intOf]; omega
        · have hst := Lib.hid (hapnH.out l hl1 hlb (1 + (m : Int)) (by omega) (by omega) g z _ hM)
          have hle' : decide (1 + (m : Int) ≤ l) = false := by simpa using hle
          clear happH hapnH hwriH hgetH he1H he2H he3H he4H hzH
          go_wp2_with fail
          refine hst.out.mono ?_
          rintro e w3 ⟨rfl, hM3, ho3⟩
          have hB3 := hB.trans (ho3.below hwz hB.size)
          go_wp2_with fail
          go_roundw
          case rel => exact ⟨k + 1, l, by omega, by go_num, rfl, by omega, by omega, hM3, hB3⟩
          case measure => simp [intOf]; omega
      · have hways : (¬ k < ps.length) ∨ (k < ps.length ∧ decide (0 < l) = false) := by
          by_cases h : k < ps.length
          · right; exact ⟨h, by simpa using fun h' => hrun ⟨h, h'⟩⟩
          · left; exact h
        clear hrun happH hapnH
        obtain ⟨wo, hwo⟩ : ∃ wo : World, wo = wr := ⟨_, rfl⟩
        rcases hways with h | ⟨h, h'⟩
        all_goals
          go_wp2_with fail
          go_loopw [7] (fun lv wr => ∃ (l : Int), lv = .int .i64 l ∧ 0 ≤ l ∧ l ≤ 9 ∧ MAt wr g z (goM 9 l) ∧ Below w.heap.size w wr) (fun lv _ => (intOf lv).toNat)
          case atStart => exact ⟨l, rfl, by omega, by omega, hM, hB⟩
          case round =>
            clear hM hB
            clear h
            obtain ⟨l2, rfl, hl20, hl2b, hM, hB⟩ := hrel
            by_cases h0 : 0 < l2
            · have hst := Lib.hid (hwriH.out l2 h0 hl2b g z _ hM)
              clear hwriH hgetH he1H he2H he3H he4H hzH
              go_wp2_with fail
              refine hst.out.mono ?_
              rintro e w3 ⟨rfl, hM3, ho3⟩
              have hB3 := hB.trans (ho3.below hwz hB.size)
              go_wp2_with fail
              go_roundw
              case rel => exact ⟨l2 - 1, rfl, by omega, by omega, hM3, hB3⟩
              case measure => simp [intOf]; omega
            · obtain rfl : l2 = 0 := by omega
              have g0 := hgetH.out g z _ hM
              go_wp2_with fail
              refine g0.mono ?_
              rintro e w3 ⟨rfl, hbx3⟩
              have hB3 := hB.trans (hbx3.mono hB.size)
              have hM3 := hM.below hbx3
              clear g0 hbx3
              have hB4 := hB3.alloc hB3.size (.cells #[.int .i64 4, .int .i64 9] 47)
              have hM4 := hM3.below ((Below.refl _ _).alloc (Nat.le_refl _) (.cells #[.int .i64 4, .int .i64 9] 47))
              have hcz0 : (w3.alloc (.cells #[.int .i64 4, .int .i64 9] 47)).cell? ⟨w3.heap.size, 0, none⟩ = some (.int .i64 4) := by go_simp
              have hcz1 : (w3.alloc (.cells #[.int .i64 4, .int .i64 9] 47)).cell? ⟨w3.heap.size, 1, none⟩ = some (.int .i64 9) := by go_simp
              have hnz : w3.heap.size ≠ z := by have := hM3.zl; omega
              go_wp2_with fail
              refine (he1H.out g z _ hM4).mono ?_
              rintro e w5 ⟨rfl, hM5, ho5⟩
              have hB5 := hB4.trans (ho5.below hwz hB4.size)
              go_wp2_with fail
              refine (he2H.out g z _ hM5).mono ?_
              rintro e w6 ⟨rfl, hM6, ho6⟩
              have hB6 := hB5.trans (ho6.below hwz hB5.size)
              go_wp2_with fail
              refine (he3H.out g z _ hM6).mono ?_
              rintro e w7 ⟨rfl, hM7, ho7⟩
              have hB7 := hB6.trans (ho7.below hwz hB6.size)
              go_wp2_with fail
              refine (he4H.out g z _ hM7).mono ?_
              rintro e w8 ⟨rfl, ho8⟩
              have hB8 := hB7.trans (ho8.below hwz hB7.size)
              have hoo := ((ho5.trans ho6).trans ho7).trans ho8
              have c0 := hoo.cell hcz0 hnz
              have c1 := hoo.cell hcz1 hnz
              have hz := hzH.out
              clear hM hB hM3 hM4 hM5 hM6 hM7 ho5 ho6 ho7 ho8 hoo hB3 hB4 hB5 hB6 hB7 hcz0 hcz1
              go_wp2_with fail
              go_ret
              exact ⟨rfl, hB8⟩
  · go_enter Try.func5, Try.ntmps5
    go_wp2_with fail
    refine (speaks5 _).mono ?_
    rintro e w1 ⟨rfl, hbb1⟩
    go_wp2_with fail
    refine (hnewH.out _).mono ?_
    rintro e w2 ⟨g, z, rfl, hM2, hzy, hgy, hbb2⟩
    have hB2 := hbb1.trans (hbb2.mono hbb1.size)
    have hwz : w.heap.size ≤ z := Nat.le_trans hbb1.size hzy
    clear hbb1 hbb2 hnewH hzy hgy
    go_wp2_with fail
    go_loopw [7, 8] (fun lv i wr => ∃ (k : Nat) (l : Int), k ≤ ps.length ∧ i = .int .i64 (k : Int) ∧ lv = .int .i64 l ∧ 0 ≤ l ∧ l ≤ 9 ∧ MAt wr g z (goM 9 l) ∧ Below w.heap.size w wr) (fun _ i _ => ps.length - (intOf i).toNat)
    case atStart => exact ⟨0, 9, by omega, rfl, rfl, by omega, by omega, hM2, hB2⟩
    case round =>
      clear hM2 hB2
      obtain ⟨k, l, hk, rfl, rfl, hl0, hlb, hM, hB⟩ := hrel
      by_cases hrun : k < ps.length ∧ 0 < l
      · obtain ⟨hlt, hl1⟩ := hrun
        obtain ⟨pb, off, rfl, hltb, hc⟩ := (hIH.out.below (hB.mono (Nat.le_refl _))).at_ hlt
        obtain ⟨m, hm', hmask0⟩ := mask_nat2 ps[k] 4 15 rfl (by omega)
        have hmask : bits .and .i64 ps[k] 15 = (m : Int) := hmask0
        have hm : m < 16 := hm'
        clear hmask0 hm'
        generalize ps[k] = c at hc hmask
        by_cases hle : 1 + (m : Int) ≤ l
        · have hst := Lib.hid (happH.out l hl1 hlb (1 + (m : Int)) (by omega) (by omega) g z _ hM)
          clear happH hapnH hwriH hgetH he1H he2H he3H he4H hzH
          go_wp2_with fail
          refine hst.out.mono ?_
          rintro e w3 ⟨rfl, hM3, ho3⟩
          have hB3 := hB.trans (ho3.below hwz hB.size)
          go_wp2_with fail
          go_roundw
          case rel => exact ⟨k + 1, l - (1 + (m : Int)), by omega, by go_num, rfl, by omega, by omega, hM3, hB3⟩
          case measure => simp [intOf]; omega
        · have hst := Lib.hid (hapnH.out l hl1 hlb (1 + (m : Int)) (by omega) (by omega) g z _ hM)
          have hle' : decide (1 + (m : Int) ≤ l) = false := by simpa using hle
          clear happH hapnH hwriH hgetH he1H he2H he3H he4H hzH
          go_wp2_with fail
          refine hst.out.mono ?_
          rintro e w3 ⟨rfl, hM3, ho3⟩
          have hB3 := hB.trans (ho3.below hwz hB.size)
          go_wp2_with fail
          go_roundw
          case rel => exact ⟨k + 1, l, by omega, by go_num, rfl, by omega, by omega, hM3, hB3⟩
          case measure => simp [intOf]; omega
      · have hways : (¬ k < ps.length) ∨ (k < ps.length ∧ decide (0 < l) = false) := by
          by_cases h : k < ps.length
          · right; exact ⟨h, by simpa using fun h' => hrun ⟨h, h'⟩⟩
          · left; exact h
        clear hrun happH hapnH
        obtain ⟨wo, hwo⟩ : ∃ wo : World, wo = wr := ⟨_, rfl⟩
        rcases hways with h | ⟨h, h'⟩
        all_goals
          go_wp2_with fail
          go_loopw [7] (fun lv wr => ∃ (l : Int), lv = .int .i64 l ∧ 0 ≤ l ∧ l ≤ 9 ∧ MAt wr g z (goM 9 l) ∧ Below w.heap.size w wr) (fun lv _ => (intOf lv).toNat)
          case atStart => exact ⟨l, rfl, by omega, by omega, hM, hB⟩
          case round =>
            clear hM hB
            clear h
            obtain ⟨l2, rfl, hl20, hl2b, hM, hB⟩ := hrel
            by_cases h0 : 0 < l2
            · have hst := Lib.hid (hwriH.out l2 h0 hl2b g z _ hM)
              clear hwriH hgetH he1H he2H he3H he4H hzH
              go_wp2_with fail
              refine hst.out.mono ?_
              rintro e w3 ⟨rfl, hM3, ho3⟩
              have hB3 := hB.trans (ho3.below hwz hB.size)
              go_wp2_with fail
              go_roundw
              case rel => exact ⟨l2 - 1, rfl, by omega, by omega, hM3, hB3⟩
              case measure => simp [intOf]; omega
            · obtain rfl : l2 = 0 := by omega
              have g0 := hgetH.out g z _ hM
              go_wp2_with fail
              refine g0.mono ?_
              rintro e w3 ⟨rfl, hbx3⟩
              have hB3 := hB.trans (hbx3.mono hB.size)
              have hM3 := hM.below hbx3
              clear g0 hbx3
              have hB4 := hB3.alloc hB3.size (.cells #[.int .i64 4, .int .i64 9] 47)
              have hM4 := hM3.below ((Below.refl _ _).alloc (Nat.le_refl _) (.cells #[.int .i64 4, .int .i64 9] 47))
              have hcz0 : (w3.alloc (.cells #[.int .i64 4, .int .i64 9] 47)).cell? ⟨w3.heap.size, 0, none⟩ = some (.int .i64 4) := by go_simp
              have hcz1 : (w3.alloc (.cells #[.int .i64 4, .int .i64 9] 47)).cell? ⟨w3.heap.size, 1, none⟩ = some (.int .i64 9) := by go_simp
              have hnz : w3.heap.size ≠ z := by have := hM3.zl; omega
              go_wp2_with fail
              refine (he1H.out g z _ hM4).mono ?_
              rintro e w5 ⟨rfl, hM5, ho5⟩
              have hB5 := hB4.trans (ho5.below hwz hB4.size)
              go_wp2_with fail
              refine (he2H.out g z _ hM5).mono ?_
              rintro e w6 ⟨rfl, hM6, ho6⟩
              have hB6 := hB5.trans (ho6.below hwz hB5.size)
              go_wp2_with fail
              refine (he3H.out g z _ hM6).mono ?_
              rintro e w7 ⟨rfl, hM7, ho7⟩
              have hB7 := hB6.trans (ho7.below hwz hB6.size)
              go_wp2_with fail
              refine (he4H.out g z _ hM7).mono ?_
              rintro e w8 ⟨rfl, ho8⟩
              have hB8 := hB7.trans (ho8.below hwz hB7.size)
              have hoo := ((ho5.trans ho6).trans ho7).trans ho8
              have c0 := hoo.cell hcz0 hnz
              have c1 := hoo.cell hcz1 hnz
              have hz := hzH.out
              clear hM hB hM3 hM4 hM5 hM6 hM7 ho5 ho6 ho7 ho8 hoo hB3 hB4 hB5 hB6 hB7 hcz0 hcz1
              go_wp2_with fail
              go_ret
              exact ⟨rfl, hB8⟩
  · go_enter Try.func5, Try.ntmps5
    go_wp2_with fail
    refine (speaks5 _).mono ?_
    rintro e w1 ⟨rfl, hbb1⟩
    go_wp2_with fail
    refine (hnewH.out _).mono ?_
    rintro e w2 ⟨g, z, rfl, hM2, hzy, hgy, hbb2⟩
    have hB2 := hbb1.trans (hbb2.mono hbb1.size)
    have hwz : w.heap.size ≤ z := Nat.le_trans hbb1.size hzy
    clear hbb1 hbb2 hnewH hzy hgy
    go_wp2_with fail
    go_loopw [7, 8] (fun lv i wr => ∃ (k : Nat) (l : Int), k ≤ ps.length ∧ i = .int .i64 (k : Int) ∧ lv = .int .i64 l ∧ 0 ≤ l ∧ l ≤ x ∧ MAt wr g z (goM x l) ∧ Below w.heap.size w wr) (fun _ i _ => ps.length - (intOf i).toNat)
    case atStart => exact ⟨0, x, by omega, rfl, rfl, by omega, by omega, hM2, hB2⟩
    case round =>
      clear hM2 hB2
      obtain ⟨k, l, hk, rfl, rfl, hl0, hlb, hM, hB⟩ := hrel
      by_cases hrun : k < ps.length ∧ 0 < l
      · obtain ⟨hlt, hl1⟩ := hrun
        obtain ⟨pb, off, rfl, hltb, hc⟩ := (hIH.out.below (hB.mono (Nat.le_refl _))).at_ hlt
        obtain ⟨m, hm', hmask0⟩ := mask_nat2 ps[k] 4 15 rfl (by omega)
        have hmask : bits .and .i64 ps[k] 15 = (m : Int) := hmask0
        have hm : m < 16 := hm'
        clear hmask0 hm'
        generalize ps[k] = c at hc hmask
        by_cases hle : 1 + (m : Int) ≤ l
        · have hst := Lib.hid (happH.out l hl1 hlb (1 + (m : Int)) (by omega) (by omega) g z _ hM)
          clear happH hapnH hwriH hgetH he1H he2H he3H he4H hzH
          go_wp2_with fail
          refine hst.out.mono ?_
          rintro e w3 ⟨rfl, hM3, ho3⟩
          have hB3 := hB.trans (ho3.below hwz hB.size)
          go_wp2_with fail
          go_roundw
          case rel => exact ⟨k + 1, l - (1 + (m : Int)), by omega, by go_num, rfl, by omega, by omega, hM3, hB3⟩
          case measure => simp [intOf]; omega
        · have hst := Lib.hid (hapnH.out l hl1 hlb (1 + (m : Int)) (by omega) (by omega) g z _ hM)
          have hle' : decide (1 + (m : Int) ≤ l) = false := by simpa using hle
          clear happH hapnH hwriH hgetH he1H he2H he3H he4H hzH
          go_wp2_with fail
          refine hst.out.mono ?_
          rintro e w3 ⟨rfl, hM3, ho3⟩
          have hB3 := hB.trans (ho3.below hwz hB.size)
          go_wp2_with fail
          go_roundw
          case rel => exact ⟨k + 1, l, by omega, by go_num, rfl, by omega, by omega, hM3, hB3⟩
          case measure => simp [intOf]; omega
      · have hways : (¬ k < ps.length) ∨ (k < ps.length ∧ decide (0 < l) = false) := by
          by_cases h : k < ps.length
          · right; exact ⟨h, by simpa using fun h' => hrun ⟨h, h'⟩⟩
          · left; exact h
        clear hrun happH hapnH
        obtain ⟨wo, hwo⟩ : ∃ wo : World, wo = wr := ⟨_, rfl⟩
        rcases hways with h | ⟨h, h'⟩
        all_goals
          go_wp2_with fail
          go_loopw [7] (fun lv wr => ∃ (l : Int), lv = .int .i64 l ∧ 0 ≤ l ∧ l ≤ x ∧ MAt wr g z (goM x l) ∧ Below w.heap.size w wr) (fun lv _ => (intOf lv).toNat)
          case atStart => exact ⟨l, rfl, by omega, by omega, hM, hB⟩
          case round =>
            clear hM hB
            clear h
            obtain ⟨l2, rfl, hl20, hl2b, hM, hB⟩ := hrel
            by_cases h0 : 0 < l2
            · have hst := Lib.hid (hwriH.out l2 h0 hl2b g z _ hM)
              clear hwriH hgetH he1H he2H he3H he4H hzH
              go_wp2_with fail
              refine hst.out.mono ?_
              rintro e w3 ⟨rfl, hM3, ho3⟩
              have hB3 := hB.trans (ho3.below hwz hB.size)
              go_wp2_with fail
              go_roundw
              case rel => exact ⟨l2 - 1, rfl, by omega, by omega, hM3, hB3⟩
              case measure => simp [intOf]; omega
            · obtain rfl : l2 = 0 := by omega
              have g0 := hgetH.out g z _ hM
              go_wp2_with fail
              refine g0.mono ?_
              rintro e w3 ⟨rfl, hbx3⟩
              have hB3 := hB.trans (hbx3.mono hB.size)
              have hM3 := hM.below hbx3
              clear g0 hbx3
              have hB4 := hB3.alloc hB3.size (.cells #[.int .i64 4, .int .i64 x] 47)
              have hM4 := hM3.below ((Below.refl _ _).alloc (Nat.le_refl _) (.cells #[.int .i64 4, .int .i64 x] 47))
              have hcz0 : (w3.alloc (.cells #[.int .i64 4, .int .i64 x] 47)).cell? ⟨w3.heap.size, 0, none⟩ = some (.int .i64 4) := by go_simp
              have hcz1 : (w3.alloc (.cells #[.int .i64 4, .int .i64 x] 47)).cell? ⟨w3.heap.size, 1, none⟩ = some (.int .i64 x) := by go_simp
              have hnz : w3.heap.size ≠ z := by have := hM3.zl; omega
              go_wp2_with fail
              refine (he1H.out g z _ hM4).mono ?_
              rintro e w5 ⟨rfl, hM5, ho5⟩
              have hB5 := hB4.trans (ho5.below hwz hB4.size)
              go_wp2_with fail
              refine (he2H.out g z _ hM5).mono ?_
              rintro e w6 ⟨rfl, hM6, ho6⟩
              have hB6 := hB5.trans (ho6.below hwz hB5.size)
              go_wp2_with fail
              refine (he3H.out g z _ hM6).mono ?_
              rintro e w7 ⟨rfl, hM7, ho7⟩
              have hB7 := hB6.trans (ho7.below hwz hB6.size)
              go_wp2_with fail
              refine (he4H.out g z _ hM7).mono ?_
              rintro e w8 ⟨rfl, ho8⟩
              have hB8 := hB7.trans (ho8.below hwz hB7.size)
              have hoo := ((ho5.trans ho6).trans ho7).trans ho8
              have c0 := hoo.cell hcz0 hnz
              have c1 := hoo.cell hcz1 hnz
              have hz := hzH.out
              clear hM hB hM3 hM4 hM5 hM6 hM7 ho5 ho6 ho7 ho8 hoo hB3 hB4 hB5 hB6 hB7 hcz0 hcz1
              go_wp2_with fail
              go_ret
              exact ⟨rfl, hB8⟩
end Go.Proofs.Ytlignckncgceaaa
