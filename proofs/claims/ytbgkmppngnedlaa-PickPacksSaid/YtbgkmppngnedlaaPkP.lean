/- PickPacks: the walk. -/
import Derived.Test.YtbgkmppngnedlaaPkE
namespace Go.Proofs.Ytbgkmppngnedlaa
open Go.RowKit Go.Shelf

theorem spl_at {n k : Nat} (h : k < (spl n).length) : (spl n)[k] = ((min (6 * (k + 1)) n - 6 * k : Nat) : Int) := by
  have hl : (spl n).length = (n - 1) / 6 + 1 := by unfold spl; rw [List.length_append, List.length_replicate]; rfl
  by_cases hk : k < (n - 1) / 6
  · have e : (spl n)[k] = 6 := by
      simp only [spl]
      rw [List.getElem_append_left (by rw [List.length_replicate]; exact hk), List.getElem_replicate]
    rw [e, Nat.min_eq_left (by omega)]
    omega
  · have hk2 : k = (n - 1) / 6 := by omega
    have e : (spl n)[k] = ((n - (n - 1) / 6 * 6 : Nat) : Int) := by
      simp only [spl]
      rw [List.getElem_append_right (by rw [List.length_replicate]; omega)]
      simp [List.length_replicate, hk2]
    rw [e, hk2]
    have : min (6 * ((n - 1) / 6 + 1)) n = n := by omega
    rw [this]
    congr 1
    omega
theorem splN (n : Nat) (h : n ≤ 1048576) : splI (n : Int) = if n = 0 then [] else spl n := by
  unfold splI
  by_cases h0 : n = 0
  · rw [if_neg (by omega), if_pos h0]
  · rw [if_pos (by omega), if_neg h0, Int.toNat_natCast]
theorem splN_len (n : Nat) (h : n ≤ 1048576) : (splI (n : Int)).length = (n + 5) / 6 := by
  rw [splN n h]
  split
  · subst_vars; rfl
  · exact spl_len n (by omega)
theorem splN_at {n : Nat} (h : n ≤ 1048576) {k : Nat} (hk : k < (splI (n : Int)).length) : (splI (n : Int))[k] = ((min (6 * (k + 1)) n - 6 * k : Nat) : Int) := by
  have e := splN n h
  have hk2 : k < (if n = 0 then [] else spl n).length := by rw [← e]; exact hk
  have e2 : (splI (n : Int))[k] = (if n = 0 then [] else spl n)[k]'hk2 := by simp only [e]
  rw [e2]
  by_cases h0 : n = 0
  · simp [h0] at hk2
  · simp only [if_neg h0]
    exact spl_at _
set_option maxRecDepth 100000 in
set_option maxHeartbeats 4000000 in
theorem packs_law (w : World) (a b : Int) :
    Calls Try.prog 5 #[.int .i64 a, .int .i64 b] w fun e w' => e = .returned (.bool true) ∧ Below w.heap.size w w' := by
  have hsp := Lib.hid (speaks20 w)
  obtain ⟨bad, hbad⟩ : ∃ bad, decide (a < 0 ∨ b < 0 ∨ 1048576 < a ∨ 1048576 < b) = bad := ⟨_, rfl⟩
  have hbd := Lib.hid hbad.symm
  clear hbad
  have hpk := Lib.hid (fun x y W => pack_any x y W)
  have hsl := Lib.hid (fun W x => split_any W x)
  unfold SpPost at hsl
  go_enter Try.func5, Try.ntmps5
  go_wp2_with fail
  (with_reducible refine hsp.out.mono ?_)
  rintro e w1 ⟨rfl, hb1⟩
  have hB1 := Lib.hid hb1
  clear hsp hb1
  go_upto_region 3 with fail
  go_cut [23] from 10 to 23 (fun c wx => c = .bool bad ∧ wx = w1)
  case first =>
    by_cases g1 : a < 0
    · have g1I : decide (a < 0) = true := by simp [g1]
      go_wp2_with fail
      go_meet
      exact ⟨by rw [hbd.out]; simp; omega, rfl⟩
    by_cases g2 : b < 0
    · have g2I : decide (b < 0) = true := by simp [g2]
      go_wp2_with fail
      go_meet
      exact ⟨by rw [hbd.out]; simp; omega, rfl⟩
    by_cases g3 : 1048576 < a
    · have g3I : decide (a > 1048576) = true := by simp; omega
      go_wp2_with fail
      go_meet
      exact ⟨by rw [hbd.out]; simp; omega, rfl⟩
    have g3I : decide (a > 1048576) = false := by simp; omega
    by_cases g4 : 1048576 < b
    · have g4I : decide (b > 1048576) = true := by simp; omega
      go_wp2_with fail
      go_meet
      exact ⟨by rw [hbd.out]; simp; omega, rfl⟩
    have g4I : decide (b > 1048576) = false := by simp; omega
    go_wp2_with fail
    go_meet
    exact ⟨by rw [hbd.out]; simp; omega, rfl⟩
  obtain ⟨rfl, hwx⟩ := hcut
  rw [hwx]
  clear hwx
  cases bad with
  | true =>
    have hbt : a < 0 ∨ b < 0 ∨ 1048576 < a ∨ 1048576 < b := of_decide_eq_true hbd.out.symm
    have hp0 : pkI a b = 0 := if_neg (by omega)
    have hpk1 := Lib.hid (hpk.out a b w1)
    rw [hp0] at hpk1
    have hq0 : ((0 : Int) == 0) = true := by simp
    clear hp0 hpk hbd
    go_wp2_with fail
    (with_reducible refine hpk1.out.mono ?_)
    rintro e w2 ⟨rfl, hw2⟩
    rw [← hw2]
    clear hw2 w2 hpk1
    by_cases c1 : 1 ≤ a
    · have c1I : decide (a ≥ 1) = true := by simp; omega
      by_cases c2 : a ≤ 1048576
      · have c2I : decide (a ≤ 1048576) = true := by simp; omega
        clear hbt
        go_wp2_with fail
        go_ret
        exact ⟨rfl, hB1.out⟩
      · have c2I : decide (a ≤ 1048576) = false := by simp; omega
        have hs := Lib.hid (hsl.out w1 a)
        rw [show splI a = [] from if_neg (by omega)] at hs
        clear hbt hsl
        go_wp2_with fail
        (with_reducible refine hs.out.mono ?_)
        rintro e w3 ⟨A, cap, rfl, hrow, hb3⟩
        have hB3 := Lib.hid (hB1.out.trans (hb3.mono hB1.out.size))
        clear hrow hb3 hs
        go_wp2_with fail
        go_ret
        exact ⟨rfl, hB3.out⟩
    · have c1I : decide (a ≥ 1) = false := by simp; omega
      have hs := Lib.hid (hsl.out w1 a)
      rw [show splI a = [] from if_neg (by omega)] at hs
      clear hbt hsl
      go_wp2_with fail
      (with_reducible refine hs.out.mono ?_)
      rintro e w3 ⟨A, cap, rfl, hrow, hb3⟩
      have hB3 := Lib.hid (hB1.out.trans (hb3.mono hB1.out.size))
      clear hrow hb3 hs
      go_wp2_with fail
      go_ret
      exact ⟨rfl, hB3.out⟩
  | false =>
    have hbf := of_decide_eq_false hbd.out.symm
    have ma : bits .and .i64 a 4095 = a % 4096 := and_mask2 a 12 4095 rfl (by decide)
    have mb : bits .and .i64 b 4095 = b % 4096 := and_mask2 b 12 4095 rfl (by decide)
    obtain ⟨x, hx⟩ : ∃ x : Nat, a % 4096 = (x : Int) := ⟨(a % 4096).toNat, by omega⟩
    obtain ⟨y, hy⟩ : ∃ y : Nat, b % 4096 = (y : Int) := ⟨(b % 4096).toNat, by omega⟩
    have hx1 : x < 4096 := by omega
    have hy1 : y < 4096 := by omega
    rw [hx] at ma
    rw [hy] at mb
    obtain ⟨n, hn⟩ : ∃ n : Nat, x + y = n := ⟨_, rfl⟩
    have hxy : IntKind.i64.wrap ((x : Int) + (y : Int)) = (n : Int) := by rw [show (x : Int) + (y : Int) = (n : Int) by omega]; exact IntWalk.i64_in _ (by omega)
    have hnm : n ≤ 1048576 := by omega
    have hll := splN_len n hnm
    have hsat := Lib.hid (fun k (hk : k < (splI (n : Int)).length) => splN_at hnm hk)
    have hs := Lib.hid (hsl.out w1 (n : Int))
    have hpk2 := Lib.hid (fun W => hpk.out (x : Int) (y : Int) W)
    obtain ⟨L, hL⟩ : ∃ L, (n + 5) / 6 = L := ⟨_, rfl⟩
    rw [hL] at hll
    have hp2 : pkI (x : Int) (y : Int) = ((x + L : Nat) : Int) := by
      unfold pkI
      rw [if_pos (by omega), ← hL, ← hn]
      omega
    rw [hp2] at hpk2
    have hxL : IntKind.i64.wrap ((x : Int) + (L : Int)) = ((x + L : Nat) : Int) := by rw [show (x : Int) + (L : Int) = ((x + L : Nat) : Int) by omega]; exact IntWalk.i64_in _ (by omega)
    generalize splI (n : Int) = l at hs hll hsat
    rw [hll] at hs
    have hllH := Lib.hid hll
    obtain ⟨xL, hxLe⟩ : ∃ xL, x + L = xL := ⟨_, rfl⟩
    rw [hxLe] at hxL hpk2
    have hLH := Lib.hid hL
    have hL2 : L ≤ 2000 := by omega
    have hn2 : n ≤ 9000 := by omega
    clear hbf hbd hx hy hpk hsl hll hL hp2 hxLe hx1 hy1 hn hnm
    go_wp2_with fail
    (with_reducible refine hs.out.mono ?_)
    rintro e w2 ⟨A, cap, rfl, hrow, hb2⟩
    have hB2 := Lib.hid (hB1.out.trans (hb2.mono hB1.out.size))
    have hIn := Lib.hid hrow.in_
    clear hrow hb2 hs hB1
    go_wp2_with fail
    go_loopw [6, 7] (fun sv iv wr => ∃ (k s : Nat), k ≤ L ∧ iv = .int .i64 (k : Int) ∧ sv = .int .i64 (s : Int) ∧ Hid (s = min (6 * k) n) ∧ Hid (wr = w2)) (fun _ iv _ => L - (intOf iv).toNat)
    case atStart => exact ⟨0, 0, Nat.zero_le _, rfl, rfl, Lib.hid (by omega), Lib.hid (by first | rfl | trivial)⟩
    case round =>
      obtain ⟨k, s, hkL, rfl, rfl, hs, hwr⟩ := hrel
      rw [hwr.out]
      clear hwr
      by_cases hlt : k < L
      case neg =>
        have hke : k = L := by omega
        have hkI : ¬ (k : Int) < (L : Int) := by omega
        have hsn : s = n := by have := hs.out; have := hLH.out; omega
        subst hsn
        subst hke
        have q1 : ((s : Int) == (s : Int)) = true := by simp
        have q2 : ((xL : Int) == (xL : Int)) = true := by simp
        clear hs
        go_wp2_with fail
        (with_reducible refine (hpk2.out _).mono ?_)
        rintro e w3 ⟨rfl, rfl⟩
        go_wp2_with fail
        go_ret
        exact ⟨rfl, hB2.out⟩
      case pos =>
        have hkI : (k : Int) < (L : Int) := by omega
        have hkw : IntKind.i64.wrap ((k : Int) + 1) = (k : Int) + 1 := IntWalk.i64_in _ (by omega)
        have hkl : k < l.length := by rw [hllH.out]; exact hlt
        obtain ⟨eb, eo, rfl, hebl, e0⟩ := iz_at hIn.out hkl
        rw [hsat.out k hkl] at e0
        obtain ⟨e, he⟩ : ∃ e : Nat, min (6 * (k + 1)) n - 6 * k = e := ⟨_, rfl⟩
        rw [he] at e0
        have hsn := hs.out
        have hLe := hLH.out
        have he1 : 1 ≤ e := by omega
        have he6 : e ≤ 6 := by omega
        have h1I : decide ((e : Int) < 1) = false := by simp; omega
        have h6I : decide ((e : Int) > 6) = false := by simp; omega
        obtain ⟨s2, hs2e⟩ : ∃ s2, s + e = s2 := ⟨_, rfl⟩
        have hse : IntKind.i64.wrap ((s : Int) + (e : Int)) = (s2 : Int) := by rw [← hs2e, Int.natCast_add]; exact IntWalk.i64_in _ (by omega)
        have hs2 : Hid (s2 = min (6 * (k + 1)) n) := Lib.hid (by omega)
        by_cases hlast : k + 1 < L
        case pos =>
          have hlI : decide ((k : Int) + 1 < (L : Int)) = true := by simp; omega
          have he : e = 6 := by omega
          have hq : ((e : Int) != 6) = false := by simp [he]
          clear hsn hLe he1 he6 hs hlast he hs2e
          go_wp2_with fail
          go_roundw
          case rel => exact ⟨k + 1, s2, hlt, by go_num, rfl, hs2, Lib.hid (by first | rfl | trivial)⟩
          case measure => simp only [intOf]; omega
        case neg =>
          have hlI : decide ((k : Int) + 1 < (L : Int)) = false := by simp; omega
          clear hsn hLe he1 he6 hs hlast he hs2e
          go_wp2_with fail
          go_roundw
          case rel => exact ⟨k + 1, s2, hlt, by go_num, rfl, hs2, Lib.hid (by first | rfl | trivial)⟩
          case measure => simp only [intOf]; omega
end Go.Proofs.Ytbgkmppngnedlaa
