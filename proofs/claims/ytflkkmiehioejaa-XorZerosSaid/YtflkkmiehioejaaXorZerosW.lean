/- What the law XorZeros does. -/
import Derived.Test.YtflkkmiehioejaaXorTwiceW
namespace Go.Proofs.Ytflkkmiehioejaa
open Go.RowKit Xor

theorem zeroS_in {n : Nat} (h : n ≤ 65536) : zeroS (n : Int) = textOf (fun _ => 0) n := by
  unfold zeroS; rw [if_neg (by omega)]; rw [show ((n : Nat) : Int).toNat = n by omega]
theorem zero_empty (n : Nat) : emptyB (textOf (fun _ => 0) n) = true := emptyB_mk fun i _ => by rw [byteAt_textOf]; split <;> rfl
theorem zero_plus (n : Nat) : foldS [textOf (fun _ => 0) n, ⟨#[]⟩] = textOf (fun _ => 0) n := by
  refine text_ext (by rw [size_two, size_textOf]; show max n 0 = n; omega) fun i _ => ?_
  rw [byteAt_foldS, xorAt_two, byteAt_ge (s := ⟨#[]⟩) (Nat.zero_le _), UInt8.xor_zero]

set_option maxHeartbeats 1000000 in
theorem zeros_law (n : Int) (s : ByteArray) (w : World) (hs : s.size ≤ maxLen) :
    Calls Try.prog 4 #[.int .i64 n, .string s] w fun e w' => e = .returned (.bool true) ∧ Below w.heap.size w w' := by
  have c1 := fun W => zero_any n W
  have c3 := fun W => empty_any s W hs
  unfold maxLen at hs
  by_cases h1 : n < 0
  · have e : zeroS n = ByteArray.empty := if_pos (.inl h1)
    rw [e] at c1
    have c1H := Lib.hid c1
    clear c1 c3 e
    go_enter Try.func4, Try.ntmps4
    go_wp2_with fail
    (with_reducible refine (speaks3 _).mono ?_)
    rintro e w1 ⟨rfl, hb1⟩
    have hB1 := hb1
    clear hb1
    go_wp2_with fail
    (with_reducible refine (c1H.out _).mono ?_)
    rintro e w2 ⟨rfl, hb2⟩
    have hB2 := bmore hB1 hb2
    clear hB1 hb2
    go_wp2
    go_ret
    exact ⟨rfl, hB2⟩
  by_cases h2 : 65536 < n
  · have e : zeroS n = ByteArray.empty := if_pos (.inr h2)
    rw [e] at c1
    have c1H := Lib.hid c1
    clear c1 c3 e
    go_enter Try.func4, Try.ntmps4
    go_wp2_with fail
    (with_reducible refine (speaks3 _).mono ?_)
    rintro e w1 ⟨rfl, hb1⟩
    have hB1 := hb1
    clear hb1
    go_wp2_with fail
    (with_reducible refine (c1H.out _).mono ?_)
    rintro e w2 ⟨rfl, hb2⟩
    have hB2 := bmore hB1 hb2
    clear hB1 hb2
    go_wp2
    go_ret
    exact ⟨rfl, hB2⟩
  obtain ⟨m, rfl⟩ := Int.eq_ofNat_of_zero_le (show 0 ≤ n by omega)
  have hm : m ≤ 65536 := by omega
  rw [zeroS_in hm] at c1
  have c2 := fun W => empty_any (textOf (fun _ => 0) m) W (by unfold maxLen; rw [size_textOf]; omega)
  rw [zero_empty] at c2
  have c4 := fun W => xadd_any (textOf (fun _ => 0) m) ⟨#[]⟩ W (by rw [size_textOf]; exact hm) (by decide)
  rw [zero_plus] at c4
  have hz := size_textOf (fun _ => 0) m
  generalize textOf (fun _ => 0) m = z at c1 c2 c4 hz
  have hzb : ((z.size : Int) == (m : Int)) = true := by rw [beq_iff_eq]; omega
  have c1H := Lib.hid c1
  have c2H := Lib.hid c2
  have c3H := Lib.hid c3
  have c4H := Lib.hid c4
  clear c1 c2 c3 c4 hz
  go_enter Try.func4, Try.ntmps4
  go_wp2_with fail
  (with_reducible refine (speaks3 _).mono ?_)
  rintro e w1 ⟨rfl, hb1⟩
  have hB1 := hb1
  clear hb1
  go_wp2_with fail
  (with_reducible refine (c1H.out _).mono ?_)
  rintro e w2 ⟨rfl, hb2⟩
  have hB2 := bmore hB1 hb2
  clear hB1 hb2
  go_wp2_with fail
  go_loop [6, 7] (fun b i => ∃ (j : Nat) (c : Bool), j ≤ s.size ∧ i = .int .i64 (j : Int) ∧ b = .bool c ∧ Hid (c = decide (∀ i, i < j → byteAt s i = 0))) (fun _ i => s.size - (intOf i).toNat)
  case atStart => exact ⟨0, true, Nat.zero_le _, rfl, rfl, Lib.hid (decide_eq_true fun i h => absurd h (Nat.not_lt_zero i)).symm⟩
  case round =>
    obtain ⟨j, c, hj, rfl, rfl, hc⟩ := hrel
    by_cases hlt : j < s.size
    · have hb := byteAt_lt hlt
      cases c with
      | false =>
        have hn := Lib.hid (show false = decide (∀ i, i < j + 1 → byteAt s i = 0) from (decide_eq_false fun h => (of_decide_eq_false hc.out.symm) fun i hi => h i (by omega)).symm)
        clear hb
        go_wp2
        go_round
        case rel => exact ⟨j + 1, false, by omega, by go_num, rfl, hn⟩
        case measure => simp [intOf]; omega
      | true =>
        have hall := of_decide_eq_true hc.out.symm
        by_cases h0 : s[j] = 0
        · have hz : ((s[j].toNat : Int) == 0) = true := by rw [h0]; rfl
          have hz2 : (s[j].toNat : Int) = 0 := by rw [h0]; rfl
          have hn := Lib.hid (show true = decide (∀ i, i < j + 1 → byteAt s i = 0) from (decide_eq_true fun i hi => by
            rcases Nat.lt_succ_iff_lt_or_eq.1 hi with h | h
            · exact hall i h
            · rw [h, hb]; exact h0).symm)
          clear hb h0 hall
          go_wp2
          go_round
          case rel => exact ⟨j + 1, true, by omega, by go_num, by simp, hn⟩
          case measure => simp [intOf]; omega
        · have hz : ((s[j].toNat : Int) == 0) = false := by
            rw [beq_eq_false_iff_ne]
            intro h
            exact h0 (UInt8.toNat_inj.1 (by have : s[j].toNat = 0 := by omega
                                            rw [this]; rfl))
          have hz2 : ¬ (s[j].toNat : Int) = 0 := by simpa using hz
          have hn := Lib.hid (show false = decide (∀ i, i < j + 1 → byteAt s i = 0) from (decide_eq_false fun h => h0 (by rw [← hb]; exact h j (by omega))).symm)
          clear hb h0 hall
          go_wp2
          go_round
          case rel => exact ⟨j + 1, false, by omega, by go_num, by simp, hn⟩
          case measure => simp [intOf]; omega
    · obtain rfl : j = s.size := by omega
      have hce : c = emptyB s := hc.out
      rw [hce]
      clear hce hc
      have c3 := c3H.out
      generalize emptyB s = y at c3 ⊢
      have c3K := Lib.hid c3
      clear c3
      go_wp2_with fail
      (with_reducible refine (c2H.out _).mono ?_)
      rintro e wq ⟨rfl, rfl⟩
      go_wp2_with fail
      (with_reducible refine (c3K.out _).mono ?_)
      rintro e wq ⟨rfl, rfl⟩
      go_wp2_with fail
      (with_reducible refine (c4H.out _).mono ?_)
      rintro e w3 ⟨rfl, hb3⟩
      have hB3 := bmore hB2 hb3
      clear hB2 hb3
      go_wp2
      go_ret
      exact ⟨by simp, hB3⟩
end Go.Proofs.Ytflkkmiehioejaa
