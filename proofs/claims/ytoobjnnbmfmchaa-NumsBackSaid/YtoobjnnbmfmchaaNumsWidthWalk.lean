/- What the laws NumsWidth and NumsBack do. -/
import Derived.Test.YtoobjnnbmfmchaaNumRefs
namespace Go.Proofs.Ytoobjnnbmfmchaa
open Go.RowKit Sets Num

theorem size_of_list {t : ByteArray} {l : List UInt8} (h : t.data.toList = l) : t.size = l.length := by
  rw [← h, Array.length_toList]; rfl
theorem not_empty_of {t : ByteArray} (h : 0 < t.size) : ¬ t.toList = [] ∧ t.toList.isEmpty = false := by
  have h1 : ¬ t.toList = [] := by
    rw [ByteArray.toList_eq]
    intro e
    have := size_of_list e
    rw [List.length_nil] at this; omega
  exact ⟨h1, by simpa using h1⟩

set_option maxHeartbeats 1000000 in
theorem width_law (n k : Int) (w : World) :
    Calls Try.prog 8 #[.int .i64 n, .int .i64 k] w fun e w' => e = .returned (.bool true) ∧ Below w.heap.size w w' := by
  by_cases hv : 1 ≤ k ∧ k ≤ 7 ∧ 0 ≤ n ∧ n.toNat < 256 ^ k.toNat
  · obtain ⟨m, rfl⟩ := Int.eq_ofNat_of_zero_le hv.2.2.1
    obtain ⟨j, rfl⟩ := Int.eq_ofNat_of_zero_le (show 0 ≤ k by omega)
    have hlt : m < 256 ^ j := by simpa using hv.2.2.2
    have h1 := fun W => put_any (m : Int) (j : Int) W
    obtain ⟨t, ht⟩ : ∃ t, putS m j = t := ⟨_, rfl⟩
    have htl : t.data.toList = putL m j := by
      rw [← ht]; unfold putS; rw [if_pos hv]; simp
    have hts : t.size = j := (size_of_list htl).trans (putL_length _ _)
    rw [ht] at h1
    have hne := not_empty_of (t := t) (by omega)
    obtain ⟨hne1, hne2⟩ := hne
    have hts7 : t.size ≤ 7 := by omega
    have h1H := Lib.hid h1
    clear h1 ht
    by_cases h7 : j = 7
    · have hk7 : ((j : Int) == 7) = true := by rw [beq_iff_eq]; omega
      clear hts htl hv hlt h7
      go_enter Try.func8, Try.ntmps8
      go_wp2_with fail
      refine (speaks1 _).mono ?_
      rintro e w1 ⟨rfl, hb1⟩
      go_wp2_with fail
      refine (h1H.out _).mono ?_
      rintro e w2 ⟨rfl, hb2⟩
      have hB2 := bmore hb1 hb2
      clear hb1 hb2
      go_wp2
      go_ret
      exact ⟨rfl, hB2⟩
    · have hk7 : ((j : Int) == 7) = false := by rw [beq_eq_false_iff_ne]; omega
      have hu : (⟨#[0]⟩ ++ t : ByteArray).data.toList = 0 :: putL m j := by rw [ByteArray.data_append, Array.toList_append, htl]; rfl
      have hus : (⟨#[0]⟩ ++ t : ByteArray).size = j + 1 := (size_of_list hu).trans (by rw [List.length_cons, putL_length])
      have h2 := fun W => get_any (⟨#[0]⟩ ++ t) W (by rw [hus]; unfold maxLen; omega)
      have e1 : getN (⟨#[0]⟩ ++ t) = (m : Int) := by
        unfold getN; rw [if_pos ⟨by omega, by omega⟩, hu, num_zero, num_put_of _ _ hlt]
      have e2 : getB (⟨#[0]⟩ ++ t) = true := by unfold getB; rw [decide_eq_true ⟨by omega, by omega⟩]
      rw [e1, e2] at h2
      have h3 := fun W => put_any (m : Int) ((j : Int) + 1) W
      have e3 : putS m ((j : Int) + 1) = ⟨#[0]⟩ ++ t := by
        have hp : 256 ^ j ≤ 256 ^ (j + 1) := Nat.pow_le_pow_right (by omega) (by omega)
        have ej : ((j : Int) + 1).toNat = j + 1 := by omega
        unfold putS
        rw [if_pos ⟨by omega, by omega, by omega, by rw [ej]; simp; omega⟩, ej]
        simp only [Int.toNat_natCast]
        rw [put_wide _ _ hlt]
        have : (⟨#[0]⟩ ++ t : ByteArray) = ⟨(⟨#[0]⟩ ++ t : ByteArray).data⟩ := rfl
        rw [this, ← hu]
      rw [e3] at h3
      have h2H := Lib.hid h2
      have h3H := Lib.hid h3
      have hj7 : j ≤ 7 := by omega
      clear h2 h3 e1 e2 e3 hu hus hts htl hv hlt
      go_enter Try.func8, Try.ntmps8
      go_wp2_with fail
      refine (speaks1 _).mono ?_
      rintro e w1 ⟨rfl, hb1⟩
      go_wp2_with fail
      refine (h1H.out _).mono ?_
      rintro e w2 ⟨rfl, hb2⟩
      have hB2 := bmore hb1 hb2
      clear hb1 hb2
      go_wp2_with fail
      refine (h2H.out _).mono ?_
      rintro e w3 ⟨rfl, rfl⟩
      go_wp2_with fail
      refine (h3H.out _).mono ?_
      rintro e w3 ⟨rfl, hb3⟩
      have hB3 := bmore hB2 hb3
      clear hB2 hb3
      go_wp2
      go_ret
      exact ⟨by simp, hB3⟩
  · have h1 := fun W => put_any n k W
    have e : putS n k = ByteArray.empty := by unfold putS; rw [if_neg hv]
    rw [e] at h1
    have h1H := Lib.hid h1
    clear h1 e
    go_enter Try.func8, Try.ntmps8
    go_wp2_with fail
    refine (speaks1 _).mono ?_
    rintro e w1 ⟨rfl, hb1⟩
    go_wp2_with fail
    refine (h1H.out _).mono ?_
    rintro e w2 ⟨rfl, hb2⟩
    have hB2 := bmore hb1 hb2
    clear hb1 hb2
    go_wp2
    go_ret
    exact ⟨rfl, hB2⟩

theorem less_put (a b : Nat) : ∀ k, Op.bytesLess (putL a k) (putL b k) = decide (a % 256 ^ k < b % 256 ^ k)
  | 0 => by simp [putL, Op.bytesLess, Nat.mod_one]
  | k + 1 => by
    show (decide (UInt8.ofNat (a / 256 ^ k % 256) < UInt8.ofNat (b / 256 ^ k % 256)) || (UInt8.ofNat (a / 256 ^ k % 256) == UInt8.ofNat (b / 256 ^ k % 256) && Op.bytesLess (putL a k) (putL b k))) = _
    rw [less_put a b k, show 256 ^ (k + 1) = 256 ^ k * 256 from Nat.pow_succ .., Nat.mod_mul, Nat.mod_mul]
    have hp : 0 < 256 ^ k := Nat.pow_pos (by omega)
    have ha := Nat.mod_lt a hp
    have hb := Nat.mod_lt b hp
    have hx : a / 256 ^ k % 256 < 256 := Nat.mod_lt _ (by omega)
    have hy : b / 256 ^ k % 256 < 256 := Nat.mod_lt _ (by omega)
    generalize a / 256 ^ k % 256 = x at *
    generalize b / 256 ^ k % 256 = y at *
    generalize a % 256 ^ k = a' at *
    generalize b % 256 ^ k = b' at *
    generalize 256 ^ k = P at *
    have e1 : (UInt8.ofNat x < UInt8.ofNat y) ↔ x < y := by rw [UInt8.lt_iff_toNat_lt, UInt8.toNat_ofNat', UInt8.toNat_ofNat', Nat.mod_eq_of_lt hx, Nat.mod_eq_of_lt hy]
    have e2 : (UInt8.ofNat x == UInt8.ofNat y) = decide (x = y) := by
      rw [Bool.eq_iff_iff, beq_iff_eq, decide_eq_true_iff, ← UInt8.toNat_inj, UInt8.toNat_ofNat', UInt8.toNat_ofNat', Nat.mod_eq_of_lt hx, Nat.mod_eq_of_lt hy]
    rw [e2, Bool.eq_iff_iff]
    simp only [Bool.or_eq_true, Bool.and_eq_true, decide_eq_true_iff, e1]
    rcases Nat.lt_trichotomy x y with h | h | h
    · have : P * x + P ≤ P * y := by rw [← Nat.mul_succ]; exact Nat.mul_le_mul_left _ h
      constructor
      · intro _; omega
      · intro _; exact .inl h
    · subst h
      constructor
      · rintro (h | h) <;> omega
      · intro h; exact .inr ⟨rfl, by omega⟩
    · have : P * y + P ≤ P * x := by rw [← Nat.mul_succ]; exact Nat.mul_le_mul_left _ h
      constructor
      · rintro (h | h) <;> omega
      · intro _; omega
theorem put_of_nonempty {n k : Int} (h : putS n k ≠ ByteArray.empty) : 1 ≤ k ∧ k ≤ 7 ∧ 0 ≤ n ∧ n.toNat < 256 ^ k.toNat := by
  by_cases hv : 1 ≤ k ∧ k ≤ 7 ∧ 0 ≤ n ∧ n.toNat < 256 ^ k.toNat
  · exact hv
  · exact absurd (by unfold putS; rw [if_neg hv]) h
theorem putS_data {n k : Int} (hv : 1 ≤ k ∧ k ≤ 7 ∧ 0 ≤ n ∧ n.toNat < 256 ^ k.toNat) : (putS n k).data.toList = putL n.toNat k.toNat := by unfold putS; rw [if_pos hv]

set_option maxHeartbeats 1000000 in
theorem back_law (a b k : Int) (w : World) :
    Calls Try.prog 5 #[.int .i64 a, .int .i64 b, .int .i64 k] w fun e w' => e = .returned (.bool true) ∧ Below w.heap.size w w' := by
  have ha := fun W => put_any a k W
  have hb := fun W => put_any b k W
  obtain ⟨s, hs⟩ : ∃ s, putS a k = s := ⟨_, rfl⟩
  obtain ⟨t, ht⟩ : ∃ t, putS b k = t := ⟨_, rfl⟩
  rw [hs] at ha
  rw [ht] at hb
  have haH := Lib.hid ha
  have hbH := Lib.hid hb
  clear ha hb
  by_cases h1 : s = ByteArray.empty
  · subst h1
    clear hs ht
    go_enter Try.func5, Try.ntmps5
    go_wp2_with fail
    refine (speaks1 _).mono ?_
    rintro e w1 ⟨rfl, hb1⟩
    go_wp2_with fail
    refine (haH.out _).mono ?_
    rintro e w2 ⟨rfl, hb2⟩
    go_wp2_with fail
    refine (hbH.out _).mono ?_
    rintro e w3 ⟨rfl, hb3⟩
    have hB3 := bmore (bmore hb1 hb2) hb3
    clear hb1 hb2 hb3
    go_wp2
    go_ret
    exact ⟨rfl, hB3⟩
  have hva := put_of_nonempty (n := a) (k := k) (by rw [hs]; exact h1)
  have hsl := putS_data hva
  rw [hs] at hsl
  have hss : s.size = k.toNat := (size_of_list hsl).trans (putL_length _ _)
  obtain ⟨hne1, hne2⟩ := not_empty_of (t := s) (by omega)
  by_cases h2 : t = ByteArray.empty
  · subst h2
    clear hs ht hsl hss h1
    go_enter Try.func5, Try.ntmps5
    go_wp2_with fail
    refine (speaks1 _).mono ?_
    rintro e w1 ⟨rfl, hb1⟩
    go_wp2_with fail
    refine (haH.out _).mono ?_
    rintro e w2 ⟨rfl, hb2⟩
    go_wp2_with fail
    refine (hbH.out _).mono ?_
    rintro e w3 ⟨rfl, hb3⟩
    have hB3 := bmore (bmore hb1 hb2) hb3
    clear hb1 hb2 hb3
    go_wp2
    go_ret
    exact ⟨rfl, hB3⟩
  have hvb := put_of_nonempty (n := b) (k := k) (by rw [ht]; exact h2)
  have htl := putS_data hvb
  rw [ht] at htl
  have hts : t.size = k.toNat := (size_of_list htl).trans (putL_length _ _)
  obtain ⟨hme1, hme2⟩ := not_empty_of (t := t) (by omega)
  have hget := fun W => get_any s W (by unfold maxLen; omega)
  have e1 : getN s = a := by
    unfold getN; rw [if_pos ⟨by omega, by omega⟩, hsl, num_put_of _ _ hva.2.2.2]; omega
  have e2 : getB s = true := by unfold getB; rw [decide_eq_true ⟨by omega, by omega⟩]
  rw [e1, e2] at hget
  have hgetH := Lib.hid hget
  have hlen : ((s.size : Int) == k) = true := by rw [beq_iff_eq]; omega
  obtain ⟨z, hz1, hz2⟩ : ∃ z : Bool, Op.bytesLess s.toList t.toList = z ∧ decide (a < b) = z := by
    refine ⟨decide (a < b), ?_, rfl⟩
    rw [ByteArray.toList_eq, ByteArray.toList_eq, hsl, htl, less_put, Nat.mod_eq_of_lt hva.2.2.2, Nat.mod_eq_of_lt hvb.2.2.2, decide_eq_decide]
    omega
  have hs7 : s.size ≤ 7 := by omega
  clear hget e1 e2 hs ht hsl htl hss hts h1 h2 hva hvb
  go_enter Try.func5, Try.ntmps5
  go_wp2_with fail
  refine (speaks1 _).mono ?_
  rintro e w1 ⟨rfl, hb1⟩
  go_wp2_with fail
  refine (haH.out _).mono ?_
  rintro e w2 ⟨rfl, hb2⟩
  go_wp2_with fail
  refine (hbH.out _).mono ?_
  rintro e w3 ⟨rfl, hb3⟩
  have hB3 := bmore (bmore hb1 hb2) hb3
  clear hb1 hb2 hb3
  go_wp2_with fail
  refine (hgetH.out _).mono ?_
  rintro e w4 ⟨rfl, rfl⟩
  go_wp2
  go_ret
  exact ⟨by simp, hB3⟩
end Go.Proofs.Ytoobjnnbmfmchaa
