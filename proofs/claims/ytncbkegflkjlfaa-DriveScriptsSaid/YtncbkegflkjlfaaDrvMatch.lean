/- What matches does: may a command be given that data? -/
import Derived.Test.YtncbkegflkjlfaaDrvWalks
namespace Go.Proofs.Ytncbkegflkjlfaa
open Go.RowKit Zon Drv

theorem matches_any (k z a n : Int) (s : ByteArray) (w : World) (hs : s.size ≤ 9223372036854775807) :
    Calls Try.prog 46 #[.agg #[.int .i64 k, .int .i64 z, .int .i64 a, .int .i64 n], .string s] w fun e w' => e = .returned (.bool (fits k n s.size)) ∧ Below w.heap.size w w' := by
  have hw := Lib.hid (fun W => writes_any k z a n W)
  have hem : decide (s.size = 0) = s.toList.isEmpty := by
    rw [ByteArray.toList_eq, Bool.eq_iff_iff, decide_eq_true_iff, List.isEmpty_iff]
    exact ⟨fun h => List.eq_nil_of_length_eq_zero h, fun h => congrArg List.length h⟩
  have hBa : Below w.heap.size w (w.alloc (.cells #[.int .i64 k, .int .i64 z, .int .i64 a, .int .i64 n] 46)) := (Below.refl _ _).alloc (Nat.le_refl _) _
  by_cases h0 : writesB k = true ∧ 0 ≤ n
  · have hf : fits k n s.size = decide (s.size % 64 = 0 ∧ ((s.size / 64 : Nat) : Int) = n) := by unfold fits; rw [if_pos h0]
    rw [hf]
    obtain ⟨h1, h2⟩ := h0
    rw [h1] at hw
    clear hf h1 hem
    by_cases h3 : s.size % 64 = 0
    · have e3 : ((s.size : Int) % 64 == 0) = true := by
        have : (s.size : Int) % 64 = 0 := by omega
        rw [this]; rfl
      have e3' : (s.size : Int) % 64 = 0 := by omega
      have e4 : decide (s.size % 64 = 0 ∧ ((s.size / 64 : Nat) : Int) = n) = ((s.size : Int) / 64 == n) := by
        rw [Bool.eq_iff_iff]; simp [h3]
      rw [e4]
      clear e4 h3
      go_enter Try.func46, Try.ntmps46
      go_wp2_with (go_at_call 61; refine (hw.out _).mono ?_; rintro e w1 ⟨rfl, hb⟩; obtain ⟨hc, hf⟩ := bcell hb)
      go_ret
      exact ⟨rfl, hBa.trans (hb.mono (by simp))⟩
    · have e3 : ((s.size : Int) % 64 == 0) = false := by
        have : ¬ (s.size : Int) % 64 = 0 := by omega
        simp [this]
      have e3' : ¬ (s.size : Int) % 64 = 0 := by omega
      have e4 : decide (s.size % 64 = 0 ∧ ((s.size / 64 : Nat) : Int) = n) = false := by simp [h3]
      rw [e4]
      clear e4 h3
      go_enter Try.func46, Try.ntmps46
      go_wp2_with (go_at_call 61; refine (hw.out _).mono ?_; rintro e w1 ⟨rfl, hb⟩; obtain ⟨hc, hf⟩ := bcell hb)
      go_ret
      exact ⟨rfl, hBa.trans (hb.mono (by simp))⟩
  · have hf : fits k n s.size = decide (s.size = 0) := by unfold fits; rw [if_neg h0]
    rw [hf]
    clear hf
    generalize decide (s.size = 0) = em at hem ⊢
    have hemH := Lib.hid hem
    clear hem
    cases hq : writesB k with
    | true =>
      have h2 : n < 0 := by
        rw [hq] at h0
        by_cases h : 0 ≤ n
        · exact absurd ⟨rfl, h⟩ h0
        · omega
      rw [hq] at hw
      clear h0 hq
      go_enter Try.func46, Try.ntmps46
      go_wp2_with (go_at_call 61; refine (hw.out _).mono ?_; rintro e w1 ⟨rfl, hb⟩; obtain ⟨hc, hf⟩ := bcell hb)
      go_ret
      exact ⟨by rw [hemH.out]; rfl, hBa.trans (hb.mono (by simp))⟩
    | false =>
      rw [hq] at hw
      clear h0 hq
      go_enter Try.func46, Try.ntmps46
      go_wp2_with (go_at_call 61; refine (hw.out _).mono ?_; rintro e w1 ⟨rfl, hb⟩; obtain ⟨hc, hf⟩ := bcell hb)
      go_ret
      exact ⟨by rw [hemH.out]; rfl, hBa.trans (hb.mono (by simp))⟩
end Go.Proofs.Ytncbkegflkjlfaa
