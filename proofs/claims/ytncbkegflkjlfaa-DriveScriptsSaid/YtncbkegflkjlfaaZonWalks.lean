/- What the small functions of zone do. -/
import Derived.Test.YtncbkegflkjlfaaZonMem
import Derived.Outline
namespace Go.Proofs.Ytncbkegflkjlfaa
open Go.RowKit Zon

theorem isOpen_any (s l : Int) (w : World) :
    Calls Try.prog 72 #[.agg #[.int .i64 s, .int .i64 l]] w fun e w' => e = .returned (.bool (openB s)) ∧ Below w.heap.size w w' := by
  by_cases h1 : s = 1
  · subst h1
    go_enter Try.func72, Try.ntmps72
    go_wp2
    go_ret
    exact ⟨rfl, (Below.refl _ _).alloc (Nat.le_refl _) _⟩
  · have e1 : (s == 1) = false := by simp [h1]
    have e2 : openB s = (s == 2) := by simp [openB, e1]
    rw [e2]
    clear e2
    go_enter Try.func72, Try.ntmps72
    go_wp2
    go_ret
    exact ⟨rfl, (Below.refl _ _).alloc (Nat.le_refl _) _⟩

theorem isActive_any (s l : Int) (w : World) :
    Calls Try.prog 67 #[.agg #[.int .i64 s, .int .i64 l]] w fun e w' => e = .returned (.bool (actB s)) ∧ Below w.heap.size w w' := by
  have ho := Lib.hid (fun W => isOpen_any s l W)
  unfold actB
  generalize openB s = p at ho ⊢
  cases p with
  | true =>
    go_enter Try.func67, Try.ntmps67
    go_wp2_with (go_at_call 72; refine (ho.out _).mono ?_; rintro e w1 ⟨rfl, hb⟩)
    go_ret
    exact ⟨rfl, ((Below.refl _ _).alloc (Nat.le_refl _) _).trans (hb.mono (by simp))⟩
  | false =>
    go_enter Try.func67, Try.ntmps67
    go_wp2_with (go_at_call 72; refine (ho.out _).mono ?_; rintro e w1 ⟨rfl, hb⟩; obtain ⟨hc, hf⟩ := bcell hb)
    go_ret
    exact ⟨rfl, ((Below.refl _ _).alloc (Nat.le_refl _) _).trans (hb.mono (by simp))⟩

theorem within_any (a n limit : Int) (w : World) (hl : 0 ≤ limit) (hl2 : limit ≤ 4096) (ha : a ≤ 9223372036854775807) :
    Calls Try.prog 81 #[.int .i64 a, .int .i64 n, .int .i64 limit] w fun e w' => e = .returned (.bool (withinB a n limit)) ∧ w = w' := by
  by_cases h1 : 0 ≤ a
  · by_cases h2 : 1 ≤ n
    · have e : withinB a n limit = decide (n ≤ limit - a) := by
        unfold withinB
        rw [decide_eq_decide]
        omega
      rw [e]
      clear e
      go_enter Try.func81, Try.ntmps81
      go_wp2
      go_ret
      exact ⟨rfl, rfl⟩
    · have e : withinB a n limit = false := decide_eq_false (by omega)
      rw [e]
      clear e
      go_enter Try.func81, Try.ntmps81
      go_wp2
      go_ret
      exact ⟨rfl, rfl⟩
  · have e : withinB a n limit = false := decide_eq_false (by omega)
    rw [e]
    clear e
    go_enter Try.func81, Try.ntmps81
    go_wp2
    go_ret
    exact ⟨rfl, rfl⟩

theorem has_any' (g z : Nat) (m : Mc) (x : Int) (w : World) (hM : MAt w g z m) :
    Calls Try.prog 64 #[.pointer (some ⟨g, 0, none⟩), .int .i64 x] w fun e w' => e = .returned (.bool (hasB m x)) ∧ w = w' := by
  obtain ⟨⟨cap, c0⟩, _, _, _, _, _, _⟩ := hM
  by_cases h1 : 0 ≤ x
  · have e : hasB m x = decide (x < m.zs.length) := by
      unfold hasB
      rw [decide_eq_decide]
      omega
    rw [e]
    clear e
    go_enter Try.func64, Try.ntmps64
    go_wp2
    go_ret
    exact ⟨rfl, rfl⟩
  · have e : hasB m x = false := decide_eq_false (by omega)
    rw [e]
    clear e
    go_enter Try.func64, Try.ntmps64
    go_wp2
    go_ret
    exact ⟨rfl, rfl⟩

theorem shut_any (g z : Nat) (m : Mc) (i : Nat) (w : World) (hM : MAt w g z m) (hi : i < m.zs.length) :
    Calls Try.prog 68 #[.pointer (some ⟨z, i * 2, none⟩)] w fun e w' => e = .returned (.tuple #[]) ∧ MAt w' g z (m.with (m.zs.set i (shutZ (zAt m.zs i)))) ∧ Only w w' z := by
  obtain ⟨h1, h2, h3, h4⟩ := hM.za i hi
  have hMH := Lib.hid hM
  rw [← zAt_get hi] at h1 h2
  generalize hz : zAt m.zs i = y at h1 h2 ⊢
  have hzH := Lib.hid hz
  clear hz hM
  by_cases h0 : y.l = 0
  · go_enter Try.func68, Try.ntmps68
    go_wp2
    go_end0
    refine ⟨rfl, ?_, ((Only.refl _ _).set _ _).set _ _⟩
    have h5 := (hMH.out.set_s hi 3).set_s (i := i) (by simpa [Mc.with] using hi) 0
    have e : ((m.with (m.zs.set i ⟨3, (zAt m.zs i).l⟩)).with ((m.with (m.zs.set i ⟨3, (zAt m.zs i).l⟩)).zs.set i ⟨0, (zAt (m.with (m.zs.set i ⟨3, (zAt m.zs i).l⟩)).zs i).l⟩)) = m.with (m.zs.set i (shutZ y)) := by
      show m.with ((m.zs.set i _).set i ⟨0, (zAt (m.zs.set i _) i).l⟩) = _
      rw [zAt_set_same hi, List.set_set, hzH.out]
      simp [shutZ, h0]
    rw [e] at h5
    exact h5
  · have h0' : (y.l == 0) = false := by simp [h0]
    go_enter Try.func68, Try.ntmps68
    go_wp2
    go_end0
    refine ⟨rfl, ?_, (Only.refl _ _).set _ _⟩
    have h5 := hMH.out.set_s hi 3
    rw [hzH.out] at h5
    have e : shutZ y = ⟨3, y.l⟩ := by simp [shutZ, h0]
    rw [e]
    exact h5

theorem get_any (g z : Nat) (m : Mc) (x : Int) (w : World) (hM : MAt w g z m) :
    Calls Try.prog 49 #[.pointer (some ⟨g, 0, none⟩), .int .i64 x] w fun e w' => e = .returned (.tuple #[.agg #[.int .i64 (getM m x).s, .int .i64 (getM m x).l], .bool (hasB m x)]) ∧ Below w.heap.size w w' := by
  have hh := fun W (hb : Below w.heap.size w W) => has_any' g z m x W (hM.below hb)
  unfold getM
  have hcell : hasB m x = true → ∃ (i : Nat), x = (i : Int) ∧ i < m.zs.length := fun h => ⟨x.toNat, by have := hasB_iff.1 h; omega, by have := hasB_iff.1 h; omega⟩
  have hbx := hasB_iff (m := m) (zz := x)
  generalize hasB m x = p at hh hcell hbx ⊢
  have hhH := Lib.hid hh
  have hMH := Lib.hid hM
  clear hh hM
  cases p with
  | false =>
    clear hcell hbx
    go_enter Try.func49, Try.ntmps49
    have hBa : Below w.heap.size w (w.alloc (.cells #[.int .i64 0, .int .i64 0] 54)) := (Below.refl _ _).alloc (Nat.le_refl _) _
    go_wp2_with (go_at_call 64; refine (hhH.out _ hBa).mono ?_; rintro e w1 ⟨rfl, rfl⟩)
    refine bodyPost_ret (v := .tuple #[.agg #[.int .i64 0, .int .i64 0], .bool false]) (by simp [results, Try.results49, go_sem]) rfl ⟨rfl, ?_⟩
    exact (Below.refl _ _).alloc (Nat.le_refl _) _
  | true =>
    obtain ⟨i, rfl, hi⟩ := hcell rfl
    clear hcell hbx
    obtain ⟨⟨cap, c0⟩, _, _, _, hne, hzl, hza⟩ := hMH.out
    obtain ⟨h1, h2, _, _⟩ := hza i hi
    rw [← zAt_get hi] at h1 h2
    simp only [if_true, Int.toNat_natCast]
    generalize zAt m.zs i = y at h1 h2 ⊢
    have hgl := lt_of_cell c0
    clear hza
    go_enter Try.func49, Try.ntmps49
    have hBa : Below w.heap.size w (w.alloc (.cells #[.int .i64 0, .int .i64 0] 54)) := (Below.refl _ _).alloc (Nat.le_refl _) _
    go_wp2_with (go_at_call 64; refine (hhH.out _ hBa).mono ?_; rintro e w1 ⟨rfl, rfl⟩)
    refine bodyPost_ret (v := .tuple #[.agg #[.int .i64 y.s, .int .i64 y.l], .bool true]) (by simp [results, Try.results49, go_sem]) rfl ⟨rfl, ?_⟩
    exact (Below.refl _ _).alloc (Nat.le_refl _) _
end Go.Proofs.Ytncbkegflkjlfaa
