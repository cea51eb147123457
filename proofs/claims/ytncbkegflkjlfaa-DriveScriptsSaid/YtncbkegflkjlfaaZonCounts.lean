/- What Counts, shutImplicit, admit and extend do. -/
import Derived.Test.YtncbkegflkjlfaaZonWalks
namespace Go.Proofs.Ytncbkegflkjlfaa
open Go.RowKit Zon

set_option maxHeartbeats 1000000 in
theorem counts_any (g z : Nat) (m : Mc) (w : World) (hM : MAt w g z m) (hl : m.zs.length ≤ 64) :
    Calls Try.prog 84 #[.pointer (some ⟨g, 0, none⟩)] w fun e w' => e = .returned (.tuple #[.int .i64 (nOpen m.zs : Int), .int .i64 (nAct m.zs : Int)]) ∧ Below w.heap.size w w' := by
  obtain ⟨⟨cap, c0⟩, _, _, _, hne, hzl, hza⟩ := hM
  have hzH := Lib.hid hza
  clear hza
  go_enter Try.func84, Try.ntmps84
  go_wp2
  go_loopw [4, 5, 15] (fun o a i wr => ∃ k : Nat, k ≤ m.zs.length ∧ i = .int .i64 (k : Int) ∧ o = .int .i64 (nOpen (m.zs.take k) : Int) ∧ a = .int .i64 (nAct (m.zs.take k) : Int) ∧ Below w.heap.size w wr) (fun _ _ i _ => m.zs.length - (intOf i).toNat)
  case atStart => exact ⟨0, by omega, rfl, rfl, rfl, Below.refl _ _⟩
  case round =>
    obtain ⟨k, hk, rfl, rfl, rfl, hB⟩ := hrel
    have hno := nOpen_le m.zs k
    have hna := nAct_le m.zs k
    by_cases hlt : k < m.zs.length
    · obtain ⟨h1, h2, _, _⟩ := hzH.out k hlt
      rw [← zAt_get hlt] at h1 h2
      have t1 := (hB.cell (p := ⟨z, k * 2, none⟩) hzl).trans h1
      have t2 := (hB.cell (p := ⟨z, k * 2 + 1, none⟩) hzl).trans h2
      have e1 := Lib.hid (nOpen_take hlt)
      have e2 := Lib.hid (nAct_take hlt)
      have ho := Lib.hid (fun W => isOpen_any (zAt m.zs k).s (zAt m.zs k).l W)
      have ha := Lib.hid (fun W => isActive_any (zAt m.zs k).s (zAt m.zs k).l W)
      generalize zAt m.zs k = y at t1 t2 e1 e2 ho ha
      clear h1 h2
      have hzw := lt_of_cell t1
      generalize nOpen (m.zs.take k) = no at hno e1 ⊢
      generalize nAct (m.zs.take k) = na at hna e2 ⊢
      generalize openB y.s = p at e1 ho
      generalize actB y.s = q at e2 ha
      cases p <;> cases q
      all_goals
        go_wp2_with (first | (go_at_call 72; refine (ho.out _).mono ?_; rintro e w1 ⟨rfl, hb1⟩; obtain ⟨hc1, hf1⟩ := bcell hb1; have hs1 : wr.heap.size < w1.heap.size := (by have := hb1.size; simp at this; omega)) | (go_at_call 67; refine (ha.out _).mono ?_; rintro e w2 ⟨rfl, hb2⟩))
        have hbw := (hB.alloc hB.size _).trans ((hb1.mono (by simp; exact Nat.le_trans hB.size (Nat.le_succ _))).trans (hb2.mono (by have := hB.size; omega)))
        go_roundw
        case rel => exact ⟨k + 1, by omega, by go_num, by rw [e1.out]; simp, by rw [e2.out]; simp, hbw⟩
        case measure => simp [intOf]; omega
    · obtain rfl : k = m.zs.length := by omega
      rw [List.take_length] at hno hna ⊢
      go_wp2
      go_ret2
      exact ⟨rfl, hB⟩

set_option maxHeartbeats 1000000 in
theorem shutFirst_any (g z : Nat) (m : Mc) (w : World) (hM : MAt w g z m) (hl : m.zs.length ≤ 64) :
    Calls Try.prog 85 #[.pointer (some ⟨g, 0, none⟩)] w fun e w' => e = .returned (.int .i64 (shutFirst m.zs).1) ∧ MAt w' g z (m.with (shutFirst m.zs).2) ∧ Only w w' z := by
  have hMH := Lib.hid hM
  obtain ⟨⟨cap, c0⟩, _, _, _, hne, hzl, hza⟩ := hM
  have hzH := Lib.hid hza
  clear hza
  go_enter Try.func85, Try.ntmps85
  go_wp2
  go_loop [10] (fun i => ∃ k : Nat, k ≤ m.zs.length ∧ i = .int .i64 (k : Int) ∧ ∀ j, j < k → (zAt m.zs j).s ≠ 1) (fun i => m.zs.length - (intOf i).toNat)
  case atStart => exact ⟨0, by omega, rfl, fun j hj => absurd hj (by omega)⟩
  case round =>
    obtain ⟨k, hk, rfl, hno⟩ := hrel
    have hnoH := Lib.hid hno
    clear hno
    by_cases hlt : k < m.zs.length
    · obtain ⟨h1, h2, _, _⟩ := hzH.out k hlt
      rw [← zAt_get hlt] at h1 h2
      by_cases hs : (zAt m.zs k).s = 1
      · have hsh := Lib.hid (shut_any g z m k w hMH.out hlt)
        have he := Lib.hid (shutFirst_hit m.zs k hnoH.out hlt hs)
        rw [hs] at h1
        clear hs h2
        go_wp2_with (go_at_call 68; refine hsh.out.mono ?_; rintro e w1 ⟨rfl, hM1, ho1⟩)
        go_ret
        exact ⟨by rw [he.out]; rfl, by rw [he.out]; exact hM1, ho1⟩
      · have hd : ((zAt m.zs k).s == 1) = false := by simp [hs]
        have hn2 : ∀ j, j < k + 1 → (zAt m.zs j).s ≠ 1 := fun j hj => by
          by_cases e : j = k
          · subst e; exact hs
          · exact hnoH.out j (by omega)
        have hn2H := Lib.hid hn2
        clear hn2 hs
        go_wp2
        go_round
        case rel => exact ⟨k + 1, by omega, by go_num, hn2H.out⟩
        case measure => simp [intOf]; omega
    · obtain rfl : k = m.zs.length := by omega
      have he := Lib.hid (shutFirst_none m.zs hnoH.out)
      go_wp2
      go_ret
      exact ⟨by rw [he.out]; rfl, by rw [he.out]; exact hMH.out, Only.refl _ _⟩

set_option maxHeartbeats 1000000 in
theorem admit_any (g z : Nat) (m : Mc) (i : Nat) (w : World) (hM : MAt w g z m) (hl : m.zs.length ≤ 64) (hi : i < m.zs.length) :
    Calls Try.prog 83 #[.pointer (some ⟨g, 0, none⟩), .pointer (some ⟨z, i * 2, none⟩)] w fun e w' => e = .returned (.int .i64 (admit m i).1) ∧ MAt w' g z (m.with (admit m i).2) ∧ Only w w' z := by
  have hop := Lib.hid (fun W => isOpen_any (zAt m.zs i).s (zAt m.zs i).l W)
  have hct := Lib.hid (fun W (hb : Below w.heap.size w W) => counts_any g z m W (hM.below hb) hl)
  have hsi := Lib.hid (fun W (hb : Below w.heap.size w W) => shutFirst_any g z m W (hM.below hb) hl)
  have hMb := Lib.hid (fun W (hb : Below w.heap.size w W) => hM.below hb)
  obtain ⟨⟨cap, c0⟩, c1, c2, c3, hne, hzl, hza⟩ := hM
  obtain ⟨h1, h2, _, _⟩ := hza i hi
  rw [← zAt_get hi] at h1 h2
  have hno := nOpen_max m.zs
  have hna := nAct_max m.zs
  unfold admit
  clear hza
  generalize nOpen m.zs = no at hno hct ⊢
  generalize nAct m.zs = na at hna hct ⊢
  generalize zAt m.zs i = y at h1 h2 hop ⊢
  have hgl := lt_of_cell c0
  by_cases hp : openB y.s = true
  · rw [hp] at hop
    rw [if_pos hp]
    clear hp
    go_enter Try.func83, Try.ntmps83
    go_wp2_with (go_at_call 72; refine (hop.out _).mono ?_; rintro e w1 ⟨rfl, hb1⟩)
    go_ret
    exact ⟨rfl, hMb.out _ hb1, Only.of_below hb1 _⟩
  · rw [show openB y.s = false by simpa using hp] at hop
    rw [if_neg hp]
    clear hp
    by_cases h5 : y.s = 0 ∧ m.a ≤ na
    · rw [if_pos h5]
      obtain ⟨h50, h51⟩ := h5
      rw [h50] at h1 hop
      clear h50
      go_enter Try.func83, Try.ntmps83
      go_wp2_with (first | (go_at_call 72; refine (hop.out _).mono ?_; rintro e w1 ⟨rfl, hb1⟩) | (go_at_call 84; refine (hct.out _ hb1).mono ?_; rintro e w2 ⟨rfl, hb2⟩; have hb3 := bmore hb1 hb2; obtain ⟨hc, hf⟩ := bcell hb3))
      go_ret
      exact ⟨rfl, hMb.out _ hb3, Only.of_below hb3 _⟩
    · rw [if_neg h5]
      have hways : (y.s = 0 ∧ ¬ m.a ≤ na) ∨ (y.s == 0) = false := by
        by_cases h : y.s = 0
        · left; exact ⟨h, fun h' => h5 ⟨h, h'⟩⟩
        · right; simp [h]
      clear h5
      by_cases h6 : (no : Int) < m.o
      · rw [if_pos h6]
        rcases hways with ⟨h50, h51⟩ | h50
        · rw [h50] at h1 hop
          clear h50
          go_enter Try.func83, Try.ntmps83
          go_wp2_with (first | (go_at_call 72; refine (hop.out _).mono ?_; rintro e w1 ⟨rfl, hb1⟩) | (go_at_call 84; refine (hct.out _ hb1).mono ?_; rintro e w2 ⟨rfl, hb2⟩; have hb3 := bmore hb1 hb2; obtain ⟨hc, hf⟩ := bcell hb3))
          go_ret
          exact ⟨rfl, hMb.out _ hb3, Only.of_below hb3 _⟩
        · go_enter Try.func83, Try.ntmps83
          go_wp2_with (first | (go_at_call 72; refine (hop.out _).mono ?_; rintro e w1 ⟨rfl, hb1⟩) | (go_at_call 84; refine (hct.out _ hb1).mono ?_; rintro e w2 ⟨rfl, hb2⟩; have hb3 := bmore hb1 hb2; obtain ⟨hc, hf⟩ := bcell hb3))
          go_ret
          exact ⟨rfl, hMb.out _ hb3, Only.of_below hb3 _⟩
      · rw [if_neg h6]
        rcases hways with ⟨h50, h51⟩ | h50
        · rw [h50] at h1 hop
          clear h50
          go_enter Try.func83, Try.ntmps83
          go_wp2_with (first | (go_at_call 72; refine (hop.out _).mono ?_; rintro e w1 ⟨rfl, hb1⟩) | (go_at_call 84; refine (hct.out _ hb1).mono ?_; rintro e w2 ⟨rfl, hb2⟩; have hb3 := bmore hb1 hb2; obtain ⟨hc, hf⟩ := bcell hb3) | (go_at_call 85; refine (hsi.out _ hb3).mono ?_; rintro e w4 ⟨rfl, hM4, ho4⟩))
          go_ret
          exact ⟨rfl, hM4, (Only.of_below hb3 _).trans ho4⟩
        · go_enter Try.func83, Try.ntmps83
          go_wp2_with (first | (go_at_call 72; refine (hop.out _).mono ?_; rintro e w1 ⟨rfl, hb1⟩) | (go_at_call 84; refine (hct.out _ hb1).mono ?_; rintro e w2 ⟨rfl, hb2⟩; have hb3 := bmore hb1 hb2; obtain ⟨hc, hf⟩ := bcell hb3) | (go_at_call 85; refine (hsi.out _ hb3).mono ?_; rintro e w4 ⟨rfl, hM4, ho4⟩))
          go_ret
          exact ⟨rfl, hM4, (Only.of_below hb3 _).trans ho4⟩
end Go.Proofs.Ytncbkegflkjlfaa
