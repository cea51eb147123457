/- What the commands of a zone do. -/
import Derived.Test.YtncbkegflkjlfaaZonCounts
namespace Go.Proofs.Ytncbkegflkjlfaa
open Go.RowKit Zon

theorem MAt.drewN {w : World} {g z : Nat} {m : Mc} (h : MAt w g z m) (n : Nat) : MAt (w.drewN n) g z m := h.below (below_drewN (Below.refl _ _) n)
theorem MAt.cells {w : World} {g z : Nat} {m : Mc} (h : MAt w g z m) {i : Nat} (hi : i < m.zs.length) : w.cell? ⟨z, i * 2, none⟩ = some (.int .i64 (zAt m.zs i).s) ∧ w.cell? ⟨z, i * 2 + 1, none⟩ = some (.int .i64 (zAt m.zs i).l) ∧ w.frozen? ⟨z, i * 2, none⟩ = false ∧ w.frozen? ⟨z, i * 2 + 1, none⟩ = false := by
  rw [zAt_get hi]; exact h.za i hi
theorem MAt.cellsW {w : World} {g z : Nat} {m : Mc} {zs : List Zn} (h : MAt w g z (m.with zs)) {i : Nat} (hi : i < zs.length) : w.cell? ⟨z, i * 2, none⟩ = some (.int .i64 (zAt zs i).s) ∧ w.cell? ⟨z, i * 2 + 1, none⟩ = some (.int .i64 (zAt zs i).l) ∧ w.frozen? ⟨z, i * 2, none⟩ = false ∧ w.frozen? ⟨z, i * 2 + 1, none⟩ = false := h.cells hi
theorem MAt.put_s {w : World} {g z : Nat} {m : Mc} (h : MAt w g z m) {i : Nat} (hi : i < m.zs.length) (x : Int) {zs : List Zn} (he : m.zs.set i ⟨x, (zAt m.zs i).l⟩ = zs) : MAt (w.setCell ⟨z, i * 2, none⟩ (.int .i64 x)) g z (m.with zs) := he ▸ h.set_s hi x
theorem MAt.both {w : World} {g z : Nat} {m : Mc} (h : MAt w g z m) {i : Nat} (hi : i < m.zs.length) (x y : Int) : MAt ((w.setCell ⟨z, i * 2, none⟩ (.int .i64 x)).setCell ⟨z, i * 2 + 1, none⟩ (.int .i64 y)) g z (m.with (m.zs.set i ⟨x, y⟩)) := by
  have h1 := (h.set_s hi x).set_l (i := i) (by simpa [Mc.with] using hi) y
  have e : ((m.with (m.zs.set i ⟨x, (zAt m.zs i).l⟩)).with ((m.with (m.zs.set i ⟨x, (zAt m.zs i).l⟩)).zs.set i ⟨(zAt (m.with (m.zs.set i ⟨x, (zAt m.zs i).l⟩)).zs i).s, y⟩)) = m.with (m.zs.set i ⟨x, y⟩) := by
    show m.with ((m.zs.set i _).set i ⟨(zAt (m.zs.set i _) i).s, y⟩) = _
    rw [zAt_set_same hi, List.set_set]
  rw [e] at h1
  exact h1

set_option maxHeartbeats 1000000 in
theorem ext_any (g z : Nat) (m : Mc) (i : Nat) (n : Int) (w : World) (hM : MAt w g z m) (hok : m.Ok) (hi : i < m.zs.length) (hn : 1 ≤ n) (hn2 : n ≤ 4096) :
    Calls Try.prog 82 #[.pointer (some ⟨g, 0, none⟩), .pointer (some ⟨z, i * 2, none⟩), .int .i64 n] w fun e w' => e = .returned (.tuple #[.int .i64 (ext m i n).1, .int .i64 (ext m i n).2.1]) ∧ MAt w' g z (m.with (ext m i n).2.2) ∧ Only w w' z := by
  have had := Lib.hid (admit_any g z m i w hM hok.z2 hi)
  have hzo := hok.put (admit_len m i) (admit_ok hok i)
  have hlen := admit_len m i
  unfold ext
  have herr := admit_err m i
  generalize hzs : (admit m i).2 = zs at had hzo hlen herr ⊢
  clear hzs
  rcases herr with he | ⟨he, rfl⟩
  · rw [he] at had
    rw [if_pos he]
    have hi1 : i < zs.length := by omega
    have hz1 : zOk m.b (zAt zs i) := hzo.zz _ (zAt_mem hi1)
    have hb2 := hok.b2
    unfold zOk at hz1
    have hz2 := hz1.1
    have hz3 := hz1.2.1
    clear hz1 he hlen hM hzo
    generalize hy : zAt zs i = y at hz2 hz3 ⊢
    have hyH := Lib.hid hy
    clear hy
    unfold extZ
    by_cases h1 : y.l + n = m.b
    · rw [if_pos h1]
      have h1' : (y.l + n == m.b) = true := by simp [h1]
      clear h1
      go_enter Try.func82, Try.ntmps82
      go_wp2_with (go_at_call 83; refine had.out.mono ?_; rintro e w1 ⟨rfl, hM1, ho1⟩; obtain ⟨k1, k2, k3, k4⟩ := hM1.cellsW (i := i) hi1; rw [hyH.out] at k1 k2)
      refine fresh_world (fun W => MAt W g z (m.with (zs.set i ⟨y.s, y.l + n⟩)) ∧ Only w W z) ⟨by have h5 := hM1.set_l hi1 (y.l + n); rw [show zAt (m.with zs).zs i = y from hyH.out] at h5; exact h5, ho1.set _ _⟩ ?_
      rintro W2 ⟨hM2, ho2⟩
      clear k1 k2 k3 k4 hM1 ho1 had w1
      have hi2 : i < (zs.set i ⟨y.s, y.l + n⟩).length := by simpa using hi1
      obtain ⟨k1, k2, k3, k4⟩ := hM2.cellsW hi2
      have e3 : zAt (zs.set i ⟨y.s, y.l + n⟩) i = ⟨y.s, y.l + n⟩ := zAt_set_same hi1 _
      rw [e3] at k1 k2
      have hgoal : ∀ x, MAt (W2.setCell ⟨z, i * 2, none⟩ (.int .i64 x)) g z (m.with (zs.set i ⟨x, y.l + n⟩)) := fun x => by
        have h5 := hM2.set_s (i := i) hi2 x
        rw [show zAt (m.with (zs.set i ⟨y.s, y.l + n⟩)).zs i = ⟨y.s, y.l + n⟩ from e3, show (m.with (zs.set i ⟨y.s, y.l + n⟩)).zs = zs.set i ⟨y.s, y.l + n⟩ from rfl, List.set_set] at h5
        exact h5
      have hgoalH := Lib.hid hgoal
      have hM2H := Lib.hid hM2
      have c1 : W2.cell? ⟨g, 1, none⟩ = some (.int .i64 m.b) := hM2.c1
      have hne := hM2.ne
      clear e3 hM2 hgoal hi2
      go_quiet (fail)
      go_wp2
      go_ret2
      exact ⟨rfl, (hgoalH.out 4).drewN _, (ho2.set _ _).drewN _⟩
    · rw [if_neg h1]
      have h1' : (y.l + n == m.b) = false := by simp [h1]
      clear h1
      by_cases h2 : y.s = 2
      · rw [if_pos h2]
        have h2H := Lib.hid h2
        clear h2
        go_enter Try.func82, Try.ntmps82
        go_wp2_with (go_at_call 83; refine had.out.mono ?_; rintro e w1 ⟨rfl, hM1, ho1⟩; obtain ⟨k1, k2, k3, k4⟩ := hM1.cellsW (i := i) hi1; rw [hyH.out] at k1 k2)
        refine fresh_world (fun W => MAt W g z (m.with (zs.set i ⟨y.s, y.l + n⟩)) ∧ Only w W z) ⟨by have h5 := hM1.set_l hi1 (y.l + n); rw [show zAt (m.with zs).zs i = y from hyH.out] at h5; exact h5, ho1.set _ _⟩ ?_
        rintro W2 ⟨hM2, ho2⟩
        clear k1 k2 k3 k4 hM1 ho1 had w1
        have hi2 : i < (zs.set i ⟨y.s, y.l + n⟩).length := by simpa using hi1
        obtain ⟨k1, k2, k3, k4⟩ := hM2.cellsW hi2
        have e3 : zAt (zs.set i ⟨y.s, y.l + n⟩) i = ⟨y.s, y.l + n⟩ := zAt_set_same hi1 _
        rw [e3] at k1 k2
        have hgoal : ∀ x, MAt (W2.setCell ⟨z, i * 2, none⟩ (.int .i64 x)) g z (m.with (zs.set i ⟨x, y.l + n⟩)) := fun x => by
          have h5 := hM2.set_s (i := i) hi2 x
          rw [show zAt (m.with (zs.set i ⟨y.s, y.l + n⟩)).zs i = ⟨y.s, y.l + n⟩ from e3, show (m.with (zs.set i ⟨y.s, y.l + n⟩)).zs = zs.set i ⟨y.s, y.l + n⟩ from rfl, List.set_set] at h5
          exact h5
        have hgoalH := Lib.hid hgoal
        have hM2H := Lib.hid hM2
        have c1 : W2.cell? ⟨g, 1, none⟩ = some (.int .i64 m.b) := hM2.c1
        have hne := hM2.ne
        clear e3 hM2 hgoal hi2
        rw [h2H.out] at k1
        go_quiet (fail)
        go_wp2
        go_ret2
        refine ⟨rfl, ?_, ho2.drewN _⟩
        have := hM2H.out
        rw [h2H.out] at this
        exact this.drewN _
      · rw [if_neg h2]
        have h2' : (y.s != 2) = true := by simp [h2]
        clear h2
        go_enter Try.func82, Try.ntmps82
        go_wp2_with (go_at_call 83; refine had.out.mono ?_; rintro e w1 ⟨rfl, hM1, ho1⟩; obtain ⟨k1, k2, k3, k4⟩ := hM1.cellsW (i := i) hi1; rw [hyH.out] at k1 k2)
        refine fresh_world (fun W => MAt W g z (m.with (zs.set i ⟨y.s, y.l + n⟩)) ∧ Only w W z) ⟨by have h5 := hM1.set_l hi1 (y.l + n); rw [show zAt (m.with zs).zs i = y from hyH.out] at h5; exact h5, ho1.set _ _⟩ ?_
        rintro W2 ⟨hM2, ho2⟩
        clear k1 k2 k3 k4 hM1 ho1 had w1
        have hi2 : i < (zs.set i ⟨y.s, y.l + n⟩).length := by simpa using hi1
        obtain ⟨k1, k2, k3, k4⟩ := hM2.cellsW hi2
        have e3 : zAt (zs.set i ⟨y.s, y.l + n⟩) i = ⟨y.s, y.l + n⟩ := zAt_set_same hi1 _
        rw [e3] at k1 k2
        have hgoal : ∀ x, MAt (W2.setCell ⟨z, i * 2, none⟩ (.int .i64 x)) g z (m.with (zs.set i ⟨x, y.l + n⟩)) := fun x => by
          have h5 := hM2.set_s (i := i) hi2 x
          rw [show zAt (m.with (zs.set i ⟨y.s, y.l + n⟩)).zs i = ⟨y.s, y.l + n⟩ from e3, show (m.with (zs.set i ⟨y.s, y.l + n⟩)).zs = zs.set i ⟨y.s, y.l + n⟩ from rfl, List.set_set] at h5
          exact h5
        have hgoalH := Lib.hid hgoal
        have hM2H := Lib.hid hM2
        have c1 : W2.cell? ⟨g, 1, none⟩ = some (.int .i64 m.b) := hM2.c1
        have hne := hM2.ne
        clear e3 hM2 hgoal hi2
        go_quiet (fail)
        go_wp2
        go_ret2
        exact ⟨rfl, (hgoalH.out 1).drewN _, (ho2.set _ _).drewN _⟩
  · rw [he] at had
    rw [if_neg (by omega), he]
    clear he hM hzo hlen
    go_enter Try.func82, Try.ntmps82
    go_wp2_with (go_at_call 83; refine had.out.mono ?_; rintro e w1 ⟨rfl, hM1, ho1⟩)
    go_ret2
    exact ⟨rfl, hM1, ho1⟩
end Go.Proofs.Ytncbkegflkjlfaa
