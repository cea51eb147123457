/- What the document's Do does with the commands that write. -/
import Derived.Test.YtncbkegflkjlfaaZonRDo
namespace Go.Proofs.Ytncbkegflkjlfaa
open Go.RowKit Zon

set_option maxRecDepth 100000 in
set_option maxHeartbeats 4000000 in
theorem rdo_2 (g z : Nat) (m : Mc) (i : Nat) (a n : Int) (w : World) (hM : MAt w g z m) (hok : m.Ok) (hi : i < m.zs.length) :
    Calls Try.prog 48 #[.pointer (some ⟨g, 0, none⟩), .agg #[.int .i64 2, .int .i64 (i : Int), .int .i64 a, .int .i64 n]] w (CmdPost w g z m (app m i n)) := by
  have hz2 := hok.z2
  have hMH := Lib.hid hM
  have hXH := Lib.hid (BoxC.new hM 2 (i : Int) a n 49)
  obtain ⟨k1, k2, k3, k4⟩ := hM.cells hi
  obtain ⟨⟨cap, c0⟩, c1, c2, c3, hne, hzl, _⟩ := hM
  have hgl := lt_of_cell c0
  have hzo := hok.at_ hi
  unfold zOk at hzo
  obtain ⟨z1, z2, z3, z4, _, _⟩ := hzo
  have hb2 := hok.b2
  have hb1 := hok.b1
  have hokH := Lib.hid hok
  clear hok
  obtain ⟨y, hy⟩ : ∃ y, zAt m.zs i = y := ⟨_, rfl⟩
  rw [hy] at k1 k2 z1 z2 z3 z4
  have hyH := Lib.hid hy
  clear hy
  go_enter Try.func48, Try.ntmps48
  go_wp2_with fail
  go_quiet (fail)
  go_wp2_with fail
  go_region
  refine fresh_K (fun W => CmdW w W g z m 2 (i : Int) a n y) (CmdW.new hMH.out _ _ _ _ _ _ _ _) ?_
  intro W5 hC
  have hCH := Lib.hid hC
  obtain ⟨⟨hM5, hB5, b0, b1, b2, b3⟩, y0, y1⟩ := hC
  clear k1 k2 k3 k4 c0 c1 c2 c3 hzl hXH
  obtain ⟨k1, k2, k3, k4⟩ := hM5.cells hi
  rw [hyH.out] at k1 k2
  obtain ⟨⟨cap5, c0⟩, c1, c2, c3, _, hzl, _⟩ := hM5
  have hgl5 := lt_of_cell c0

  have hnw : w.heap.size ≠ z := by have := hMH.out.zl; omega
  have hnw2 : w.heap.size + 1 ≠ z := by have := hMH.out.zl; omega
  have hbad : ¬ (0 ≤ (0 : Int) ∧ 1 ≤ n ∧ n ≤ m.b - 0) → CmdPost w g z m (app m i n) (.returned (.tuple #[.int .i64 0, .int .i64 2])) W5 := fun h => by
    have hcs : app m i n = (0, 2, m.zs) := by
      unfold app
      rw [if_pos (show withinB 0 n m.b = false by rw [← Bool.not_eq_true, Zon.within_iff]; exact h)]
    rw [hcs]
    exact hCH.out.x.end_
  have hbadH := Lib.hid hbad
  clear hbad
  by_cases h2 : n < 1
  · have he := Lib.hid (fun j => ((hbadH.out (by omega)).drewN' j))
    clear hbadH
    go_wp2_with fail
    go_quiet (fail)
    go_wp2_with fail
    go_ret2
    exact he.out _
  have h2' : decide (n < 1) = false := by simpa using h2
  by_cases h3 : m.b < n
  · have he := Lib.hid (fun j => ((hbadH.out (by omega)).drewN' j))
    clear hbadH
    go_wp2_with fail
    go_quiet (fail)
    go_wp2_with fail
    go_ret2
    exact he.out _
  have h3' : decide (m.b < n) = false := by simpa using h3
  have hin : withinB 0 n m.b = true := Zon.within_iff.2 (by omega)
  clear hbadH
  by_cases h5 : y.s = 4
  · have hcs := Lib.hid (show app m i n = (0, 4, m.zs) by unfold app; rw [if_neg (by rw [hin]; simp), hyH.out, if_pos h5])
    rw [h5] at y0
    clear h5 hin
    go_wp2_with fail
    go_quiet (fail)
    go_wp2_with fail
    go_ret2
    rw [hcs.out]
    exact (hCH.out.x.drewN _).end_
  have h5' : (y.s == 4) = false := by simp [h5]
  by_cases h4 : m.b - n < y.l
  · have hcs := Lib.hid (show app m i n = (0, 2, m.zs) by
      unfold app
      rw [if_neg (by rw [hin]; simp), hyH.out, if_neg h5, if_pos (show withinB y.l n m.b = false by rw [← Bool.not_eq_true, Zon.within_iff]; omega)])
    clear h5 hin
    go_wp2_with fail
    go_quiet (fail)
    go_wp2_with fail
    go_quiet (fail)
    go_wp2_with fail
    go_ret2
    rw [hcs.out]
    exact ((hCH.out.x.drewN _).drewN _).end_
  · have hw : app m i n = ext m i n := by
      unfold app
      rw [if_neg (by rw [hin]; simp), hyH.out, if_neg h5, if_neg (show ¬ withinB y.l n m.b = false by rw [Bool.not_eq_false, Zon.within_iff]; omega)]
    have h4' : decide (m.b - n < y.l) = false := by simpa using h4
    clear h5 hin
    go_wp2_with fail
    go_quiet (fail)
    go_wp2_with fail
    go_quiet (fail)
    have hext := ext_ropn m i n
    rw [hyH.out] at hext
    have hop := fun W (hM : MAt W g z m) => ropen_any g z m i 1 W hM hokH.out hi (by omega)
    unfold OpenPost at hop
    have hD := Lib.hid (fun j => (hCH.out.drewN j).x.1)
    rcases admit_err m i with he | ⟨he, _⟩
    · rw [if_pos he] at hext
      rw [he] at hop
      have hzr := ropn_at m i 1 hi he
      have hrl := ropn_len m i 1
      rw [hyH.out] at hzr
      have hq : (if openB y.s = true ∧ (1 : Int) = 1 then y.s else 1) = opS y.s := by unfold opS; simp
      rw [hq] at hzr
      generalize opS y.s = q at hext hzr
      generalize ropn m i 1 = zr at hop hext hzr hrl
      have hcs := Lib.hid (show app m i n = _ from hw.trans hext)
      have hopH := Lib.hid hop
      have hzrH := Lib.hid hzr
      have hi6 : i < zr.length := by omega
      have hz6 : zr.length ≤ 64 := by omega
      clear hext hop hzr he hq hrl
      go_wp2_with (go_at_call 63; refine (hopH.out _ (hD.out _)).mono ?_; rintro e W6 ⟨rfl, hM6, ho6⟩)
      have ho7 := ((Only.refl W5 z).drewN _).trans ho6
      have q1 := ho7.cell b1 hnw
      have q3 := ho7.cell b3 hnw
      obtain ⟨j1, j2, j3, j4⟩ := hM6.cellsW hi6
      rw [hzrH.out] at j1 j2
      obtain ⟨cap6, d0⟩ : ∃ cap, W6.cell? ⟨g, 0, none⟩ = some (.slice (some ⟨z, 0, none⟩) zr.length cap) := hM6.c0
      have d1 : W6.cell? ⟨g, 1, none⟩ = some (.int .i64 m.b) := hM6.c1
      have hzl6 := hM6.zl
      go_region
      refine fresh_K (fun W => MAt W g z (m.with (zr.set i ⟨q, y.l + n⟩)) ∧ Only W5 W z) ⟨?_, (ho7.set _ _).drew⟩ ?_
      · have h5 := hM6.set_l (i := i) hi6 (y.l + n)
        rw [show zAt (m.with zr).zs i = ⟨q, y.l⟩ from hzrH.out] at h5
        exact h5.drewN 1
      rintro W7 ⟨hM7, ho8⟩
      have hi7 : i < (zr.set i ⟨q, y.l + n⟩).length := by simpa using hi6
      have hz7 : (zr.set i ⟨q, y.l + n⟩).length ≤ 64 := by simpa using hz6
      have q1 := ho8.cell b1 hnw
      obtain ⟨j1, j2, j3, j4⟩ := hM7.cellsW hi7
      rw [zAt_set_same hi6] at j1 j2
      obtain ⟨cap7, d0⟩ : ∃ cap, W7.cell? ⟨g, 0, none⟩ = some (.slice (some ⟨z, 0, none⟩) (zr.set i ⟨q, y.l + n⟩).length cap) := hM7.c0
      have d1 : W7.cell? ⟨g, 1, none⟩ = some (.int .i64 m.b) := hM7.c1
      have hset := hM7.set_s (i := i) hi7 4
      rw [show zAt (m.with (zr.set i ⟨q, y.l + n⟩)).zs i = ⟨q, y.l + n⟩ from zAt_set_same hi6 _, show (m.with (zr.set i ⟨q, y.l + n⟩)).zs = zr.set i ⟨q, y.l + n⟩ from rfl, List.set_set] at hset
      have hsetH := Lib.hid hset
      have hM7H := Lib.hid hM7
      have hfr := Lib.hid ((Only.of_below hCH.out.x.2.1 z).trans ho8)
      generalize hzs7 : zr.set i ⟨q, y.l + n⟩ = zs7 at hi7 hz7 d0
      clear hset hM7 ho8 hM6 ho6 ho7 hzrH hopH hCH hD hzs7 b0 b1 b2 b3 y0 y1 k1 k2 k3 k4 c0 c1 c2 c3 hB5 hzl hgl hgl5
      by_cases h8 : y.l + n = m.b
      · have h8' : (y.l + n == m.b) = true := by simp [h8]
        rw [if_pos h8] at hcs
        clear h8
        go_wp2_with fail
        go_quiet (fail)
        go_wp2_with fail
        go_region
        go_wp2_with fail
        go_ret2
        rw [hcs.out]
        refine ⟨rfl, ?_, ?_⟩
        · exact (hsetH.out.drewN _).drewN 1
        · exact ((hfr.out.set _ _).drewN _).drewN 1
      · have h8' : (y.l + n == m.b) = false := by simp [h8]
        rw [if_neg h8] at hcs
        clear h8
        go_wp2_with fail
        go_quiet (fail)
        go_wp2_with fail
        go_ret2
        rw [hcs.out]
        exact ⟨rfl, hM7H.out.drewN _, hfr.out.drewN _⟩
    · rw [if_neg (by omega)] at hext
      rw [he] at hop hext
      have hr : ropn m i 1 = m.zs := by unfold ropn; rw [if_neg (by omega)]
      rw [hr] at hop
      have hcs := Lib.hid (show app m i n = _ from hw.trans hext)
      have hopH := Lib.hid hop
      clear hext hop he hr
      go_wp2_with (go_at_call 63; refine (hopH.out _ (hD.out _)).mono ?_; rintro e W6 ⟨rfl, hM6, ho6⟩)
      go_ret2
      rw [hcs.out]
      exact ⟨rfl, hM6, ((Only.of_below hCH.out.x.2.1 z).drewN _).trans ho6⟩
end Go.Proofs.Ytncbkegflkjlfaa
