/- What the document's Do does. -/
import Derived.Test.YtncbkegflkjlfaaZonSeven
import Derived.Test.YtncbkegflkjlfaaZonROpen
namespace Go.Proofs.Ytncbkegflkjlfaa
open Go.RowKit Zon

/-- The command in its box, the zone copied into another. -/
structure CmdW (w W : World) (g z : Nat) (m : Mc) (k zz a n : Int) (y : Zn) : Prop where
  x : BoxC w W g z m k zz a n
  s : W.cell? ⟨w.heap.size + 1, 0, none⟩ = some (.int .i64 y.s)
  l : W.cell? ⟨w.heap.size + 1, 1, none⟩ = some (.int .i64 y.l)
theorem CmdW.new {w : World} {g z : Nat} {m : Mc} (h : MAt w g z m) (k zz a n : Int) (t t' : TypeId) (j : Nat) (y : Zn) :
    CmdW w (((w.alloc (.cells #[.int .i64 k, .int .i64 zz, .int .i64 a, .int .i64 n] t)).drewN j).alloc (.cells #[.int .i64 y.s, .int .i64 y.l] t')) g z m k zz a n y := by
  have h1 := (BoxC.new h k zz a n t).drewN j
  have hb : Below ((w.alloc (.cells #[.int .i64 k, .int .i64 zz, .int .i64 a, .int .i64 n] t)).drewN j).heap.size ((w.alloc (.cells #[.int .i64 k, .int .i64 zz, .int .i64 a, .int .i64 n] t)).drewN j) (((w.alloc (.cells #[.int .i64 k, .int .i64 zz, .int .i64 a, .int .i64 n] t)).drewN j).alloc (.cells #[.int .i64 y.s, .int .i64 y.l] t')) := (Below.refl _ _).alloc (Nat.le_refl _) _
  refine ⟨⟨h1.1.below hb, bmore h1.2.1 hb, ?_, ?_, ?_, ?_⟩, ?_, ?_⟩ <;> go_simp
theorem CmdPost.drewN' {w W : World} {g z : Nat} {m : Mc} {r : Int × Int × List Zn} {e : Ending} (h : CmdPost w g z m r e W) (j : Nat) : CmdPost w g z m r e (W.drewN j) := ⟨h.1, h.2.1.drewN j, h.2.2.drewN j⟩
theorem ropen_any (g z : Nat) (m : Mc) (i : Nat) (st : Int) (w : World) (hM : MAt w g z m) (hok : m.Ok) (hi : i < m.zs.length) (hst : st = 1 ∨ st = 2) :
    Calls Try.prog 63 #[.pointer (some ⟨g, 0, none⟩), .int .i64 (i : Int), .int .i64 st] w (OpenPost w g z m i st) := by
  cases h : openB (zAt m.zs i).s with
  | true => exact ropen_open g z m i st w hM hok hi hst h
  | false => exact ropen_shut g z m i st w hM hok hi h
def opS (s : Int) : Int := if openB s = true then s else 1
theorem ropn_len (m : Mc) (i : Nat) (st : Int) : (ropn m i st).length = m.zs.length := by
  unfold ropn
  split
  · rw [List.length_set, admit_len]
  · rfl
theorem ropn_at (m : Mc) (i : Nat) (st : Int) (hi : i < m.zs.length) (he : (admit m i).1 = 0) : zAt (ropn m i st) i = ⟨if openB (zAt m.zs i).s = true ∧ st = 1 then (zAt m.zs i).s else st, (zAt m.zs i).l⟩ := by
  unfold ropn
  rw [if_pos he, zAt_set_same (by rw [admit_len]; exact hi)]
theorem ext_ropn (m : Mc) (i : Nat) (n : Int) : ext m i n = if (admit m i).1 = 0 then ((zAt m.zs i).l, 0, (ropn m i 1).set i ⟨if (zAt m.zs i).l + n = m.b then 4 else opS (zAt m.zs i).s, (zAt m.zs i).l + n⟩) else (0, (admit m i).1, m.zs) := by
  unfold ext
  split
  · rename_i he
    unfold ropn
    rw [if_pos he, List.set_set, admit_at]
    congr 4
    unfold extZ opS
    congr 1
    by_cases h : openB (zAt m.zs i).s = true
    · rw [if_pos h]
      have : (zAt m.zs i).s = 1 ∨ (zAt m.zs i).s = 2 := by simpa [openB] using h
      rcases this with h | h <;> simp [h]
    · rw [if_neg h]
      have : (zAt m.zs i).s ≠ 2 := fun e => h (by rw [e]; rfl)
      simp [this]
  · rename_i he
    rcases admit_err m i with h | ⟨_, h⟩
    · exact absurd h he
    · rw [h]
theorem CmdW.drewN {w W : World} {g z : Nat} {m : Mc} {k zz a n : Int} {y : Zn} (h : CmdW w W g z m k zz a n y) (j : Nat) : CmdW w (W.drewN j) g z m k zz a n y := ⟨h.x.drewN j, h.s, h.l⟩

set_option maxRecDepth 100000 in
set_option maxHeartbeats 4000000 in
theorem rdo_3 (g z : Nat) (m : Mc) (i : Nat) (a n : Int) (w : World) (hM : MAt w g z m) (hok : m.Ok) (hi : i < m.zs.length) :
    Calls Try.prog 48 #[.pointer (some ⟨g, 0, none⟩), .agg #[.int .i64 3, .int .i64 (i : Int), .int .i64 a, .int .i64 n]] w (CmdPost w g z m (rst m i)) := by
  have hz2 := hok.z2
  have hMH := Lib.hid hM
  have hXH := Lib.hid (BoxC.new hM 3 (i : Int) a n 49)
  obtain ⟨k1, k2, k3, k4⟩ := hM.cells hi
  obtain ⟨⟨cap, c0⟩, c1, c2, c3, hne, hzl, _⟩ := hM
  have hgl := lt_of_cell c0
  have hzo := hok.at_ hi
  unfold zOk at hzo
  obtain ⟨z1, z2, z3, z4, _, _⟩ := hzo
  have hb2 := hok.b2
  have hb1 := hok.b1
  have hokH := Lib.hid hok
  clear hok
  obtain ⟨y, hy⟩ : ∃ y, zAt m.zs i = y := ⟨_, rfl⟩
  rw [hy] at k1 k2 z1 z2 z3 z4
  have hyH := Lib.hid hy
  clear hy
  go_enter Try.func48, Try.ntmps48
  go_wp2_with fail
  go_quiet (fail)
  go_wp2_with fail
  go_region
  refine fresh_K (fun W => CmdW w W g z m 3 (i : Int) a n y) (CmdW.new hMH.out _ _ _ _ _ _ _ _) ?_
  intro W5 hC
  have hCH := Lib.hid hC
  obtain ⟨⟨hM5, hB5, b0, b1, b2, b3⟩, y0, y1⟩ := hC
  clear k1 k2 k3 k4 c0 c1 c2 c3 hzl hXH
  obtain ⟨k1, k2, k3, k4⟩ := hM5.cells hi
  rw [hyH.out] at k1 k2
  obtain ⟨⟨cap5, c0⟩, c1, c2, c3, _, hzl, _⟩ := hM5
  have hgl5 := lt_of_cell c0

  go_wp2_with fail
  go_region
  go_wp2_with fail
  go_ret2
  exact ⟨rfl, ((hCH.out.drewN 1).x.1.both hi 0 0), (((Only.of_below (hCH.out.drewN 1).x.2.1 z).set _ _).set _ _)⟩

set_option maxRecDepth 100000 in
set_option maxHeartbeats 4000000 in
theorem rdo_4 (g z : Nat) (m : Mc) (i : Nat) (a n : Int) (w : World) (hM : MAt w g z m) (hok : m.Ok) (hi : i < m.zs.length) :
    Calls Try.prog 48 #[.pointer (some ⟨g, 0, none⟩), .agg #[.int .i64 4, .int .i64 (i : Int), .int .i64 a, .int .i64 n]] w (CmdPost w g z m (fin m i)) := by
  have hz2 := hok.z2
  have hMH := Lib.hid hM
  have hXH := Lib.hid (BoxC.new hM 4 (i : Int) a n 49)
  obtain ⟨k1, k2, k3, k4⟩ := hM.cells hi
  obtain ⟨⟨cap, c0⟩, c1, c2, c3, hne, hzl, _⟩ := hM
  have hgl := lt_of_cell c0
  have hzo := hok.at_ hi
  unfold zOk at hzo
  obtain ⟨z1, z2, z3, z4, _, _⟩ := hzo
  have hb2 := hok.b2
  have hb1 := hok.b1
  have hokH := Lib.hid hok
  clear hok
  obtain ⟨y, hy⟩ : ∃ y, zAt m.zs i = y := ⟨_, rfl⟩
  rw [hy] at k1 k2 z1 z2 z3 z4
  have hyH := Lib.hid hy
  clear hy
  go_enter Try.func48, Try.ntmps48
  go_wp2_with fail
  go_quiet (fail)
  go_wp2_with fail
  go_region
  refine fresh_K (fun W => CmdW w W g z m 4 (i : Int) a n y) (CmdW.new hMH.out _ _ _ _ _ _ _ _) ?_
  intro W5 hC
  have hCH := Lib.hid hC
  obtain ⟨⟨hM5, hB5, b0, b1, b2, b3⟩, y0, y1⟩ := hC
  clear k1 k2 k3 k4 c0 c1 c2 c3 hzl hXH
  obtain ⟨k1, k2, k3, k4⟩ := hM5.cells hi
  rw [hyH.out] at k1 k2
  obtain ⟨⟨cap5, c0⟩, c1, c2, c3, _, hzl, _⟩ := hM5
  have hgl5 := lt_of_cell c0

  go_wp2_with fail
  go_region
  go_wp2_with fail
  go_ret2
  have h5 := (hCH.out.drewN 1).x.1.set_s hi 4
  exact ⟨rfl, h5, (Only.of_below (hCH.out.drewN 1).x.2.1 z).set _ _⟩

set_option maxRecDepth 100000 in
set_option maxHeartbeats 4000000 in
theorem rdo_5 (g z : Nat) (m : Mc) (i : Nat) (a n : Int) (w : World) (hM : MAt w g z m) (hok : m.Ok) (hi : i < m.zs.length) :
    Calls Try.prog 48 #[.pointer (some ⟨g, 0, none⟩), .agg #[.int .i64 5, .int .i64 (i : Int), .int .i64 a, .int .i64 n]] w (CmdPost w g z m (opn m i)) := by
  have hz2 := hok.z2
  have hMH := Lib.hid hM
  have hXH := Lib.hid (BoxC.new hM 5 (i : Int) a n 49)
  obtain ⟨k1, k2, k3, k4⟩ := hM.cells hi
  obtain ⟨⟨cap, c0⟩, c1, c2, c3, hne, hzl, _⟩ := hM
  have hgl := lt_of_cell c0
  have hzo := hok.at_ hi
  unfold zOk at hzo
  obtain ⟨z1, z2, z3, z4, _, _⟩ := hzo
  have hb2 := hok.b2
  have hb1 := hok.b1
  have hokH := Lib.hid hok
  clear hok
  obtain ⟨y, hy⟩ : ∃ y, zAt m.zs i = y := ⟨_, rfl⟩
  rw [hy] at k1 k2 z1 z2 z3 z4
  have hyH := Lib.hid hy
  clear hy
  go_enter Try.func48, Try.ntmps48
  go_wp2_with fail
  go_quiet (fail)
  go_wp2_with fail
  go_region
  refine fresh_K (fun W => CmdW w W g z m 5 (i : Int) a n y) (CmdW.new hMH.out _ _ _ _ _ _ _ _) ?_
  intro W5 hC
  have hCH := Lib.hid hC
  obtain ⟨⟨hM5, hB5, b0, b1, b2, b3⟩, y0, y1⟩ := hC
  clear k1 k2 k3 k4 c0 c1 c2 c3 hzl hXH
  obtain ⟨k1, k2, k3, k4⟩ := hM5.cells hi
  rw [hyH.out] at k1 k2
  obtain ⟨⟨cap5, c0⟩, c1, c2, c3, _, hzl, _⟩ := hM5
  have hgl5 := lt_of_cell c0

  have hcs : opn m i = if y.s = 4 then (0, 4, m.zs) else if (admit m i).1 = 0 then (0, 0, (admit m i).2.set i ⟨2, y.l⟩) else (0, (admit m i).1, (admit m i).2) := by
    unfold opn; rw [admit_at, hyH.out]
  by_cases h4 : y.s = 4
  · rw [if_pos h4] at hcs
    have hcsH := Lib.hid hcs
    rw [h4] at y0
    clear h4 hcs
    go_wp2_with fail
    go_ret2
    rw [hcsH.out]
    exact hCH.out.x.end_
  · rw [if_neg h4] at hcs
    have hs4 : (y.s == 4) = false := by simp [h4]
    have hop := fun W (hM : MAt W g z m) => ropen_any g z m i 2 W hM hokH.out hi (by omega)
    have hend : ∀ W, OpenPost W5 g z m i 2 (.returned (.int .i64 (admit m i).1)) W → CmdPost w g z m (opn m i) (.returned (.tuple #[.int .i64 0, .int .i64 (admit m i).1])) W := fun W h => by
      rw [hcs]
      obtain ⟨_, h1, h2⟩ := h
      have h3 := (Only.of_below hCH.out.x.2.1 z).trans h2
      unfold ropn at h1
      by_cases he : (admit m i).1 = 0
      · rw [if_pos he, if_neg (by rintro ⟨_, h⟩; omega), hyH.out] at h1
        rw [if_pos he, he]
        exact ⟨rfl, h1, h3⟩
      · rw [if_neg he] at h1
        rw [if_neg he]
        rcases admit_err m i with h | ⟨_, h⟩
        · exact absurd h he
        · exact ⟨rfl, by rw [h]; exact h1, h3⟩
    unfold OpenPost at hop hend
    generalize (admit m i).1 = er at hop hend
    have hopH := Lib.hid hop
    have hendH := Lib.hid hend
    clear hop hend hcs h4
    go_wp2_with (go_at_call 63; refine (hopH.out _ hCH.out.x.1).mono ?_; rintro e W6 ⟨rfl, hM6, ho6⟩)
    go_ret2
    exact hendH.out _ ⟨by trivial, hM6, ho6⟩

set_option maxRecDepth 100000 in
set_option maxHeartbeats 4000000 in
theorem rdo_6 (g z : Nat) (m : Mc) (i : Nat) (a n : Int) (w : World) (hM : MAt w g z m) (hok : m.Ok) (hi : i < m.zs.length) :
    Calls Try.prog 48 #[.pointer (some ⟨g, 0, none⟩), .agg #[.int .i64 6, .int .i64 (i : Int), .int .i64 a, .int .i64 n]] w (CmdPost w g z m (cls m i)) := by
  have hz2 := hok.z2
  have hMH := Lib.hid hM
  have hXH := Lib.hid (BoxC.new hM 6 (i : Int) a n 49)
  obtain ⟨k1, k2, k3, k4⟩ := hM.cells hi
  obtain ⟨⟨cap, c0⟩, c1, c2, c3, hne, hzl, _⟩ := hM
  have hgl := lt_of_cell c0
  have hzo := hok.at_ hi
  unfold zOk at hzo
  obtain ⟨z1, z2, z3, z4, _, _⟩ := hzo
  have hb2 := hok.b2
  have hb1 := hok.b1
  have hokH := Lib.hid hok
  clear hok
  obtain ⟨y, hy⟩ : ∃ y, zAt m.zs i = y := ⟨_, rfl⟩
  rw [hy] at k1 k2 z1 z2 z3 z4
  have hyH := Lib.hid hy
  clear hy
  go_enter Try.func48, Try.ntmps48
  go_wp2_with fail
  go_quiet (fail)
  go_wp2_with fail
  go_region
  refine fresh_K (fun W => CmdW w W g z m 6 (i : Int) a n y) (CmdW.new hMH.out _ _ _ _ _ _ _ _) ?_
  intro W5 hC
  have hCH := Lib.hid hC
  obtain ⟨⟨hM5, hB5, b0, b1, b2, b3⟩, y0, y1⟩ := hC
  clear k1 k2 k3 k4 c0 c1 c2 c3 hzl hXH
  obtain ⟨k1, k2, k3, k4⟩ := hM5.cells hi
  rw [hyH.out] at k1 k2
  obtain ⟨⟨cap5, c0⟩, c1, c2, c3, _, hzl, _⟩ := hM5
  have hgl5 := lt_of_cell c0

  have hcs : cls m i = if actB y.s = true then (0, 0, m.zs.set i (shutZ y)) else (0, 3, m.zs) := by unfold cls; rw [hyH.out]
  have hcsH := Lib.hid hcs
  clear hcs
  by_cases h0 : y.s = 0 ∨ y.s = 4
  · have hno : actB y.s = false := by rcases h0 with h | h <;> rw [h] <;> rfl
    have he : CmdPost w g z m (cls m i) (.returned (.tuple #[.int .i64 0, .int .i64 3])) W5 := by
      rw [hcsH.out, if_neg (by rw [hno]; simp)]
      exact hCH.out.x.end_
    have heH := Lib.hid he
    clear he hno
    rcases h0 with h | h
    · rw [h] at y0
      clear h
      go_wp2_with fail
      go_ret2
      exact heH.out
    · rw [h] at y0
      clear h
      go_wp2_with fail
      go_ret2
      exact heH.out
  · have hs0 : (y.s == 0) = false := by cases h : (y.s == 0) <;> simp_all
    have hs4 : (y.s == 4) = false := by cases h : (y.s == 4) <;> simp_all
    have hyes : actB y.s = true := by
      unfold actB openB
      rcases (by omega : y.s = 1 ∨ y.s = 2 ∨ y.s = 3) with h | h | h <;> rw [h] <;> rfl
    rw [if_pos hyes] at hcsH
    have hset := fun j => (hCH.out.drewN j).x.1.set_s hi 3
    rw [hyH.out] at hset
    have hset2 := fun W (h : MAt W g z (m.with (m.zs.set i ⟨3, y.l⟩))) => h.set_s (i := i) (by simpa [Mc.with] using hi) 0
    have hsetH := Lib.hid hset
    have hset2H := Lib.hid hset2
    clear hset hset2 hyes h0
    by_cases hl : y.l = 0
    · have hsz : shutZ y = ⟨0, y.l⟩ := by unfold shutZ; rw [if_pos hl]
      rw [hsz] at hcsH
      have e : ∀ W, MAt W g z (m.with (m.zs.set i ⟨3, y.l⟩)) → MAt (W.setCell ⟨z, i * 2, none⟩ (.int .i64 0)) g z (m.with (m.zs.set i ⟨0, y.l⟩)) := fun W h => by
        have h5 := hset2H.out W h
        rw [show zAt (m.with (m.zs.set i ⟨3, y.l⟩)).zs i = ⟨3, y.l⟩ from zAt_set_same hi _, show (m.with (m.zs.set i ⟨3, y.l⟩)).zs = m.zs.set i ⟨3, y.l⟩ from rfl, List.set_set] at h5
        exact h5
      have eH := Lib.hid e
      rw [hl] at y1
      have hlH := Lib.hid hl
      clear e hl hsz
      go_wp2_with fail
      go_region
      go_wp2_with fail
      go_region
      go_wp2_with fail
      go_ret2
      rw [hcsH.out]
      refine ⟨rfl, ?_, ?_⟩
      · exact eH.out _ (hsetH.out 2)
      · exact ((Only.of_below (hCH.out.drewN 2).x.2.1 z).set _ _).set _ _
    · have hl' : (y.l == 0) = false := by simp [hl]
      have hsz : shutZ y = ⟨3, y.l⟩ := by unfold shutZ; rw [if_neg hl]
      rw [hsz] at hcsH
      clear hl hsz
      go_wp2_with fail
      go_region
      go_wp2_with fail
      go_ret2
      rw [hcsH.out]
      exact ⟨rfl, hsetH.out 1, (Only.of_below (hCH.out.drewN 1).x.2.1 z).set _ _⟩

set_option maxRecDepth 100000 in
set_option maxHeartbeats 4000000 in
theorem rdo_7 (g z : Nat) (m : Mc) (i : Nat) (a n : Int) (w : World) (hM : MAt w g z m) (hok : m.Ok) (hi : i < m.zs.length) :
    Calls Try.prog 48 #[.pointer (some ⟨g, 0, none⟩), .agg #[.int .i64 7, .int .i64 (i : Int), .int .i64 a, .int .i64 n]] w (CmdPost w g z m (rea m i a n)) := by
  have hz2 := hok.z2
  have hMH := Lib.hid hM
  have hXH := Lib.hid (BoxC.new hM 7 (i : Int) a n 49)
  obtain ⟨k1, k2, k3, k4⟩ := hM.cells hi
  obtain ⟨⟨cap, c0⟩, c1, c2, c3, hne, hzl, _⟩ := hM
  have hgl := lt_of_cell c0
  have hzo := hok.at_ hi
  unfold zOk at hzo
  obtain ⟨z1, z2, z3, z4, _, _⟩ := hzo
  have hb2 := hok.b2
  have hb1 := hok.b1
  have hokH := Lib.hid hok
  clear hok
  obtain ⟨y, hy⟩ : ∃ y, zAt m.zs i = y := ⟨_, rfl⟩
  rw [hy] at k1 k2 z1 z2 z3 z4
  have hyH := Lib.hid hy
  clear hy
  go_enter Try.func48, Try.ntmps48
  go_wp2_with fail
  go_quiet (fail)
  go_wp2_with fail
  go_region
  refine fresh_K (fun W => CmdW w W g z m 7 (i : Int) a n y) (CmdW.new hMH.out _ _ _ _ _ _ _ _) ?_
  intro W5 hC
  have hCH := Lib.hid hC
  obtain ⟨⟨hM5, hB5, b0, b1, b2, b3⟩, y0, y1⟩ := hC
  clear k1 k2 k3 k4 c0 c1 c2 c3 hzl hXH
  obtain ⟨k1, k2, k3, k4⟩ := hM5.cells hi
  rw [hyH.out] at k1 k2
  obtain ⟨⟨cap5, c0⟩, c1, c2, c3, _, hzl, _⟩ := hM5
  have hgl5 := lt_of_cell c0

  have hcs : rea m i a n = if withinB a n y.l = true then (a, 0, m.zs) else (0, 2, m.zs) := by unfold rea; rw [hyH.out]
  have hcsH := Lib.hid hcs
  have hbad : ¬ (0 ≤ a ∧ 1 ≤ n ∧ n ≤ y.l - a) → CmdPost w g z m (rea m i a n) (.returned (.tuple #[.int .i64 0, .int .i64 2])) W5 := fun h => by
    rw [hcsH.out, if_neg (by rw [Zon.within_iff]; exact h)]
    exact hCH.out.x.end_
  have hbadH := Lib.hid hbad
  clear hcs hbad
  by_cases h1 : a < 0
  · have he := Lib.hid (hbadH.out (by omega))
    go_wp2_with fail
    go_ret2
    exact he.out
  by_cases h2 : n < 1
  · have he := Lib.hid (hbadH.out (by omega))
    go_wp2_with fail
    go_ret2
    exact he.out
  by_cases h3 : y.l < n
  · have he := Lib.hid (hbadH.out (by omega))
    go_wp2_with fail
    go_ret2
    exact he.out
  by_cases h4 : y.l - n < a
  · have he := Lib.hid (hbadH.out (by omega))
    go_wp2_with fail
    go_ret2
    exact he.out
  have he : CmdPost w g z m (rea m i a n) (.returned (.tuple #[.int .i64 a, .int .i64 0])) W5 := by
    rw [hcsH.out, if_pos (Zon.within_iff.2 (by omega))]
    exact hCH.out.x.end_
  have heH := Lib.hid he
  clear he
  go_wp2_with fail
  go_ret2
  exact heH.out
end Go.Proofs.Ytncbkegflkjlfaa
