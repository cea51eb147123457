/- What seven commands do. -/
import Derived.Test.YtpmhfalhieinjaaGreatDoorMZw
namespace Go.Proofs.YtpmhfalhieinjaaGreatDoor
open Go.RowKit Zon
/-- What a command leaves: its block and its error, the zones, nothing else turned. -/
def CmdPost (w : World) (g z : Nat) (m : Mc) (r : Int × Int × List Zn) (e : Ending) (w' : World) : Prop := e = .returned (.tuple #[.int .i64 r.1, .int .i64 r.2.1]) ∧ MAt w' g z (m.with r.2.2) ∧ Only w w' z
theorem MAt.self {w : World} {g z : Nat} {m : Mc} (h : MAt w g z m) : MAt w g z (m.with m.zs) := h
/-- The command in its box. -/
def BoxC (w W : World) (g z : Nat) (m : Mc) (k zz a n : Int) : Prop := MAt W g z m ∧ Below w.heap.size w W ∧ W.cell? ⟨w.heap.size, 0, none⟩ = some (.int .i64 k) ∧ W.cell? ⟨w.heap.size, 1, none⟩ = some (.int .i64 zz) ∧ W.cell? ⟨w.heap.size, 2, none⟩ = some (.int .i64 a) ∧ W.cell? ⟨w.heap.size, 3, none⟩ = some (.int .i64 n)
theorem BoxC.new {w : World} {g z : Nat} {m : Mc} (h : MAt w g z m) (k zz a n : Int) (t : TypeId) : BoxC w (w.alloc (.cells #[.int .i64 k, .int .i64 zz, .int .i64 a, .int .i64 n] t)) g z m k zz a n :=
  ⟨h.below ((Below.refl _ _).alloc (Nat.le_refl _) _), (Below.refl _ _).alloc (Nat.le_refl _) _, by go_simp, by go_simp, by go_simp, by go_simp⟩
theorem BoxC.drewN {w W : World} {g z : Nat} {m : Mc} {k zz a n : Int} (h : BoxC w W g z m k zz a n) (j : Nat) : BoxC w (W.drewN j) g z m k zz a n :=
  ⟨h.1.drewN j, below_drewN h.2.1 j, h.2.2.1, h.2.2.2.1, h.2.2.2.2.1, h.2.2.2.2.2⟩
theorem BoxC.end_ {w W : World} {g z : Nat} {m : Mc} {k zz a n : Int} (h : BoxC w W g z m k zz a n) {x y : Int} : CmdPost w g z m (x, y, m.zs) (.returned (.tuple #[.int .i64 x, .int .i64 y])) W :=
  ⟨rfl, h.1, Only.of_below h.2.1 z⟩
set_option maxHeartbeats 1000000 in
theorem write_any (g z : Nat) (m : Mc) (i : Nat) (k zz a n : Int) (w : World) (hM : MAt w g z m) (hok : m.Ok) (hi : i < m.zs.length) (ha : a ≤ 9223372036854775807) :
    Calls Tryz.prog 132 #[.pointer (some ⟨g, 0, none⟩), .pointer (some ⟨z, i * 2, none⟩), .agg #[.int .i64 k, .int .i64 zz, .int .i64 a, .int .i64 n]] w (CmdPost w g z m (wrt m i a n)) := by
  have hMH := Lib.hid hM
  have hzo := hok.at_ hi
  have hb1 := hok.b1
  have hb2 := hok.b2
  have hokH := Lib.hid hok
  clear hM hok
  unfold wrt
  generalize hy : zAt m.zs i = y at hzo ⊢
  have hyH := Lib.hid hy
  clear hy
  unfold zOk at hzo
  obtain ⟨z1, z2, z3, z4, _, _⟩ := hzo
  have hw := Lib.hid (fun W => within_any a n m.b W (by omega) hb2 ha)
  by_cases h1 : withinB a n m.b = false
  · rw [if_pos h1]
    rw [h1] at hw
    clear h1
    go_enter Tryz.func132, Tryz.ntmps132
    go_wp2_with fail
    refine fresh_world (fun W => BoxC w W g z m k zz a n) (BoxC.new hMH.out k zz a n _) ?_
    intro W1 hX
    have hXH := Lib.hid hX
    obtain ⟨hM1, hB1, b0, b1, b2, b3⟩ := hX
    obtain ⟨k1, k2, k3, k4⟩ := hM1.cells hi
    obtain ⟨⟨cap, c0⟩, c1, c2, c3, hne, hzl, _⟩ := hM1
    rw [hyH.out] at k1 k2
    go_quiet ((go_at_call 144; exact quiet_left (hw.out _)))
    go_wp2
    go_ret2
    exact (hXH.out.drewN _).end_
  · rw [if_neg h1]
    rw [show withinB a n m.b = true by simpa using h1] at hw
    have h1' := Zon.within_iff.1 (show withinB a n m.b = true by simpa using h1)
    clear h1
    by_cases h2 : y.s = 4
    · rw [if_pos h2]
      go_enter Tryz.func132, Tryz.ntmps132
      go_wp2_with fail
      refine fresh_world (fun W => BoxC w W g z m k zz a n) (BoxC.new hMH.out k zz a n _) ?_
      intro W1 hX
      have hXH := Lib.hid hX
      obtain ⟨hM1, hB1, b0, b1, b2, b3⟩ := hX
      obtain ⟨k1, k2, k3, k4⟩ := hM1.cells hi
      obtain ⟨⟨cap, c0⟩, c1, c2, c3, hne, hzl, _⟩ := hM1
      rw [hyH.out] at k1 k2
      rw [h2] at k1
      clear h2 hyH
      go_quiet ((go_at_call 144; exact quiet_left (hw.out _)))
      go_wp2
      go_ret2
      exact (hXH.out.drewN _).end_
    · rw [if_neg h2]
      have h2' : (y.s == 4) = false := by simp [h2]
      by_cases h3 : a ≠ y.l
      · rw [if_pos h3]
        have h3' : (a != y.l) = true := by simp [h3]
        clear h2 h3
        go_enter Tryz.func132, Tryz.ntmps132
        go_wp2_with fail
        refine fresh_world (fun W => BoxC w W g z m k zz a n) (BoxC.new hMH.out k zz a n _) ?_
        intro W1 hX
        have hXH := Lib.hid hX
        obtain ⟨hM1, hB1, b0, b1, b2, b3⟩ := hX
        obtain ⟨k1, k2, k3, k4⟩ := hM1.cells hi
        obtain ⟨⟨cap, c0⟩, c1, c2, c3, hne, hzl, _⟩ := hM1
        rw [hyH.out] at k1 k2
        go_quiet ((go_at_call 144; exact quiet_left (hw.out _)))
        go_wp2
        go_quiet (fail)
        go_wp2
        go_ret2
        exact ((hXH.out.drewN _).drewN _).end_
      · rw [if_neg h3]
        have h3' : (a != y.l) = false := by simpa using h3
        have hx := Lib.hid (fun W (hM : MAt W g z m) => ext_any g z m i n W hM hokH.out hi h1'.2.1 (by omega))
        clear h2 h3
        generalize ext m i n = r at hx ⊢
        go_enter Tryz.func132, Tryz.ntmps132
        go_wp2_with fail
        refine fresh_world (fun W => BoxC w W g z m k zz a n) (BoxC.new hMH.out k zz a n _) ?_
        intro W1 hX
        have hXH := Lib.hid hX
        obtain ⟨hM1, hB1, b0, b1, b2, b3⟩ := hX
        obtain ⟨k1, k2, k3, k4⟩ := hM1.cells hi
        obtain ⟨⟨cap, c0⟩, c1, c2, c3, hne, hzl, _⟩ := hM1
        rw [hyH.out] at k1 k2
        go_quiet ((go_at_call 144; exact quiet_left (hw.out _)))
        go_wp2
        go_quiet (fail)
        go_wp2_with (go_at_call 145; refine (hx.out _ (hXH.out.drewN _).1).mono ?_; rintro e w2 ⟨rfl, hM2, ho2⟩)
        go_ret2
        exact ⟨rfl, hM2, (Only.of_below (hXH.out.drewN _).2.1 z).trans ho2⟩
set_option maxHeartbeats 1000000 in
theorem append_any (g z : Nat) (m : Mc) (i : Nat) (k zz a n : Int) (w : World) (hM : MAt w g z m) (hok : m.Ok) (hi : i < m.zs.length) :
    Calls Tryz.prog 133 #[.pointer (some ⟨g, 0, none⟩), .pointer (some ⟨z, i * 2, none⟩), .agg #[.int .i64 k, .int .i64 zz, .int .i64 a, .int .i64 n]] w (CmdPost w g z m (app m i n)) := by
  have hMH := Lib.hid hM
  have hzo := hok.at_ hi
  have hb1 := hok.b1
  have hb2 := hok.b2
  have hokH := Lib.hid hok
  clear hM hok
  unfold app
  generalize hy : zAt m.zs i = y at hzo ⊢
  have hyH := Lib.hid hy
  clear hy
  unfold zOk at hzo
  obtain ⟨z1, z2, z3, z4, _, _⟩ := hzo
  have hw := Lib.hid (fun W => within_any 0 n m.b W (by omega) hb2 (by omega))
  have hw2 := Lib.hid (fun W => within_any y.l n m.b W (by omega) hb2 (by omega))
  by_cases h1 : withinB 0 n m.b = false
  · rw [if_pos h1]
    rw [h1] at hw
    clear h1 hw2
    go_enter Tryz.func133, Tryz.ntmps133
    go_wp2_with fail
    refine fresh_world (fun W => BoxC w W g z m k zz a n) (BoxC.new hMH.out k zz a n _) ?_
    intro W1 hX
    have hXH := Lib.hid hX
    obtain ⟨hM1, hB1, b0, b1, b2, b3⟩ := hX
    obtain ⟨k1, k2, k3, k4⟩ := hM1.cells hi
    obtain ⟨⟨cap, c0⟩, c1, c2, c3, hne, hzl, _⟩ := hM1
    rw [hyH.out] at k1 k2
    go_quiet ((go_at_call 144; exact quiet_left (hw.out _)))
    go_wp2
    go_ret2
    exact (hXH.out.drewN _).end_
  · rw [if_neg h1]
    rw [show withinB 0 n m.b = true by simpa using h1] at hw
    have h1' := Zon.within_iff.1 (show withinB 0 n m.b = true by simpa using h1)
    clear h1
    by_cases h2 : y.s = 4
    · rw [if_pos h2]
      clear hw2
      go_enter Tryz.func133, Tryz.ntmps133
      go_wp2_with fail
      refine fresh_world (fun W => BoxC w W g z m k zz a n) (BoxC.new hMH.out k zz a n _) ?_
      intro W1 hX
      have hXH := Lib.hid hX
      obtain ⟨hM1, hB1, b0, b1, b2, b3⟩ := hX
      obtain ⟨k1, k2, k3, k4⟩ := hM1.cells hi
      obtain ⟨⟨cap, c0⟩, c1, c2, c3, hne, hzl, _⟩ := hM1
      rw [hyH.out] at k1 k2
      rw [h2] at k1
      clear h2 hyH
      go_quiet ((go_at_call 144; exact quiet_left (hw.out _)))
      go_wp2
      go_ret2
      exact (hXH.out.drewN _).end_
    · rw [if_neg h2]
      have h2' : (y.s == 4) = false := by simp [h2]
      clear h2
      by_cases h3 : withinB y.l n m.b = false
      · rw [if_pos h3]
        rw [h3] at hw2
        clear h3
        go_enter Tryz.func133, Tryz.ntmps133
        go_wp2_with fail
        refine fresh_world (fun W => BoxC w W g z m k zz a n) (BoxC.new hMH.out k zz a n _) ?_
        intro W1 hX
        have hXH := Lib.hid hX
        obtain ⟨hM1, hB1, b0, b1, b2, b3⟩ := hX
        obtain ⟨k1, k2, k3, k4⟩ := hM1.cells hi
        obtain ⟨⟨cap, c0⟩, c1, c2, c3, hne, hzl, _⟩ := hM1
        rw [hyH.out] at k1 k2
        go_quiet ((go_at_call 144; exact quiet_left (hw.out _)))
        go_wp2
        go_quiet ((go_at_call 144; exact quiet_add_left (hw2.out _)))
        go_wp2
        go_ret2
        exact ((hXH.out.drewN _).drewN _).end_
      · rw [if_neg h3]
        rw [show withinB y.l n m.b = true by simpa using h3] at hw2
        have hx := Lib.hid (fun W (hM : MAt W g z m) => ext_any g z m i n W hM hokH.out hi h1'.2.1 (by omega))
        clear h3
        generalize ext m i n = r at hx ⊢
        go_enter Tryz.func133, Tryz.ntmps133
        go_wp2_with fail
        refine fresh_world (fun W => BoxC w W g z m k zz a n) (BoxC.new hMH.out k zz a n _) ?_
        intro W1 hX
        have hXH := Lib.hid hX
        obtain ⟨hM1, hB1, b0, b1, b2, b3⟩ := hX
        obtain ⟨k1, k2, k3, k4⟩ := hM1.cells hi
        obtain ⟨⟨cap, c0⟩, c1, c2, c3, hne, hzl, _⟩ := hM1
        rw [hyH.out] at k1 k2
        go_quiet ((go_at_call 144; exact quiet_left (hw.out _)))
        go_wp2
        go_quiet ((go_at_call 144; exact quiet_add_left (hw2.out _)))
        go_wp2_with (go_at_call 145; refine (hx.out _ (hXH.out.drewN _).1).mono ?_; rintro e w2 ⟨rfl, hM2, ho2⟩)
        go_ret2
        exact ⟨rfl, hM2, (Only.of_below (hXH.out.drewN _).2.1 z).trans ho2⟩
set_option maxHeartbeats 1000000 in
theorem reset_any (g z : Nat) (m : Mc) (i : Nat) (k zz a n : Int) (w : World) (hM : MAt w g z m) (hok : m.Ok) (hi : i < m.zs.length) :
    Calls Tryz.prog 134 #[.pointer (some ⟨g, 0, none⟩), .pointer (some ⟨z, i * 2, none⟩), .agg #[.int .i64 k, .int .i64 zz, .int .i64 a, .int .i64 n]] w (CmdPost w g z m (rst m i)) := by
  have hMH := Lib.hid hM
  have hzo := hok.at_ hi
  have hb1 := hok.b1
  have hb2 := hok.b2
  have hokH := Lib.hid hok
  clear hM hok
  clear hzo hb1 hb2 hokH
  unfold rst
  obtain ⟨k1, k2, k3, k4⟩ := hMH.out.cells hi
  obtain ⟨⟨cap, c0⟩, c1, c2, c3, hne, hzl, _⟩ := hMH.out
  go_enter Tryz.func134, Tryz.ntmps134
  go_wp2
  go_ret2
  exact ⟨rfl, (hMH.out.both hi 0 0).below ((Below.refl _ _).alloc (Nat.le_refl _) _), (((Only.refl _ _).set _ _).set _ _).alloc _⟩
set_option maxHeartbeats 1000000 in
theorem finish_any (g z : Nat) (m : Mc) (i : Nat) (k zz a n : Int) (w : World) (hM : MAt w g z m) (hok : m.Ok) (hi : i < m.zs.length) :
    Calls Tryz.prog 135 #[.pointer (some ⟨g, 0, none⟩), .pointer (some ⟨z, i * 2, none⟩), .agg #[.int .i64 k, .int .i64 zz, .int .i64 a, .int .i64 n]] w (CmdPost w g z m (fin m i)) := by
  have hMH := Lib.hid hM
  have hzo := hok.at_ hi
  have hb1 := hok.b1
  have hb2 := hok.b2
  have hokH := Lib.hid hok
  clear hM hok
  clear hzo hb1 hb2 hokH
  unfold fin
  obtain ⟨k1, k2, k3, k4⟩ := hMH.out.cells hi
  obtain ⟨⟨cap, c0⟩, c1, c2, c3, hne, hzl, _⟩ := hMH.out
  go_enter Tryz.func135, Tryz.ntmps135
  go_wp2
  go_ret2
  exact ⟨rfl, (hMH.out.set_s hi 4).below ((Below.refl _ _).alloc (Nat.le_refl _) _), ((Only.refl _ _).set _ _).alloc _⟩
set_option maxHeartbeats 1000000 in
theorem open_any (g z : Nat) (m : Mc) (i : Nat) (k zz a n : Int) (w : World) (hM : MAt w g z m) (hok : m.Ok) (hi : i < m.zs.length) :
    Calls Tryz.prog 136 #[.pointer (some ⟨g, 0, none⟩), .pointer (some ⟨z, i * 2, none⟩), .agg #[.int .i64 k, .int .i64 zz, .int .i64 a, .int .i64 n]] w (CmdPost w g z m (opn m i)) := by
  have hMH := Lib.hid hM
  have hzo := hok.at_ hi
  have hb1 := hok.b1
  have hb2 := hok.b2
  have hokH := Lib.hid hok
  clear hM hok
  have had := Lib.hid (fun W (hM : MAt W g z m) => admit_any g z m i W hM hokH.out.z2 hi)
  have herr := admit_err m i
  have hlen := admit_len m i
  have hat := admit_at m i
  unfold opn
  generalize (admit m i).2 = zs at had herr hlen hat ⊢
  generalize (admit m i).1 = er at had herr ⊢
  rw [hat]
  generalize hy : zAt m.zs i = y at hzo hat ⊢
  have hyH := Lib.hid hy
  clear hy
  unfold zOk at hzo
  obtain ⟨z1, z2, z3, z4, _, _⟩ := hzo
  have hatH := Lib.hid hat
  clear hat
  by_cases h2 : y.s = 4
  · rw [if_pos h2]
    clear herr
    have hXH := Lib.hid (BoxC.new hMH.out k zz a n 116)
    obtain ⟨k1, k2, k3, k4⟩ := hMH.out.cells hi
    obtain ⟨⟨cap, c0⟩, c1, c2, c3, hne, hzl, _⟩ := hMH.out
    rw [hyH.out] at k1 k2
    rw [h2] at k1
    clear h2 hyH
    go_enter Tryz.func136, Tryz.ntmps136
    go_wp2
    go_ret2
    exact hXH.out.end_
  · rw [if_neg h2]
    have h2' : (y.s == 4) = false := by simp [h2]
    clear h2
    by_cases he : er = 0
    · subst he
      rw [if_pos rfl]
      clear herr
      have hXH := Lib.hid (BoxC.new hMH.out k zz a n 116)
      obtain ⟨k1, k2, k3, k4⟩ := hMH.out.cells hi
      obtain ⟨⟨cap, c0⟩, c1, c2, c3, hne, hzl, _⟩ := hMH.out
      rw [hyH.out] at k1 k2
      go_enter Tryz.func136, Tryz.ntmps136
      have hi1 : i < zs.length := by omega
      go_wp2_with (go_at_call 146; refine (had.out _ hXH.out.1).mono ?_; rintro e w2 ⟨rfl, hM2, ho2⟩; obtain ⟨j1, j2, j3, j4⟩ := hM2.cellsW (i := i) hi1)
      go_ret2
      have h5 := hM2.set_s (i := i) hi1 2
      rw [show zAt (m.with zs).zs i = y from hatH.out] at h5
      exact ⟨rfl, h5, ((Only.of_below hXH.out.2.1 z).trans ho2).set _ _⟩
    · rw [if_neg he]
      have he' : (er != 0) = true := by simp [he]
      clear herr he
      have hXH := Lib.hid (BoxC.new hMH.out k zz a n 116)
      obtain ⟨k1, k2, k3, k4⟩ := hMH.out.cells hi
      obtain ⟨⟨cap, c0⟩, c1, c2, c3, hne, hzl, _⟩ := hMH.out
      rw [hyH.out] at k1 k2
      go_enter Tryz.func136, Tryz.ntmps136
      go_wp2_with (go_at_call 146; refine (had.out _ hXH.out.1).mono ?_; rintro e w2 ⟨rfl, hM2, ho2⟩)
      go_ret2
      exact ⟨rfl, hM2, (Only.of_below hXH.out.2.1 z).trans ho2⟩
set_option maxHeartbeats 1000000 in
theorem close_any (g z : Nat) (m : Mc) (i : Nat) (k zz a n : Int) (w : World) (hM : MAt w g z m) (hok : m.Ok) (hi : i < m.zs.length) :
    Calls Tryz.prog 137 #[.pointer (some ⟨g, 0, none⟩), .pointer (some ⟨z, i * 2, none⟩), .agg #[.int .i64 k, .int .i64 zz, .int .i64 a, .int .i64 n]] w (CmdPost w g z m (cls m i)) := by
  have hMH := Lib.hid hM
  have hzo := hok.at_ hi
  have hb1 := hok.b1
  have hb2 := hok.b2
  have hokH := Lib.hid hok
  clear hM hok
  unfold cls
  have hsh := Lib.hid (fun W (hM : MAt W g z m) => shut_any g z m i W hM hi)
  generalize hy : zAt m.zs i = y at hzo hsh ⊢
  have hyH := Lib.hid hy
  clear hy
  unfold zOk at hzo
  obtain ⟨z1, z2, z3, z4, _, _⟩ := hzo
  have hac := Lib.hid (fun W => isActive_any y.s y.l W)
  by_cases h1 : actB y.s = true
  · rw [if_pos h1]
    rw [h1] at hac
    clear h1
    have hXH := Lib.hid (BoxC.new hMH.out k zz a n 116)
    obtain ⟨k1, k2, k3, k4⟩ := hMH.out.cells hi
    obtain ⟨⟨cap, c0⟩, c1, c2, c3, hne, hzl, _⟩ := hMH.out
    rw [hyH.out] at k1 k2
    go_enter Tryz.func137, Tryz.ntmps137
    go_wp2_with (first | (go_at_call 130; refine (hac.out _).mono ?_; rintro e w2 ⟨rfl, hb2⟩) | (go_at_call 131; refine (hsh.out _ (hXH.out.1.below hb2)).mono ?_; rintro e w3 ⟨rfl, hM3, ho3⟩))
    go_ret2
    exact ⟨rfl, hM3, ((Only.of_below hXH.out.2.1 z).trans (Only.of_below hb2 z)).trans ho3⟩
  · rw [if_neg h1]
    rw [show actB y.s = false by simpa using h1] at hac
    clear h1
    have hXH := Lib.hid (BoxC.new hMH.out k zz a n 116)
    obtain ⟨k1, k2, k3, k4⟩ := hMH.out.cells hi
    obtain ⟨⟨cap, c0⟩, c1, c2, c3, hne, hzl, _⟩ := hMH.out
    rw [hyH.out] at k1 k2
    go_enter Tryz.func137, Tryz.ntmps137
    go_wp2_with (go_at_call 130; refine (hac.out _).mono ?_; rintro e w2 ⟨rfl, hb2⟩)
    go_ret2
    exact ⟨rfl, hXH.out.1.below hb2, (Only.of_below hXH.out.2.1 z).trans (Only.of_below hb2 z)⟩
set_option maxHeartbeats 1000000 in
theorem read_any (g z : Nat) (m : Mc) (i : Nat) (k zz a n : Int) (w : World) (hM : MAt w g z m) (hok : m.Ok) (hi : i < m.zs.length) (ha : a ≤ 9223372036854775807) :
    Calls Tryz.prog 138 #[.pointer (some ⟨g, 0, none⟩), .pointer (some ⟨z, i * 2, none⟩), .agg #[.int .i64 k, .int .i64 zz, .int .i64 a, .int .i64 n]] w (CmdPost w g z m (rea m i a n)) := by
  have hMH := Lib.hid hM
  have hzo := hok.at_ hi
  have hb1 := hok.b1
  have hb2 := hok.b2
  have hokH := Lib.hid hok
  clear hM hok
  unfold rea
  generalize hy : zAt m.zs i = y at hzo ⊢
  have hyH := Lib.hid hy
  clear hy
  unfold zOk at hzo
  obtain ⟨z1, z2, z3, z4, _, _⟩ := hzo
  have hw := Lib.hid (fun W => within_any a n y.l W (by omega) (by omega) ha)
  by_cases h1 : withinB a n y.l = true
  · rw [if_pos h1]
    rw [h1] at hw
    clear h1
    go_enter Tryz.func138, Tryz.ntmps138
    go_wp2_with fail
    refine fresh_world (fun W => BoxC w W g z m k zz a n) (BoxC.new hMH.out k zz a n _) ?_
    intro W1 hX
    have hXH := Lib.hid hX
    obtain ⟨hM1, hB1, b0, b1, b2, b3⟩ := hX
    obtain ⟨k1, k2, k3, k4⟩ := hM1.cells hi
    obtain ⟨⟨cap, c0⟩, c1, c2, c3, hne, hzl, _⟩ := hM1
    rw [hyH.out] at k1 k2
    go_quiet ((go_at_call 144; exact quiet_left (hw.out _)))
    go_wp2
    go_ret2
    exact (hXH.out.drewN _).end_
  · rw [if_neg h1]
    rw [show withinB a n y.l = false by simpa using h1] at hw
    clear h1
    go_enter Tryz.func138, Tryz.ntmps138
    go_wp2_with fail
    refine fresh_world (fun W => BoxC w W g z m k zz a n) (BoxC.new hMH.out k zz a n _) ?_
    intro W1 hX
    have hXH := Lib.hid hX
    obtain ⟨hM1, hB1, b0, b1, b2, b3⟩ := hX
    obtain ⟨k1, k2, k3, k4⟩ := hM1.cells hi
    obtain ⟨⟨cap, c0⟩, c1, c2, c3, hne, hzl, _⟩ := hM1
    rw [hyH.out] at k1 k2
    go_quiet ((go_at_call 144; exact quiet_left (hw.out _)))
    go_wp2
    go_ret2
    exact (hXH.out.drewN _).end_
end Go.Proofs.YtpmhfalhieinjaaGreatDoor
