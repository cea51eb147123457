/- zones of pick's laws. -/
import Derived.Test.YtbgkmppngnedlaaPkC
import Derived.Test.YtbgkmppngnedlaaTwR
namespace Go.Proofs.Ytbgkmppngnedlaa
open Go.RowKit Go.Shelf

theorem infPz : Enc.Inf Try.prog 35 3 24 := by unfold Enc.Inf; kernel_rfl
theorem infRz : Enc.Inf Try.prog 98 3 24 := by unfold Enc.Inf; kernel_rfl
/-- The cells of a zone that came in, and what stood ahead of the call. -/
structure PzS (w : World) (b o : Nat) (x : Pz) (W : World) : Prop where
  c0 : W.cell? ⟨b, o, none⟩ = some (.int .i64 x.l)
  c1 : W.cell? ⟨b, o + 1, none⟩ = some (.int .i64 x.v)
  c2 : W.cell? ⟨b, o + 2, none⟩ = some (.bool x.o)
  lt : b < w.heap.size
  b : Below w.heap.size w W
theorem PzS.keep {w W W' : World} {b o : Nat} {x : Pz} (h : PzS w b o x W) (hb : Below w.heap.size W W') : PzS w b o x W' :=
  ⟨(hb.cell (p := ⟨b, o, none⟩) h.lt).trans h.c0, (hb.cell (p := ⟨b, o + 1, none⟩) h.lt).trans h.c1, (hb.cell (p := ⟨b, o + 2, none⟩) h.lt).trans h.c2, h.lt, h.b.trans hb⟩
abbrev TwZ (W : World) (base : Nat) (X Y : SlT Pz) : Prop := TwR pzE pzE 35 98 W base X Y
def ZoPost (w : World) (l : List Pz) (e : Ending) (w' : World) : Prop := ∃ X Y : SlT Pz, e = .returned (.tuple #[.slice X.A X.xs.length X.c, .slice Y.A Y.xs.length Y.c]) ∧ X.xs = l.take 200 ∧ Y.xs = l.take 200 ∧ TwZ w' w.heap.size X Y ∧ Below w.heap.size w w'
set_option maxRecDepth 100000 in
set_option maxHeartbeats 4000000 in
theorem zones_any (w : World) (A : Option Addr) (cap : Nat) (l : List Pz) (hI : pzE.In w A l) (hlen : l.length ≤ 9223372036854775807) : Calls Try.prog 13 #[.slice A l.length cap] w (ZoPost w l) := by
  have hIH := Lib.hid hI
  have hB0 := Lib.hid (Below.refl w.heap.size w)
  have hR0 : Hid (TwZ w w.heap.size slT0 slT0) := Lib.hid (TwR.nil w (Nat.le_refl _))
  clear hI
  obtain ⟨n, hn⟩ : ∃ n, l.length = n := ⟨_, rfl⟩
  rw [hn] at hlen ⊢
  have hnH := Lib.hid hn
  clear hn
  go_enter Try.func13, Try.ntmps13
  go_wp2_with fail
  go_loopw [4, 5, 6] (fun xv yv iv wr => ∃ (k : Nat) (X Y : SlT Pz), k ≤ n ∧ iv = .int .i64 (k : Int) ∧ xv = .slice X.A X.xs.length X.c ∧ yv = .slice Y.A Y.xs.length Y.c ∧ Hid (X.xs = l.take k ∧ Y.xs = l.take k) ∧ Hid (TwZ wr w.heap.size X Y) ∧ Hid (Below w.heap.size w wr) ∧ Hid (k ≤ 200)) (fun _ _ iv _ => n - (intOf iv).toNat)
  case atStart => exact ⟨0, slT0, slT0, Nat.zero_le _, rfl, rfl, rfl, Lib.hid ⟨rfl, rfl⟩, hR0, hB0, Lib.hid (by omega)⟩
  case round =>
    clear hR0 hB0
    obtain ⟨k, X, Y, hkn, rfl, rfl, rfl, hxz, hRH, hBH, hk2⟩ := hrel
    have hk200 := hk2.out
    by_cases hlt : k < n ∧ k < 200
    case neg =>
      have hxz2 : Hid (X.xs = l.take 200 ∧ Y.xs = l.take 200) := Lib.hid (by
        by_cases h2 : k < n
        · rw [show k = 200 by omega] at hxz; exact hxz.out
        · rw [hxz.out.1, hxz.out.2, List.take_of_length_le (by rw [hnH.out]; omega), List.take_of_length_le (by rw [hnH.out]; omega)]; exact ⟨rfl, rfl⟩)
      by_cases h2 : k < n
      case pos =>
        have h2I : (k : Int) < (n : Int) := by omega
        have h3I : ¬ (k : Int) < 200 := by omega
        go_wp2_with fail
        refine bodyPost_ret (v := .tuple #[.slice X.A X.xs.length X.c, .slice Y.A Y.xs.length Y.c]) (by simp [results, Try.results13, go_sem]) rfl ⟨X, Y, rfl, hxz2.out.1, hxz2.out.2, hRH.out, hBH.out⟩
      case neg =>
        have h2I : ¬ (k : Int) < (n : Int) := by omega
        go_wp2_with fail
        refine bodyPost_ret (v := .tuple #[.slice X.A X.xs.length X.c, .slice Y.A Y.xs.length Y.c]) (by simp [results, Try.results13, go_sem]) rfl ⟨X, Y, rfl, hxz2.out.1, hxz2.out.2, hRH.out, hBH.out⟩
    case pos =>
      have h2I : (k : Int) < (n : Int) := by omega
      have h3I : (k : Int) < 200 := by omega
      have hkl : k < l.length := by rw [hnH.out]; exact hlt.1
      have hkw : IntKind.i64.wrap ((k : Int) + 1) = (k : Int) + 1 := IntWalk.i64_in _ (by omega)
      obtain ⟨eb, eo, rfl, hebl, e0, e1, e2⟩ := pz_at hIH.out hkl
      have hst : Hid (l.take k ++ [l[k]] = l.take (k + 1)) := Lib.hid (List.take_succ_eq_append_getElem hkl).symm
      generalize l[k] = x at e0 e1 e2 hst
      have hS := (PzS.mk e0 e1 e2 hebl (Below.refl _ _)).keep (hBH.out)
      have hS := hS.keep (Below.refl _ _).drew
      have hR := hRH.out.below (Below.refl _ _).drew
      have hlXn : Hid (X.xs.length ≤ 1000000) := Lib.hid (by rw [hxz.out.1, List.length_take]; omega)
      have hlYn : Hid (Y.xs.length ≤ 1000000) := Lib.hid (by rw [hxz.out.2, List.length_take]; omega)
      clear e0 e1 e2 hRH hBH hIH
      have hSH := Lib.hid hS
      have hRH := Lib.hid hR
      clear hS hR
      go_upto_region 6 with fail
      have hS := hSH.out
      have hR := hRH.out
      clear hSH hRH
      refine region_anyC (fun i => decide (i < 14)) (fun W => PzS w eb (eo + k * 3) x W) (by kernel_rfl) ?_
      generalize wr.drew = Wd at hS hR ⊢
      refine anyL_take 0 (v := ?_) rfl (by kernel_rfl) (fun _ _ _ h => h) (Or.inl ⟨by rfl, ?_⟩) hS ?_
      rotate_left
      focus (intro W hW; go_simp; try with_reducible rfl)
      simp only [Act.put, List.setIfInBounds_toArray, List.set_cons_zero, List.set_cons_succ]
      refine anyL_take 1 (v := ?_) rfl (by kernel_rfl) (fun _ _ _ h => h) (Or.inl ⟨by rfl, ?_⟩) hS ?_
      rotate_left
      focus (intro W hW; go_simp; try with_reducible rfl)
      simp only [Act.put, List.setIfInBounds_toArray, List.set_cons_zero, List.set_cons_succ]
      refine anyL_take 2 (v := ?_) rfl (by kernel_rfl) (fun _ _ _ h => h) (Or.inl ⟨by rfl, ?_⟩) hS ?_
      rotate_left
      focus (intro W hW; go_simp; try with_reducible rfl)
      simp only [Act.put, List.setIfInBounds_toArray, List.set_cons_zero, List.set_cons_succ]
      refine anyL_take 3 (v := ?_) rfl (by kernel_rfl) (fun _ _ _ h => h) (Or.inl ⟨by rfl, ?_⟩) hS ?_
      rotate_left
      focus (intro W hW; go_simp; try with_reducible rfl)
      simp only [Act.put, List.setIfInBounds_toArray, List.set_cons_zero, List.set_cons_succ]
      refine anyL_take 4 (v := ?_) rfl (by kernel_rfl) (fun _ _ _ h => h) (Or.inl ⟨by rfl, ?_⟩) hS ?_
      rotate_left
      focus (intro W hW; have y0 := hW.c0; have y1 := hW.c1; have y2 := hW.c2; go_simp; try with_reducible rfl)
      simp only [Act.put, List.setIfInBounds_toArray, List.set_cons_zero, List.set_cons_succ]
      refine anyL_take 7 (v := ?_) rfl (by kernel_rfl) (fun _ _ _ h => h) (Or.inl ⟨by rfl, ?_⟩) hS ?_
      rotate_left
      focus (intro W hW; go_simp; try with_reducible rfl)
      simp only [Act.put, List.setIfInBounds_toArray, List.set_cons_zero, List.set_cons_succ]
      refine anyL_take 8 (v := ?_) rfl (by kernel_rfl) (fun _ _ _ h => h) (Or.inl ⟨by rfl, ?_⟩) hS ?_
      rotate_left
      focus (intro W hW; go_simp; try with_reducible rfl)
      simp only [Act.put, List.setIfInBounds_toArray, List.set_cons_zero, List.set_cons_succ]
      refine anyL_take 9 (v := ?_) rfl (by kernel_rfl) (fun _ _ _ h => h) (Or.inl ⟨by rfl, ?_⟩) hS ?_
      rotate_left
      focus (intro W hW; go_simp; try with_reducible rfl)
      simp only [Act.put, List.setIfInBounds_toArray, List.set_cons_zero, List.set_cons_succ]
      refine anyL_take 10 (v := ?_) rfl (by kernel_rfl) (fun _ _ _ h => h) (Or.inl ⟨by rfl, ?_⟩) hS ?_
      rotate_left
      focus (intro W hW; go_simp; try with_reducible rfl)
      simp only [Act.put, List.setIfInBounds_toArray, List.set_cons_zero, List.set_cons_succ]
      refine anyL_take 11 (v := ?_) rfl (by kernel_rfl) (fun _ _ _ h => h) (Or.inl ⟨by rfl, ?_⟩) hS ?_
      rotate_left
      focus (intro W hW; have y0 := hW.c0; have y1 := hW.c1; have y2 := hW.c2; go_simp; try with_reducible rfl)
      simp only [Act.put, List.setIfInBounds_toArray, List.set_cons_zero, List.set_cons_succ]
      refine anyL_two 5 12 rfl rfl (by kernel_rfl) (fun K hK => ?_) (fun K hK => ?_)
      ·
        have hal := (Below.refl Wd.heap.size Wd).alloc (Nat.le_refl _) (.cells #[.int .i64 x.l, .int .i64 x.v, .bool x.o] 35)
        go_simp
        refine hK.out _ _ (fun _ => hS.keep (hal.mono hR.bs)) ?_
        clear hK K
        try simp only [Act.put, List.setIfInBounds_toArray, List.set_cons_zero, List.set_cons_succ]
        skip
        have hqX : Wd.heap.size < (Wd.alloc (.cells #[.int .i64 x.l, .int .i64 x.v, .bool x.o] 35)).heap.size := by rw [World.size_alloc]; omega
        replace hS := hS.keep (hal.mono hR.bs)
        replace hR := hR.below hal
        have hmX0 : (Wd.alloc (.cells #[.int .i64 x.l, .int .i64 x.v, .bool x.o] 35)).cell? ⟨Wd.heap.size, 0, none⟩ = some (.int .i64 x.l) := by go_simp
        have hmX1 : (Wd.alloc (.cells #[.int .i64 x.l, .int .i64 x.v, .bool x.o] 35)).cell? ⟨Wd.heap.size, 1, none⟩ = some (.int .i64 x.v) := by go_simp
        have hmX2 : (Wd.alloc (.cells #[.int .i64 x.l, .int .i64 x.v, .bool x.o] 35)).cell? ⟨Wd.heap.size, 2, none⟩ = some (.bool x.o) := by go_simp
        clear hal
        generalize (Wd.alloc (.cells #[.int .i64 x.l, .int .i64 x.v, .bool x.o] 35)) = Wx at hS hR hqX hmX0 hmX1 hmX2 ⊢
        generalize Wd.heap.size = mX at hqX hmX0 hmX1 hmX2 ⊢
        refine anyL_two 6 12 rfl rfl (by kernel_rfl) (fun K hK => ?_) (fun K hK => ?_)
        ·
          obtain ⟨sX, Wxx, hrun, hxX, hR', hb', hfar⟩ := hR.pushX (P := Try.prog) Try.underlying24 infPz (by decide) (by decide) (m := mX) (x := x) (fun j hj => by have h1 : j < 3 := hj; rcases (by omega : j = 0 ∨ j = 1 ∨ j = 2) with rfl | rfl | rfl; exact hmX0; exact hmX1; exact hmX2) (hlXn.out)
          refine append_run_step rfl (.tmp 17) (.tmp 22) 24 rfl rfl rfl (hrun) ?_
          refine hK.out _ _ (fun _ => hS.keep hb') ?_
          clear hK K hrun
          try simp only [Act.put, List.setIfInBounds_toArray, List.set_cons_zero, List.set_cons_succ]
          replace hS := hS.keep hb'
          replace hR := hR'
          replace hxX := Lib.hid hxX
          clear hR' hb' hfar
          refine anyL_one 12 rfl (by kernel_rfl) (fun K hK => ?_)
          have hal := (Below.refl Wxx.heap.size Wxx).alloc (Nat.le_refl _) (.cells #[.int .i64 x.l, .int .i64 x.v, .bool x.o] 98)
          go_simp
          refine hK.out _ _ (fun _ => hS.keep (hal.mono hR.bs)) ?_
          clear hK K
          try simp only [Act.put, List.setIfInBounds_toArray, List.set_cons_zero, List.set_cons_succ]
          skip
          have hqY : Wxx.heap.size < (Wxx.alloc (.cells #[.int .i64 x.l, .int .i64 x.v, .bool x.o] 98)).heap.size := by rw [World.size_alloc]; omega
          replace hS := hS.keep (hal.mono hR.bs)
          replace hR := hR.below hal
          have hmY0 : (Wxx.alloc (.cells #[.int .i64 x.l, .int .i64 x.v, .bool x.o] 98)).cell? ⟨Wxx.heap.size, 0, none⟩ = some (.int .i64 x.l) := by go_simp
          have hmY1 : (Wxx.alloc (.cells #[.int .i64 x.l, .int .i64 x.v, .bool x.o] 98)).cell? ⟨Wxx.heap.size, 1, none⟩ = some (.int .i64 x.v) := by go_simp
          have hmY2 : (Wxx.alloc (.cells #[.int .i64 x.l, .int .i64 x.v, .bool x.o] 98)).cell? ⟨Wxx.heap.size, 2, none⟩ = some (.bool x.o) := by go_simp
          clear hal
          generalize (Wxx.alloc (.cells #[.int .i64 x.l, .int .i64 x.v, .bool x.o] 98)) = Wxy at hS hR hqY hmY0 hmY1 hmY2 ⊢
          generalize Wxx.heap.size = mY at hqY hmY0 hmY1 hmY2 ⊢
          refine anyL_one 13 rfl (by kernel_rfl) (fun K hK => ?_)
          obtain ⟨sY, Wf, hrun, hxY, hR', hb', hfar⟩ := hR.pushY (P := Try.prog) Try.underlying25 infRz (by decide) (by decide) (m := mY) (x := x) (fun j hj => by have h1 : j < 3 := hj; rcases (by omega : j = 0 ∨ j = 1 ∨ j = 2) with rfl | rfl | rfl; exact hmY0; exact hmY1; exact hmY2) (hlYn.out)
          refine append_run_step rfl (.tmp 24) (.tmp 29) 25 rfl rfl rfl (hrun) ?_
          refine hK.out _ _ (fun _ => hS.keep hb') ?_
          clear hK K hrun
          try simp only [Act.put, List.setIfInBounds_toArray, List.set_cons_zero, List.set_cons_succ]
          replace hS := hS.keep hb'
          replace hR := hR'
          replace hxY := Lib.hid hxY
          clear hR' hb' hfar
          refine anyL_one 14 rfl (by kernel_rfl) (fun K hK => ?_)
          go_simp
          refine hK.out _ _ (fun h => absurd h (by decide)) ?_
          clear hK K
          try simp only [Act.put, List.setIfInBounds_toArray, List.set_cons_zero, List.set_cons_succ]
          refine anyL_one 15 rfl (by kernel_rfl) (fun K hK => ?_)
          go_simp
          refine hK.out _ _ (fun h => absurd h (by decide)) ?_
          clear hK K
          try simp only [Act.put, List.setIfInBounds_toArray, List.set_cons_zero, List.set_cons_succ]
          refine anyC_done (by kernel_rfl) ?_ _
          have hxs : Hid (sX.xs = l.take (k + 1) ∧ sY.xs = l.take (k + 1)) := Lib.hid ⟨by rw [hxX.out, hxz.out.1, hst.out], by rw [hxY.out, hxz.out.2, hst.out]⟩
          have hBf := Lib.hid hS.b
          have hRf := Lib.hid hR
          clear hR hS hxX hxY
          go_wp2_with fail
          go_roundw
          case rel => exact ⟨k + 1, sX, sY, by omega, by go_num, rfl, rfl, hxs, hRf, hBf, Lib.hid (by omega)⟩
          case measure => simp only [intOf]; omega
        ·
          have hal := (Below.refl Wx.heap.size Wx).alloc (Nat.le_refl _) (.cells #[.int .i64 x.l, .int .i64 x.v, .bool x.o] 98)
          go_simp
          refine hK.out _ _ (fun _ => hS.keep (hal.mono hR.bs)) ?_
          clear hK K
          try simp only [Act.put, List.setIfInBounds_toArray, List.set_cons_zero, List.set_cons_succ]
          have hlY := fun r (e : X.A = some ⟨r, 0, none⟩) => row_ltT hR.rX r e
          have hqY : Wx.heap.size < (Wx.alloc (.cells #[.int .i64 x.l, .int .i64 x.v, .bool x.o] 98)).heap.size := by rw [World.size_alloc]; omega
          replace hS := hS.keep (hal.mono hR.bs)
          replace hR := hR.below hal
          replace hmX0 := (hal.cell (lt_of_cell hmX0)).trans hmX0
          replace hmX1 := (hal.cell (lt_of_cell hmX1)).trans hmX1
          replace hmX2 := (hal.cell (lt_of_cell hmX2)).trans hmX2
          have hmY0 : (Wx.alloc (.cells #[.int .i64 x.l, .int .i64 x.v, .bool x.o] 98)).cell? ⟨Wx.heap.size, 0, none⟩ = some (.int .i64 x.l) := by go_simp
          have hmY1 : (Wx.alloc (.cells #[.int .i64 x.l, .int .i64 x.v, .bool x.o] 98)).cell? ⟨Wx.heap.size, 1, none⟩ = some (.int .i64 x.v) := by go_simp
          have hmY2 : (Wx.alloc (.cells #[.int .i64 x.l, .int .i64 x.v, .bool x.o] 98)).cell? ⟨Wx.heap.size, 2, none⟩ = some (.bool x.o) := by go_simp
          clear hal
          generalize (Wx.alloc (.cells #[.int .i64 x.l, .int .i64 x.v, .bool x.o] 98)) = Wxy at hS hR hqY hmY0 hmY1 hmY2 hmX0 hmX1 hmX2 ⊢
          generalize Wx.heap.size = mY at hqY hmY0 hmY1 hmY2 hlY ⊢
          replace hqX : mX < Wxy.heap.size := lt_of_cell hmX0
          refine anyL_one 6 rfl (by kernel_rfl) (fun K hK => ?_)
          obtain ⟨sX, Wxx, hrun, hxX, hR', hb', hfar⟩ := hR.pushX (P := Try.prog) Try.underlying24 infPz (by decide) (by decide) (m := mX) (x := x) (fun j hj => by have h1 : j < 3 := hj; rcases (by omega : j = 0 ∨ j = 1 ∨ j = 2) with rfl | rfl | rfl; exact hmX0; exact hmX1; exact hmX2) (hlXn.out)
          refine append_run_step rfl (.tmp 17) (.tmp 22) 24 rfl rfl rfl (hrun) ?_
          refine hK.out _ _ (fun _ => hS.keep hb') ?_
          clear hK K hrun
          try simp only [Act.put, List.setIfInBounds_toArray, List.set_cons_zero, List.set_cons_succ]
          replace hS := hS.keep hb'
          replace hmY0 := (hfar mY (by omega) hlY 0).trans hmY0
          replace hmY1 := (hfar mY (by omega) hlY 1).trans hmY1
          replace hmY2 := (hfar mY (by omega) hlY 2).trans hmY2
          replace hqY : mY < Wxx.heap.size := lt_of_cell hmY0
          replace hR := hR'
          replace hxX := Lib.hid hxX
          clear hR' hb' hfar
          refine anyL_one 13 rfl (by kernel_rfl) (fun K hK => ?_)
          obtain ⟨sY, Wf, hrun, hxY, hR', hb', hfar⟩ := hR.pushY (P := Try.prog) Try.underlying25 infRz (by decide) (by decide) (m := mY) (x := x) (fun j hj => by have h1 : j < 3 := hj; rcases (by omega : j = 0 ∨ j = 1 ∨ j = 2) with rfl | rfl | rfl; exact hmY0; exact hmY1; exact hmY2) (hlYn.out)
          refine append_run_step rfl (.tmp 24) (.tmp 29) 25 rfl rfl rfl (hrun) ?_
          refine hK.out _ _ (fun _ => hS.keep hb') ?_
          clear hK K hrun
          try simp only [Act.put, List.setIfInBounds_toArray, List.set_cons_zero, List.set_cons_succ]
          replace hS := hS.keep hb'
          replace hR := hR'
          replace hxY := Lib.hid hxY
          clear hR' hb' hfar
          refine anyL_one 14 rfl (by kernel_rfl) (fun K hK => ?_)
          go_simp
          refine hK.out _ _ (fun h => absurd h (by decide)) ?_
          clear hK K
          try simp only [Act.put, List.setIfInBounds_toArray, List.set_cons_zero, List.set_cons_succ]
          refine anyL_one 15 rfl (by kernel_rfl) (fun K hK => ?_)
          go_simp
          refine hK.out _ _ (fun h => absurd h (by decide)) ?_
          clear hK K
          try simp only [Act.put, List.setIfInBounds_toArray, List.set_cons_zero, List.set_cons_succ]
          refine anyC_done (by kernel_rfl) ?_ _
          have hxs : Hid (sX.xs = l.take (k + 1) ∧ sY.xs = l.take (k + 1)) := Lib.hid ⟨by rw [hxX.out, hxz.out.1, hst.out], by rw [hxY.out, hxz.out.2, hst.out]⟩
          have hBf := Lib.hid hS.b
          have hRf := Lib.hid hR
          clear hR hS hxX hxY
          go_wp2_with fail
          go_roundw
          case rel => exact ⟨k + 1, sX, sY, by omega, by go_num, rfl, rfl, hxs, hRf, hBf, Lib.hid (by omega)⟩
          case measure => simp only [intOf]; omega
      ·
        have hal := (Below.refl Wd.heap.size Wd).alloc (Nat.le_refl _) (.cells #[.int .i64 x.l, .int .i64 x.v, .bool x.o] 98)
        go_simp
        refine hK.out _ _ (fun _ => hS.keep (hal.mono hR.bs)) ?_
        clear hK K
        try simp only [Act.put, List.setIfInBounds_toArray, List.set_cons_zero, List.set_cons_succ]
        have hlY := fun r (e : X.A = some ⟨r, 0, none⟩) => row_ltT hR.rX r e
        have hqY : Wd.heap.size < (Wd.alloc (.cells #[.int .i64 x.l, .int .i64 x.v, .bool x.o] 98)).heap.size := by rw [World.size_alloc]; omega
        replace hS := hS.keep (hal.mono hR.bs)
        replace hR := hR.below hal
        have hmY0 : (Wd.alloc (.cells #[.int .i64 x.l, .int .i64 x.v, .bool x.o] 98)).cell? ⟨Wd.heap.size, 0, none⟩ = some (.int .i64 x.l) := by go_simp
        have hmY1 : (Wd.alloc (.cells #[.int .i64 x.l, .int .i64 x.v, .bool x.o] 98)).cell? ⟨Wd.heap.size, 1, none⟩ = some (.int .i64 x.v) := by go_simp
        have hmY2 : (Wd.alloc (.cells #[.int .i64 x.l, .int .i64 x.v, .bool x.o] 98)).cell? ⟨Wd.heap.size, 2, none⟩ = some (.bool x.o) := by go_simp
        clear hal
        generalize (Wd.alloc (.cells #[.int .i64 x.l, .int .i64 x.v, .bool x.o] 98)) = Wy at hS hR hqY hmY0 hmY1 hmY2 ⊢
        generalize Wd.heap.size = mY at hqY hmY0 hmY1 hmY2 hlY ⊢
        refine anyL_one 5 rfl (by kernel_rfl) (fun K hK => ?_)
        have hal := (Below.refl Wy.heap.size Wy).alloc (Nat.le_refl _) (.cells #[.int .i64 x.l, .int .i64 x.v, .bool x.o] 35)
        go_simp
        refine hK.out _ _ (fun _ => hS.keep (hal.mono hR.bs)) ?_
        clear hK K
        try simp only [Act.put, List.setIfInBounds_toArray, List.set_cons_zero, List.set_cons_succ]
        skip
        have hqX : Wy.heap.size < (Wy.alloc (.cells #[.int .i64 x.l, .int .i64 x.v, .bool x.o] 35)).heap.size := by rw [World.size_alloc]; omega
        replace hS := hS.keep (hal.mono hR.bs)
        replace hR := hR.below hal
        replace hmY0 := (hal.cell (lt_of_cell hmY0)).trans hmY0
        replace hmY1 := (hal.cell (lt_of_cell hmY1)).trans hmY1
        replace hmY2 := (hal.cell (lt_of_cell hmY2)).trans hmY2
        have hmX0 : (Wy.alloc (.cells #[.int .i64 x.l, .int .i64 x.v, .bool x.o] 35)).cell? ⟨Wy.heap.size, 0, none⟩ = some (.int .i64 x.l) := by go_simp
        have hmX1 : (Wy.alloc (.cells #[.int .i64 x.l, .int .i64 x.v, .bool x.o] 35)).cell? ⟨Wy.heap.size, 1, none⟩ = some (.int .i64 x.v) := by go_simp
        have hmX2 : (Wy.alloc (.cells #[.int .i64 x.l, .int .i64 x.v, .bool x.o] 35)).cell? ⟨Wy.heap.size, 2, none⟩ = some (.bool x.o) := by go_simp
        clear hal
        generalize (Wy.alloc (.cells #[.int .i64 x.l, .int .i64 x.v, .bool x.o] 35)) = Wxy at hS hR hqX hmX0 hmX1 hmX2 hmY0 hmY1 hmY2 ⊢
        generalize Wy.heap.size = mX at hqX hmX0 hmX1 hmX2 ⊢
        replace hqY : mY < Wxy.heap.size := lt_of_cell hmY0
        refine anyL_one 6 rfl (by kernel_rfl) (fun K hK => ?_)
        obtain ⟨sX, Wxx, hrun, hxX, hR', hb', hfar⟩ := hR.pushX (P := Try.prog) Try.underlying24 infPz (by decide) (by decide) (m := mX) (x := x) (fun j hj => by have h1 : j < 3 := hj; rcases (by omega : j = 0 ∨ j = 1 ∨ j = 2) with rfl | rfl | rfl; exact hmX0; exact hmX1; exact hmX2) (hlXn.out)
        refine append_run_step rfl (.tmp 17) (.tmp 22) 24 rfl rfl rfl (hrun) ?_
        refine hK.out _ _ (fun _ => hS.keep hb') ?_
        clear hK K hrun
        try simp only [Act.put, List.setIfInBounds_toArray, List.set_cons_zero, List.set_cons_succ]
        replace hS := hS.keep hb'
        replace hmY0 := (hfar mY (by omega) hlY 0).trans hmY0
        replace hmY1 := (hfar mY (by omega) hlY 1).trans hmY1
        replace hmY2 := (hfar mY (by omega) hlY 2).trans hmY2
        replace hqY : mY < Wxx.heap.size := lt_of_cell hmY0
        replace hR := hR'
        replace hxX := Lib.hid hxX
        clear hR' hb' hfar
        refine anyL_one 13 rfl (by kernel_rfl) (fun K hK => ?_)
        obtain ⟨sY, Wf, hrun, hxY, hR', hb', hfar⟩ := hR.pushY (P := Try.prog) Try.underlying25 infRz (by decide) (by decide) (m := mY) (x := x) (fun j hj => by have h1 : j < 3 := hj; rcases (by omega : j = 0 ∨ j = 1 ∨ j = 2) with rfl | rfl | rfl; exact hmY0; exact hmY1; exact hmY2) (hlYn.out)
        refine append_run_step rfl (.tmp 24) (.tmp 29) 25 rfl rfl rfl (hrun) ?_
        refine hK.out _ _ (fun _ => hS.keep hb') ?_
        clear hK K hrun
        try simp only [Act.put, List.setIfInBounds_toArray, List.set_cons_zero, List.set_cons_succ]
        replace hS := hS.keep hb'
        replace hR := hR'
        replace hxY := Lib.hid hxY
        clear hR' hb' hfar
        refine anyL_one 14 rfl (by kernel_rfl) (fun K hK => ?_)
        go_simp
        refine hK.out _ _ (fun h => absurd h (by decide)) ?_
        clear hK K
        try simp only [Act.put, List.setIfInBounds_toArray, List.set_cons_zero, List.set_cons_succ]
        refine anyL_one 15 rfl (by kernel_rfl) (fun K hK => ?_)
        go_simp
        refine hK.out _ _ (fun h => absurd h (by decide)) ?_
        clear hK K
        try simp only [Act.put, List.setIfInBounds_toArray, List.set_cons_zero, List.set_cons_succ]
        refine anyC_done (by kernel_rfl) ?_ _
        have hxs : Hid (sX.xs = l.take (k + 1) ∧ sY.xs = l.take (k + 1)) := Lib.hid ⟨by rw [hxX.out, hxz.out.1, hst.out], by rw [hxY.out, hxz.out.2, hst.out]⟩
        have hBf := Lib.hid hS.b
        have hRf := Lib.hid hR
        clear hR hS hxX hxY
        go_wp2_with fail
        go_roundw
        case rel => exact ⟨k + 1, sX, sY, by omega, by go_num, rfl, rfl, hxs, hRf, hBf, Lib.hid (by omega)⟩
        case measure => simp only [intOf]; omega

end Go.Proofs.Ytbgkmppngnedlaa
