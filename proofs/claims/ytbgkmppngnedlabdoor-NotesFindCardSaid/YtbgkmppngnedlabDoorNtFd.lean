/- NotesFind: the walk. -/
import Derived.Test.YtbgkmppngnedlabDoorNtBk
import Derived.Test.YtbgkmppngnedlabDoorNtWh
import Derived.Test.YtbgkmppngnedlabDoorNtOp
import Derived.Test.YtbgkmppngnedlabDoorNtRa
import Derived.Test.YtbgkmppngnedlabDoorTwR
namespace Go.Proofs.YtbgkmppngnedlabDoor
open Go.RowKit Rec Go.Maps Crc

theorem infRc6 : Enc.Inf Tryd.prog 30 7 64 := by unfold Enc.Inf; kernel_rfl
/-- The first so many records, as whole makes them. -/
def whL (l : List Rc) (k : Nat) : List Rc := (l.take k).map wholeR
theorem whL_len {l : List Rc} {k : Nat} (h : k ≤ l.length) : (whL l k).length = k := by unfold whL; rw [List.length_map, List.length_take]; omega
theorem whL_succ {l : List Rc} {k : Nat} (h : k < l.length) : whL l k ++ [wholeR l[k]] = whL l (k + 1) := by
  unfold whL
  rw [List.take_succ_eq_append_getElem h, List.map_append]
  rfl
theorem wholeR_same (x : Rc) : (wholeR x).a = x.a ∧ (wholeR x).c = x.c ∧ (wholeR x).b = x.b := by
  unfold wholeR
  split <;> exact ⟨rfl, rfl, rfl⟩
theorem whL_wf {l : List Rc} {k : Nat} (h : ∀ x ∈ l, RcWf x) : ∀ x ∈ whL l k, (WfI x.a ∧ WfI x.c) ∧ WfI x.b := fun x hx => by
  unfold whL at hx
  obtain ⟨y, hy, rfl⟩ := List.mem_map.1 hx
  have h1 := h y (List.mem_of_mem_take hy)
  rw [(wholeR_same y).1, (wholeR_same y).2.1, (wholeR_same y).2.2]
  exact ⟨⟨h1.2.1, h1.2.2.1⟩, h1.2.2.2⟩
theorem nof_wf {la : List Rc} {u : Int × Int} (h : ∀ x ∈ la, WfI x.b) : ∀ y ∈ notesOf la u, WfI y.r := fun y hy => by
  unfold notesOf at hy
  obtain ⟨x, hx, rfl⟩ := List.mem_map.1 hy
  exact h x (List.mem_filter.1 hx).1
structure FdS (w : World) (b5 : Nat) (y : Rc) (W : World) : Prop where
  rc : RcAt W b5 y
  bw : Below w.heap.size w W
theorem FdS.lt {w W : World} {b5 : Nat} {y : Rc} (h : FdS w b5 y W) : b5 < W.heap.size := h.rc.lt
theorem FdS.below {w W W' : World} {b5 : Nat} {y : Rc} (h : FdS w b5 y W) (hb : Below W.heap.size W W') : FdS w b5 y W' := ⟨h.rc.below hb, bmore h.bw hb⟩
theorem FdS.far {w W W' : World} {b5 : Nat} {y : Rc} (h : FdS w b5 y W) (hb : Below w.heap.size W W') (hf : ∀ o, W'.cell? ⟨b5, o, none⟩ = W.cell? ⟨b5, o, none⟩) : FdS w b5 y W' :=
  ⟨⟨(hf 0).trans h.rc.c0, (hf 1).trans h.rc.c1, (hf 2).trans h.rc.c2, (hf 3).trans h.rc.c3, (hf 4).trans h.rc.c4, (hf 5).trans h.rc.c5, (hf 6).trans h.rc.c6⟩, h.bw.trans hb⟩
set_option maxRecDepth 100000 in
set_option maxHeartbeats 8000000 in
theorem find_law (w : World) (hT : Tab w) (A1 : Option Addr) (c1 : Nat) (l : List Rc) (zone gen : Int) (hI1 : RecsAt w A1 l) (hw1 : ∀ x ∈ l, RcWf x) (hz : WfI zone) (hg : WfI gen) :
    Calls Tryd.prog 3 #[.slice A1 l.length c1, .int .i64 zone, .int .i64 gen] w fun e w' => e = .returned (.bool true) ∧ Below w.heap.size w w' := by
  have hL1 := Lib.hid (fun W (hb : Below w.heap.size w W) => hI1.below hb)
  have hwf1 := Lib.hid hw1
  have hspk := Lib.hid (speaks14 w hT)
  have hzH := Lib.hid hz
  have hgH := Lib.hid hg
  clear hI1 hw1 hT hz hg
  go_enter Tryd.func3, Tryd.ntmps3
  go_wp2_with fail
  (with_reducible refine hspk.out.mono ?_)
  rintro e w2 ⟨rfl, hb2⟩
  have hb2H := Lib.hid hb2
  have hR0 : Hid (TwR rcE rcE 29 30 w2 w.heap.size slT0 slT0) := Lib.hid (TwR.nil _ hb2.size)
  have hx0 : Hid ((slT0 : SlT Rc).xs = whL l 0 ∧ (slT0 : SlT Rc).xs = whL l 0) := Lib.hid ⟨rfl, rfl⟩
  clear hspk hb2
  go_wp2_with fail
  go_loopw [7, 8, 9] (fun a b i wr => ∃ (k : Nat) (X Y : SlT Rc), k ≤ l.length ∧ k ≤ 200 ∧ i = .int .i64 (k : Int) ∧ a = .slice X.A X.xs.length X.c ∧ b = .slice Y.A Y.xs.length Y.c ∧ Hid (X.xs = whL l k ∧ Y.xs = whL l k) ∧ Hid (TwR rcE rcE 29 30 wr w.heap.size X Y) ∧ Hid (Below w.heap.size w wr)) (fun _ _ i _ => 200 - (intOf i).toNat)
  case atStart => exact ⟨0, slT0, slT0, Nat.zero_le _, Nat.zero_le _, rfl, rfl, rfl, hx0, hR0, hb2H⟩
  case round =>
    clear hR0 hb2H hx0
    obtain ⟨k, X, Y, hkl, hk200, rfl, rfl, rfl, hxz, hRH, hBH⟩ := hrel
    obtain ⟨t, ht⟩ : ∃ t : Bool, (t = true ↔ (k < l.length ∧ k < 200)) := ⟨decide (k < l.length ∧ k < 200), by simp⟩
    have htH := Lib.hid ht
    clear ht
    go_upto_region 6 with fail
    go_cut [22] from 15 to 37 (fun c wx => c = .bool t ∧ wx = wr)
    case first =>
      by_cases hlo : (k : Int) < (l.length : Int)
      case neg =>
        have hf : t = false := by cases t with
          | false => rfl
          | true => exact absurd (htH.out.1 rfl).1 (by omega)
        subst hf
        go_wp2_with fail
        go_meet
        exact ⟨rfl, rfl⟩
      case pos =>
        have htd : Hid (t = decide ((k : Int) < 200)) := Lib.hid (by
          rw [Bool.eq_iff_iff, htH.out, decide_eq_true_eq]
          omega)
        go_wp2_with fail
        go_meet
        exact ⟨by rw [htd.out], rfl⟩
    case rest =>
      obtain ⟨rfl, rfl⟩ := hcut
      cases t with
      | true =>
        obtain ⟨hlo, hl200⟩ := htH.out.1 rfl
        clear htH
        have hkw : IntKind.i64.wrap ((k : Int) + 1) = (k : Int) + 1 := IntWalk.i64_in _ (by omega)
        have hkI : (k : Int) < (l.length : Int) := by omega
        obtain ⟨g, off, rfl, hgl, x0, x1, x2, x3, x4, x5, x6⟩ := (hL1.out wc hBH.out).at_ hlo
        have hwx := hwf1.out l[k] (List.getElem_mem hlo)
        have hwc := Lib.hid (fun W => whole_any l[k] W (by have := hwx.1; unfold reachBytes at this; omega))
        have hsu := Lib.hid (whL_succ hlo)
        have hlXn : Hid (X.xs.length ≤ 1000000) := Lib.hid (by rw [hxz.out.1, whL_len hkl]; omega)
        have hlYn : Hid (Y.xs.length ≤ 1000000) := Lib.hid (by rw [hxz.out.2, whL_len hkl]; omega)
        clear hwx
        generalize l[k] = x at x0 x1 x2 x3 x4 x5 x6 hwc hsu
        go_wp2_with fail
        (with_reducible refine (hwc.out _).mono ?_)
        rintro e w3 ⟨rfl, hb3⟩
        generalize wholeR x = y at hsu ⊢
        have hN : Hid (TwR rcE rcE 29 30 (w3.alloc (.cells #[.int .i64 y.k, .int .i64 y.s, .int .i64 y.a, .int .i64 y.b, .int .i64 y.c, .int .i64 y.d, .string y.body] 27)) w.heap.size X Y ∧ FdS w w3.heap.size y (w3.alloc (.cells #[.int .i64 y.k, .int .i64 y.s, .int .i64 y.a, .int .i64 y.b, .int .i64 y.c, .int .i64 y.d, .string y.body] 27)) ∧ (∀ r, X.A = some ⟨r, 0, none⟩ → r < w3.heap.size) ∧ (∀ r, Y.A = some ⟨r, 0, none⟩ → r < w3.heap.size)) := Lib.hid (by
          have h3 := hRH.out.below hb3
          have hal := (Below.refl w3.heap.size w3).alloc (Nat.le_refl _) (.cells #[.int .i64 y.k, .int .i64 y.s, .int .i64 y.a, .int .i64 y.b, .int .i64 y.c, .int .i64 y.d, .string y.body] 27)
          exact ⟨h3.below hal, ⟨RcAt.new w3 y 27, bmore (bmore hBH.out hb3) hal⟩, row_ltT h3.rX, row_ltT h3.rY⟩)
        clear hwc x0 x1 x2 x3 x4 x5 x6 hgl hRH hBH hb3
        go_upto_region 9 with fail
        generalize w3.heap.size = b5 at hN ⊢
        refine fresh_world (fun W => TwR rcE rcE 29 30 W w.heap.size X Y ∧ FdS w b5 y W ∧ (∀ r, X.A = some ⟨r, 0, none⟩ → r < b5) ∧ (∀ r, Y.A = some ⟨r, 0, none⟩ → r < b5)) hN.out ?_
        clear hN
        rintro W5 ⟨hR5, hS5, h5Xx, h5Yy⟩
        have h5X := Lib.hid h5Xx
        have h5Y := Lib.hid h5Yy
        have hR := hR5.below (Below.refl _ _).drew
        have hS := hS5.below (Below.refl _ _).drew
        clear h5Xx h5Yy hR5 hS5
        refine region_anyC (fun _ => true) (fun W => FdS w b5 y W) (by kernel_rfl) ?_
        generalize W5.drew = Wd at hS hR ⊢
        refine anyL_take 0 (v := ?_) rfl (by kernel_rfl) (fun _ _ _ h => h) (Or.inl ⟨by rfl, ?_⟩) hS ?_
        rotate_left
        focus (intro W hW; go_simp; try with_reducible rfl)
        simp only [Act.put, List.setIfInBounds_toArray, List.set_cons_zero, List.set_cons_succ]
        refine anyL_take 1 (v := ?_) rfl (by kernel_rfl) (fun _ _ _ h => h) (Or.inl ⟨by rfl, ?_⟩) hS ?_
        rotate_left
        focus (intro W hW; have y0 := hW.rc.c0; have y1 := hW.rc.c1; have y2 := hW.rc.c2; have y3 := hW.rc.c3; have y4 := hW.rc.c4; have y5 := hW.rc.c5; have y6 := hW.rc.c6; go_simp; try with_reducible rfl)
        simp only [Act.put, List.setIfInBounds_toArray, List.set_cons_zero, List.set_cons_succ]
        refine anyL_take 4 (v := ?_) rfl (by kernel_rfl) (fun _ _ _ h => h) (Or.inl ⟨by rfl, ?_⟩) hS ?_
        rotate_left
        focus (intro W hW; go_simp; try with_reducible rfl)
        simp only [Act.put, List.setIfInBounds_toArray, List.set_cons_zero, List.set_cons_succ]
        refine anyL_take 5 (v := ?_) rfl (by kernel_rfl) (fun _ _ _ h => h) (Or.inl ⟨by rfl, ?_⟩) hS ?_
        rotate_left
        focus (intro W hW; have y0 := hW.rc.c0; have y1 := hW.rc.c1; have y2 := hW.rc.c2; have y3 := hW.rc.c3; have y4 := hW.rc.c4; have y5 := hW.rc.c5; have y6 := hW.rc.c6; go_simp; try with_reducible rfl)
        simp only [Act.put, List.setIfInBounds_toArray, List.set_cons_zero, List.set_cons_succ]
        refine anyL_two 2 6 rfl rfl (by kernel_rfl) (fun K hK => ?_) (fun K hK => ?_)
        ·
          have hal := (Below.refl Wd.heap.size Wd).alloc (Nat.le_refl _) (.cells #[.int .i64 y.k, .int .i64 y.s, .int .i64 y.a, .int .i64 y.b, .int .i64 y.c, .int .i64 y.d, .string y.body] 29)
          go_simp
          refine hK.out _ _ (fun _ => hS.below hal) ?_
          clear hK K
          try simp only [Act.put, List.setIfInBounds_toArray, List.set_cons_zero, List.set_cons_succ]
          skip
          have hqX : Wd.heap.size < (Wd.alloc (.cells #[.int .i64 y.k, .int .i64 y.s, .int .i64 y.a, .int .i64 y.b, .int .i64 y.c, .int .i64 y.d, .string y.body] 29)).heap.size := by rw [World.size_alloc]; omega
          replace hS := hS.below hal
          replace hR := hR.below hal
          have hmX0 : (Wd.alloc (.cells #[.int .i64 y.k, .int .i64 y.s, .int .i64 y.a, .int .i64 y.b, .int .i64 y.c, .int .i64 y.d, .string y.body] 29)).cell? ⟨Wd.heap.size, 0, none⟩ = some (.int .i64 y.k) := by go_simp
          have hmX1 : (Wd.alloc (.cells #[.int .i64 y.k, .int .i64 y.s, .int .i64 y.a, .int .i64 y.b, .int .i64 y.c, .int .i64 y.d, .string y.body] 29)).cell? ⟨Wd.heap.size, 1, none⟩ = some (.int .i64 y.s) := by go_simp
          have hmX2 : (Wd.alloc (.cells #[.int .i64 y.k, .int .i64 y.s, .int .i64 y.a, .int .i64 y.b, .int .i64 y.c, .int .i64 y.d, .string y.body] 29)).cell? ⟨Wd.heap.size, 2, none⟩ = some (.int .i64 y.a) := by go_simp
          have hmX3 : (Wd.alloc (.cells #[.int .i64 y.k, .int .i64 y.s, .int .i64 y.a, .int .i64 y.b, .int .i64 y.c, .int .i64 y.d, .string y.body] 29)).cell? ⟨Wd.heap.size, 3, none⟩ = some (.int .i64 y.b) := by go_simp
          have hmX4 : (Wd.alloc (.cells #[.int .i64 y.k, .int .i64 y.s, .int .i64 y.a, .int .i64 y.b, .int .i64 y.c, .int .i64 y.d, .string y.body] 29)).cell? ⟨Wd.heap.size, 4, none⟩ = some (.int .i64 y.c) := by go_simp
          have hmX5 : (Wd.alloc (.cells #[.int .i64 y.k, .int .i64 y.s, .int .i64 y.a, .int .i64 y.b, .int .i64 y.c, .int .i64 y.d, .string y.body] 29)).cell? ⟨Wd.heap.size, 5, none⟩ = some (.int .i64 y.d) := by go_simp
          have hmX6 : (Wd.alloc (.cells #[.int .i64 y.k, .int .i64 y.s, .int .i64 y.a, .int .i64 y.b, .int .i64 y.c, .int .i64 y.d, .string y.body] 29)).cell? ⟨Wd.heap.size, 6, none⟩ = some (.string y.body) := by go_simp
          clear hal
          generalize (Wd.alloc (.cells #[.int .i64 y.k, .int .i64 y.s, .int .i64 y.a, .int .i64 y.b, .int .i64 y.c, .int .i64 y.d, .string y.body] 29)) = Wx at hS hR hqX hmX0 hmX1 hmX2 hmX3 hmX4 hmX5 hmX6 ⊢
          generalize Wd.heap.size = mX at hqX hmX0 hmX1 hmX2 hmX3 hmX4 hmX5 hmX6 ⊢
          refine anyL_two 3 6 rfl rfl (by kernel_rfl) (fun K hK => ?_) (fun K hK => ?_)
          ·
            obtain ⟨sX, Wxx, hrun, hxX, hR', hb', hfar⟩ := hR.pushX (P := Tryd.prog) Tryd.underlying24 infRcE (by decide) (by decide) (m := mX) (x := y) (fun j hj => by have h1 : j < 7 := hj; rcases (by omega : j = 0 ∨ j = 1 ∨ j = 2 ∨ j = 3 ∨ j = 4 ∨ j = 5 ∨ j = 6) with rfl | rfl | rfl | rfl | rfl | rfl | rfl; exact hmX0; exact hmX1; exact hmX2; exact hmX3; exact hmX4; exact hmX5; exact hmX6) (hlXn.out)
            refine append_run_step rfl (.tmp 30) (.tmp 32) 24 rfl rfl rfl (hrun) ?_
            refine hK.out _ _ (fun _ => hS.far hb' (hfar b5 hS.lt h5X.out)) ?_
            clear hK K hrun
            try simp only [Act.put, List.setIfInBounds_toArray, List.set_cons_zero, List.set_cons_succ]
            replace hS := hS.far hb' (hfar b5 hS.lt h5X.out)
            replace hR := hR'
            replace hxX := Lib.hid hxX
            clear hR' hb' hfar
            refine anyL_one 6 rfl (by kernel_rfl) (fun K hK => ?_)
            have hal := (Below.refl Wxx.heap.size Wxx).alloc (Nat.le_refl _) (.cells #[.int .i64 y.k, .int .i64 y.s, .int .i64 y.a, .int .i64 y.b, .int .i64 y.c, .int .i64 y.d, .string y.body] 30)
            go_simp
            refine hK.out _ _ (fun _ => hS.below hal) ?_
            clear hK K
            try simp only [Act.put, List.setIfInBounds_toArray, List.set_cons_zero, List.set_cons_succ]
            skip
            have hqY : Wxx.heap.size < (Wxx.alloc (.cells #[.int .i64 y.k, .int .i64 y.s, .int .i64 y.a, .int .i64 y.b, .int .i64 y.c, .int .i64 y.d, .string y.body] 30)).heap.size := by rw [World.size_alloc]; omega
            replace hS := hS.below hal
            replace hR := hR.below hal
            have hmY0 : (Wxx.alloc (.cells #[.int .i64 y.k, .int .i64 y.s, .int .i64 y.a, .int .i64 y.b, .int .i64 y.c, .int .i64 y.d, .string y.body] 30)).cell? ⟨Wxx.heap.size, 0, none⟩ = some (.int .i64 y.k) := by go_simp
            have hmY1 : (Wxx.alloc (.cells #[.int .i64 y.k, .int .i64 y.s, .int .i64 y.a, .int .i64 y.b, .int .i64 y.c, .int .i64 y.d, .string y.body] 30)).cell? ⟨Wxx.heap.size, 1, none⟩ = some (.int .i64 y.s) := by go_simp
            have hmY2 : (Wxx.alloc (.cells #[.int .i64 y.k, .int .i64 y.s, .int .i64 y.a, .int .i64 y.b, .int .i64 y.c, .int .i64 y.d, .string y.body] 30)).cell? ⟨Wxx.heap.size, 2, none⟩ = some (.int .i64 y.a) := by go_simp
            have hmY3 : (Wxx.alloc (.cells #[.int .i64 y.k, .int .i64 y.s, .int .i64 y.a, .int .i64 y.b, .int .i64 y.c, .int .i64 y.d, .string y.body] 30)).cell? ⟨Wxx.heap.size, 3, none⟩ = some (.int .i64 y.b) := by go_simp
            have hmY4 : (Wxx.alloc (.cells #[.int .i64 y.k, .int .i64 y.s, .int .i64 y.a, .int .i64 y.b, .int .i64 y.c, .int .i64 y.d, .string y.body] 30)).cell? ⟨Wxx.heap.size, 4, none⟩ = some (.int .i64 y.c) := by go_simp
            have hmY5 : (Wxx.alloc (.cells #[.int .i64 y.k, .int .i64 y.s, .int .i64 y.a, .int .i64 y.b, .int .i64 y.c, .int .i64 y.d, .string y.body] 30)).cell? ⟨Wxx.heap.size, 5, none⟩ = some (.int .i64 y.d) := by go_simp
            have hmY6 : (Wxx.alloc (.cells #[.int .i64 y.k, .int .i64 y.s, .int .i64 y.a, .int .i64 y.b, .int .i64 y.c, .int .i64 y.d, .string y.body] 30)).cell? ⟨Wxx.heap.size, 6, none⟩ = some (.string y.body) := by go_simp
            clear hal
            generalize (Wxx.alloc (.cells #[.int .i64 y.k, .int .i64 y.s, .int .i64 y.a, .int .i64 y.b, .int .i64 y.c, .int .i64 y.d, .string y.body] 30)) = Wxy at hS hR hqY hmY0 hmY1 hmY2 hmY3 hmY4 hmY5 hmY6 ⊢
            generalize Wxx.heap.size = mY at hqY hmY0 hmY1 hmY2 hmY3 hmY4 hmY5 hmY6 ⊢
            refine anyL_one 7 rfl (by kernel_rfl) (fun K hK => ?_)
            obtain ⟨sY, Wf, hrun, hxY, hR', hb', hfar⟩ := hR.pushY (P := Tryd.prog) Tryd.underlying25 infRc6 (by decide) (by decide) (m := mY) (x := y) (fun j hj => by have h1 : j < 7 := hj; rcases (by omega : j = 0 ∨ j = 1 ∨ j = 2 ∨ j = 3 ∨ j = 4 ∨ j = 5 ∨ j = 6) with rfl | rfl | rfl | rfl | rfl | rfl | rfl; exact hmY0; exact hmY1; exact hmY2; exact hmY3; exact hmY4; exact hmY5; exact hmY6) (hlYn.out)
            refine append_run_step rfl (.tmp 34) (.tmp 36) 25 rfl rfl rfl (hrun) ?_
            refine hK.out _ _ (fun _ => hS.far hb' (hfar b5 hS.lt h5Y.out)) ?_
            clear hK K hrun
            try simp only [Act.put, List.setIfInBounds_toArray, List.set_cons_zero, List.set_cons_succ]
            replace hS := hS.far hb' (hfar b5 hS.lt h5Y.out)
            replace hR := hR'
            replace hxY := Lib.hid hxY
            clear hR' hb' hfar
            refine anyL_one 8 rfl (by kernel_rfl) (fun K hK => ?_)
            go_simp
            refine hK.out _ _ (fun _ => hS) ?_
            clear hK K
            try simp only [Act.put, List.setIfInBounds_toArray, List.set_cons_zero, List.set_cons_succ]
            refine anyL_one 9 rfl (by kernel_rfl) (fun K hK => ?_)
            go_simp
            refine hK.out _ _ (fun _ => hS) ?_
            clear hK K
            try simp only [Act.put, List.setIfInBounds_toArray, List.set_cons_zero, List.set_cons_succ]
            refine anyC_done (by kernel_rfl) ?_ _
            have hxs : Hid (sX.xs = whL l (k + 1) ∧ sY.xs = whL l (k + 1)) := Lib.hid ⟨by rw [hxX.out, hxz.out.1, hsu.out], by rw [hxY.out, hxz.out.2, hsu.out]⟩
            have hBf := Lib.hid hS.bw
            have hRf := Lib.hid hR
            clear hR hS hxX hxY
            go_wp2_with fail
            go_roundw
            case rel => exact ⟨k + 1, sX, sY, by omega, by omega, by go_num, rfl, rfl, hxs, hRf, hBf⟩
            case measure => simp only [intOf]; omega
          ·
            have hal := (Below.refl Wx.heap.size Wx).alloc (Nat.le_refl _) (.cells #[.int .i64 y.k, .int .i64 y.s, .int .i64 y.a, .int .i64 y.b, .int .i64 y.c, .int .i64 y.d, .string y.body] 30)
            go_simp
            refine hK.out _ _ (fun _ => hS.below hal) ?_
            clear hK K
            try simp only [Act.put, List.setIfInBounds_toArray, List.set_cons_zero, List.set_cons_succ]
            have hlY := fun r (e : X.A = some ⟨r, 0, none⟩) => row_ltT hR.rX r e
            have hqY : Wx.heap.size < (Wx.alloc (.cells #[.int .i64 y.k, .int .i64 y.s, .int .i64 y.a, .int .i64 y.b, .int .i64 y.c, .int .i64 y.d, .string y.body] 30)).heap.size := by rw [World.size_alloc]; omega
            replace hS := hS.below hal
            replace hR := hR.below hal
            replace hmX0 := (hal.cell (lt_of_cell hmX0)).trans hmX0
            replace hmX1 := (hal.cell (lt_of_cell hmX1)).trans hmX1
            replace hmX2 := (hal.cell (lt_of_cell hmX2)).trans hmX2
            replace hmX3 := (hal.cell (lt_of_cell hmX3)).trans hmX3
            replace hmX4 := (hal.cell (lt_of_cell hmX4)).trans hmX4
            replace hmX5 := (hal.cell (lt_of_cell hmX5)).trans hmX5
            replace hmX6 := (hal.cell (lt_of_cell hmX6)).trans hmX6
            have hmY0 : (Wx.alloc (.cells #[.int .i64 y.k, .int .i64 y.s, .int .i64 y.a, .int .i64 y.b, .int .i64 y.c, .int .i64 y.d, .string y.body] 30)).cell? ⟨Wx.heap.size, 0, none⟩ = some (.int .i64 y.k) := by go_simp
            have hmY1 : (Wx.alloc (.cells #[.int .i64 y.k, .int .i64 y.s, .int .i64 y.a, .int .i64 y.b, .int .i64 y.c, .int .i64 y.d, .string y.body] 30)).cell? ⟨Wx.heap.size, 1, none⟩ = some (.int .i64 y.s) := by go_simp
            have hmY2 : (Wx.alloc (.cells #[.int .i64 y.k, .int .i64 y.s, .int .i64 y.a, .int .i64 y.b, .int .i64 y.c, .int .i64 y.d, .string y.body] 30)).cell? ⟨Wx.heap.size, 2, none⟩ = some (.int .i64 y.a) := by go_simp
            have hmY3 : (Wx.alloc (.cells #[.int .i64 y.k, .int .i64 y.s, .int .i64 y.a, .int .i64 y.b, .int .i64 y.c, .int .i64 y.d, .string y.body] 30)).cell? ⟨Wx.heap.size, 3, none⟩ = some (.int .i64 y.b) := by go_simp
            have hmY4 : (Wx.alloc (.cells #[.int .i64 y.k, .int .i64 y.s, .int .i64 y.a, .int .i64 y.b, .int .i64 y.c, .int .i64 y.d, .string y.body] 30)).cell? ⟨Wx.heap.size, 4, none⟩ = some (.int .i64 y.c) := by go_simp
            have hmY5 : (Wx.alloc (.cells #[.int .i64 y.k, .int .i64 y.s, .int .i64 y.a, .int .i64 y.b, .int .i64 y.c, .int .i64 y.d, .string y.body] 30)).cell? ⟨Wx.heap.size, 5, none⟩ = some (.int .i64 y.d) := by go_simp
            have hmY6 : (Wx.alloc (.cells #[.int .i64 y.k, .int .i64 y.s, .int .i64 y.a, .int .i64 y.b, .int .i64 y.c, .int .i64 y.d, .string y.body] 30)).cell? ⟨Wx.heap.size, 6, none⟩ = some (.string y.body) := by go_simp
            clear hal
            generalize (Wx.alloc (.cells #[.int .i64 y.k, .int .i64 y.s, .int .i64 y.a, .int .i64 y.b, .int .i64 y.c, .int .i64 y.d, .string y.body] 30)) = Wxy at hS hR hqY hmY0 hmY1 hmY2 hmY3 hmY4 hmY5 hmY6 hmX0 hmX1 hmX2 hmX3 hmX4 hmX5 hmX6 ⊢
            generalize Wx.heap.size = mY at hqY hmY0 hmY1 hmY2 hmY3 hmY4 hmY5 hmY6 hlY ⊢
            replace hqX : mX < Wxy.heap.size := lt_of_cell hmX0
            refine anyL_one 3 rfl (by kernel_rfl) (fun K hK => ?_)
            obtain ⟨sX, Wxx, hrun, hxX, hR', hb', hfar⟩ := hR.pushX (P := Tryd.prog) Tryd.underlying24 infRcE (by decide) (by decide) (m := mX) (x := y) (fun j hj => by have h1 : j < 7 := hj; rcases (by omega : j = 0 ∨ j = 1 ∨ j = 2 ∨ j = 3 ∨ j = 4 ∨ j = 5 ∨ j = 6) with rfl | rfl | rfl | rfl | rfl | rfl | rfl; exact hmX0; exact hmX1; exact hmX2; exact hmX3; exact hmX4; exact hmX5; exact hmX6) (hlXn.out)
            refine append_run_step rfl (.tmp 30) (.tmp 32) 24 rfl rfl rfl (hrun) ?_
            refine hK.out _ _ (fun _ => hS.far hb' (hfar b5 hS.lt h5X.out)) ?_
            clear hK K hrun
            try simp only [Act.put, List.setIfInBounds_toArray, List.set_cons_zero, List.set_cons_succ]
            replace hS := hS.far hb' (hfar b5 hS.lt h5X.out)
            replace hmY0 := (hfar mY (by omega) hlY 0).trans hmY0
            replace hmY1 := (hfar mY (by omega) hlY 1).trans hmY1
            replace hmY2 := (hfar mY (by omega) hlY 2).trans hmY2
            replace hmY3 := (hfar mY (by omega) hlY 3).trans hmY3
            replace hmY4 := (hfar mY (by omega) hlY 4).trans hmY4
            replace hmY5 := (hfar mY (by omega) hlY 5).trans hmY5
            replace hmY6 := (hfar mY (by omega) hlY 6).trans hmY6
            replace hqY : mY < Wxx.heap.size := lt_of_cell hmY0
            replace hR := hR'
            replace hxX := Lib.hid hxX
            clear hR' hb' hfar
            refine anyL_one 7 rfl (by kernel_rfl) (fun K hK => ?_)
            obtain ⟨sY, Wf, hrun, hxY, hR', hb', hfar⟩ := hR.pushY (P := Tryd.prog) Tryd.underlying25 infRc6 (by decide) (by decide) (m := mY) (x := y) (fun j hj => by have h1 : j < 7 := hj; rcases (by omega : j = 0 ∨ j = 1 ∨ j = 2 ∨ j = 3 ∨ j = 4 ∨ j = 5 ∨ j = 6) with rfl | rfl | rfl | rfl | rfl | rfl | rfl; exact hmY0; exact hmY1; exact hmY2; exact hmY3; exact hmY4; exact hmY5; exact hmY6) (hlYn.out)
            refine append_run_step rfl (.tmp 34) (.tmp 36) 25 rfl rfl rfl (hrun) ?_
            refine hK.out _ _ (fun _ => hS.far hb' (hfar b5 hS.lt h5Y.out)) ?_
            clear hK K hrun
            try simp only [Act.put, List.setIfInBounds_toArray, List.set_cons_zero, List.set_cons_succ]
            replace hS := hS.far hb' (hfar b5 hS.lt h5Y.out)
            replace hR := hR'
            replace hxY := Lib.hid hxY
            clear hR' hb' hfar
            refine anyL_one 8 rfl (by kernel_rfl) (fun K hK => ?_)
            go_simp
            refine hK.out _ _ (fun _ => hS) ?_
            clear hK K
            try simp only [Act.put, List.setIfInBounds_toArray, List.set_cons_zero, List.set_cons_succ]
            refine anyL_one 9 rfl (by kernel_rfl) (fun K hK => ?_)
            go_simp
            refine hK.out _ _ (fun _ => hS) ?_
            clear hK K
            try simp only [Act.put, List.setIfInBounds_toArray, List.set_cons_zero, List.set_cons_succ]
            refine anyC_done (by kernel_rfl) ?_ _
            have hxs : Hid (sX.xs = whL l (k + 1) ∧ sY.xs = whL l (k + 1)) := Lib.hid ⟨by rw [hxX.out, hxz.out.1, hsu.out], by rw [hxY.out, hxz.out.2, hsu.out]⟩
            have hBf := Lib.hid hS.bw
            have hRf := Lib.hid hR
            clear hR hS hxX hxY
            go_wp2_with fail
            go_roundw
            case rel => exact ⟨k + 1, sX, sY, by omega, by omega, by go_num, rfl, rfl, hxs, hRf, hBf⟩
            case measure => simp only [intOf]; omega
        ·
          have hal := (Below.refl Wd.heap.size Wd).alloc (Nat.le_refl _) (.cells #[.int .i64 y.k, .int .i64 y.s, .int .i64 y.a, .int .i64 y.b, .int .i64 y.c, .int .i64 y.d, .string y.body] 30)
          go_simp
          refine hK.out _ _ (fun _ => hS.below hal) ?_
          clear hK K
          try simp only [Act.put, List.setIfInBounds_toArray, List.set_cons_zero, List.set_cons_succ]
          have hlY := fun r (e : X.A = some ⟨r, 0, none⟩) => row_ltT hR.rX r e
          have hqY : Wd.heap.size < (Wd.alloc (.cells #[.int .i64 y.k, .int .i64 y.s, .int .i64 y.a, .int .i64 y.b, .int .i64 y.c, .int .i64 y.d, .string y.body] 30)).heap.size := by rw [World.size_alloc]; omega
          replace hS := hS.below hal
          replace hR := hR.below hal
          have hmY0 : (Wd.alloc (.cells #[.int .i64 y.k, .int .i64 y.s, .int .i64 y.a, .int .i64 y.b, .int .i64 y.c, .int .i64 y.d, .string y.body] 30)).cell? ⟨Wd.heap.size, 0, none⟩ = some (.int .i64 y.k) := by go_simp
          have hmY1 : (Wd.alloc (.cells #[.int .i64 y.k, .int .i64 y.s, .int .i64 y.a, .int .i64 y.b, .int .i64 y.c, .int .i64 y.d, .string y.body] 30)).cell? ⟨Wd.heap.size, 1, none⟩ = some (.int .i64 y.s) := by go_simp
          have hmY2 : (Wd.alloc (.cells #[.int .i64 y.k, .int .i64 y.s, .int .i64 y.a, .int .i64 y.b, .int .i64 y.c, .int .i64 y.d, .string y.body] 30)).cell? ⟨Wd.heap.size, 2, none⟩ = some (.int .i64 y.a) := by go_simp
          have hmY3 : (Wd.alloc (.cells #[.int .i64 y.k, .int .i64 y.s, .int .i64 y.a, .int .i64 y.b, .int .i64 y.c, .int .i64 y.d, .string y.body] 30)).cell? ⟨Wd.heap.size, 3, none⟩ = some (.int .i64 y.b) := by go_simp
          have hmY4 : (Wd.alloc (.cells #[.int .i64 y.k, .int .i64 y.s, .int .i64 y.a, .int .i64 y.b, .int .i64 y.c, .int .i64 y.d, .string y.body] 30)).cell? ⟨Wd.heap.size, 4, none⟩ = some (.int .i64 y.c) := by go_simp
          have hmY5 : (Wd.alloc (.cells #[.int .i64 y.k, .int .i64 y.s, .int .i64 y.a, .int .i64 y.b, .int .i64 y.c, .int .i64 y.d, .string y.body] 30)).cell? ⟨Wd.heap.size, 5, none⟩ = some (.int .i64 y.d) := by go_simp
          have hmY6 : (Wd.alloc (.cells #[.int .i64 y.k, .int .i64 y.s, .int .i64 y.a, .int .i64 y.b, .int .i64 y.c, .int .i64 y.d, .string y.body] 30)).cell? ⟨Wd.heap.size, 6, none⟩ = some (.string y.body) := by go_simp
          clear hal
          generalize (Wd.alloc (.cells #[.int .i64 y.k, .int .i64 y.s, .int .i64 y.a, .int .i64 y.b, .int .i64 y.c, .int .i64 y.d, .string y.body] 30)) = Wy at hS hR hqY hmY0 hmY1 hmY2 hmY3 hmY4 hmY5 hmY6 ⊢
          generalize Wd.heap.size = mY at hqY hmY0 hmY1 hmY2 hmY3 hmY4 hmY5 hmY6 hlY ⊢
          refine anyL_one 2 rfl (by kernel_rfl) (fun K hK => ?_)
          have hal := (Below.refl Wy.heap.size Wy).alloc (Nat.le_refl _) (.cells #[.int .i64 y.k, .int .i64 y.s, .int .i64 y.a, .int .i64 y.b, .int .i64 y.c, .int .i64 y.d, .string y.body] 29)
          go_simp
          refine hK.out _ _ (fun _ => hS.below hal) ?_
          clear hK K
          try simp only [Act.put, List.setIfInBounds_toArray, List.set_cons_zero, List.set_cons_succ]
          skip
          have hqX : Wy.heap.size < (Wy.alloc (.cells #[.int .i64 y.k, .int .i64 y.s, .int .i64 y.a, .int .i64 y.b, .int .i64 y.c, .int .i64 y.d, .string y.body] 29)).heap.size := by rw [World.size_alloc]; omega
          replace hS := hS.below hal
          replace hR := hR.below hal
          replace hmY0 := (hal.cell (lt_of_cell hmY0)).trans hmY0
          replace hmY1 := (hal.cell (lt_of_cell hmY1)).trans hmY1
          replace hmY2 := (hal.cell (lt_of_cell hmY2)).trans hmY2
          replace hmY3 := (hal.cell (lt_of_cell hmY3)).trans hmY3
          replace hmY4 := (hal.cell (lt_of_cell hmY4)).trans hmY4
          replace hmY5 := (hal.cell (lt_of_cell hmY5)).trans hmY5
          replace hmY6 := (hal.cell (lt_of_cell hmY6)).trans hmY6
          have hmX0 : (Wy.alloc (.cells #[.int .i64 y.k, .int .i64 y.s, .int .i64 y.a, .int .i64 y.b, .int .i64 y.c, .int .i64 y.d, .string y.body] 29)).cell? ⟨Wy.heap.size, 0, none⟩ = some (.int .i64 y.k) := by go_simp
          have hmX1 : (Wy.alloc (.cells #[.int .i64 y.k, .int .i64 y.s, .int .i64 y.a, .int .i64 y.b, .int .i64 y.c, .int .i64 y.d, .string y.body] 29)).cell? ⟨Wy.heap.size, 1, none⟩ = some (.int .i64 y.s) := by go_simp
          have hmX2 : (Wy.alloc (.cells #[.int .i64 y.k, .int .i64 y.s, .int .i64 y.a, .int .i64 y.b, .int .i64 y.c, .int .i64 y.d, .string y.body] 29)).cell? ⟨Wy.heap.size, 2, none⟩ = some (.int .i64 y.a) := by go_simp
          have hmX3 : (Wy.alloc (.cells #[.int .i64 y.k, .int .i64 y.s, .int .i64 y.a, .int .i64 y.b, .int .i64 y.c, .int .i64 y.d, .string y.body] 29)).cell? ⟨Wy.heap.size, 3, none⟩ = some (.int .i64 y.b) := by go_simp
          have hmX4 : (Wy.alloc (.cells #[.int .i64 y.k, .int .i64 y.s, .int .i64 y.a, .int .i64 y.b, .int .i64 y.c, .int .i64 y.d, .string y.body] 29)).cell? ⟨Wy.heap.size, 4, none⟩ = some (.int .i64 y.c) := by go_simp
          have hmX5 : (Wy.alloc (.cells #[.int .i64 y.k, .int .i64 y.s, .int .i64 y.a, .int .i64 y.b, .int .i64 y.c, .int .i64 y.d, .string y.body] 29)).cell? ⟨Wy.heap.size, 5, none⟩ = some (.int .i64 y.d) := by go_simp
          have hmX6 : (Wy.alloc (.cells #[.int .i64 y.k, .int .i64 y.s, .int .i64 y.a, .int .i64 y.b, .int .i64 y.c, .int .i64 y.d, .string y.body] 29)).cell? ⟨Wy.heap.size, 6, none⟩ = some (.string y.body) := by go_simp
          clear hal
          generalize (Wy.alloc (.cells #[.int .i64 y.k, .int .i64 y.s, .int .i64 y.a, .int .i64 y.b, .int .i64 y.c, .int .i64 y.d, .string y.body] 29)) = Wxy at hS hR hqX hmX0 hmX1 hmX2 hmX3 hmX4 hmX5 hmX6 hmY0 hmY1 hmY2 hmY3 hmY4 hmY5 hmY6 ⊢
          generalize Wy.heap.size = mX at hqX hmX0 hmX1 hmX2 hmX3 hmX4 hmX5 hmX6 ⊢
          replace hqY : mY < Wxy.heap.size := lt_of_cell hmY0
          refine anyL_one 3 rfl (by kernel_rfl) (fun K hK => ?_)
          obtain ⟨sX, Wxx, hrun, hxX, hR', hb', hfar⟩ := hR.pushX (P := Tryd.prog) Tryd.underlying24 infRcE (by decide) (by decide) (m := mX) (x := y) (fun j hj => by have h1 : j < 7 := hj; rcases (by omega : j = 0 ∨ j = 1 ∨ j = 2 ∨ j = 3 ∨ j = 4 ∨ j = 5 ∨ j = 6) with rfl | rfl | rfl | rfl | rfl | rfl | rfl; exact hmX0; exact hmX1; exact hmX2; exact hmX3; exact hmX4; exact hmX5; exact hmX6) (hlXn.out)
          refine append_run_step rfl (.tmp 30) (.tmp 32) 24 rfl rfl rfl (hrun) ?_
          refine hK.out _ _ (fun _ => hS.far hb' (hfar b5 hS.lt h5X.out)) ?_
          clear hK K hrun
          try simp only [Act.put, List.setIfInBounds_toArray, List.set_cons_zero, List.set_cons_succ]
          replace hS := hS.far hb' (hfar b5 hS.lt h5X.out)
          replace hmY0 := (hfar mY (by omega) hlY 0).trans hmY0
          replace hmY1 := (hfar mY (by omega) hlY 1).trans hmY1
          replace hmY2 := (hfar mY (by omega) hlY 2).trans hmY2
          replace hmY3 := (hfar mY (by omega) hlY 3).trans hmY3
          replace hmY4 := (hfar mY (by omega) hlY 4).trans hmY4
          replace hmY5 := (hfar mY (by omega) hlY 5).trans hmY5
          replace hmY6 := (hfar mY (by omega) hlY 6).trans hmY6
          replace hqY : mY < Wxx.heap.size := lt_of_cell hmY0
          replace hR := hR'
          replace hxX := Lib.hid hxX
          clear hR' hb' hfar
          refine anyL_one 7 rfl (by kernel_rfl) (fun K hK => ?_)
          obtain ⟨sY, Wf, hrun, hxY, hR', hb', hfar⟩ := hR.pushY (P := Tryd.prog) Tryd.underlying25 infRc6 (by decide) (by decide) (m := mY) (x := y) (fun j hj => by have h1 : j < 7 := hj; rcases (by omega : j = 0 ∨ j = 1 ∨ j = 2 ∨ j = 3 ∨ j = 4 ∨ j = 5 ∨ j = 6) with rfl | rfl | rfl | rfl | rfl | rfl | rfl; exact hmY0; exact hmY1; exact hmY2; exact hmY3; exact hmY4; exact hmY5; exact hmY6) (hlYn.out)
          refine append_run_step rfl (.tmp 34) (.tmp 36) 25 rfl rfl rfl (hrun) ?_
          refine hK.out _ _ (fun _ => hS.far hb' (hfar b5 hS.lt h5Y.out)) ?_
          clear hK K hrun
          try simp only [Act.put, List.setIfInBounds_toArray, List.set_cons_zero, List.set_cons_succ]
          replace hS := hS.far hb' (hfar b5 hS.lt h5Y.out)
          replace hR := hR'
          replace hxY := Lib.hid hxY
          clear hR' hb' hfar
          refine anyL_one 8 rfl (by kernel_rfl) (fun K hK => ?_)
          go_simp
          refine hK.out _ _ (fun _ => hS) ?_
          clear hK K
          try simp only [Act.put, List.setIfInBounds_toArray, List.set_cons_zero, List.set_cons_succ]
          refine anyL_one 9 rfl (by kernel_rfl) (fun K hK => ?_)
          go_simp
          refine hK.out _ _ (fun _ => hS) ?_
          clear hK K
          try simp only [Act.put, List.setIfInBounds_toArray, List.set_cons_zero, List.set_cons_succ]
          refine anyC_done (by kernel_rfl) ?_ _
          have hxs : Hid (sX.xs = whL l (k + 1) ∧ sY.xs = whL l (k + 1)) := Lib.hid ⟨by rw [hxX.out, hxz.out.1, hsu.out], by rw [hxY.out, hxz.out.2, hsu.out]⟩
          have hBf := Lib.hid hS.bw
          have hRf := Lib.hid hR
          clear hR hS hxX hxY
          go_wp2_with fail
          go_roundw
          case rel => exact ⟨k + 1, sX, sY, by omega, by omega, by go_num, rfl, rfl, hxs, hRf, hBf⟩
          case measure => simp only [intOf]; omega
      | false =>
        clear htH
        have hlk := Lib.hid (whL_len hkl)
        have hnf := Lib.hid (whL_wf (k := k) hwf1.out)
        obtain ⟨XA, Xc, Xs⟩ := X
        obtain ⟨YA, Yc, Ys⟩ := Y
        obtain ⟨hx1, hx2⟩ := hxz.out
        dsimp only at hx1 hx2 ⊢
        subst hx1
        subst hx2
        clear hxz hwf1 hL1
        generalize whL l k = la at hlk hnf hRH ⊢
        rw [hlk.out]
        have o1 := Lib.hid (of_any14 wc XA Xc la zone gen (rcIn hRH.out.rX.in_) (by rw [hlk.out]; omega) (fun x hx => (hnf.out x hx).1) hzH.out hgH.out)
        have o2 := Lib.hid (fun W (hb : Below wc.heap.size wc W) => refOf_any W YA Yc la zone gen (rcIn (hRH.out.below hb).rY.in_) (by rw [hlk.out]; omega))
        rw [hlk.out] at o1 o2
        unfold OfPost at o1
        unfold RefPost at o2
        have hnw := Lib.hid (nof_wf (la := la) (u := (zone, gen)) (fun x hx => (hnf.out x hx).2))
        have hnl : (notesOf la (zone, gen)).length ≤ 200 := Nat.le_trans (notesOf_len _ _) (by have := hlk.out; omega)
        have hnlH := Lib.hid hnl
        clear hRH hlk hnf hzH hgH hnl
        generalize notesOf la (zone, gen) = ns at o1 o2 hnw hnlH
        have hs1 := Lib.hid (fun W A c B d (h1 : ntE.In W A ns) (h2 : ntE.In W B ns) => same_any W A c B d ns h1 h2 (by have := hnlH.out; omega))
        have hl1 := Lib.hid (fun W A c (h1 : ntE.In W A ns) => last_any14 sorts W A c ns h1 (by have := hnlH.out; omega) hnw.out)
        have hl2 := Lib.hid (fun W A c (h1 : ntE.In W A ns) => refLast_any W A c ns h1 (by have := hnlH.out; omega))
        obtain ⟨m, hm⟩ : ∃ m, ns.length = m := ⟨_, rfl⟩
        rw [hm] at o1 o2 hs1 hl1 hl2
        have hmH := Lib.hid hm
        clear hm hnw
        unfold SortedPost at hl1
        unfold RLPost at hl2
        go_wp2_with fail
        (with_reducible refine o1.out.mono ?_)
        rintro e w5 ⟨A5, cap5, rfl, hrow5, hb5⟩
        have hr5 := Lib.hid hrow5.in_
        have hb5H := Lib.hid hb5
        clear o1 hrow5 hb5
        go_wp2_with fail
        (with_reducible refine (o2.out w5 hb5H.out).mono ?_)
        rintro e w6 ⟨A6, cap6, rfl, hrow6, hb6⟩
        have hr56 := Lib.hid (hr5.out.below hb6)
        have hr6 := Lib.hid hrow6.in_
        have hB6 := Lib.hid (bmore (bmore hBH.out hb5H.out) hb6)
        clear o2 hrow6 hb6 hr5 hb5H hBH
        go_wp2_with fail
        (with_reducible refine (hs1.out w6 A5 cap5 A6 cap6 hr56.out hr6.out).mono ?_)
        rintro e w7 ⟨rfl, hb7⟩
        have hb7H := Lib.hid hb7
        clear hb7 hs1
        go_wp2_with fail
        (with_reducible refine (hl1.out w7 A5 cap5 (hr56.out.below hb7H.out)).mono ?_)
        rintro e w8 ⟨L, A8, cap8, hL, rfl, hrow8, hb8⟩
        have hLH := Lib.hid hL
        have hr8 := Lib.hid hrow8.in_
        have hB8 := Lib.hid (bmore (bmore hB6.out hb7H.out) hb8)
        have hr68 := Lib.hid ((hr6.out.below hb7H.out).below hb8)
        clear hl1 hL hrow8 hb8 hr56 hr6 hB6 hb7H
        go_wp2_with fail
        (with_reducible refine (hl2.out w8 A6 cap6 hr68.out).mono ?_)
        rintro e w9 ⟨L2, A9, cap9, hL2, rfl, hrow9, hb9⟩
        have hLe : L2 = L := LastL.one hL2 hLH.out
        subst hLe
        have hfin := Lib.hid (same_any w9 A8 cap8 A9 cap9 L2 (hr8.out.below hb9) hrow9.in_ (by have := hLH.out.len; have := hmH.out; have := hnlH.out; omega))
        have hB9 := Lib.hid (bmore hB8.out hb9)
        clear hl2 hL2 hrow9 hb9 hr8 hr68 hB8 hLH
        go_wp2_with fail
        (with_reducible refine hfin.out.mono ?_)
        rintro e w10 ⟨rfl, hb10⟩
        have hB10 := Lib.hid (bmore hB9.out hb10)
        clear hfin hb10 hB9
        go_wp2_with fail
        go_ret
        exact ⟨rfl, hB10.out⟩
end Go.Proofs.YtbgkmppngnedlabDoor
