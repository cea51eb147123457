/- What views of the law does: the walk. -/
import Derived.Test.YtdnedahbghhpgaaTlVl
namespace Go.Proofs.Ytdnedahbghhpgaa
open Go.RowKit Tl

set_option maxRecDepth 100000 in
set_option maxHeartbeats 4000000 in
theorem views_any (w : World) (A0 : Option Addr) (c0 : Nat) (ls : List Int) (m : Int) (N0 : Option Addr) (d0 : Nat) (ps : List (Int × Int)) (hA : IntsIn w A0 ls) (hA0 : A0 = none → c0 = 0) (hl : ls.length ≤ 1000000) (hP : ntE.In w N0 ps) :
    Calls Try.prog 12 #[.agg #[.slice A0 ls.length c0, .int .i64 m, .slice N0 ps.length d0]] w (ViPost w ls m (ps.take 40)) := by
  have hAH := Lib.hid (fun W (hb : Below w.heap.size w W) => hA.below hb)
  have hPH := Lib.hid (fun W (hb : Below w.heap.size w W) => hP.below hb)
  have happ := Lib.hid (fun W base g (hr : inE.Row W base 3 (some ⟨g, 0, none⟩) 0 []) (hI : IntsIn W A0 ls) (hb : base ≤ W.heap.size) => ints_app hr hI hA0 hl hb)
  have hN := Lib.hid (ViB.new w A0 c0 ls m N0 d0 ps)
  clear hA hA0 hl hP
  go_enter Try.func12, Try.ntmps12
  go_upto_region 1 with fail
  refine fresh_world (fun W => ViB w W A0 c0 ls m N0 d0 ps) hN.out ?_
  clear hN
  rintro w1 hW1
  have hW1H := Lib.hid hW1
  clear hW1
  go_cut [4] from 7 to 13 (fun s4 wx => ∃ b4 A1 c1, s4 = .pointer (some ⟨b4, 0, none⟩) ∧ ViV w1 wx 31 b4 A1 c1 ls m)
  case first =>
    have hS0 : Below w1.heap.size w1 w1.drew := (Below.refl _ _).drew
    refine region_anyC (fun _ => true) (fun W => Below w1.heap.size w1 W) (by kernel_rfl) ?_
    refine anyL_take 1 (v := ?_) rfl (by kernel_rfl) (fun _ _ _ h => h) (Or.inl ⟨by rfl, ?_⟩) hS0 ?_
    rotate_left
    focus (intro W hW; go_simp; try with_reducible rfl)
    simp only [Act.put, List.setIfInBounds_toArray, List.set_cons_zero, List.set_cons_succ]
    refine anyL_take 2 (v := ?_) rfl (by kernel_rfl) (fun _ _ _ h => h) (Or.inl ⟨by rfl, ?_⟩) hS0 ?_
    rotate_left
    focus (intro W hW; have q := hW1H.out.below hW; have q0 := q.i0; have q1 := q.i1; go_simp; try with_reducible rfl)
    simp only [Act.put, List.setIfInBounds_toArray, List.set_cons_zero, List.set_cons_succ]
    refine anyL_take 4 (v := ?_) rfl (by kernel_rfl) (fun _ _ _ h => h) (Or.inl ⟨by rfl, ?_⟩) hS0 ?_
    rotate_left
    focus (intro W hW; go_simp; try with_reducible rfl)
    simp only [Act.put, List.setIfInBounds_toArray, List.set_cons_zero, List.set_cons_succ]
    refine anyL_take 5 (v := ?_) rfl (by kernel_rfl) (fun _ _ _ h => h) (Or.inl ⟨by rfl, ?_⟩) hS0 ?_
    rotate_left
    focus (intro W hW; have q := hW1H.out.below hW; have q0 := q.i0; have q1 := q.i1; go_simp; try with_reducible rfl)
    simp only [Act.put, List.setIfInBounds_toArray, List.set_cons_zero, List.set_cons_succ]
    refine anyL_two 0 7 rfl rfl (by kernel_rfl) (fun K hK => ?_) (fun K hK => ?_)
    case refine_1 =>
      go_simp
      have he : inE.Row (w1.drew.alloc (.cells #[] 3)) w1.heap.size 3 (some ⟨w1.heap.size, 0, none⟩) 0 [] := empty_int w1.drew hS0.size
      have hbe := hS0.alloc hS0.size (.cells #[] 3)
      refine hK.out _ _ (fun _ => hbe) ?_
      clear hK K
      try simp only [Act.put, List.setIfInBounds_toArray, List.set_cons_zero, List.set_cons_succ]
      refine fresh_anyC (fun W => inE.Row W w1.heap.size 3 (some ⟨w1.heap.size, 0, none⟩) 0 [] ∧ Below w1.heap.size w1 W ∧ w1.heap.size < W.heap.size) ⟨he, hbe, by simp⟩ ?_
      clear he hbe
      rintro Wa ⟨hra, hba, hlt⟩
      refine anyL_two 3 7 rfl rfl (by kernel_rfl) (fun K hK => ?_) (fun K hK => ?_)
      case refine_1 =>
        obtain ⟨A', cap', Wb, hrun, hrow, hgr, hor⟩ := happ.out Wa _ _ hra (hAH.out _ (bmore hW1H.out.bw hba)) hba.size
        have hbb : Below w1.heap.size w1 Wb := hba.trans (hra.grown hgr hba.size)
        refine append_run_step rfl (.tmp 7) (.tmp 9) 24 rfl rfl rfl hrun ?_
        refine hK.out _ _ (fun _ => hbb) ?_
        clear hK K
        try simp only [Act.put, List.setIfInBounds_toArray, List.set_cons_zero, List.set_cons_succ]
        refine anyL_take 6 (v := ?_) rfl (by kernel_rfl) (fun _ _ _ h => h) (Or.inl ⟨by rfl, ?_⟩) hbb ?_
        rotate_left
        focus (intro W hW; go_simp; try with_reducible rfl)
        simp only [Act.put, List.setIfInBounds_toArray, List.set_cons_zero, List.set_cons_succ]
        refine anyL_one 7 rfl (by kernel_rfl) (fun K hK => ?_)
        go_simp
        have hQ : PreV w1 _ 31 Wb.heap.size A' cap' ls := ⟨World.alloc_heap_new Wb (.cells #[.slice none 0 0, .int .i64 0, .slice none 0 0] 31), hrow.alloc _, row_ne hrow (Nat.le_refl _), hbb.size, hbb.alloc hbb.size _⟩
        refine hK.out _ _ (fun _ => hQ.bw) ?_
        clear hK K
        try simp only [Act.put, List.setIfInBounds_toArray, List.set_cons_zero, List.set_cons_succ]
        generalize Wb.heap.size = b at hQ ⊢
        refine fresh_anyC (fun W => PreV w1 W 31 b A' cap' ls) hQ ?_
        clear hQ hrow hgr hor hbb hrun
        rintro WX hQ
        have z0 : WX.cell? ⟨b, 0, none⟩ = some (.slice none 0 0) := cell_of_row WX b 0 _ _ _ hQ.z
        have z1 : WX.cell? ⟨b, 1, none⟩ = some (.int .i64 0) := cell_of_row WX b 1 _ _ _ hQ.z
        have z2 : WX.cell? ⟨b, 2, none⟩ = some (.slice none 0 0) := cell_of_row WX b 2 _ _ _ hQ.z
        have zf : ∀ j, WX.frozen? ⟨b, j, none⟩ = false := fun j => by simp [World.frozen?, hQ.z]
        have zl := lt_of_cell z0
        have hbX := hQ.bw
        refine anyL_one 8 rfl (by kernel_rfl) (fun K hK => ?_)
        go_simp
        have hfin := hQ.put m
        refine hK.out _ _ (fun _ => hfin.bw) ?_
        clear hK K
        try simp only [Act.put, List.setIfInBounds_toArray, List.set_cons_zero, List.set_cons_succ]
        refine anyC_done (by kernel_rfl) ?_ _
        have hfinH := Lib.hid hfin
        clear hfin hQ z0 z1 z2 zf zl hbX
        go_wp2_with fail
        go_meet
        exact ⟨_, _, _, rfl, hfinH.out⟩
      case refine_2 =>
        go_simp
        have hz := World.alloc_heap_new Wa (.cells #[.slice none 0 0, .int .i64 0, .slice none 0 0] 31)
        have hrz := hra.alloc (.cells #[.slice none 0 0, .int .i64 0, .slice none 0 0] 31)
        have hbz := hba.alloc hba.size (.cells #[.slice none 0 0, .int .i64 0, .slice none 0 0] 31)
        have hsz := World.size_alloc Wa (.cells #[.slice none 0 0, .int .i64 0, .slice none 0 0] 31)
        have hgeb := hba.size
        refine hK.out _ _ (fun _ => hbz) ?_
        clear hK K
        try simp only [Act.put, List.setIfInBounds_toArray, List.set_cons_zero, List.set_cons_succ]
        generalize Wa.heap.size = b at hz hsz hlt hgeb ⊢
        refine fresh_anyC (fun W => W.heap[b]? = some (.cells #[.slice none 0 0, .int .i64 0, .slice none 0 0] 31 (0, 0)) ∧ inE.Row W w1.heap.size 3 (some ⟨w1.heap.size, 0, none⟩) 0 [] ∧ Below w1.heap.size w1 W ∧ W.heap.size = b + 1) ⟨hz, hrz, hbz, hsz⟩ ?_
        clear hz hrz hbz hsz hra hba
        rintro Wc ⟨hz, hra, hba, hsz⟩
        refine anyL_one 3 rfl (by kernel_rfl) (fun K hK => ?_)
        obtain ⟨A', cap', Wb, hrun, hrow, hgr, hor⟩ := happ.out Wc _ _ hra (hAH.out _ (bmore hW1H.out.bw hba)) hba.size
        have hbb : Below w1.heap.size w1 Wb := hba.trans (hra.grown hgr hba.size)
        refine append_run_step rfl (.tmp 7) (.tmp 9) 24 rfl rfl rfl hrun ?_
        refine hK.out _ _ (fun _ => hbb) ?_
        clear hK K
        try simp only [Act.put, List.setIfInBounds_toArray, List.set_cons_zero, List.set_cons_succ]
        refine anyL_take 6 (v := ?_) rfl (by kernel_rfl) (fun _ _ _ h => h) (Or.inl ⟨by rfl, ?_⟩) hbb ?_
        rotate_left
        focus (intro W hW; go_simp; try with_reducible rfl)
        simp only [Act.put, List.setIfInBounds_toArray, List.set_cons_zero, List.set_cons_succ]
        have hQ : PreV w1 Wb 31 b A' cap' ls := ⟨(hgr.block b (Array.getElem?_eq_some_iff.1 hz).1 (fun e => by injection e with e; omega)).trans hz, hrow, fun g e e' => by
          rcases hor with h | h
          · rw [h] at e; injection e with e; injection e with e; omega
          · rw [h] at e; injection e with e; injection e with e; omega, by omega, hbb⟩
        refine fresh_anyC (fun W => PreV w1 W 31 b A' cap' ls) hQ ?_
        clear hQ hrow hgr hor hbb hrun hz hra hba hsz
        rintro WX hQ
        have z0 : WX.cell? ⟨b, 0, none⟩ = some (.slice none 0 0) := cell_of_row WX b 0 _ _ _ hQ.z
        have z1 : WX.cell? ⟨b, 1, none⟩ = some (.int .i64 0) := cell_of_row WX b 1 _ _ _ hQ.z
        have z2 : WX.cell? ⟨b, 2, none⟩ = some (.slice none 0 0) := cell_of_row WX b 2 _ _ _ hQ.z
        have zf : ∀ j, WX.frozen? ⟨b, j, none⟩ = false := fun j => by simp [World.frozen?, hQ.z]
        have zl := lt_of_cell z0
        have hbX := hQ.bw
        refine anyL_one 8 rfl (by kernel_rfl) (fun K hK => ?_)
        go_simp
        have hfin := hQ.put m
        refine hK.out _ _ (fun _ => hfin.bw) ?_
        clear hK K
        try simp only [Act.put, List.setIfInBounds_toArray, List.set_cons_zero, List.set_cons_succ]
        refine anyC_done (by kernel_rfl) ?_ _
        have hfinH := Lib.hid hfin
        clear hfin hQ z0 z1 z2 zf zl hbX
        go_wp2_with fail
        go_meet
        exact ⟨_, _, _, rfl, hfinH.out⟩
    case refine_2 =>
      go_simp
      have hz := World.alloc_heap_new w1.drew (.cells #[.slice none 0 0, .int .i64 0, .slice none 0 0] 31)
      have hbz := hS0.alloc hS0.size (.cells #[.slice none 0 0, .int .i64 0, .slice none 0 0] 31)
      have hsz := World.size_alloc w1.drew (.cells #[.slice none 0 0, .int .i64 0, .slice none 0 0] 31)
      refine hK.out _ _ (fun _ => hbz) ?_
      clear hK K
      try simp only [Act.put, List.setIfInBounds_toArray, List.set_cons_zero, List.set_cons_succ]
      refine fresh_anyC (fun W => W.heap[w1.heap.size]? = some (.cells #[.slice none 0 0, .int .i64 0, .slice none 0 0] 31 (0, 0)) ∧ Below w1.heap.size w1 W ∧ W.heap.size = w1.heap.size + 1) ⟨hz, hbz, hsz⟩ ?_
      clear hz hbz hsz
      rintro Wa ⟨hz, hba, hsz⟩
      have hszH := Lib.hid hsz
      clear hsz
      refine anyL_one 0 rfl (by kernel_rfl) (fun K hK => ?_)
      go_simp
      have he : inE.Row (Wa.alloc (.cells #[] 3)) w1.heap.size 3 (some ⟨Wa.heap.size, 0, none⟩) 0 [] := empty_int Wa hba.size
      have hbe := hba.alloc hba.size (.cells #[] 3)
      refine hK.out _ _ (fun _ => hbe) ?_
      clear hK K
      try simp only [Act.put, List.setIfInBounds_toArray, List.set_cons_zero, List.set_cons_succ]
      have hlt' : w1.heap.size + 1 < (Wa.alloc (.cells #[] 3)).heap.size := by rw [World.size_alloc, hszH.out]; exact Nat.lt_succ_self _
      have hz' := ((Below.refl Wa.heap.size Wa).alloc (Nat.le_refl _) (.cells #[] 3)).block w1.heap.size (Array.getElem?_eq_some_iff.1 hz).1 |>.trans hz
      refine fresh_anyC (fun W => W.heap[w1.heap.size]? = some (.cells #[.slice none 0 0, .int .i64 0, .slice none 0 0] 31 (0, 0)) ∧ inE.Row W w1.heap.size 3 (some ⟨Wa.heap.size, 0, none⟩) 0 [] ∧ Below w1.heap.size w1 W ∧ w1.heap.size + 1 < W.heap.size) ⟨hz', he, hbe, hlt'⟩ ?_
      have hszW := hszH.out
      clear hz he hbe hba hz' hlt' hszH
      rintro Wc ⟨hz, hra, hba, hlt⟩
      refine anyL_one 3 rfl (by kernel_rfl) (fun K hK => ?_)
      obtain ⟨A', cap', Wb, hrun, hrow, hgr, hor⟩ := happ.out Wc _ _ hra (hAH.out _ (bmore hW1H.out.bw hba)) hba.size
      have hbb : Below w1.heap.size w1 Wb := hba.trans (hra.grown hgr hba.size)
      refine append_run_step rfl (.tmp 7) (.tmp 9) 24 rfl rfl rfl hrun ?_
      refine hK.out _ _ (fun _ => hbb) ?_
      clear hK K
      try simp only [Act.put, List.setIfInBounds_toArray, List.set_cons_zero, List.set_cons_succ]
      refine anyL_take 6 (v := ?_) rfl (by kernel_rfl) (fun _ _ _ h => h) (Or.inl ⟨by rfl, ?_⟩) hbb ?_
      rotate_left
      focus (intro W hW; go_simp; try with_reducible rfl)
      simp only [Act.put, List.setIfInBounds_toArray, List.set_cons_zero, List.set_cons_succ]
      have hQ : PreV w1 Wb 31 w1.heap.size A' cap' ls := ⟨(hgr.block _ (Array.getElem?_eq_some_iff.1 hz).1 (fun e => by injection e with e; omega)).trans hz, hrow, fun g e e' => by
        rcases hor with h | h
        · rw [h] at e; injection e with e; injection e with e; omega
        · rw [h] at e; injection e with e; injection e with e; omega, Nat.le_refl _, hbb⟩
      refine fresh_anyC (fun W => PreV w1 W 31 w1.heap.size A' cap' ls) hQ ?_
      clear hQ hrow hgr hor hbb hrun hz hra hba hlt hszW
      rintro WX hQ
      have z0 : WX.cell? ⟨w1.heap.size, 0, none⟩ = some (.slice none 0 0) := cell_of_row WX w1.heap.size 0 _ _ _ hQ.z
      have z1 : WX.cell? ⟨w1.heap.size, 1, none⟩ = some (.int .i64 0) := cell_of_row WX w1.heap.size 1 _ _ _ hQ.z
      have z2 : WX.cell? ⟨w1.heap.size, 2, none⟩ = some (.slice none 0 0) := cell_of_row WX w1.heap.size 2 _ _ _ hQ.z
      have zf : ∀ j, WX.frozen? ⟨w1.heap.size, j, none⟩ = false := fun j => by simp [World.frozen?, hQ.z]
      have zl := lt_of_cell z0
      have hbX := hQ.bw
      refine anyL_one 8 rfl (by kernel_rfl) (fun K hK => ?_)
      go_simp
      have hfin := hQ.put m
      refine hK.out _ _ (fun _ => hfin.bw) ?_
      clear hK K
      try simp only [Act.put, List.setIfInBounds_toArray, List.set_cons_zero, List.set_cons_succ]
      refine anyC_done (by kernel_rfl) ?_ _
      have hfinH := Lib.hid hfin
      clear hfin hQ z0 z1 z2 zf zl hbX
      go_wp2_with fail
      go_meet
      exact ⟨_, _, _, rfl, hfinH.out⟩
  case rest =>
    obtain ⟨b4, A1, c1, rfl, hV1⟩ := hcut
    have hW2H := Lib.hid (hW1H.out.below hV1.bw)
    have hV1H := Lib.hid hV1
    clear hV1
    go_upto_region 2 with fail
    go_cut [5] from 14 to 20 (fun s5 wx => ∃ b5 A2 c2, s5 = .pointer (some ⟨b5, 0, none⟩) ∧ ViV wc wx 34 b5 A2 c2 ls m)
    case first =>
      have hS0 : Below wc.heap.size wc wc.drew := (Below.refl _ _).drew
      refine region_anyC (fun _ => true) (fun W => Below wc.heap.size wc W) (by kernel_rfl) ?_
      refine anyL_take 1 (v := ?_) rfl (by kernel_rfl) (fun _ _ _ h => h) (Or.inl ⟨by rfl, ?_⟩) hS0 ?_
      rotate_left
      focus (intro W hW; go_simp; try with_reducible rfl)
      simp only [Act.put, List.setIfInBounds_toArray, List.set_cons_zero, List.set_cons_succ]
      refine anyL_take 2 (v := ?_) rfl (by kernel_rfl) (fun _ _ _ h => h) (Or.inl ⟨by rfl, ?_⟩) hS0 ?_
      rotate_left
      focus (intro W hW; have q := hW2H.out.below hW; have q0 := q.i0; have q1 := q.i1; go_simp; try with_reducible rfl)
      simp only [Act.put, List.setIfInBounds_toArray, List.set_cons_zero, List.set_cons_succ]
      refine anyL_take 4 (v := ?_) rfl (by kernel_rfl) (fun _ _ _ h => h) (Or.inl ⟨by rfl, ?_⟩) hS0 ?_
      rotate_left
      focus (intro W hW; go_simp; try with_reducible rfl)
      simp only [Act.put, List.setIfInBounds_toArray, List.set_cons_zero, List.set_cons_succ]
      refine anyL_take 5 (v := ?_) rfl (by kernel_rfl) (fun _ _ _ h => h) (Or.inl ⟨by rfl, ?_⟩) hS0 ?_
      rotate_left
      focus (intro W hW; have q := hW2H.out.below hW; have q0 := q.i0; have q1 := q.i1; go_simp; try with_reducible rfl)
      simp only [Act.put, List.setIfInBounds_toArray, List.set_cons_zero, List.set_cons_succ]
      refine anyL_two 0 7 rfl rfl (by kernel_rfl) (fun K hK => ?_) (fun K hK => ?_)
      case refine_1 =>
        go_simp
        have he : inE.Row (wc.drew.alloc (.cells #[] 3)) wc.heap.size 3 (some ⟨wc.heap.size, 0, none⟩) 0 [] := empty_int wc.drew hS0.size
        have hbe := hS0.alloc hS0.size (.cells #[] 3)
        refine hK.out _ _ (fun _ => hbe) ?_
        clear hK K
        try simp only [Act.put, List.setIfInBounds_toArray, List.set_cons_zero, List.set_cons_succ]
        refine fresh_anyC (fun W => inE.Row W wc.heap.size 3 (some ⟨wc.heap.size, 0, none⟩) 0 [] ∧ Below wc.heap.size wc W ∧ wc.heap.size < W.heap.size) ⟨he, hbe, by simp⟩ ?_
        clear he hbe
        rintro Wa ⟨hra, hba, hlt⟩
        refine anyL_two 3 7 rfl rfl (by kernel_rfl) (fun K hK => ?_) (fun K hK => ?_)
        case refine_1 =>
          obtain ⟨A', cap', Wb, hrun, hrow, hgr, hor⟩ := happ.out Wa _ _ hra (hAH.out _ (bmore hW2H.out.bw hba)) hba.size
          have hbb : Below wc.heap.size wc Wb := hba.trans (hra.grown hgr hba.size)
          refine append_run_step rfl (.tmp 14) (.tmp 16) 24 rfl rfl rfl hrun ?_
          refine hK.out _ _ (fun _ => hbb) ?_
          clear hK K
          try simp only [Act.put, List.setIfInBounds_toArray, List.set_cons_zero, List.set_cons_succ]
          refine anyL_take 6 (v := ?_) rfl (by kernel_rfl) (fun _ _ _ h => h) (Or.inl ⟨by rfl, ?_⟩) hbb ?_
          rotate_left
          focus (intro W hW; go_simp; try with_reducible rfl)
          simp only [Act.put, List.setIfInBounds_toArray, List.set_cons_zero, List.set_cons_succ]
          refine anyL_one 7 rfl (by kernel_rfl) (fun K hK => ?_)
          go_simp
          have hQ : PreV wc _ 34 Wb.heap.size A' cap' ls := ⟨World.alloc_heap_new Wb (.cells #[.slice none 0 0, .int .i64 0, .slice none 0 0] 34), hrow.alloc _, row_ne hrow (Nat.le_refl _), hbb.size, hbb.alloc hbb.size _⟩
          refine hK.out _ _ (fun _ => hQ.bw) ?_
          clear hK K
          try simp only [Act.put, List.setIfInBounds_toArray, List.set_cons_zero, List.set_cons_succ]
          generalize Wb.heap.size = b at hQ ⊢
          refine fresh_anyC (fun W => PreV wc W 34 b A' cap' ls) hQ ?_
          clear hQ hrow hgr hor hbb hrun
          rintro WX hQ
          have z0 : WX.cell? ⟨b, 0, none⟩ = some (.slice none 0 0) := cell_of_row WX b 0 _ _ _ hQ.z
          have z1 : WX.cell? ⟨b, 1, none⟩ = some (.int .i64 0) := cell_of_row WX b 1 _ _ _ hQ.z
          have z2 : WX.cell? ⟨b, 2, none⟩ = some (.slice none 0 0) := cell_of_row WX b 2 _ _ _ hQ.z
          have zf : ∀ j, WX.frozen? ⟨b, j, none⟩ = false := fun j => by simp [World.frozen?, hQ.z]
          have zl := lt_of_cell z0
          have hbX := hQ.bw
          refine anyL_one 8 rfl (by kernel_rfl) (fun K hK => ?_)
          go_simp
          have hfin := hQ.put m
          refine hK.out _ _ (fun _ => hfin.bw) ?_
          clear hK K
          try simp only [Act.put, List.setIfInBounds_toArray, List.set_cons_zero, List.set_cons_succ]
          refine anyC_done (by kernel_rfl) ?_ _
          have hfinH := Lib.hid hfin
          clear hfin hQ z0 z1 z2 zf zl hbX
          go_wp2_with fail
          go_meet
          exact ⟨_, _, _, rfl, hfinH.out⟩
        case refine_2 =>
          go_simp
          have hz := World.alloc_heap_new Wa (.cells #[.slice none 0 0, .int .i64 0, .slice none 0 0] 34)
          have hrz := hra.alloc (.cells #[.slice none 0 0, .int .i64 0, .slice none 0 0] 34)
          have hbz := hba.alloc hba.size (.cells #[.slice none 0 0, .int .i64 0, .slice none 0 0] 34)
          have hsz := World.size_alloc Wa (.cells #[.slice none 0 0, .int .i64 0, .slice none 0 0] 34)
          have hgeb := hba.size
          refine hK.out _ _ (fun _ => hbz) ?_
          clear hK K
          try simp only [Act.put, List.setIfInBounds_toArray, List.set_cons_zero, List.set_cons_succ]
          generalize Wa.heap.size = b at hz hsz hlt hgeb ⊢
          refine fresh_anyC (fun W => W.heap[b]? = some (.cells #[.slice none 0 0, .int .i64 0, .slice none 0 0] 34 (0, 0)) ∧ inE.Row W wc.heap.size 3 (some ⟨wc.heap.size, 0, none⟩) 0 [] ∧ Below wc.heap.size wc W ∧ W.heap.size = b + 1) ⟨hz, hrz, hbz, hsz⟩ ?_
          clear hz hrz hbz hsz hra hba
          rintro Wc ⟨hz, hra, hba, hsz⟩
          refine anyL_one 3 rfl (by kernel_rfl) (fun K hK => ?_)
          obtain ⟨A', cap', Wb, hrun, hrow, hgr, hor⟩ := happ.out Wc _ _ hra (hAH.out _ (bmore hW2H.out.bw hba)) hba.size
          have hbb : Below wc.heap.size wc Wb := hba.trans (hra.grown hgr hba.size)
          refine append_run_step rfl (.tmp 14) (.tmp 16) 24 rfl rfl rfl hrun ?_
          refine hK.out _ _ (fun _ => hbb) ?_
          clear hK K
          try simp only [Act.put, List.setIfInBounds_toArray, List.set_cons_zero, List.set_cons_succ]
          refine anyL_take 6 (v := ?_) rfl (by kernel_rfl) (fun _ _ _ h => h) (Or.inl ⟨by rfl, ?_⟩) hbb ?_
          rotate_left
          focus (intro W hW; go_simp; try with_reducible rfl)
          simp only [Act.put, List.setIfInBounds_toArray, List.set_cons_zero, List.set_cons_succ]
          have hQ : PreV wc Wb 34 b A' cap' ls := ⟨(hgr.block b (Array.getElem?_eq_some_iff.1 hz).1 (fun e => by injection e with e; omega)).trans hz, hrow, fun g e e' => by
            rcases hor with h | h
            · rw [h] at e; injection e with e; injection e with e; omega
            · rw [h] at e; injection e with e; injection e with e; omega, by omega, hbb⟩
          refine fresh_anyC (fun W => PreV wc W 34 b A' cap' ls) hQ ?_
          clear hQ hrow hgr hor hbb hrun hz hra hba hsz
          rintro WX hQ
          have z0 : WX.cell? ⟨b, 0, none⟩ = some (.slice none 0 0) := cell_of_row WX b 0 _ _ _ hQ.z
          have z1 : WX.cell? ⟨b, 1, none⟩ = some (.int .i64 0) := cell_of_row WX b 1 _ _ _ hQ.z
          have z2 : WX.cell? ⟨b, 2, none⟩ = some (.slice none 0 0) := cell_of_row WX b 2 _ _ _ hQ.z
          have zf : ∀ j, WX.frozen? ⟨b, j, none⟩ = false := fun j => by simp [World.frozen?, hQ.z]
          have zl := lt_of_cell z0
          have hbX := hQ.bw
          refine anyL_one 8 rfl (by kernel_rfl) (fun K hK => ?_)
          go_simp
          have hfin := hQ.put m
          refine hK.out _ _ (fun _ => hfin.bw) ?_
          clear hK K
          try simp only [Act.put, List.setIfInBounds_toArray, List.set_cons_zero, List.set_cons_succ]
          refine anyC_done (by kernel_rfl) ?_ _
          have hfinH := Lib.hid hfin
          clear hfin hQ z0 z1 z2 zf zl hbX
          go_wp2_with fail
          go_meet
          exact ⟨_, _, _, rfl, hfinH.out⟩
      case refine_2 =>
        go_simp
        have hz := World.alloc_heap_new wc.drew (.cells #[.slice none 0 0, .int .i64 0, .slice none 0 0] 34)
        have hbz := hS0.alloc hS0.size (.cells #[.slice none 0 0, .int .i64 0, .slice none 0 0] 34)
        have hsz := World.size_alloc wc.drew (.cells #[.slice none 0 0, .int .i64 0, .slice none 0 0] 34)
        refine hK.out _ _ (fun _ => hbz) ?_
        clear hK K
        try simp only [Act.put, List.setIfInBounds_toArray, List.set_cons_zero, List.set_cons_succ]
        refine fresh_anyC (fun W => W.heap[wc.heap.size]? = some (.cells #[.slice none 0 0, .int .i64 0, .slice none 0 0] 34 (0, 0)) ∧ Below wc.heap.size wc W ∧ W.heap.size = wc.heap.size + 1) ⟨hz, hbz, hsz⟩ ?_
        clear hz hbz hsz
        rintro Wa ⟨hz, hba, hsz⟩
        have hszH := Lib.hid hsz
        clear hsz
        refine anyL_one 0 rfl (by kernel_rfl) (fun K hK => ?_)
        go_simp
        have he : inE.Row (Wa.alloc (.cells #[] 3)) wc.heap.size 3 (some ⟨Wa.heap.size, 0, none⟩) 0 [] := empty_int Wa hba.size
        have hbe := hba.alloc hba.size (.cells #[] 3)
        refine hK.out _ _ (fun _ => hbe) ?_
        clear hK K
        try simp only [Act.put, List.setIfInBounds_toArray, List.set_cons_zero, List.set_cons_succ]
        have hlt' : wc.heap.size + 1 < (Wa.alloc (.cells #[] 3)).heap.size := by rw [World.size_alloc, hszH.out]; exact Nat.lt_succ_self _
        have hz' := ((Below.refl Wa.heap.size Wa).alloc (Nat.le_refl _) (.cells #[] 3)).block wc.heap.size (Array.getElem?_eq_some_iff.1 hz).1 |>.trans hz
        refine fresh_anyC (fun W => W.heap[wc.heap.size]? = some (.cells #[.slice none 0 0, .int .i64 0, .slice none 0 0] 34 (0, 0)) ∧ inE.Row W wc.heap.size 3 (some ⟨Wa.heap.size, 0, none⟩) 0 [] ∧ Below wc.heap.size wc W ∧ wc.heap.size + 1 < W.heap.size) ⟨hz', he, hbe, hlt'⟩ ?_
        have hszW := hszH.out
        clear hz he hbe hba hz' hlt' hszH
        rintro Wc ⟨hz, hra, hba, hlt⟩
        refine anyL_one 3 rfl (by kernel_rfl) (fun K hK => ?_)
        obtain ⟨A', cap', Wb, hrun, hrow, hgr, hor⟩ := happ.out Wc _ _ hra (hAH.out _ (bmore hW2H.out.bw hba)) hba.size
        have hbb : Below wc.heap.size wc Wb := hba.trans (hra.grown hgr hba.size)
        refine append_run_step rfl (.tmp 14) (.tmp 16) 24 rfl rfl rfl hrun ?_
        refine hK.out _ _ (fun _ => hbb) ?_
        clear hK K
        try simp only [Act.put, List.setIfInBounds_toArray, List.set_cons_zero, List.set_cons_succ]
        refine anyL_take 6 (v := ?_) rfl (by kernel_rfl) (fun _ _ _ h => h) (Or.inl ⟨by rfl, ?_⟩) hbb ?_
        rotate_left
        focus (intro W hW; go_simp; try with_reducible rfl)
        simp only [Act.put, List.setIfInBounds_toArray, List.set_cons_zero, List.set_cons_succ]
        have hQ : PreV wc Wb 34 wc.heap.size A' cap' ls := ⟨(hgr.block _ (Array.getElem?_eq_some_iff.1 hz).1 (fun e => by injection e with e; omega)).trans hz, hrow, fun g e e' => by
          rcases hor with h | h
          · rw [h] at e; injection e with e; injection e with e; omega
          · rw [h] at e; injection e with e; injection e with e; omega, Nat.le_refl _, hbb⟩
        refine fresh_anyC (fun W => PreV wc W 34 wc.heap.size A' cap' ls) hQ ?_
        clear hQ hrow hgr hor hbb hrun hz hra hba hlt hszW
        rintro WX hQ
        have z0 : WX.cell? ⟨wc.heap.size, 0, none⟩ = some (.slice none 0 0) := cell_of_row WX wc.heap.size 0 _ _ _ hQ.z
        have z1 : WX.cell? ⟨wc.heap.size, 1, none⟩ = some (.int .i64 0) := cell_of_row WX wc.heap.size 1 _ _ _ hQ.z
        have z2 : WX.cell? ⟨wc.heap.size, 2, none⟩ = some (.slice none 0 0) := cell_of_row WX wc.heap.size 2 _ _ _ hQ.z
        have zf : ∀ j, WX.frozen? ⟨wc.heap.size, j, none⟩ = false := fun j => by simp [World.frozen?, hQ.z]
        have zl := lt_of_cell z0
        have hbX := hQ.bw
        refine anyL_one 8 rfl (by kernel_rfl) (fun K hK => ?_)
        go_simp
        have hfin := hQ.put m
        refine hK.out _ _ (fun _ => hfin.bw) ?_
        clear hK K
        try simp only [Act.put, List.setIfInBounds_toArray, List.set_cons_zero, List.set_cons_succ]
        refine anyC_done (by kernel_rfl) ?_ _
        have hfinH := Lib.hid hfin
        clear hfin hQ z0 z1 z2 zf zl hbX
        go_wp2_with fail
        go_meet
        exact ⟨_, _, _, rfl, hfinH.out⟩
    case rest =>
      obtain ⟨b5, A2, c2, rfl, hV2⟩ := hcut
      have hr2 := (Array.getElem?_eq_some_iff.1 hW1H.out.r2).1
      have hV1b := hV1H.out.bw.size
      obtain ⟨B, q1, q2, hq1, hq2, hL⟩ : ∃ B q1 q2, w.heap.size + 2 < q1 ∧ w.heap.size + 2 < q2 ∧ Hid (LpB w b4 b5 B q1 q2 A1 c1 A2 c2 A0 c0 ls m N0 d0 ps 0 0 none 0 none 0 wc) := ⟨_, _, _, hr2, by omega, Lib.hid (LpB.start hW1H.out hV1H.out hV2)⟩
      have hq1H := Lib.hid hq1
      have hq2H := Lib.hid hq2
      clear hV2 happ hr2 hV1b hV1H hW2H hW1H hAH hq1 hq2
      go_wp2_with fail
      go_loopw [6] (fun i wr => ∃ (k : Nat) (B1 : Option Addr) (d1 : Nat) (B2 : Option Addr) (d2 : Nat), i = .int .i64 (k : Int) ∧ k ≤ ps.length ∧ k ≤ 40 ∧ Hid (LpB w b4 b5 B q1 q2 A1 c1 A2 c2 A0 c0 ls m N0 d0 ps k k B1 d1 B2 d2 wr)) (fun i _ => 40 - (intOf i).toNat)
      case atStart => exact ⟨0, none, 0, none, 0, rfl, Nat.zero_le _, by omega, hL⟩
      case round =>
        obtain ⟨k, B1, d1, B2, d2, rfl, hk, hk40, hR⟩ := hrel
        clear hL
        have b2 := hR.out.vb.i2
        by_cases hlt : k < ps.length
        case neg =>
          have hj : ¬ (k : Int) < (ps.length : Int) := by omega
          have hke : ps.take k = ps.take 40 := by rw [List.take_of_length_le (by omega), List.take_of_length_le (by omega)]
          have hke' := Lib.hid hke
          have hF := (hR.out.fin hq1H.out hq2H.out).drew
          rw [hke] at hF
          have hkl : (ps.take 40).length = k := by rw [← hke, List.length_take]; omega
          have hklH := Lib.hid hkl
          have hFH := Lib.hid hF
          clear hkl hke hR hPH hF
          go_upto_region 8 with fail
          clear b2
          refine region_anyC (fun _ => true) (fun W => W.heap[b4]? = some (.cells #[.slice A1 ls.length c1, .int .i64 m, .slice B1 k d1] 31 (0, 0)) ∧ W.heap[b5]? = some (.cells #[.slice A2 ls.length c2, .int .i64 m, .slice B2 k d2] 34 (0, 0))) (by kernel_rfl) ?_
          have hS0 := And.intro hFH.out.z4 hFH.out.z5
          refine anyL_take 0 (v := ?_) rfl (by kernel_rfl) (fun _ _ _ h => h) (Or.inl ⟨by rfl, ?_⟩) hS0 ?_
          rotate_left
          focus (intro W hW; have y0 := cell_of_row W b4 0 _ _ _ hW.1; have y1 := cell_of_row W b4 1 _ _ _ hW.1; have y2 := cell_of_row W b4 2 _ _ _ hW.1; go_simp; try with_reducible rfl)
          simp only [Act.put, List.setIfInBounds_toArray, List.set_cons_zero, List.set_cons_succ]
          refine anyL_take 1 (v := ?_) rfl (by kernel_rfl) (fun _ _ _ h => h) (Or.inl ⟨by rfl, ?_⟩) hS0 ?_
          rotate_left
          focus (intro W hW; have y0 := cell_of_row W b5 0 _ _ _ hW.2; have y1 := cell_of_row W b5 1 _ _ _ hW.2; have y2 := cell_of_row W b5 2 _ _ _ hW.2; go_simp; try with_reducible rfl)
          simp only [Act.put, List.setIfInBounds_toArray, List.set_cons_zero, List.set_cons_succ]
          refine fresh_anyC (fun W => EnB w b4 b5 (w.heap.size + 3) A1 c1 A2 c2 ls (ps.take 40) B1 d1 B2 d2 #[.slice none 0 0, .int .i64 0, .slice none 0 0] #[.slice none 0 0, .int .i64 0, .slice none 0 0] #[.slice A1 ls.length c1, .int .i64 m, .slice B1 k d1] #[.slice A2 ls.length c2, .int .i64 m, .slice B2 k d2] W) hFH.out ?_
          clear hFH hS0
          rintro W hF
          refine anyL_one 2 rfl (by kernel_rfl) (fun K hK => ?_)
          have z0 : W.cell? ⟨w.heap.size + 1, 0, none⟩ = some _ := cell_of_row W (w.heap.size + 1) 0 _ _ _ hF.r1
          have z1 : W.cell? ⟨w.heap.size + 1, 1, none⟩ = some _ := cell_of_row W (w.heap.size + 1) 1 _ _ _ hF.r1
          have z2 : W.cell? ⟨w.heap.size + 1, 2, none⟩ = some _ := cell_of_row W (w.heap.size + 1) 2 _ _ _ hF.r1
          have zf : ∀ j, W.frozen? ⟨w.heap.size + 1, j, none⟩ = false := fun j => by simp [World.frozen?, hF.r1]
          have zl := lt_of_cell z0
          go_simp
          have hF1 : EnB w b4 b5 (w.heap.size + 3) A1 c1 A2 c2 ls (ps.take 40) B1 d1 B2 d2 #[.slice A1 ls.length c1, .int .i64 m, .slice B1 k d1] #[.slice none 0 0, .int .i64 0, .slice none 0 0] #[.slice A1 ls.length c1, .int .i64 m, .slice B1 k d1] #[.slice A2 ls.length c2, .int .i64 m, .slice B2 k d2] _ := hF.put1
          refine hK.out _ _ (fun _ => ⟨hF1.z4, hF1.z5⟩) ?_
          clear z0 z1 z2 zf zl hF
          clear hK K
          try simp only [Act.put, List.setIfInBounds_toArray, List.set_cons_zero, List.set_cons_succ]
          refine fresh_anyC (fun W => EnB w b4 b5 (w.heap.size + 3) A1 c1 A2 c2 ls (ps.take 40) B1 d1 B2 d2 #[.slice A1 ls.length c1, .int .i64 m, .slice B1 k d1] #[.slice none 0 0, .int .i64 0, .slice none 0 0] #[.slice A1 ls.length c1, .int .i64 m, .slice B1 k d1] #[.slice A2 ls.length c2, .int .i64 m, .slice B2 k d2] W) hF1 ?_
          clear hF1
          rintro W1 hF1
          refine anyL_one 3 rfl (by kernel_rfl) (fun K hK => ?_)
          have z0 : W1.cell? ⟨w.heap.size + 2, 0, none⟩ = some _ := cell_of_row W1 (w.heap.size + 2) 0 _ _ _ hF1.r2
          have z1 : W1.cell? ⟨w.heap.size + 2, 1, none⟩ = some _ := cell_of_row W1 (w.heap.size + 2) 1 _ _ _ hF1.r2
          have z2 : W1.cell? ⟨w.heap.size + 2, 2, none⟩ = some _ := cell_of_row W1 (w.heap.size + 2) 2 _ _ _ hF1.r2
          have zf : ∀ j, W1.frozen? ⟨w.heap.size + 2, j, none⟩ = false := fun j => by simp [World.frozen?, hF1.r2]
          have zl := lt_of_cell z0
          go_simp
          have hF2 : EnB w b4 b5 (w.heap.size + 3) A1 c1 A2 c2 ls (ps.take 40) B1 d1 B2 d2 #[.slice A1 ls.length c1, .int .i64 m, .slice B1 k d1] #[.slice A2 ls.length c2, .int .i64 m, .slice B2 k d2] #[.slice A1 ls.length c1, .int .i64 m, .slice B1 k d1] #[.slice A2 ls.length c2, .int .i64 m, .slice B2 k d2] _ := hF1.put2
          refine hK.out _ _ (fun _ => ⟨hF2.z4, hF2.z5⟩) ?_
          clear z0 z1 z2 zf zl hF1
          clear hK K
          try simp only [Act.put, List.setIfInBounds_toArray, List.set_cons_zero, List.set_cons_succ]
          refine fresh_anyC (fun W => EnB w b4 b5 (w.heap.size + 3) A1 c1 A2 c2 ls (ps.take 40) B1 d1 B2 d2 #[.slice A1 ls.length c1, .int .i64 m, .slice B1 k d1] #[.slice A2 ls.length c2, .int .i64 m, .slice B2 k d2] #[.slice A1 ls.length c1, .int .i64 m, .slice B1 k d1] #[.slice A2 ls.length c2, .int .i64 m, .slice B2 k d2] W) hF2 ?_
          clear hF2
          rintro W2 hF2
          refine anyC_done (by kernel_rfl) ?_ _
          have hEH := Lib.hid hF2
          clear hF2
          go_wp2_with fail
          have y0 : W2.cell? ⟨w.heap.size + 1, 0, none⟩ = some _ := cell_of_row W2 (w.heap.size + 1) 0 _ _ _ hEH.out.r1
          have y1 : W2.cell? ⟨w.heap.size + 1, 1, none⟩ = some _ := cell_of_row W2 (w.heap.size + 1) 1 _ _ _ hEH.out.r1
          have y2 : W2.cell? ⟨w.heap.size + 1, 2, none⟩ = some _ := cell_of_row W2 (w.heap.size + 1) 2 _ _ _ hEH.out.r1
          have y3 : W2.cell? ⟨w.heap.size + 1 + 1, 0, none⟩ = some _ := cell_of_row W2 (w.heap.size + 2) 0 _ _ _ hEH.out.r2
          have y4 : W2.cell? ⟨w.heap.size + 1 + 1, 1, none⟩ = some _ := cell_of_row W2 (w.heap.size + 2) 1 _ _ _ hEH.out.r2
          have y5 : W2.cell? ⟨w.heap.size + 1 + 1, 2, none⟩ = some _ := cell_of_row W2 (w.heap.size + 2) 2 _ _ _ hEH.out.r2
          refine bodyPost_ret (v := .tuple #[.agg #[.slice A1 ls.length c1, .int .i64 m, .slice B1 k d1], .agg #[.slice A2 ls.length c2, .int .i64 m, .slice B2 k d2]]) (by simp [results, Try.results12, go_sem, y0, y1, y2, y3, y4, y5]) rfl ⟨A1, c1, B1, d1, A2, c2, B2, d2, by rw [hklH.out], ints_of hEH.out.i4.in_, hEH.out.n4.in_, ints_of hEH.out.i5.in_, hEH.out.n5.in_, hEH.out.bw, hEH.out.i4, hEH.out.n4, hEH.out.ap⟩
        case pos =>
          have hj : (k : Int) < (ps.length : Int) := by omega
          by_cases hl4 : k < 40
          case neg =>
            have hj4 : ¬ (k : Int) < 40 := by omega
            have hke : ps.take k = ps.take 40 := by rw [show k = 40 by omega]
            have hke' := Lib.hid hke
            have hF := (hR.out.fin hq1H.out hq2H.out).drew
            rw [hke] at hF
            have hkl : (ps.take 40).length = k := by rw [← hke, List.length_take]; omega
            have hklH := Lib.hid hkl
            have hFH := Lib.hid hF
            clear hkl hke hR hPH hF
            go_upto_region 8 with fail
            clear b2
            refine region_anyC (fun _ => true) (fun W => W.heap[b4]? = some (.cells #[.slice A1 ls.length c1, .int .i64 m, .slice B1 k d1] 31 (0, 0)) ∧ W.heap[b5]? = some (.cells #[.slice A2 ls.length c2, .int .i64 m, .slice B2 k d2] 34 (0, 0))) (by kernel_rfl) ?_
            have hS0 := And.intro hFH.out.z4 hFH.out.z5
            refine anyL_take 0 (v := ?_) rfl (by kernel_rfl) (fun _ _ _ h => h) (Or.inl ⟨by rfl, ?_⟩) hS0 ?_
            rotate_left
            focus (intro W hW; have y0 := cell_of_row W b4 0 _ _ _ hW.1; have y1 := cell_of_row W b4 1 _ _ _ hW.1; have y2 := cell_of_row W b4 2 _ _ _ hW.1; go_simp; try with_reducible rfl)
            simp only [Act.put, List.setIfInBounds_toArray, List.set_cons_zero, List.set_cons_succ]
            refine anyL_take 1 (v := ?_) rfl (by kernel_rfl) (fun _ _ _ h => h) (Or.inl ⟨by rfl, ?_⟩) hS0 ?_
            rotate_left
            focus (intro W hW; have y0 := cell_of_row W b5 0 _ _ _ hW.2; have y1 := cell_of_row W b5 1 _ _ _ hW.2; have y2 := cell_of_row W b5 2 _ _ _ hW.2; go_simp; try with_reducible rfl)
            simp only [Act.put, List.setIfInBounds_toArray, List.set_cons_zero, List.set_cons_succ]
            refine fresh_anyC (fun W => EnB w b4 b5 (w.heap.size + 3) A1 c1 A2 c2 ls (ps.take 40) B1 d1 B2 d2 #[.slice none 0 0, .int .i64 0, .slice none 0 0] #[.slice none 0 0, .int .i64 0, .slice none 0 0] #[.slice A1 ls.length c1, .int .i64 m, .slice B1 k d1] #[.slice A2 ls.length c2, .int .i64 m, .slice B2 k d2] W) hFH.out ?_
            clear hFH hS0
            rintro W hF
            refine anyL_one 2 rfl (by kernel_rfl) (fun K hK => ?_)
            have z0 : W.cell? ⟨w.heap.size + 1, 0, none⟩ = some _ := cell_of_row W (w.heap.size + 1) 0 _ _ _ hF.r1
            have z1 : W.cell? ⟨w.heap.size + 1, 1, none⟩ = some _ := cell_of_row W (w.heap.size + 1) 1 _ _ _ hF.r1
            have z2 : W.cell? ⟨w.heap.size + 1, 2, none⟩ = some _ := cell_of_row W (w.heap.size + 1) 2 _ _ _ hF.r1
            have zf : ∀ j, W.frozen? ⟨w.heap.size + 1, j, none⟩ = false := fun j => by simp [World.frozen?, hF.r1]
            have zl := lt_of_cell z0
            go_simp
            have hF1 : EnB w b4 b5 (w.heap.size + 3) A1 c1 A2 c2 ls (ps.take 40) B1 d1 B2 d2 #[.slice A1 ls.length c1, .int .i64 m, .slice B1 k d1] #[.slice none 0 0, .int .i64 0, .slice none 0 0] #[.slice A1 ls.length c1, .int .i64 m, .slice B1 k d1] #[.slice A2 ls.length c2, .int .i64 m, .slice B2 k d2] _ := hF.put1
            refine hK.out _ _ (fun _ => ⟨hF1.z4, hF1.z5⟩) ?_
            clear z0 z1 z2 zf zl hF
            clear hK K
            try simp only [Act.put, List.setIfInBounds_toArray, List.set_cons_zero, List.set_cons_succ]
            refine fresh_anyC (fun W => EnB w b4 b5 (w.heap.size + 3) A1 c1 A2 c2 ls (ps.take 40) B1 d1 B2 d2 #[.slice A1 ls.length c1, .int .i64 m, .slice B1 k d1] #[.slice none 0 0, .int .i64 0, .slice none 0 0] #[.slice A1 ls.length c1, .int .i64 m, .slice B1 k d1] #[.slice A2 ls.length c2, .int .i64 m, .slice B2 k d2] W) hF1 ?_
            clear hF1
            rintro W1 hF1
            refine anyL_one 3 rfl (by kernel_rfl) (fun K hK => ?_)
            have z0 : W1.cell? ⟨w.heap.size + 2, 0, none⟩ = some _ := cell_of_row W1 (w.heap.size + 2) 0 _ _ _ hF1.r2
            have z1 : W1.cell? ⟨w.heap.size + 2, 1, none⟩ = some _ := cell_of_row W1 (w.heap.size + 2) 1 _ _ _ hF1.r2
            have z2 : W1.cell? ⟨w.heap.size + 2, 2, none⟩ = some _ := cell_of_row W1 (w.heap.size + 2) 2 _ _ _ hF1.r2
            have zf : ∀ j, W1.frozen? ⟨w.heap.size + 2, j, none⟩ = false := fun j => by simp [World.frozen?, hF1.r2]
            have zl := lt_of_cell z0
            go_simp
            have hF2 : EnB w b4 b5 (w.heap.size + 3) A1 c1 A2 c2 ls (ps.take 40) B1 d1 B2 d2 #[.slice A1 ls.length c1, .int .i64 m, .slice B1 k d1] #[.slice A2 ls.length c2, .int .i64 m, .slice B2 k d2] #[.slice A1 ls.length c1, .int .i64 m, .slice B1 k d1] #[.slice A2 ls.length c2, .int .i64 m, .slice B2 k d2] _ := hF1.put2
            refine hK.out _ _ (fun _ => ⟨hF2.z4, hF2.z5⟩) ?_
            clear z0 z1 z2 zf zl hF1
            clear hK K
            try simp only [Act.put, List.setIfInBounds_toArray, List.set_cons_zero, List.set_cons_succ]
            refine fresh_anyC (fun W => EnB w b4 b5 (w.heap.size + 3) A1 c1 A2 c2 ls (ps.take 40) B1 d1 B2 d2 #[.slice A1 ls.length c1, .int .i64 m, .slice B1 k d1] #[.slice A2 ls.length c2, .int .i64 m, .slice B2 k d2] #[.slice A1 ls.length c1, .int .i64 m, .slice B1 k d1] #[.slice A2 ls.length c2, .int .i64 m, .slice B2 k d2] W) hF2 ?_
            clear hF2
            rintro W2 hF2
            refine anyC_done (by kernel_rfl) ?_ _
            have hEH := Lib.hid hF2
            clear hF2
            go_wp2_with fail
            have y0 : W2.cell? ⟨w.heap.size + 1, 0, none⟩ = some _ := cell_of_row W2 (w.heap.size + 1) 0 _ _ _ hEH.out.r1
            have y1 : W2.cell? ⟨w.heap.size + 1, 1, none⟩ = some _ := cell_of_row W2 (w.heap.size + 1) 1 _ _ _ hEH.out.r1
            have y2 : W2.cell? ⟨w.heap.size + 1, 2, none⟩ = some _ := cell_of_row W2 (w.heap.size + 1) 2 _ _ _ hEH.out.r1
            have y3 : W2.cell? ⟨w.heap.size + 1 + 1, 0, none⟩ = some _ := cell_of_row W2 (w.heap.size + 2) 0 _ _ _ hEH.out.r2
            have y4 : W2.cell? ⟨w.heap.size + 1 + 1, 1, none⟩ = some _ := cell_of_row W2 (w.heap.size + 2) 1 _ _ _ hEH.out.r2
            have y5 : W2.cell? ⟨w.heap.size + 1 + 1, 2, none⟩ = some _ := cell_of_row W2 (w.heap.size + 2) 2 _ _ _ hEH.out.r2
            refine bodyPost_ret (v := .tuple #[.agg #[.slice A1 ls.length c1, .int .i64 m, .slice B1 k d1], .agg #[.slice A2 ls.length c2, .int .i64 m, .slice B2 k d2]]) (by simp [results, Try.results12, go_sem, y0, y1, y2, y3, y4, y5]) rfl ⟨A1, c1, B1, d1, A2, c2, B2, d2, by rw [hklH.out], ints_of hEH.out.i4.in_, hEH.out.n4.in_, ints_of hEH.out.i5.in_, hEH.out.n5.in_, hEH.out.bw, hEH.out.i4, hEH.out.n4, hEH.out.ap⟩
          case pos =>
            have hj4 : (k : Int) < 40 := by omega
            obtain ⟨g, off, eN, hgw, _⟩ := (hPH.out w (Below.refl _ _)).at_ hlt
            subst eN
            have hkw : IntKind.i64.wrap ((k : Int) + 1) = (k : Int) + 1 := IntWalk.i64_in _ (by omega)
            have hkwH := Lib.hid hkw
            have hgw := Lib.hid hgw
            clear hkw
            go_upto_region 6 with fail
            clear b2
            refine fresh_world (fun W => LpB w b4 b5 B q1 q2 A1 c1 A2 c2 A0 c0 ls m (some ⟨g, off, none⟩) d0 ps k k B1 d1 B2 d2 W) hR.out ?_
            clear hR
            rintro wx hR
            have hc := (hPH.out wx hR.vb.bw).at_ hlt
            obtain ⟨g', off', eg, hg, hc⟩ := hc
            injection eg with eg
            injection eg with eg1 eg2
            subst eg1 eg2
            have hgB : g < B := by have := hgw.out; have := hR.l4; have := hR.m4; omega
            have hS : wx.cell? ⟨b4, 2, none⟩ = some (.slice B1 k d1) ∧ wx.cell? ⟨w.heap.size, 2, none⟩ = some (.slice (some ⟨g, off, none⟩) ps.length d0) ∧ wx.cell? ⟨g, off + k * 2, none⟩ = some (.int .i64 ps[k].1) ∧ wx.cell? ⟨g, off + k * 2 + 1, none⟩ = some (.int .i64 ps[k].2) := ⟨cell_of_row wx b4 2 _ _ _ hR.z4, hR.vb.i2, hc 0 (by decide), hc 1 (by decide)⟩
            clear hc
            have hS0 : wx.drew.cell? ⟨b4, 2, none⟩ = some (.slice B1 k d1) ∧ wx.drew.cell? ⟨w.heap.size, 2, none⟩ = some (.slice (some ⟨g, off, none⟩) ps.length d0) ∧ wx.drew.cell? ⟨g, off + k * 2, none⟩ = some (.int .i64 ps[k].1) ∧ wx.drew.cell? ⟨g, off + k * 2 + 1, none⟩ = some (.int .i64 ps[k].2) := hS
            have hRH := Lib.hid hR
            have hmB := hR.m4
            have hwB : w.heap.size < B := by have := hR.l4; have := hR.m4; omega
            have hmH := Lib.hid hmB
            have hwH := Lib.hid hwB
            have hgH := Lib.hid hgB
            clear hR hmB hwB hgB hg
            refine region_anyC (fun i => decide (i < 18)) (fun W => W.cell? ⟨b4, 2, none⟩ = some (.slice B1 k d1) ∧ W.cell? ⟨w.heap.size, 2, none⟩ = some (.slice (some ⟨g, off, none⟩) ps.length d0) ∧ W.cell? ⟨g, off + k * 2, none⟩ = some (.int .i64 ps[k].1) ∧ W.cell? ⟨g, off + k * 2 + 1, none⟩ = some (.int .i64 ps[k].2)) (by kernel_rfl) ?_
            refine anyL_take 0 (v := ?_) rfl (by kernel_rfl) (fun _ _ _ h => h) (Or.inl ⟨by rfl, ?_⟩) hS0 ?_
            rotate_left
            focus (intro W hW; obtain ⟨f0, f1, f2, f3⟩ := hW; go_simp; try with_reducible rfl)
            simp only [Act.put, List.setIfInBounds_toArray, List.set_cons_zero, List.set_cons_succ]
            refine anyL_take 1 (v := ?_) rfl (by kernel_rfl) (fun _ _ _ h => h) (Or.inl ⟨by rfl, ?_⟩) hS0 ?_
            rotate_left
            focus (intro W hW; obtain ⟨f0, f1, f2, f3⟩ := hW; go_simp; try with_reducible rfl)
            simp only [Act.put, List.setIfInBounds_toArray, List.set_cons_zero, List.set_cons_succ]
            refine anyL_take 2 (v := ?_) rfl (by kernel_rfl) (fun _ _ _ h => h) (Or.inl ⟨by rfl, ?_⟩) hS0 ?_
            rotate_left
            focus (intro W hW; obtain ⟨f0, f1, f2, f3⟩ := hW; go_simp; try with_reducible rfl)
            simp only [Act.put, List.setIfInBounds_toArray, List.set_cons_zero, List.set_cons_succ]
            refine anyL_take 3 (v := ?_) rfl (by kernel_rfl) (fun _ _ _ h => h) (Or.inl ⟨by rfl, ?_⟩) hS0 ?_
            rotate_left
            focus (intro W hW; obtain ⟨f0, f1, f2, f3⟩ := hW; go_simp; try with_reducible rfl)
            simp only [Act.put, List.setIfInBounds_toArray, List.set_cons_zero, List.set_cons_succ]
            refine anyL_take 4 (v := ?_) rfl (by kernel_rfl) (fun _ _ _ h => h) (Or.inl ⟨by rfl, ?_⟩) hS0 ?_
            rotate_left
            focus (intro W hW; obtain ⟨f0, f1, f2, f3⟩ := hW; go_simp; try with_reducible rfl)
            simp only [Act.put, List.setIfInBounds_toArray, List.set_cons_zero, List.set_cons_succ]
            refine anyL_take 5 (v := ?_) rfl (by kernel_rfl) (fun _ _ _ h => h) (Or.inl ⟨by rfl, ?_⟩) hS0 ?_
            rotate_left
            focus (intro W hW; obtain ⟨f0, f1, f2, f3⟩ := hW; go_simp; try with_reducible rfl)
            simp only [Act.put, List.setIfInBounds_toArray, List.set_cons_zero, List.set_cons_succ]
            refine anyL_take 6 (v := ?_) rfl (by kernel_rfl) (fun _ _ _ h => h) (Or.inl ⟨by rfl, ?_⟩) hS0 ?_
            rotate_left
            focus (intro W hW; obtain ⟨f0, f1, f2, f3⟩ := hW; go_simp; try with_reducible rfl)
            simp only [Act.put, List.setIfInBounds_toArray, List.set_cons_zero, List.set_cons_succ]
            refine anyL_take 7 (v := ?_) rfl (by kernel_rfl) (fun _ _ _ h => h) (Or.inl ⟨by rfl, ?_⟩) hS0 ?_
            rotate_left
            focus (intro W hW; obtain ⟨f0, f1, f2, f3⟩ := hW; go_simp; try with_reducible rfl)
            simp only [Act.put, List.setIfInBounds_toArray, List.set_cons_zero, List.set_cons_succ]
            refine anyL_take 8 (v := ?_) rfl (by kernel_rfl) (fun _ _ _ h => h) (Or.inl ⟨by rfl, ?_⟩) hS0 ?_
            rotate_left
            focus (intro W hW; obtain ⟨f0, f1, f2, f3⟩ := hW; go_simp; try with_reducible rfl)
            simp only [Act.put, List.setIfInBounds_toArray, List.set_cons_zero, List.set_cons_succ]
            refine anyL_take 9 (v := ?_) rfl (by kernel_rfl) (fun _ _ _ h => h) (Or.inl ⟨by rfl, ?_⟩) hS0 ?_
            rotate_left
            focus (intro W hW; obtain ⟨f0, f1, f2, f3⟩ := hW; go_simp; try with_reducible rfl)
            simp only [Act.put, List.setIfInBounds_toArray, List.set_cons_zero, List.set_cons_succ]
            refine anyL_take 10 (v := ?_) rfl (by kernel_rfl) (fun _ _ _ h => h) (Or.inl ⟨by rfl, ?_⟩) hS0 ?_
            rotate_left
            focus (intro W hW; obtain ⟨f0, f1, f2, f3⟩ := hW; go_simp; try with_reducible rfl)
            simp only [Act.put, List.setIfInBounds_toArray, List.set_cons_zero, List.set_cons_succ]
            refine anyL_take 11 (v := ?_) rfl (by kernel_rfl) (fun _ _ _ h => h) (Or.inl ⟨by rfl, ?_⟩) hS0 ?_
            rotate_left
            focus (intro W hW; obtain ⟨f0, f1, f2, f3⟩ := hW; go_simp; try with_reducible rfl)
            simp only [Act.put, List.setIfInBounds_toArray, List.set_cons_zero, List.set_cons_succ]
            refine anyL_take 12 (v := ?_) rfl (by kernel_rfl) (fun _ _ _ h => h) (Or.inl ⟨by rfl, ?_⟩) hS0 ?_
            rotate_left
            focus (intro W hW; obtain ⟨f0, f1, f2, f3⟩ := hW; go_simp; try with_reducible rfl)
            simp only [Act.put, List.setIfInBounds_toArray, List.set_cons_zero, List.set_cons_succ]
            refine anyL_take 13 (v := ?_) rfl (by kernel_rfl) (fun _ _ _ h => h) (Or.inl ⟨by rfl, ?_⟩) hS0 ?_
            rotate_left
            focus (intro W hW; obtain ⟨f0, f1, f2, f3⟩ := hW; go_simp; try with_reducible rfl)
            simp only [Act.put, List.setIfInBounds_toArray, List.set_cons_zero, List.set_cons_succ]
            refine anyL_take 14 (v := ?_) rfl (by kernel_rfl) (fun _ _ _ h => h) (Or.inl ⟨by rfl, ?_⟩) hS0 ?_
            rotate_left
            focus (intro W hW; obtain ⟨f0, f1, f2, f3⟩ := hW; go_simp; try with_reducible rfl)
            simp only [Act.put, List.setIfInBounds_toArray, List.set_cons_zero, List.set_cons_succ]
            refine anyL_one 15 rfl (by kernel_rfl) (fun K hK => ?_)
            go_simp
            have hb1 : Below wx.heap.size wx (wx.drew.alloc (.cells #[.int .i64 ps[k].1, .int .i64 ps[k].2] 48)) := ((Below.refl wx.heap.size wx).drew).alloc (Nat.le_refl _) _
            have hR1 := hRH.out.below hb1
            have hm0 := World.alloc_heap_new wx.drew (.cells #[.int .i64 ps[k].1, .int .i64 ps[k].2] 48)
            have hSA : (wx.drew.alloc (.cells #[.int .i64 ps[k].1, .int .i64 ps[k].2] 48)).cell? ⟨b4, 2, none⟩ = some (.slice B1 k d1) ∧ (wx.drew.alloc (.cells #[.int .i64 ps[k].1, .int .i64 ps[k].2] 48)).cell? ⟨w.heap.size, 2, none⟩ = some (.slice (some ⟨g, off, none⟩) ps.length d0) ∧ (wx.drew.alloc (.cells #[.int .i64 ps[k].1, .int .i64 ps[k].2] 48)).cell? ⟨g, off + k * 2, none⟩ = some (.int .i64 ps[k].1) ∧ (wx.drew.alloc (.cells #[.int .i64 ps[k].1, .int .i64 ps[k].2] 48)).cell? ⟨g, off + k * 2 + 1, none⟩ = some (.int .i64 ps[k].2) := ⟨keepC hS.1 hb1, keepC hS.2.1 hb1, keepC hS.2.2.1 hb1, keepC hS.2.2.2 hb1⟩
            refine hK.out _ _ (fun _ => hSA) ?_
            clear hK K hb1
            try simp only [Act.put, List.setIfInBounds_toArray, List.set_cons_zero, List.set_cons_succ]
            refine fresh_anyC (fun W => LpB w b4 b5 B q1 q2 A1 c1 A2 c2 A0 c0 ls m (some ⟨g, off, none⟩) d0 ps k k B1 d1 B2 d2 W ∧ W.heap[wx.heap.size]? = some (.cells #[.int .i64 ps[k].1, .int .i64 ps[k].2] 48 (0, 0)) ∧ W.cell? ⟨b4, 2, none⟩ = some (.slice B1 k d1) ∧ W.cell? ⟨w.heap.size, 2, none⟩ = some (.slice (some ⟨g, off, none⟩) ps.length d0) ∧ W.cell? ⟨g, off + k * 2, none⟩ = some (.int .i64 ps[k].1) ∧ W.cell? ⟨g, off + k * 2 + 1, none⟩ = some (.int .i64 ps[k].2)) ⟨hR1, hm0, hSA⟩ ?_
            clear hR1 hm0 hSA hS hS0 hRH
            rintro W1 ⟨hR, hm0, hS⟩
            have hm : ∀ j, j < ntE.k → W1.cell? ⟨wx.heap.size, j, none⟩ = (ntE.c ps[k])[j]? := fun j hj => by
              match j, hj with
              | 0, _ => exact cell_of_row W1 wx.heap.size 0 _ _ _ hm0
              | 1, _ => exact cell_of_row W1 wx.heap.size 1 _ _ _ hm0
            have hlen : (ps.take k).length = k := by rw [List.length_take]; omega
            obtain ⟨B1', d1', W2, hrun, hrow, hgr, hor⟩ := Enc.Row.append (E := ntE) (P := Try.prog) Try.underlying29 infoN1 (by decide) (by decide) hR.n4 (m := wx.heap.size) (x := ps[k]) hm (by omega) hR.hB 29
            rw [hlen] at hrun hgr
            rw [List.take_append_getElem hlt] at hrow
            have hbB : Below B W1 W2 := (Below.refl B W1).grown hgr hR.hB (fun q e => (row_own hR.n4 e).2)
            have hS2 : W2.cell? ⟨b4, 2, none⟩ = some (.slice B1 k d1) ∧ W2.cell? ⟨w.heap.size, 2, none⟩ = some (.slice (some ⟨g, off, none⟩) ps.length d0) ∧ W2.cell? ⟨g, off + k * 2, none⟩ = some (.int .i64 ps[k].1) ∧ W2.cell? ⟨g, off + k * 2 + 1, none⟩ = some (.int .i64 ps[k].2) := ⟨(hbB.cell (p := ⟨b4, 2, none⟩) hmH.out).trans hS.1, (hbB.cell (p := ⟨w.heap.size, 2, none⟩) hwH.out).trans hS.2.1, (hbB.cell (p := ⟨g, off + k * 2, none⟩) hgH.out).trans hS.2.2.1, (hbB.cell (p := ⟨g, off + k * 2 + 1, none⟩) hgH.out).trans hS.2.2.2⟩
            refine anyL_one 16 rfl (by kernel_rfl) (fun K hK => ?_)
            refine append_run_step rfl (.tmp 33) (.tmp 47) 29 rfl rfl rfl hrun ?_
            refine hK.out _ _ (fun _ => hS2) ?_
            clear hK K hrun
            try simp only [Act.put, List.setIfInBounds_toArray, List.set_cons_zero, List.set_cons_succ]
            refine anyL_take 17 (v := ?_) rfl (by kernel_rfl) (fun _ _ _ h => h) (Or.inl ⟨by rfl, ?_⟩) hS2 ?_
            rotate_left
            focus (intro W hW; go_simp; try with_reducible rfl)
            simp only [Act.put, List.setIfInBounds_toArray, List.set_cons_zero, List.set_cons_succ]
            have hfin := hR.push4 hlt hrow hgr hor
            have hzf : W2.frozen? ⟨b4, 2, none⟩ = false := by
              have := (hbB.block b4 hmH.out).trans hR.z4
              simp [World.frozen?, this]
            have f0 := hS2.1
            have zl := lt_of_cell f0
            clear hrow hgr hor hR hm hm0 hS hbB hS2 hlen
            refine anyL_one 18 rfl (by kernel_rfl) (fun K hK => ?_)
            go_simp
            refine hK.out _ _ (fun h => absurd h (by decide)) ?_
            clear hK K
            try simp only [Act.put, List.setIfInBounds_toArray, List.set_cons_zero, List.set_cons_succ]
            refine anyC_done (by kernel_rfl) ?_ _
            clear f0 zl hzf hmH hwH hgH
            go_upto_region 7 with fail
            refine fresh_world (fun W => LpB w b4 b5 B q1 q2 A1 c1 A2 c2 A0 c0 ls m (some ⟨g, off, none⟩) d0 ps (k + 1) k B1' d1' B2 d2 W) hfin ?_
            clear hfin
            rintro wx hR
            have hc := (hPH.out wx hR.vb.bw).at_ hlt
            obtain ⟨g', off', eg, hg, hc⟩ := hc
            injection eg with eg
            injection eg with eg1 eg2
            subst eg1 eg2
            have hgB : g < B := by have := hgw.out; have := hR.l4; have := hR.m4; omega
            have hS : wx.cell? ⟨b5, 2, none⟩ = some (.slice B2 k d2) ∧ wx.cell? ⟨w.heap.size, 2, none⟩ = some (.slice (some ⟨g, off, none⟩) ps.length d0) ∧ wx.cell? ⟨g, off + k * 2, none⟩ = some (.int .i64 ps[k].1) ∧ wx.cell? ⟨g, off + k * 2 + 1, none⟩ = some (.int .i64 ps[k].2) := ⟨cell_of_row wx b5 2 _ _ _ hR.z5, hR.vb.i2, hc 0 (by decide), hc 1 (by decide)⟩
            clear hc
            have hS0 : wx.drew.cell? ⟨b5, 2, none⟩ = some (.slice B2 k d2) ∧ wx.drew.cell? ⟨w.heap.size, 2, none⟩ = some (.slice (some ⟨g, off, none⟩) ps.length d0) ∧ wx.drew.cell? ⟨g, off + k * 2, none⟩ = some (.int .i64 ps[k].1) ∧ wx.drew.cell? ⟨g, off + k * 2 + 1, none⟩ = some (.int .i64 ps[k].2) := hS
            have hRH := Lib.hid hR
            have hmB := hR.m5
            have hwB : w.heap.size < B := by have := hR.l4; have := hR.m4; omega
            have hmH := Lib.hid hmB
            have hwH := Lib.hid hwB
            have hgH := Lib.hid hgB
            clear hR hmB hwB hgB hg
            refine region_anyC (fun i => decide (i < 18)) (fun W => W.cell? ⟨b5, 2, none⟩ = some (.slice B2 k d2) ∧ W.cell? ⟨w.heap.size, 2, none⟩ = some (.slice (some ⟨g, off, none⟩) ps.length d0) ∧ W.cell? ⟨g, off + k * 2, none⟩ = some (.int .i64 ps[k].1) ∧ W.cell? ⟨g, off + k * 2 + 1, none⟩ = some (.int .i64 ps[k].2)) (by kernel_rfl) ?_
            refine anyL_take 0 (v := ?_) rfl (by kernel_rfl) (fun _ _ _ h => h) (Or.inl ⟨by rfl, ?_⟩) hS0 ?_
            rotate_left
            focus (intro W hW; obtain ⟨f0, f1, f2, f3⟩ := hW; go_simp; try with_reducible rfl)
            simp only [Act.put, List.setIfInBounds_toArray, List.set_cons_zero, List.set_cons_succ]
            refine anyL_take 1 (v := ?_) rfl (by kernel_rfl) (fun _ _ _ h => h) (Or.inl ⟨by rfl, ?_⟩) hS0 ?_
            rotate_left
            focus (intro W hW; obtain ⟨f0, f1, f2, f3⟩ := hW; go_simp; try with_reducible rfl)
            simp only [Act.put, List.setIfInBounds_toArray, List.set_cons_zero, List.set_cons_succ]
            refine anyL_take 2 (v := ?_) rfl (by kernel_rfl) (fun _ _ _ h => h) (Or.inl ⟨by rfl, ?_⟩) hS0 ?_
            rotate_left
            focus (intro W hW; obtain ⟨f0, f1, f2, f3⟩ := hW; go_simp; try with_reducible rfl)
            simp only [Act.put, List.setIfInBounds_toArray, List.set_cons_zero, List.set_cons_succ]
            refine anyL_take 3 (v := ?_) rfl (by kernel_rfl) (fun _ _ _ h => h) (Or.inl ⟨by rfl, ?_⟩) hS0 ?_
            rotate_left
            focus (intro W hW; obtain ⟨f0, f1, f2, f3⟩ := hW; go_simp; try with_reducible rfl)
            simp only [Act.put, List.setIfInBounds_toArray, List.set_cons_zero, List.set_cons_succ]
            refine anyL_take 4 (v := ?_) rfl (by kernel_rfl) (fun _ _ _ h => h) (Or.inl ⟨by rfl, ?_⟩) hS0 ?_
            rotate_left
            focus (intro W hW; obtain ⟨f0, f1, f2, f3⟩ := hW; go_simp; try with_reducible rfl)
            simp only [Act.put, List.setIfInBounds_toArray, List.set_cons_zero, List.set_cons_succ]
            refine anyL_take 5 (v := ?_) rfl (by kernel_rfl) (fun _ _ _ h => h) (Or.inl ⟨by rfl, ?_⟩) hS0 ?_
            rotate_left
            focus (intro W hW; obtain ⟨f0, f1, f2, f3⟩ := hW; go_simp; try with_reducible rfl)
            simp only [Act.put, List.setIfInBounds_toArray, List.set_cons_zero, List.set_cons_succ]
            refine anyL_take 6 (v := ?_) rfl (by kernel_rfl) (fun _ _ _ h => h) (Or.inl ⟨by rfl, ?_⟩) hS0 ?_
            rotate_left
            focus (intro W hW; obtain ⟨f0, f1, f2, f3⟩ := hW; go_simp; try with_reducible rfl)
            simp only [Act.put, List.setIfInBounds_toArray, List.set_cons_zero, List.set_cons_succ]
            refine anyL_take 7 (v := ?_) rfl (by kernel_rfl) (fun _ _ _ h => h) (Or.inl ⟨by rfl, ?_⟩) hS0 ?_
            rotate_left
            focus (intro W hW; obtain ⟨f0, f1, f2, f3⟩ := hW; go_simp; try with_reducible rfl)
            simp only [Act.put, List.setIfInBounds_toArray, List.set_cons_zero, List.set_cons_succ]
            refine anyL_take 8 (v := ?_) rfl (by kernel_rfl) (fun _ _ _ h => h) (Or.inl ⟨by rfl, ?_⟩) hS0 ?_
            rotate_left
            focus (intro W hW; obtain ⟨f0, f1, f2, f3⟩ := hW; go_simp; try with_reducible rfl)
            simp only [Act.put, List.setIfInBounds_toArray, List.set_cons_zero, List.set_cons_succ]
            refine anyL_take 9 (v := ?_) rfl (by kernel_rfl) (fun _ _ _ h => h) (Or.inl ⟨by rfl, ?_⟩) hS0 ?_
            rotate_left
            focus (intro W hW; obtain ⟨f0, f1, f2, f3⟩ := hW; go_simp; try with_reducible rfl)
            simp only [Act.put, List.setIfInBounds_toArray, List.set_cons_zero, List.set_cons_succ]
            refine anyL_take 10 (v := ?_) rfl (by kernel_rfl) (fun _ _ _ h => h) (Or.inl ⟨by rfl, ?_⟩) hS0 ?_
            rotate_left
            focus (intro W hW; obtain ⟨f0, f1, f2, f3⟩ := hW; go_simp; try with_reducible rfl)
            simp only [Act.put, List.setIfInBounds_toArray, List.set_cons_zero, List.set_cons_succ]
            refine anyL_take 11 (v := ?_) rfl (by kernel_rfl) (fun _ _ _ h => h) (Or.inl ⟨by rfl, ?_⟩) hS0 ?_
            rotate_left
            focus (intro W hW; obtain ⟨f0, f1, f2, f3⟩ := hW; go_simp; try with_reducible rfl)
            simp only [Act.put, List.setIfInBounds_toArray, List.set_cons_zero, List.set_cons_succ]
            refine anyL_take 12 (v := ?_) rfl (by kernel_rfl) (fun _ _ _ h => h) (Or.inl ⟨by rfl, ?_⟩) hS0 ?_
            rotate_left
            focus (intro W hW; obtain ⟨f0, f1, f2, f3⟩ := hW; go_simp; try with_reducible rfl)
            simp only [Act.put, List.setIfInBounds_toArray, List.set_cons_zero, List.set_cons_succ]
            refine anyL_take 13 (v := ?_) rfl (by kernel_rfl) (fun _ _ _ h => h) (Or.inl ⟨by rfl, ?_⟩) hS0 ?_
            rotate_left
            focus (intro W hW; obtain ⟨f0, f1, f2, f3⟩ := hW; go_simp; try with_reducible rfl)
            simp only [Act.put, List.setIfInBounds_toArray, List.set_cons_zero, List.set_cons_succ]
            refine anyL_take 14 (v := ?_) rfl (by kernel_rfl) (fun _ _ _ h => h) (Or.inl ⟨by rfl, ?_⟩) hS0 ?_
            rotate_left
            focus (intro W hW; obtain ⟨f0, f1, f2, f3⟩ := hW; go_simp; try with_reducible rfl)
            simp only [Act.put, List.setIfInBounds_toArray, List.set_cons_zero, List.set_cons_succ]
            refine anyL_one 15 rfl (by kernel_rfl) (fun K hK => ?_)
            go_simp
            have hb1 : Below wx.heap.size wx (wx.drew.alloc (.cells #[.int .i64 ps[k].1, .int .i64 ps[k].2] 106)) := ((Below.refl wx.heap.size wx).drew).alloc (Nat.le_refl _) _
            have hR1 := hRH.out.below hb1
            have hm0 := World.alloc_heap_new wx.drew (.cells #[.int .i64 ps[k].1, .int .i64 ps[k].2] 106)
            have hSA : (wx.drew.alloc (.cells #[.int .i64 ps[k].1, .int .i64 ps[k].2] 106)).cell? ⟨b5, 2, none⟩ = some (.slice B2 k d2) ∧ (wx.drew.alloc (.cells #[.int .i64 ps[k].1, .int .i64 ps[k].2] 106)).cell? ⟨w.heap.size, 2, none⟩ = some (.slice (some ⟨g, off, none⟩) ps.length d0) ∧ (wx.drew.alloc (.cells #[.int .i64 ps[k].1, .int .i64 ps[k].2] 106)).cell? ⟨g, off + k * 2, none⟩ = some (.int .i64 ps[k].1) ∧ (wx.drew.alloc (.cells #[.int .i64 ps[k].1, .int .i64 ps[k].2] 106)).cell? ⟨g, off + k * 2 + 1, none⟩ = some (.int .i64 ps[k].2) := ⟨keepC hS.1 hb1, keepC hS.2.1 hb1, keepC hS.2.2.1 hb1, keepC hS.2.2.2 hb1⟩
            refine hK.out _ _ (fun _ => hSA) ?_
            clear hK K hb1
            try simp only [Act.put, List.setIfInBounds_toArray, List.set_cons_zero, List.set_cons_succ]
            refine fresh_anyC (fun W => LpB w b4 b5 B q1 q2 A1 c1 A2 c2 A0 c0 ls m (some ⟨g, off, none⟩) d0 ps (k + 1) k B1' d1' B2 d2 W ∧ W.heap[wx.heap.size]? = some (.cells #[.int .i64 ps[k].1, .int .i64 ps[k].2] 106 (0, 0)) ∧ W.cell? ⟨b5, 2, none⟩ = some (.slice B2 k d2) ∧ W.cell? ⟨w.heap.size, 2, none⟩ = some (.slice (some ⟨g, off, none⟩) ps.length d0) ∧ W.cell? ⟨g, off + k * 2, none⟩ = some (.int .i64 ps[k].1) ∧ W.cell? ⟨g, off + k * 2 + 1, none⟩ = some (.int .i64 ps[k].2)) ⟨hR1, hm0, hSA⟩ ?_
            clear hR1 hm0 hSA hS hS0 hRH
            rintro W1 ⟨hR, hm0, hS⟩
            have hm : ∀ j, j < ntE.k → W1.cell? ⟨wx.heap.size, j, none⟩ = (ntE.c ps[k])[j]? := fun j hj => by
              match j, hj with
              | 0, _ => exact cell_of_row W1 wx.heap.size 0 _ _ _ hm0
              | 1, _ => exact cell_of_row W1 wx.heap.size 1 _ _ _ hm0
            have hlen : (ps.take k).length = k := by rw [List.length_take]; omega
            obtain ⟨A', cap', W2, hrun, hrow, hgr, hor⟩ := Enc.Row.append (E := ntE) (P := Try.prog) Try.underlying32 infoN2 (by decide) (by decide) hR.n5 (m := wx.heap.size) (x := ps[k]) hm (by omega) hR.hB 32
            rw [hlen] at hrun hgr
            rw [List.take_append_getElem hlt] at hrow
            have hbB : Below B W1 W2 := (Below.refl B W1).grown hgr hR.hB (fun q e => (row_own hR.n5 e).2)
            have hS2 : W2.cell? ⟨b5, 2, none⟩ = some (.slice B2 k d2) ∧ W2.cell? ⟨w.heap.size, 2, none⟩ = some (.slice (some ⟨g, off, none⟩) ps.length d0) ∧ W2.cell? ⟨g, off + k * 2, none⟩ = some (.int .i64 ps[k].1) ∧ W2.cell? ⟨g, off + k * 2 + 1, none⟩ = some (.int .i64 ps[k].2) := ⟨(hbB.cell (p := ⟨b5, 2, none⟩) hmH.out).trans hS.1, (hbB.cell (p := ⟨w.heap.size, 2, none⟩) hwH.out).trans hS.2.1, (hbB.cell (p := ⟨g, off + k * 2, none⟩) hgH.out).trans hS.2.2.1, (hbB.cell (p := ⟨g, off + k * 2 + 1, none⟩) hgH.out).trans hS.2.2.2⟩
            refine anyL_one 16 rfl (by kernel_rfl) (fun K hK => ?_)
            refine append_run_step rfl (.tmp 51) (.tmp 65) 32 rfl rfl rfl hrun ?_
            refine hK.out _ _ (fun _ => hS2) ?_
            clear hK K hrun
            try simp only [Act.put, List.setIfInBounds_toArray, List.set_cons_zero, List.set_cons_succ]
            refine anyL_take 17 (v := ?_) rfl (by kernel_rfl) (fun _ _ _ h => h) (Or.inl ⟨by rfl, ?_⟩) hS2 ?_
            rotate_left
            focus (intro W hW; go_simp; try with_reducible rfl)
            simp only [Act.put, List.setIfInBounds_toArray, List.set_cons_zero, List.set_cons_succ]
            have hfin := hR.push5 hlt hrow hgr hor
            have hzf : W2.frozen? ⟨b5, 2, none⟩ = false := by
              have := (hbB.block b5 hmH.out).trans hR.z5
              simp [World.frozen?, this]
            have f0 := hS2.1
            have zl := lt_of_cell f0
            clear hrow hgr hor hR hm hm0 hS hbB hS2 hlen
            refine anyL_one 18 rfl (by kernel_rfl) (fun K hK => ?_)
            go_simp
            refine hK.out _ _ (fun h => absurd h (by decide)) ?_
            clear hK K
            try simp only [Act.put, List.setIfInBounds_toArray, List.set_cons_zero, List.set_cons_succ]
            refine anyC_done (by kernel_rfl) ?_ _
            clear f0 zl hzf hmH hwH hgH
            have hfinH := Lib.hid hfin
            clear hfin
            have hkw := hkwH.out
            go_wp2_with fail
            go_roundw
            case rel => exact ⟨k + 1, _, _, _, _, by go_num, by omega, by omega, hfinH⟩
            case measure => simp only [intOf]; omega
end Go.Proofs.Ytdnedahbghhpgaa
