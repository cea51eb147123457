/- NotesBack: the walk. -/
import Derived.Test.YtbgkmppngnedlabDoorNtSp
import Derived.Test.YtbgkmppngnedlabDoorNtBp
import Derived.Test.YtbgkmppngnedlabDoorNtSo
import Derived.BigQuiet
namespace Go.Proofs.YtbgkmppngnedlabDoor
open Go.RowKit Rec Go.Maps Crc

def rcE : Enc Rc := ⟨Rc.cellsL, 7, fun _ => rfl, fun x u hu => by
  unfold Rc.cellsL at hu
  simp only [List.mem_cons, List.not_mem_nil, or_false] at hu
  rcases hu with rfl | rfl | rfl | rfl | rfl | rfl | rfl <;> rfl⟩
theorem infRcE : Enc.Inf Tryd.prog 29 7 64 := by unfold Enc.Inf; kernel_rfl
theorem rcIn {W : World} {A : Option Addr} {l : List Rc} (h : rcE.In W A l) : RecsAt W A l := h
theorem rc_cells (W : World) (x : Rc) (t : TypeId) : ∀ j, j < rcE.k → (W.alloc (.cells #[.int .i64 x.k, .int .i64 x.s, .int .i64 x.a, .int .i64 x.b, .int .i64 x.c, .int .i64 x.d, .string x.body] t)).cell? ⟨W.heap.size, j, none⟩ = (rcE.c x)[j]? := fun j hj => by
  rw [World.cell?_alloc_new]
  have h7 : j < 7 := hj
  rcases (by omega : j = 0 ∨ j = 1 ∨ j = 2 ∨ j = 3 ∨ j = 4 ∨ j = 5 ∨ j = 6) with rfl | rfl | rfl | rfl | rfl | rfl | rfl <;> rfl
/-- The notes of NotesBack. -/
def bkN (xs : List Int) (i : Nat) : Nt := ⟨bits .and .i64 (xs.getD i 0) 255, bits .and .i64 (i : Int) 7, zeroB 64⟩
theorem bkN_at {xs : List Int} {i : Nat} (h : i < xs.length) : ∃ r c : Nat, r < 256 ∧ c < 8 ∧ bits .and .i64 xs[i] 255 = (r : Int) ∧ bits .and .i64 (i : Int) 7 = (c : Int) ∧ bkN xs i = ⟨(r : Int), (c : Int), zeroB 64⟩ := by
  obtain ⟨r, hr, e1⟩ := mask_nat2 xs[i] 8 255 rfl (by omega)
  obtain ⟨c, hc, e2⟩ := mask_nat2 (i : Int) 3 7 rfl (by omega)
  refine ⟨r, c, hr, hc, e1, e2, ?_⟩
  unfold bkN
  rw [show xs.getD i 0 = xs[i] from by simp [h]]
  rw [show bits .and .i64 xs[i] 255 = (r : Int) from e1, show bits .and .i64 (i : Int) 7 = (c : Int) from e2]
theorem bk_made {k zn gn r c : Nat} (hk : k ≤ 100) (hz : zn < 1024) (hg : gn < 1024) (hr : r < 256) (hc : c < 8) : mkV (mkR (k : Int) (zn : Int) (gn : Int) ⟨(r : Int), (c : Int), zeroB 64⟩) = (mkR (k : Int) (zn : Int) (gn : Int) ⟨(r : Int), (c : Int), zeroB 64⟩, 0) := by
  unfold mkV
  rw [if_pos (Rec.good_iff.2 ⟨by show (1 ≤ (4:Int) ∧ (4:Int) ≤ 6) ∧ (0 ≤ (k:Int) ∧ (k:Int) ≤ 1099511627776) ∧ (0 ≤ (zn:Int) ∧ (zn:Int) ≤ 65535) ∧ (0 ≤ (r:Int) ∧ (r:Int) ≤ 65535) ∧ (0 ≤ (gn:Int) ∧ (gn:Int) ≤ 1099511627776) ∧ (0 ≤ (c:Int) ∧ (c:Int) ≤ 65535); omega, by show (zeroB 64).size = (nBlocks 4 - 1) * 64; rw [zeroB_size]; rfl⟩)]
theorem wf_nat {n : Nat} (h : n < 5000) : WfI (n : Int) := by
  show (decide (IntKind.i64.min ≤ (n : Int)) && decide ((n : Int) ≤ IntKind.i64.max)) = true
  rw [Bool.and_eq_true, decide_eq_true_eq, decide_eq_true_eq]
  exact ⟨Int.le_trans (by decide) (Int.natCast_nonneg n), Int.le_trans (show (n : Int) ≤ 5000 by omega) (by decide)⟩
set_option maxRecDepth 100000 in
set_option maxHeartbeats 8000000 in
theorem back_law (w : World) (hT : Tab w) (A0 : Option Addr) (c0 : Nat) (xs : List Int) (zone gen : Int) (hI : IntsIn w A0 xs) :
    Calls Tryd.prog 4 #[.slice A0 xs.length c0, .int .i64 zone, .int .i64 gen] w fun e w' => e = .returned (.bool true) ∧ Below w.heap.size w w' := by
  have hL1 := Lib.hid (fun W (hb : Below w.heap.size w W) => hI.below hb)
  have hTH := Lib.hid (fun W (hb : Below w.heap.size w W) => hT.below hb)
  have hspk := Lib.hid (speaks14 w hT)
  have hmkH := Lib.hid mk64
  have hcvH : Hid (∀ (W : World) (g : Nat), BytesAt W g (List.replicate 64 0) → (convert 43 9 (.slice (some ⟨g, 0, none⟩) 64 64)).run Tryd.prog W = .ok (.string (zeroB 64)) W) := Lib.hid (fun W g h => back h (List.length_replicate ..) Tryd.underlying43 Tryd.underlying5 Tryd.underlying9)
  obtain ⟨zn, hzn, em1⟩ := mask_nat2 zone 10 1023 rfl (by omega)
  obtain ⟨gn, hgn, em2⟩ := mask_nat2 gen 10 1023 rfl (by omega)
  have em1 : bits .and .i64 zone 1023 = (zn : Int) := em1
  have em2 : bits .and .i64 gen 1023 = (gn : Int) := em2
  have hznH := Lib.hid hzn
  have hgnH := Lib.hid hgn
  clear hI hT hzn hgn
  go_enter Tryd.func4, Tryd.ntmps4
  go_wp2_with fail
  (with_reducible refine hspk.out.mono ?_)
  rintro e w2 ⟨rfl, hb2⟩
  have hb2H := Lib.hid hb2
  have hR0 : Hid (rcE.Row w2 w.heap.size 29 none 0 (bkL (zn : Int) (gn : Int) (bkN xs) 0)) := Lib.hid (Enc.Row.nil _ _ _)
  clear hspk hb2
  go_wp2_with fail
  clear em1 em2
  go_loopw [7, 8] (fun s i wr => ∃ (k : Nat) (A : Option Addr) (cap : Nat), k ≤ xs.length ∧ k ≤ 100 ∧ i = .int .i64 (k : Int) ∧ s = .slice A k cap ∧ Hid (rcE.Row wr w.heap.size 29 A cap (bkL (zn : Int) (gn : Int) (bkN xs) k)) ∧ Hid (Below w.heap.size w wr)) (fun _ i _ => 100 - (intOf i).toNat)
  case atStart => exact ⟨0, none, 0, Nat.zero_le _, Nat.zero_le _, rfl, rfl, hR0, hb2H⟩
  case round =>
    clear hR0 hb2H
    obtain ⟨k, A, cap, hkl, hk1, rfl, rfl, hR, hB⟩ := hrel
    obtain ⟨t, ht⟩ : ∃ t : Bool, (t = true ↔ (k < xs.length ∧ k < 100)) := ⟨decide (k < xs.length ∧ k < 100), by simp⟩
    have htH := Lib.hid ht
    clear ht
    go_upto_region 6 with fail
    go_cut [28] from 21 to 53 (fun c wx => c = .bool t ∧ wx = wr)
    case first =>
      by_cases hlo : (k : Int) < (xs.length : Int)
      case neg =>
        have hf : t = false := by cases t with
          | false => rfl
          | true => exact absurd (htH.out.1 rfl).1 (by omega)
        subst hf
        go_wp2_with fail
        go_meet
        exact ⟨rfl, rfl⟩
      case pos =>
        have htd : Hid (t = decide ((k : Int) < 100)) := Lib.hid (by
          rw [Bool.eq_iff_iff, htH.out, decide_eq_true_eq]
          omega)
        go_wp2_with fail
        go_meet
        exact ⟨by rw [htd.out], rfl⟩
    case rest =>
      obtain ⟨rfl, rfl⟩ := hcut
      cases t with
      | true =>
        obtain ⟨hlo, hl100⟩ := htH.out.1 rfl
        clear htH
        have hkw : IntKind.i64.wrap ((k : Int) + 1) = (k : Int) + 1 := IntWalk.i64_in _ (by omega)
        have hkI : (k : Int) < (xs.length : Int) := by omega
        obtain ⟨r, c, hr, hc8, e1, e2, hfk⟩ := bkN_at hlo
        have hmdH : Hid (∀ W, Below wc.heap.size wc W → Calls Tryd.prog 12 #[.int .i64 (k : Int), .int .i64 (zn : Int), .int .i64 (gn : Int), .agg #[.int .i64 (r : Int), .int .i64 (c : Int), .string (zeroB 64)]] W _) := Lib.hid (fun W hb => make_any W (hTH.out W (bmore hB.out hb)) (k : Int) (zn : Int) (gn : Int) ⟨(r : Int), (c : Int), zeroB 64⟩)
        rw [bk_made (by omega) hznH.out hgnH.out hr hc8] at hmdH
        have hsu := Lib.hid (bkL_succ (zn : Int) (gn : Int) (bkN xs) k)
        rw [hfk] at hsu
        have hlk := Lib.hid (bkL_len (zn : Int) (gn : Int) (bkN xs) k)
        obtain ⟨g, off, rfl, hgl, x0⟩ := (hL1.out wc hB.out).at_ hlo
        have hcell : Hid (∀ W, Below wc.heap.size wc W → W.cell? ⟨g, off + k, none⟩ = some (.int .i64 xs[k])) := Lib.hid (fun W hb => (hb.cell hgl).trans x0)
        clear hfk x0 hgl
        generalize bkL (zn : Int) (gn : Int) (bkN xs) k = lk at hR hsu hlk
        generalize mkR (k : Int) (zn : Int) (gn : Int) ⟨(r : Int), (c : Int), zeroB 64⟩ = y at hmdH hsu
        generalize xs[k] = x at e1 hcell
        generalize zeroB 64 = z at hcvH hmdH
        go_upto_region 8 with fail
        go_cut [9, 10] from 31 to 53 (fun p e wx => ∃ b, p = .pointer (some ⟨b, 0, none⟩) ∧ e = .int .i64 0 ∧ Hid (RcW wx b y ∧ Below wc.heap.size wc wx))
        case first =>
          refine region_anyC (fun _ => true) (fun W => Below wc.heap.size wc W) (by kernel_rfl) ?_
          have hS : Below wc.heap.size wc wc.drew := (Below.refl _ _).drew
          generalize wc.drew = wd at hS ⊢
          refine anyL_take 0 (v := ?_) rfl (by kernel_rfl) (fun _ _ _ h => h) (Or.inl ⟨by rfl, ?_⟩) hS ?_
          rotate_left
          focus (intro W hW; go_simp; try with_reducible rfl)
          simp only [Act.put, List.setIfInBounds_toArray, List.set_cons_zero, List.set_cons_succ]
          refine anyL_take 1 (v := ?_) rfl (by kernel_rfl) (fun _ _ _ h => h) (Or.inl ⟨by rfl, ?_⟩) hS ?_
          rotate_left
          focus (intro W hW; go_simp; try with_reducible rfl)
          simp only [Act.put, List.setIfInBounds_toArray, List.set_cons_zero, List.set_cons_succ]
          refine anyL_take 2 (v := ?_) rfl (by kernel_rfl) (fun _ _ _ h => h) (Or.inl ⟨by rfl, ?_⟩) hS ?_
          rotate_left
          focus (intro W hW; go_simp; try with_reducible rfl)
          simp only [Act.put, List.setIfInBounds_toArray, List.set_cons_zero, List.set_cons_succ]
          refine anyL_take 3 (v := ?_) rfl (by kernel_rfl) (fun _ _ _ h => h) (Or.inl ⟨by rfl, ?_⟩) hS ?_
          rotate_left
          focus (intro W hW; go_simp; try with_reducible rfl)
          simp only [Act.put, List.setIfInBounds_toArray, List.set_cons_zero, List.set_cons_succ]
          refine anyL_take 4 (v := ?_) rfl (by kernel_rfl) (fun _ _ _ h => h) (Or.inl ⟨by rfl, ?_⟩) hS ?_
          rotate_left
          focus (intro W hW; go_simp; try with_reducible rfl)
          simp only [Act.put, List.setIfInBounds_toArray, List.set_cons_zero, List.set_cons_succ]
          refine anyL_take 5 (v := ?_) rfl (by kernel_rfl) (fun _ _ _ h => h) (Or.inl ⟨by rfl, ?_⟩) hS ?_
          rotate_left
          focus (intro W hW; go_simp; try with_reducible rfl)
          simp only [Act.put, List.setIfInBounds_toArray, List.set_cons_zero, List.set_cons_succ]
          refine anyL_take 6 (v := ?_) rfl (by kernel_rfl) (fun _ _ _ h => h) (Or.inl ⟨by rfl, ?_⟩) hS ?_
          rotate_left
          focus (intro W hW; have hc := hcell.out W hW; go_simp; try with_reducible rfl)
          simp only [Act.put, List.setIfInBounds_toArray, List.set_cons_zero, List.set_cons_succ]
          refine anyL_take 7 (v := ?_) rfl (by kernel_rfl) (fun _ _ _ h => h) (Or.inl ⟨by rfl, ?_⟩) hS ?_
          rotate_left
          focus (intro W hW; go_simp; try with_reducible rfl)
          simp only [Act.put, List.setIfInBounds_toArray, List.set_cons_zero, List.set_cons_succ]
          refine anyL_take 8 (v := ?_) rfl (by kernel_rfl) (fun _ _ _ h => h) (Or.inl ⟨by rfl, ?_⟩) hS ?_
          rotate_left
          focus (intro W hW; go_simp; try with_reducible rfl)
          simp only [Act.put, List.setIfInBounds_toArray, List.set_cons_zero, List.set_cons_succ]
          refine anyL_take 9 (v := ?_) rfl (by kernel_rfl) (fun _ _ _ h => h) (Or.inl ⟨by rfl, ?_⟩) hS ?_
          rotate_left
          focus (intro W hW; go_simp; try with_reducible rfl)
          simp only [Act.put, List.setIfInBounds_toArray, List.set_cons_zero, List.set_cons_succ]
          refine anyL_two 10 17 rfl rfl (by kernel_rfl) (fun K hK => ?_) (fun K hK => ?_)
          case refine_1 =>
            have hmk := hmkH.out wd
            go_simp
            have ha := (Below.refl wd.heap.size wd).alloc (Nat.le_refl _) (.cells (madeCells #[.int .u8 0] 64) 5)
            have hS' : Below wc.heap.size wc (wd.alloc (.cells (madeCells #[.int .u8 0] 64) 5)) := bmore hS ha
            have hZ := zeros_at wd 64
            generalize wd.alloc (.cells (madeCells #[.int .u8 0] 64) 5) = wdx at hS' hZ ⊢
            generalize wd.heap.size = sz at hZ ⊢
            refine hK.out _ _ (fun _ => hS') ?_
            clear hK K hS ha hmk
            have hS := hS'
            clear hS'
            try simp only [Act.put, List.setIfInBounds_toArray, List.set_cons_zero, List.set_cons_succ]
            refine anyL_two 11 17 rfl rfl (by kernel_rfl) (fun K hK => ?_) (fun K hK => ?_)
            case refine_1 =>
              have hcv := hcvH.out wdx sz hZ
              go_simp
              refine hK.out _ _ (fun _ => hS) ?_
              clear hK K hcv hZ
              try simp only [Act.put, List.setIfInBounds_toArray, List.set_cons_zero, List.set_cons_succ]
              refine anyL_take 12 (v := ?_) rfl (by kernel_rfl) (fun _ _ _ h => h) (Or.inl ⟨by rfl, ?_⟩) hS ?_
              rotate_left
              focus (intro W hW; go_simp; try with_reducible rfl)
              simp only [Act.put, List.setIfInBounds_toArray, List.set_cons_zero, List.set_cons_succ]
              refine anyL_two 13 17 rfl rfl (by kernel_rfl) (fun K hK => ?_) (fun K hK => ?_)
              case refine_1 =>
                go_simp
                (with_reducible refine (hmdH.out wdx hS).mono ?_)
                rintro e' wdxx ⟨rfl, hb⟩
                have hS' : Below wc.heap.size wc wdxx := bmore hS hb
                refine hK.out _ _ (fun _ => hS') ?_
                clear hK K hS hb
                have hS := hS'
                clear hS'
                refine anyL_take 14 (v := ?_) rfl (by kernel_rfl) (fun _ _ _ h => h) (Or.inl ⟨by rfl, ?_⟩) hS ?_
                rotate_left
                focus (intro W hW; go_simp; try with_reducible rfl)
                simp only [Act.put, List.setIfInBounds_toArray, List.set_cons_zero, List.set_cons_succ]
                refine anyL_take 15 (v := ?_) rfl (by kernel_rfl) (fun _ _ _ h => h) (Or.inl ⟨by rfl, ?_⟩) hS ?_
                rotate_left
                focus (intro W hW; go_simp; try with_reducible rfl)
                simp only [Act.put, List.setIfInBounds_toArray, List.set_cons_zero, List.set_cons_succ]
                refine anyL_take 16 (v := ?_) rfl (by kernel_rfl) (fun _ _ _ h => h) (Or.inl ⟨by rfl, ?_⟩) hS ?_
                rotate_left
                focus (intro W hW; go_simp; try with_reducible rfl)
                simp only [Act.put, List.setIfInBounds_toArray, List.set_cons_zero, List.set_cons_succ]
                refine anyL_one 17 rfl (by kernel_rfl) (fun K hK => ?_)
                go_simp
                have ha := (Below.refl wdxx.heap.size wdxx).alloc (Nat.le_refl _) (.cells #[.int .i64 0, .int .i64 0, .int .i64 0, .int .i64 0, .int .i64 0, .int .i64 0, .string ⟨#[]⟩] 29)
                have hS' : Below wc.heap.size wc (wdxx.alloc (.cells #[.int .i64 0, .int .i64 0, .int .i64 0, .int .i64 0, .int .i64 0, .int .i64 0, .string ⟨#[]⟩] 29)) := bmore hS ha
                have hs3 : wc.heap.size ≤ wdxx.heap.size := hS.size
                have hX : RcW (wdxx.alloc (.cells #[.int .i64 0, .int .i64 0, .int .i64 0, .int .i64 0, .int .i64 0, .int .i64 0, .string ⟨#[]⟩] 29)) wdxx.heap.size zR := RcW.new wdxx zR 29
                generalize wdxx.alloc (.cells #[.int .i64 0, .int .i64 0, .int .i64 0, .int .i64 0, .int .i64 0, .int .i64 0, .string ⟨#[]⟩] 29) = wdxxx at hS' hX ⊢
                generalize wdxx.heap.size = s3 at hX hs3 ⊢
                refine hK.out _ _ (fun _ => hS') ?_
                clear hK K hS ha
                have hS := hS'
                clear hS'
                try simp only [Act.put, List.setIfInBounds_toArray, List.set_cons_zero, List.set_cons_succ]
                have hfin := Lib.hid (And.intro (hX.all y) (hS.trans (put_low y hs3)))
                obtain ⟨⟨p0, p1, p2, p3, p4, p5, p6⟩, pf⟩ := hX
                dsimp only [zR] at p0 p1 p2 p3 p4 p5 p6
                refine anyL_one 18 rfl (by kernel_rfl) (fun K hK => ?_)
                go_simp
                refine hK.out _ _ (fun _ => hfin.out.2) ?_
                clear hK K
                refine anyL_one 19 rfl (by kernel_rfl) (fun K hK => ?_)
                go_simp
                refine hK.out _ _ (fun _ => hfin.out.2) ?_
                clear hK K
                try simp only [Act.put, List.setIfInBounds_toArray, List.set_cons_zero, List.set_cons_succ]
                refine anyC_done (by kernel_rfl) ?_ _
                clear p0 p1 p2 p3 p4 p5 p6 pf hS
                go_wp2_with fail
                go_meet
                exact ⟨s3, rfl, rfl, hfin⟩
              case refine_2 =>
                go_simp
                have ha := (Below.refl wdx.heap.size wdx).alloc (Nat.le_refl _) (.cells #[.int .i64 0, .int .i64 0, .int .i64 0, .int .i64 0, .int .i64 0, .int .i64 0, .string ⟨#[]⟩] 29)
                have hS' : Below wc.heap.size wc (wdx.alloc (.cells #[.int .i64 0, .int .i64 0, .int .i64 0, .int .i64 0, .int .i64 0, .int .i64 0, .string ⟨#[]⟩] 29)) := bmore hS ha
                have hs3 : wc.heap.size ≤ wdx.heap.size := hS.size
                have hX : RcW (wdx.alloc (.cells #[.int .i64 0, .int .i64 0, .int .i64 0, .int .i64 0, .int .i64 0, .int .i64 0, .string ⟨#[]⟩] 29)) wdx.heap.size zR := RcW.new wdx zR 29
                generalize wdx.alloc (.cells #[.int .i64 0, .int .i64 0, .int .i64 0, .int .i64 0, .int .i64 0, .int .i64 0, .string ⟨#[]⟩] 29) = wdxx at hS' hX ⊢
                generalize wdx.heap.size = s3 at hX hs3 ⊢
                refine hK.out _ _ (fun _ => hS') ?_
                clear hK K hS ha
                have hS := hS'
                clear hS'
                try simp only [Act.put, List.setIfInBounds_toArray, List.set_cons_zero, List.set_cons_succ]
                refine anyL_one 13 rfl (by kernel_rfl) (fun K hK => ?_)
                go_simp
                (with_reducible refine (hmdH.out wdxx hS).mono ?_)
                rintro e' wdxxx ⟨rfl, hb⟩
                have hS' : Below wc.heap.size wc wdxxx := bmore hS hb
                have hX' := hX.below hb
                clear hX
                have hX := hX'
                clear hX'
                refine hK.out _ _ (fun _ => hS') ?_
                clear hK K hS hb
                have hS := hS'
                clear hS'
                refine anyL_take 14 (v := ?_) rfl (by kernel_rfl) (fun _ _ _ h => h) (Or.inl ⟨by rfl, ?_⟩) hS ?_
                rotate_left
                focus (intro W hW; go_simp; try with_reducible rfl)
                simp only [Act.put, List.setIfInBounds_toArray, List.set_cons_zero, List.set_cons_succ]
                refine anyL_take 15 (v := ?_) rfl (by kernel_rfl) (fun _ _ _ h => h) (Or.inl ⟨by rfl, ?_⟩) hS ?_
                rotate_left
                focus (intro W hW; go_simp; try with_reducible rfl)
                simp only [Act.put, List.setIfInBounds_toArray, List.set_cons_zero, List.set_cons_succ]
                refine anyL_take 16 (v := ?_) rfl (by kernel_rfl) (fun _ _ _ h => h) (Or.inl ⟨by rfl, ?_⟩) hS ?_
                rotate_left
                focus (intro W hW; go_simp; try with_reducible rfl)
                simp only [Act.put, List.setIfInBounds_toArray, List.set_cons_zero, List.set_cons_succ]
                have hfin := Lib.hid (And.intro (hX.all y) (hS.trans (put_low y hs3)))
                obtain ⟨⟨p0, p1, p2, p3, p4, p5, p6⟩, pf⟩ := hX
                dsimp only [zR] at p0 p1 p2 p3 p4 p5 p6
                refine anyL_one 18 rfl (by kernel_rfl) (fun K hK => ?_)
                go_simp
                refine hK.out _ _ (fun _ => hfin.out.2) ?_
                clear hK K
                refine anyL_one 19 rfl (by kernel_rfl) (fun K hK => ?_)
                go_simp
                refine hK.out _ _ (fun _ => hfin.out.2) ?_
                clear hK K
                try simp only [Act.put, List.setIfInBounds_toArray, List.set_cons_zero, List.set_cons_succ]
                refine anyC_done (by kernel_rfl) ?_ _
                clear p0 p1 p2 p3 p4 p5 p6 pf hS
                go_wp2_with fail
                go_meet
                exact ⟨s3, rfl, rfl, hfin⟩
            case refine_2 =>
              go_simp
              have ha := (Below.refl wdx.heap.size wdx).alloc (Nat.le_refl _) (.cells #[.int .i64 0, .int .i64 0, .int .i64 0, .int .i64 0, .int .i64 0, .int .i64 0, .string ⟨#[]⟩] 29)
              have hS' : Below wc.heap.size wc (wdx.alloc (.cells #[.int .i64 0, .int .i64 0, .int .i64 0, .int .i64 0, .int .i64 0, .int .i64 0, .string ⟨#[]⟩] 29)) := bmore hS ha
              have hs3 : wc.heap.size ≤ wdx.heap.size := hS.size
              have hZ' := hZ.below ha
              clear hZ
              have hZ := hZ'
              clear hZ'
              have hX : RcW (wdx.alloc (.cells #[.int .i64 0, .int .i64 0, .int .i64 0, .int .i64 0, .int .i64 0, .int .i64 0, .string ⟨#[]⟩] 29)) wdx.heap.size zR := RcW.new wdx zR 29
              generalize wdx.alloc (.cells #[.int .i64 0, .int .i64 0, .int .i64 0, .int .i64 0, .int .i64 0, .int .i64 0, .string ⟨#[]⟩] 29) = wdxx at hS' hX hZ ⊢
              generalize wdx.heap.size = s3 at hX hs3 ⊢
              refine hK.out _ _ (fun _ => hS') ?_
              clear hK K hS ha
              have hS := hS'
              clear hS'
              try simp only [Act.put, List.setIfInBounds_toArray, List.set_cons_zero, List.set_cons_succ]
              refine anyL_one 11 rfl (by kernel_rfl) (fun K hK => ?_)
              have hcv := hcvH.out wdxx sz hZ
              go_simp
              refine hK.out _ _ (fun _ => hS) ?_
              clear hK K hcv hZ
              try simp only [Act.put, List.setIfInBounds_toArray, List.set_cons_zero, List.set_cons_succ]
              refine anyL_take 12 (v := ?_) rfl (by kernel_rfl) (fun _ _ _ h => h) (Or.inl ⟨by rfl, ?_⟩) hS ?_
              rotate_left
              focus (intro W hW; go_simp; try with_reducible rfl)
              simp only [Act.put, List.setIfInBounds_toArray, List.set_cons_zero, List.set_cons_succ]
              refine anyL_one 13 rfl (by kernel_rfl) (fun K hK => ?_)
              go_simp
              (with_reducible refine (hmdH.out wdxx hS).mono ?_)
              rintro e' wdxxx ⟨rfl, hb⟩
              have hS' : Below wc.heap.size wc wdxxx := bmore hS hb
              have hX' := hX.below hb
              clear hX
              have hX := hX'
              clear hX'
              refine hK.out _ _ (fun _ => hS') ?_
              clear hK K hS hb
              have hS := hS'
              clear hS'
              refine anyL_take 14 (v := ?_) rfl (by kernel_rfl) (fun _ _ _ h => h) (Or.inl ⟨by rfl, ?_⟩) hS ?_
              rotate_left
              focus (intro W hW; go_simp; try with_reducible rfl)
              simp only [Act.put, List.setIfInBounds_toArray, List.set_cons_zero, List.set_cons_succ]
              refine anyL_take 15 (v := ?_) rfl (by kernel_rfl) (fun _ _ _ h => h) (Or.inl ⟨by rfl, ?_⟩) hS ?_
              rotate_left
              focus (intro W hW; go_simp; try with_reducible rfl)
              simp only [Act.put, List.setIfInBounds_toArray, List.set_cons_zero, List.set_cons_succ]
              refine anyL_take 16 (v := ?_) rfl (by kernel_rfl) (fun _ _ _ h => h) (Or.inl ⟨by rfl, ?_⟩) hS ?_
              rotate_left
              focus (intro W hW; go_simp; try with_reducible rfl)
              simp only [Act.put, List.setIfInBounds_toArray, List.set_cons_zero, List.set_cons_succ]
              have hfin := Lib.hid (And.intro (hX.all y) (hS.trans (put_low y hs3)))
              obtain ⟨⟨p0, p1, p2, p3, p4, p5, p6⟩, pf⟩ := hX
              dsimp only [zR] at p0 p1 p2 p3 p4 p5 p6
              refine anyL_one 18 rfl (by kernel_rfl) (fun K hK => ?_)
              go_simp
              refine hK.out _ _ (fun _ => hfin.out.2) ?_
              clear hK K
              refine anyL_one 19 rfl (by kernel_rfl) (fun K hK => ?_)
              go_simp
              refine hK.out _ _ (fun _ => hfin.out.2) ?_
              clear hK K
              try simp only [Act.put, List.setIfInBounds_toArray, List.set_cons_zero, List.set_cons_succ]
              refine anyC_done (by kernel_rfl) ?_ _
              clear p0 p1 p2 p3 p4 p5 p6 pf hS
              go_wp2_with fail
              go_meet
              exact ⟨s3, rfl, rfl, hfin⟩
          case refine_2 =>
            go_simp
            have ha := (Below.refl wd.heap.size wd).alloc (Nat.le_refl _) (.cells #[.int .i64 0, .int .i64 0, .int .i64 0, .int .i64 0, .int .i64 0, .int .i64 0, .string ⟨#[]⟩] 29)
            have hS' : Below wc.heap.size wc (wd.alloc (.cells #[.int .i64 0, .int .i64 0, .int .i64 0, .int .i64 0, .int .i64 0, .int .i64 0, .string ⟨#[]⟩] 29)) := bmore hS ha
            have hs3 : wc.heap.size ≤ wd.heap.size := hS.size
            have hX : RcW (wd.alloc (.cells #[.int .i64 0, .int .i64 0, .int .i64 0, .int .i64 0, .int .i64 0, .int .i64 0, .string ⟨#[]⟩] 29)) wd.heap.size zR := RcW.new wd zR 29
            generalize wd.alloc (.cells #[.int .i64 0, .int .i64 0, .int .i64 0, .int .i64 0, .int .i64 0, .int .i64 0, .string ⟨#[]⟩] 29) = wdx at hS' hX ⊢
            generalize wd.heap.size = s3 at hX hs3 ⊢
            refine hK.out _ _ (fun _ => hS') ?_
            clear hK K hS ha
            have hS := hS'
            clear hS'
            try simp only [Act.put, List.setIfInBounds_toArray, List.set_cons_zero, List.set_cons_succ]
            refine anyL_one 10 rfl (by kernel_rfl) (fun K hK => ?_)
            have hmk := hmkH.out wdx
            go_simp
            have ha := (Below.refl wdx.heap.size wdx).alloc (Nat.le_refl _) (.cells (madeCells #[.int .u8 0] 64) 5)
            have hS' : Below wc.heap.size wc (wdx.alloc (.cells (madeCells #[.int .u8 0] 64) 5)) := bmore hS ha
            have hX' := hX.below ha
            clear hX
            have hX := hX'
            clear hX'
            have hZ := zeros_at wdx 64
            generalize wdx.alloc (.cells (madeCells #[.int .u8 0] 64) 5) = wdxx at hS' hX hZ ⊢
            generalize wdx.heap.size = sz at hZ ⊢
            refine hK.out _ _ (fun _ => hS') ?_
            clear hK K hS ha hmk
            have hS := hS'
            clear hS'
            try simp only [Act.put, List.setIfInBounds_toArray, List.set_cons_zero, List.set_cons_succ]
            refine anyL_one 11 rfl (by kernel_rfl) (fun K hK => ?_)
            have hcv := hcvH.out wdxx sz hZ
            go_simp
            refine hK.out _ _ (fun _ => hS) ?_
            clear hK K hcv hZ
            try simp only [Act.put, List.setIfInBounds_toArray, List.set_cons_zero, List.set_cons_succ]
            refine anyL_take 12 (v := ?_) rfl (by kernel_rfl) (fun _ _ _ h => h) (Or.inl ⟨by rfl, ?_⟩) hS ?_
            rotate_left
            focus (intro W hW; go_simp; try with_reducible rfl)
            simp only [Act.put, List.setIfInBounds_toArray, List.set_cons_zero, List.set_cons_succ]
            refine anyL_one 13 rfl (by kernel_rfl) (fun K hK => ?_)
            go_simp
            (with_reducible refine (hmdH.out wdxx hS).mono ?_)
            rintro e' wdxxx ⟨rfl, hb⟩
            have hS' : Below wc.heap.size wc wdxxx := bmore hS hb
            have hX' := hX.below hb
            clear hX
            have hX := hX'
            clear hX'
            refine hK.out _ _ (fun _ => hS') ?_
            clear hK K hS hb
            have hS := hS'
            clear hS'
            refine anyL_take 14 (v := ?_) rfl (by kernel_rfl) (fun _ _ _ h => h) (Or.inl ⟨by rfl, ?_⟩) hS ?_
            rotate_left
            focus (intro W hW; go_simp; try with_reducible rfl)
            simp only [Act.put, List.setIfInBounds_toArray, List.set_cons_zero, List.set_cons_succ]
            refine anyL_take 15 (v := ?_) rfl (by kernel_rfl) (fun _ _ _ h => h) (Or.inl ⟨by rfl, ?_⟩) hS ?_
            rotate_left
            focus (intro W hW; go_simp; try with_reducible rfl)
            simp only [Act.put, List.setIfInBounds_toArray, List.set_cons_zero, List.set_cons_succ]
            refine anyL_take 16 (v := ?_) rfl (by kernel_rfl) (fun _ _ _ h => h) (Or.inl ⟨by rfl, ?_⟩) hS ?_
            rotate_left
            focus (intro W hW; go_simp; try with_reducible rfl)
            simp only [Act.put, List.setIfInBounds_toArray, List.set_cons_zero, List.set_cons_succ]
            have hfin := Lib.hid (And.intro (hX.all y) (hS.trans (put_low y hs3)))
            obtain ⟨⟨p0, p1, p2, p3, p4, p5, p6⟩, pf⟩ := hX
            dsimp only [zR] at p0 p1 p2 p3 p4 p5 p6
            refine anyL_one 18 rfl (by kernel_rfl) (fun K hK => ?_)
            go_simp
            refine hK.out _ _ (fun _ => hfin.out.2) ?_
            clear hK K
            refine anyL_one 19 rfl (by kernel_rfl) (fun K hK => ?_)
            go_simp
            refine hK.out _ _ (fun _ => hfin.out.2) ?_
            clear hK K
            try simp only [Act.put, List.setIfInBounds_toArray, List.set_cons_zero, List.set_cons_succ]
            refine anyC_done (by kernel_rfl) ?_ _
            clear p0 p1 p2 p3 p4 p5 p6 pf hS
            go_wp2_with fail
            go_meet
            exact ⟨s3, rfl, rfl, hfin⟩
        case rest =>
          obtain ⟨b, rfl, rfl, h8⟩ := hcut
          clear hmdH hcell hmkH hcvH e1 e2
          obtain ⟨⟨x0, x1, x2, x3, x4, x5, x6⟩, _⟩ := h8.out.1
          have hB3 := bmore hB.out h8.out.2
          have hR3 := hR.out.below h8.out.2
          have hal := (Below.refl wc.heap.size wc).alloc (Nat.le_refl _) (.cells #[.int .i64 y.k, .int .i64 y.s, .int .i64 y.a, .int .i64 y.b, .int .i64 y.c, .int .i64 y.d, .string y.body] 29)
          have hR4 := hR3.below hal
          have hB4 := bmore hB3 hal
          obtain ⟨A3, cap3, W6, hrun6, hR6, hG6, _⟩ := hR4.append (P := Tryd.prog) Tryd.underlying24 infRcE (by decide) (by decide) (m := wc.heap.size) (x := y) (rc_cells wc y 29) (by rw [hlk.out]; omega) hB4.size 24
          rw [hlk.out] at hrun6
          have hrun6H := Lib.hid hrun6
          have hB6 := Lib.hid (hB4.trans (hR4.grown hG6 hB4.size))
          rw [← hsu.out] at hR6
          have hR6H := Lib.hid hR6
          clear hrun6 hR6 hG6 hR3 hR4 hB3 hB4 hR hB hal h8
          go_wp2_with (at_builtin; refine append_run_wp rfl _ _ _ rfl rfl rfl hrun6H.out ?_; clear hrun6H)
          first
            | exact ⟨⟨k + 1, A3, cap3, by omega, by omega, by go_num, rfl, hR6H, hB6⟩, by simp only [intOf]; omega⟩
            | (go_roundw
               case rel => exact ⟨k + 1, A3, cap3, by omega, by omega, by go_num, rfl, hR6H, hB6⟩
               case measure => simp only [intOf]; omega)
      | false =>
        clear htH
        have hlk := Lib.hid (bkL_len (zn : Int) (gn : Int) (bkN xs) k)
        have hwz := wf_nat (n := zn) (by have := hznH.out; omega)
        have hwg := wf_nat (n := gn) (by have := hgnH.out; omega)
        have hwz1 : WfI ((zn : Int) + 1) := wf_nat (n := zn + 1) (by have := hznH.out; omega)
        have hwg1 : WfI ((gn : Int) + 1) := wf_nat (n := gn + 1) (by have := hgnH.out; omega)
        have hwf := bkL_wf hwz hwg (bkN xs) k
        have o1 := Lib.hid (fun W (hb : Below wc.heap.size wc W) => of_any14 W A cap (bkL (zn : Int) (gn : Int) (bkN xs) k) (zn : Int) (gn : Int) (rcIn (hR.out.below hb).in_) (by rw [hlk.out]; omega) hwf hwz hwg)
        have o2 := Lib.hid (fun W (hb : Below wc.heap.size wc W) => of_any14 W A cap (bkL (zn : Int) (gn : Int) (bkN xs) k) ((zn : Int) + 1) (gn : Int) (rcIn (hR.out.below hb).in_) (by rw [hlk.out]; omega) hwf hwz1 hwg)
        have o3 := Lib.hid (fun W (hb : Below wc.heap.size wc W) => of_any14 W A cap (bkL (zn : Int) (gn : Int) (bkN xs) k) (zn : Int) ((gn : Int) + 1) (rcIn (hR.out.below hb).in_) (by rw [hlk.out]; omega) hwf hwz hwg1)
        unfold OfPost at o1 o2 o3
        rw [bkL_all] at o1
        rw [bkL_none (zn : Int) (gn : Int) (bkN xs) (by show ¬ ((zn : Int) = (zn : Int) + 1 ∧ (gn : Int) = (gn : Int)); omega)] at o2
        rw [bkL_none (zn : Int) (gn : Int) (bkN xs) (by show ¬ ((zn : Int) = (zn : Int) ∧ (gn : Int) = (gn : Int) + 1); omega)] at o3
        obtain ⟨ns, hns⟩ : ∃ ns, (List.range k).map (bkN xs) = ns := ⟨_, rfl⟩
        have hnl : ns.length = k := by rw [← hns]; simp
        have hnj : Hid (∀ j (h : j < ns.length), ns[j] = bkN xs j) := Lib.hid (fun j h => by subst hns; simp)
        rw [hns, hnl, hlk.out] at o1
        rw [hlk.out] at o2 o3
        have hzw : IntKind.i64.wrap ((zn : Int) + 1) = (zn : Int) + 1 := IntWalk.i64_in _ (by have := hznH.out; omega)
        have hgw : IntKind.i64.wrap ((gn : Int) + 1) = (gn : Int) + 1 := IntWalk.i64_in _ (by have := hgnH.out; omega)
        have hnlH := Lib.hid hnl
        clear hns hnl hR hwf hwz hwg hwz1 hwg1 hlk hmkH hcvH hTH hznH hgnH
        go_wp2_with fail
        (with_reducible refine (o1.out wc (Below.refl _ _)).mono ?_)
        rintro e w5 ⟨A5, cap5, rfl, hrow5, hb5⟩
        have hrow5H := Lib.hid hrow5
        have hb5H := Lib.hid hb5
        clear o1 hrow5 hb5
        go_upto_region 13 with fail
        go_cut [78] from 58 to 78 (fun v wx => v = .bool false ∧ Hid (Below w5.heap.size w5 wx))
        case first =>
          go_wp2_with fail
          (with_reducible refine (o2.out w5 hb5H.out).mono ?_)
          rintro e w6 ⟨A6, cap6, rfl, _, hb6⟩
          have hb6H := Lib.hid hb6
          clear hb6
          go_wp2_with fail
          (with_reducible refine (o3.out w6 (bmore hb5H.out hb6H.out)).mono ?_)
          rintro e w7 ⟨A7, cap7, rfl, _, hb7⟩
          have hb7H := Lib.hid hb7
          clear hb7
          go_wp2_with fail
          go_meet
          exact ⟨rfl, Lib.hid (bmore hb6H.out hb7H.out)⟩
        case rest =>
          obtain ⟨rfl, hb7⟩ := hcut
          clear o2 o3 hzw hgw
          have hr7 := Lib.hid (hrow5H.out.below hb7.out).in_
          have hB7 := Lib.hid (bmore (bmore hB.out hb5H.out) hb7.out)
          clear hrow5H hb5H hb7 hB
          generalize wc = w7 at hr7 hB7 ⊢
          go_wp2_with fail
          go_loopw [12] (fun i wr => ∃ (j : Nat), j ≤ k ∧ i = .int .i64 (j : Int) ∧ Hid (Below w7.heap.size w7 wr)) (fun i _ => k - (intOf i).toNat)
          case atStart => exact ⟨0, Nat.zero_le _, rfl, Lib.hid (Below.refl _ _)⟩
          case round =>
            obtain ⟨j, hjk, rfl, hB⟩ := hrel
            by_cases hlo : j < k
            case pos =>
              have hloI : (j : Int) < (k : Int) := by omega
              have hjx : j < xs.length := by omega
              have hxI : (j : Int) < (xs.length : Int) := by omega
              have hkw : IntKind.i64.wrap ((j : Int) + 1) = (j : Int) + 1 := IntWalk.i64_in _ (by omega)
              obtain ⟨r, c, hr, hc8, e1, e2, hfk⟩ := bkN_at hjx
              obtain ⟨g5, o5, rfl, _, n0, n1, _⟩ := nt_at (hr7.out.below hB.out) (i := j) (by rw [hnlH.out]; exact hlo)
              rw [hnj.out j _, hfk] at n0 n1
              obtain ⟨g, off, rfl, _, x0⟩ := (hL1.out wr (bmore hB7.out hB.out)).at_ hjx
              generalize xs[j] = x at e1 x0
              clear hfk
              dsimp only at n0 n1
              go_wp2_with fail
              go_quiet (fail)
              have hB8 := Lib.hid (below_drewN hB.out)
              clear hB e1 e2 n0 n1 x0
              go_wp2_with fail
              first
                | exact ⟨⟨j + 1, by omega, by go_num, hB8.out _⟩, by simp only [intOf]; omega⟩
                | (go_roundw
                   case rel => exact ⟨j + 1, by omega, by go_num, Lib.hid (hB8.out _)⟩
                   case measure => simp only [intOf]; omega)
            case neg =>
              have hnI : ¬ (j : Int) < (k : Int) := by omega
              have hla := Lib.hid (last_any14 sorts wr A5 cap5 ns (hr7.out.below hB.out) (by rw [hnlH.out]; omega) (fun x hx => by
                obtain ⟨i, hi, rfl⟩ := List.getElem_of_mem hx
                rw [hnj.out i hi]
                have hix : i < xs.length := by have := hnlH.out; omega
                obtain ⟨r, c, hr, _, _, _, e⟩ := bkN_at hix
                rw [e]
                exact wf_nat (by omega)))
              unfold SortedPost at hla
              rw [hnlH.out] at hla
              have hB9 := Lib.hid (bmore hB7.out hB.out)
              clear hB hB7 hr7 hnj
              go_wp2_with fail
              (with_reducible refine hla.out.mono ?_)
              rintro e w8 ⟨L, A8, cap8, hLL, rfl, hrow8, hb8⟩
              have hlen := hLL.len
              have hne := hLL.ne
              rw [hnlH.out] at hlen hne
              have hr8 := Lib.hid hrow8.in_
              have hF8 := Lib.hid (bmore hB9.out hb8)
              have hasc := Lib.hid (fun (i j : Nat) (hj : j < L.length) (hij : i < j) => hLL.asc hj hij)
              obtain ⟨m, hm⟩ : ∃ m, L.length = m := ⟨_, rfl⟩
              rw [hm] at hlen hne ⊢
              have hmH := Lib.hid hm
              clear hm hLL hrow8 hb8 hB9 hla hnlH hL1
              go_wp2_with fail
              go_loopw [14] (fun i wr => ∃ (j : Nat), 1 ≤ j ∧ (j ≤ m ∨ j = 1) ∧ i = .int .i64 (j : Int) ∧ Hid (Below w8.heap.size w8 wr)) (fun i _ => m + 1 - (intOf i).toNat)
              case atStart => exact ⟨1, Nat.le_refl _, .inr rfl, rfl, Lib.hid (Below.refl _ _)⟩
              case round =>
                obtain ⟨j, hj1, hjm, rfl, hB⟩ := hrel
                by_cases hlo : j < m
                case pos =>
                  have hloI : (j : Int) < (m : Int) := by omega
                  obtain ⟨q, hq⟩ : ∃ q, q + 1 = j := ⟨j - 1, by omega⟩
                  have hqI : (q : Int) < (m : Int) := by omega
                  have hkw : IntKind.i64.wrap ((j : Int) + 1) = (j : Int) + 1 := IntWalk.i64_in _ (by omega)
                  have hqw : IntKind.i64.wrap ((j : Int) - 1) = (q : Int) := by rw [IntWalk.i64_in _ (by omega)]; omega
                  have hjL : j < L.length := by rw [hmH.out]; exact hlo
                  have hqL : q < L.length := by omega
                  have hab := hasc.out q j hjL (by omega)
                  obtain ⟨g8, o8, e8, _, n0, _, _⟩ := nt_at (hr8.out.below hB.out) hjL
                  obtain ⟨g9, o9, e9, _, q0, _, _⟩ := nt_at (hr8.out.below hB.out) hqL
                  subst e8
                  injection e9 with e9
                  injection e9 with e9 e10
                  subst e9
                  subst e10
                  generalize L[j] = y at n0 hab
                  generalize L[q] = x at q0 hab
                  have hnab : ¬ y.r ≤ x.r := by omega
                  go_wp2_with fail
                  go_quiet (fail)
                  have hB8 := Lib.hid (below_drewN hB.out)
                  clear hB n0 q0
                  go_wp2_with fail
                  first
                    | exact ⟨⟨j + 1, by omega, .inl (by omega), by go_num, hB8.out _⟩, by simp only [intOf]; omega⟩
                    | (go_roundw
                       case rel => exact ⟨j + 1, by omega, .inl (by omega), by go_num, Lib.hid (hB8.out _)⟩
                       case measure => simp only [intOf]; omega)
                case neg =>
                  have hnI2 : ¬ (j : Int) < (m : Int) := by omega
                  have hF := Lib.hid (bmore hF8.out hB.out)
                  clear hB hr8 hasc hF8
                  by_cases hk0 : k = 0
                  case pos =>
                    have hb : ((k : Int) == 0) = true := by simp [hk0]
                    have hk0i : (k : Int) = 0 := by omega
                    clear hk0
                    go_wp2_with fail
                    go_ret
                    exact ⟨rfl, hF.out⟩
                  case neg =>
                    have hb : ((k : Int) == 0) = false := by simp [hk0]
                    have hk0i : ¬ (k : Int) = 0 := by omega
                    have hm0 : (0 : Int) < (m : Int) := by have := hne (by omega); omega
                    have hmk : (m : Int) ≤ (k : Int) := by omega
                    clear hk0
                    go_wp2_with fail
                    go_ret
                    exact ⟨rfl, hF.out⟩
end Go.Proofs.YtbgkmppngnedlabDoor
