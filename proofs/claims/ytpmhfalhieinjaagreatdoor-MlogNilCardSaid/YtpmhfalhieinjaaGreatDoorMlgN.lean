/- What the law MlogNil does. -/
import Derived.Test.YtpmhfalhieinjaaGreatDoorMlgT
namespace Go.Proofs.YtpmhfalhieinjaaGreatDoor
open Go.RowKit Zon Drv Rec Crc

theorem mappend_nil (x : Rc) (w : World) : Calls Tryz.prog 12 #[.pointer none, .agg #[.int .i64 x.k, .int .i64 x.s, .int .i64 x.a, .int .i64 x.b, .int .i64 x.c, .int .i64 x.d, .string x.body]] w fun e w' => e = .returned (.int .i64 1) ∧ Below w.heap.size w w' := by
  go_enter Tryz.func12, Tryz.ntmps12
  go_wp2
  go_ret
  exact ⟨rfl, (Below.refl _ _).alloc (Nat.le_refl _) _⟩
theorem mroll_nil (v : Value) (w : World) : Calls Tryz.prog 13 #[.pointer none, v] w fun e w' => e = .returned (.int .i64 1) ∧ w = w' := by
  go_enter Tryz.func13, Tryz.ntmps13
  go_wp2
  go_ret
  exact ⟨rfl, rfl⟩
theorem nil_fit : FmOk 2 [] 8 := ⟨rfl, by decide⟩
set_option maxRecDepth 100000 in
set_option maxHeartbeats 4000000 in
theorem mnil_none (x : Int) (hx : ¬ (0 ≤ x ∧ x < ((2 : Nat) : Int))) (w : World) (hT : Tab w) : Calls Tryz.prog 3 #[.int .i64 x] w fun e w' => e = .returned (.bool true) ∧ Below w.heap.size w w' := by
  have hsp := Lib.hid (speaks9 w hT)
  have hmd := Lib.hid (fun W => made_any 2 8 (by decide) (by omega) (by omega) W)
  have hfn := Lib.hid (fun W => format_nil x (.slice none 0 0) W)
  have hon := Lib.hid (fun W => mopen_nil x W)
  have hf := Lib.hid (fun w W K r d (hT : Tab w) (hR : Rig w W K r 2 2 d (mdG 8).D (mdG 8).s) => format_none x none 0 [] hR hx nil_fit hT (.inl rfl) (by decide))
  have ho := Lib.hid (fun w W K r d (hR : Rig w W K r 2 2 d (mdG 8).D (mdG 8).s) => mopen_none x hR hx)
  have hap := Lib.hid (fun W => mappend_nil ⟨3, 0, 0, 0, 0, 0, ⟨#[]⟩⟩ W)
  have hrl := Lib.hid (fun W => mroll_nil (.slice none 0 0) W)
  have hle := Lib.hid (fun W => left_nil W)
  have hwh := Lib.hid (fun W => where_nil W)
  have h0 : (x == 0) = false := beq_false_of_ne (by omega)
  have h1 : (x == 1) = false := beq_false_of_ne (by omega)
  have hTH := Lib.hid hT
  clear hT hx
  go_enter Tryz.func3, Tryz.ntmps3
  go_wp2_with fail
  refine hsp.out.mono ?_
  rintro e w1 ⟨rfl, hb1⟩
  have hb1H := Lib.hid hb1
  clear hb1 hsp
  go_wp2_with fail
  refine (hfn.out _).mono ?_
  rintro e w2 ⟨rfl, rfl⟩
  go_wp2_with fail
  refine (hon.out _).mono ?_
  rintro e w2 ⟨rfl, rfl⟩
  go_wp2_with fail
  refine (hmd.out _).mono ?_
  rintro e w2 ⟨K, r, d, v, rfl, hR⟩
  have hRH := Lib.hid hR
  clear hR hmd hfn hon
  go_wp2_with fail
  refine (hf.out _ _ _ _ _ (hTH.out.below hb1H.out) hRH.out).mono ?_
  rintro e w3 ⟨rfl, hP⟩
  obtain ⟨K3, -, hR3, -⟩ := hP
  have hR3H := Lib.hid hR3
  clear hR3 hf hRH
  go_wp2_with fail
  refine (ho.out _ _ _ _ _ hR3H.out).mono ?_
  rintro e w4 ⟨rfl, rfl⟩
  have hbw := Lib.hid (hb1H.out.trans (hR3H.out.fam.b.mono hb1H.out.size))
  clear ho hR3H hb1H
  go_wp2_with (first | (go_at_call 11; refine (hwh.out _).mono ?_; rintro e w5 ⟨rfl, rfl⟩) | (go_at_call 12; refine (hap.out _).mono ?_; rintro e w5 ⟨rfl, hb5⟩) | (go_at_call 13; refine (hrl.out _).mono ?_; rintro e w5 ⟨rfl, rfl⟩) | (go_at_call 14; refine (hle.out _).mono ?_; rintro e w5 ⟨rfl, rfl⟩))
  go_ret
  exact ⟨rfl, hbw.out.trans (hb5.mono hbw.out.size)⟩
set_option maxRecDepth 100000 in
set_option maxHeartbeats 4000000 in
theorem mnil_some (i : Nat) (hi : i < 2) (w : World) (hT : Tab w) : Calls Tryz.prog 3 #[.int .i64 (i : Int)] w fun e w' => e = .returned (.bool true) ∧ Below w.heap.size w w' := by
  have hsp := Lib.hid (speaks9 w hT)
  have hmd := Lib.hid (fun W => made_any 2 8 (by decide) (by omega) (by omega) W)
  have hfn := Lib.hid (fun W => format_nil (i : Int) (.slice none 0 0) W)
  have hon := Lib.hid (fun W => mopen_nil (i : Int) W)
  have hbk : (blk (begL 1 []) : Int) = 2 := by decide
  have hG := mdG_on 2 (b := 8) (by omega)
  obtain ⟨G', f1, f2, f3, f4, f5, -, -⟩ := fm_on hG hi (rs := []) rfl (by omega)
  have hf := Lib.hid (fun w W K r d (hT : Tab w) (hR : Rig w W K r 2 2 d (mdG 8).D (mdG 8).s) => format_ok i none 0 [] hR (hG.rg (by decide) (c := 0) (by decide)) (by omega) hi (by omega) nil_fit f1 (by rw [f2]) hT (.inl rfl) (by decide))
  rw [f2] at hf
  rw [hbk] at hf f5
  have h4 : G'.s.cnt = 4 := f4
  have ho := Lib.hid (fun w W K r d (hT : Tab w) (hR : Rig w W K r 2 2 d G'.D G'.s) => mopen_any i hR (f3.rg (by omega) (c := 4) (by omega)) (by omega) hi f3.off (f3.d i hi).two hT)
  have hsel := Lib.hid (fun o (h : SelR G' i 2 o) => sel_log f5 h)
  have hap := Lib.hid (fun W => mappend_nil ⟨3, 0, 0, 0, 0, 0, ⟨#[]⟩⟩ W)
  have hrl := Lib.hid (fun W => mroll_nil (.slice none 0 0) W)
  have hle := Lib.hid (fun W => left_nil W)
  have hwh := Lib.hid (fun W => where_nil W)
  have hTH := Lib.hid hT
  have hiH := Lib.hid (show i = 0 ∨ i = 1 by omega)
  clear hT h4 f1 f2 f3 f4 f5 hbk hG hi
  generalize G' = G at hf ho hsel
  clear G'
  unfold FPost at hf
  unfold OpPost at ho
  obtain ⟨ii, hii⟩ : ∃ ii : Int, ii = (i : Int) := ⟨_, rfl⟩
  rw [← hii] at hf ho hfn hon ⊢
  have hth : (ii = 0 ∨ ii = 1) := by have := hiH.out; omega
  have hthH := Lib.hid hth
  clear hii hth hiH
  go_enter Tryz.func3, Tryz.ntmps3
  go_wp2_with fail
  refine hsp.out.mono ?_
  rintro e w1 ⟨rfl, hb1⟩
  have hb1H := Lib.hid hb1
  clear hb1 hsp
  go_wp2_with fail
  refine (hfn.out _).mono ?_
  rintro e w2 ⟨rfl, rfl⟩
  go_wp2_with fail
  refine (hon.out _).mono ?_
  rintro e w2 ⟨rfl, rfl⟩
  go_wp2_with fail
  refine (hmd.out _).mono ?_
  rintro e w2 ⟨K, r, d, v, rfl, hR⟩
  have hRH := Lib.hid hR
  clear hR hmd hfn hon
  go_wp2_with fail
  refine (hf.out _ _ _ _ _ (hTH.out.below hb1H.out) hRH.out).mono ?_
  rintro e w3 ⟨p, K3, rfl, -, hS, -, -⟩
  have hSH := Lib.hid hS
  clear hS hf hRH
  go_wp2_with fail
  refine (ho.out _ _ _ _ _ (hTH.out.below hb1H.out) hSH.out.R).mono ?_
  rintro e w4 ⟨o, K4, lv, rv, hsl, -, hR4, -, hO, rfl⟩
  obtain rfl := hsel.out _ hsl
  obtain ⟨p2, A, cap, rfl, rfl, -⟩ := hO
  have hbw := Lib.hid (hb1H.out.trans (hR4.fam.b.mono hb1H.out.size))
  clear ho hSH hb1H hR4 hsl hsel
  have hl0 : ([] ++ [] : List Rc).length = 0 := rfl
  rw [hl0]
  clear hl0
  rcases hthH.out with rfl | rfl
  · go_wp2_with (first | (go_at_call 11; refine (hwh.out _).mono ?_; rintro e w5 ⟨rfl, rfl⟩) | (go_at_call 12; refine (hap.out _).mono ?_; rintro e w5 ⟨rfl, hb5⟩) | (go_at_call 13; refine (hrl.out _).mono ?_; rintro e w5 ⟨rfl, rfl⟩) | (go_at_call 14; refine (hle.out _).mono ?_; rintro e w5 ⟨rfl, rfl⟩))
    go_ret
    exact ⟨rfl, hbw.out.trans (hb5.mono hbw.out.size)⟩
  · go_wp2_with (first | (go_at_call 11; refine (hwh.out _).mono ?_; rintro e w5 ⟨rfl, rfl⟩) | (go_at_call 12; refine (hap.out _).mono ?_; rintro e w5 ⟨rfl, hb5⟩) | (go_at_call 13; refine (hrl.out _).mono ?_; rintro e w5 ⟨rfl, rfl⟩) | (go_at_call 14; refine (hle.out _).mono ?_; rintro e w5 ⟨rfl, rfl⟩))
    go_ret
    exact ⟨rfl, hbw.out.trans (hb5.mono hbw.out.size)⟩
theorem mlognil_law (x : Int) (w : World) (hT : Tab w) : Calls Tryz.prog 3 #[.int .i64 x] w fun e w' => e = .returned (.bool true) ∧ Below w.heap.size w w' := by
  by_cases hx : 0 ≤ x ∧ x < ((2 : Nat) : Int)
  · obtain ⟨i, rfl⟩ := Int.eq_ofNat_of_zero_le hx.1
    exact mnil_some i (by omega) w hT
  · exact mnil_none x hx w hT
end Go.Proofs.YtpmhfalhieinjaaGreatDoor
