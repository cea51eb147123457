/- NotesMake: the walk. -/
import Derived.Test.YtdjdldcpaidmnaaDoorNtSp
import Derived.Test.YtdjdldcpaidmnaaDoorOGd
namespace Go.Proofs.YtdjdldcpaidmnaaDoor
open Go.RowKit Rec Go.Maps Crc

/-- Records compared when they are the same. -/
theorem rr_same (W : World) (x : Rc) : (binOp .eql 29 (.agg #[.int .i64 x.k, .int .i64 x.s, .int .i64 x.a, .int .i64 x.b, .int .i64 x.c, .int .i64 x.d, .string x.body]) (.agg #[.int .i64 x.k, .int .i64 x.s, .int .i64 x.a, .int .i64 x.b, .int .i64 x.c, .int .i64 x.d, .string x.body])).run Tryd.prog W = .ok (.bool true) W := by
  have h1 := (rec_eql W x x).1
  rw [eqR_self] at h1
  exact h1
theorem rf_same (W : World) (x : Rc) : (binOp .eql 30 (.agg #[.int .i64 x.k, .int .i64 x.s, .int .i64 x.a, .int .i64 x.b, .int .i64 x.c, .int .i64 x.d, .string x.body]) (.agg #[.int .i64 x.k, .int .i64 x.s, .int .i64 x.a, .int .i64 x.b, .int .i64 x.c, .int .i64 x.d, .string x.body])).run Tryd.prog W = .ok (.bool true) W := by
  have h1 := (refrec_eql W x x).1
  rw [eqR_self] at h1
  exact h1
structure NmA (w : World) (q0 q1 q2 q3 q4 : Int) (W : World) : Prop where
  a0 : W.cell? ⟨w.heap.size, 0, none⟩ = some (.int .i64 q0)
  a1 : W.cell? ⟨w.heap.size, 1, none⟩ = some (.int .i64 q1)
  a2 : W.cell? ⟨w.heap.size, 2, none⟩ = some (.int .i64 q2)
  a3 : W.cell? ⟨w.heap.size, 3, none⟩ = some (.int .i64 q3)
  a4 : W.cell? ⟨w.heap.size, 4, none⟩ = some (.int .i64 q4)
  bw : Below w.heap.size w W
theorem NmA.below {w W W' : World} {q0 q1 q2 q3 q4 : Int} (h : NmA w q0 q1 q2 q3 q4 W) (hb : Below W.heap.size W W') : NmA w q0 q1 q2 q3 q4 W' := ⟨(hb.cell (lt_of_cell h.a0)).trans h.a0, (hb.cell (lt_of_cell h.a1)).trans h.a1, (hb.cell (lt_of_cell h.a2)).trans h.a2, (hb.cell (lt_of_cell h.a3)).trans h.a3, (hb.cell (lt_of_cell h.a4)).trans h.a4, bmore h.bw hb⟩
theorem NmA.new (w : World) (q0 q1 q2 q3 q4 : Int) (t : TypeId) : NmA w q0 q1 q2 q3 q4 (w.alloc (.cells #[.int .i64 q0, .int .i64 q1, .int .i64 q2, .int .i64 q3, .int .i64 q4] t)) := ⟨by go_simp, by go_simp, by go_simp, by go_simp, by go_simp, (Below.refl _ _).alloc (Nat.le_refl _) _⟩
set_option maxRecDepth 100000 in
set_option maxHeartbeats 4000000 in
theorem make_law (w : World) (hT : Tab w) (q0 q1 q2 q3 q4 : Int) (s : ByteArray) (hs : s.size ≤ maxLen) :
    Calls Tryd.prog 4 #[.agg #[.int .i64 q0, .int .i64 q1, .int .i64 q2, .int .i64 q3, .int .i64 q4], .string s] w fun e w' => e = .returned (.bool true) ∧ Below w.heap.size w w' := by
  have hst := Lib.hid (NmA.new w q0 q1 q2 q3 q4 39)
  have hTH := Lib.hid (fun W (hb : Below w.heap.size w W) => hT.below hb)
  have hsp := Lib.hid (speaks14 w hT)
  have hspk := Lib.hid (fun W (hb : Below w.heap.size w W) => speaks14 W (hTH.out W hb))
  clear hT hsp
  go_enter Tryd.func4, Tryd.ntmps4
  go_upto_region 1 with fail
  refine fresh_world (fun W => NmA w q0 q1 q2 q3 q4 W) hst.out ?_
  clear hst
  rintro W1 h1
  have h1H := Lib.hid h1
  have hsc := Lib.hid (hspk.out W1 h1.bw)
  clear h1 hspk
  go_wp2_with fail
  (with_reducible refine hsc.out.mono ?_)
  rintro e w2 ⟨rfl, hb2⟩
  have h2H := Lib.hid (h1H.out.below hb2)
  clear h1H hsc hb2
  go_upto_region 3 with fail
  obtain ⟨t, ht⟩ : ∃ t : Bool, (t = true ↔ (¬ s.toList.isEmpty = true ∧ (s.size : Int) < 60)) := ⟨decide (¬ s.toList.isEmpty = true ∧ (s.size : Int) < 60), by rw [decide_eq_true_eq]⟩
  have htH := Lib.hid ht
  clear ht
  go_cut [16] (fun c wx => c = .bool t ∧ wx = w2)
  case first =>
    by_cases h0 : s.toList.isEmpty = true
    case pos =>
      have hf : t = false := by cases t with
        | false => rfl
        | true => exact absurd h0 (htH.out.1 rfl).1
      subst hf
      go_wp2_with fail
      go_meet
      exact ⟨rfl, rfl⟩
    case neg =>
      have hf : Hid (decide ((s.size : Int) < 60) = t) := Lib.hid (by
        refine Bool.eq_iff_iff.2 ?_
        rw [htH.out, decide_eq_true_eq]
        exact ⟨fun h => ⟨h0, h⟩, fun h => h.2⟩)
      have hf2 : Hid (decide (s.size < 60) = t) := Lib.hid (by rw [← hf.out]; exact decide_eq_decide.2 (by omega))
      clear htH
      go_wp2_with fail
      go_meet
      first | exact ⟨by rw [hf.out], rfl⟩ | exact ⟨by rw [hf2.out], rfl⟩
  case rest =>
    obtain ⟨rfl, rfl⟩ := hcut
    go_upto_if 16 with fail
    go_cut [1] (fun v1 wx => ∃ p : ByteArray, v1 = .string p ∧ Hid (p.size ≤ maxLen) ∧ Hid (NmA w q0 q1 q2 q3 q4 wx))
    case first =>
      have hsl := hs
      cases t with
      | false =>
        have hsH := Lib.hid hsl
        clear htH hs hsl
        go_wp2_with fail
        go_meet
        exact ⟨s, rfl, hsH, h2H⟩
      | true =>
        have h60 : s.size < 60 := by have := (htH.out.1 rfl).2; omega
        have hmk := mk64
        have hcb := fun W => zeros_text W 64
        have hz : (zeroB 64).size = 64 := zeroB_size 64
        generalize zeroB 64 = z at hcb hz
        have hcat : ¬ 9223372036854775807 < s.size + z.size := by omega
        have hfin := Lib.hid (h2H.out.below ((Below.refl wc.heap.size wc).alloc (Nat.le_refl _) (.cells (madeCells #[.int .u8 0] 64) 5)))
        clear htH hs hsl h2H
        have hxs : ((s ++ z).extract 0 64).size ≤ maxLen := by rw [ByteArray.size_extract, ByteArray.size_append]; unfold maxLen; omega
        have hxH := Lib.hid hxs
        clear hxs
        go_wp2_with fail
        go_meet
        exact ⟨_, rfl, hxH, hfin⟩
    case rest =>
      obtain ⟨p, rfl, hp, hW⟩ := hcut
      clear h2H htH
      by_cases h200 : (200 : Int) < (p.size : Int)
      case pos =>
        have h200n : 200 < p.size := by omega
        have hF := Lib.hid hW.out.bw
        go_wp2_with fail
        go_ret
        exact ⟨rfl, hF.out⟩
      case neg =>
        have h200n : ¬ 200 < p.size := by omega
        have hmc := Lib.hid (make_any wc (hTH.out _ hW.out.bw) q0 q1 q2 ⟨q3, q4, p⟩)
        have hrg := Lib.hid (fun W => refgood_any (mkR q0 q1 q2 ⟨q3, q4, p⟩) W)
        obtain ⟨a0, a1, a2, a3, a4, _⟩ := hW.out
        unfold mkV at hmc
        by_cases hg : Rec.good (mkR q0 q1 q2 ⟨q3, q4, p⟩) = true
        case pos =>
          rw [if_pos hg] at hmc
          rw [hg] at hrg
          have hrs : ∀ W, (binOp .eql 30 (.agg #[.int .i64 4, .int .i64 q0, .int .i64 q1, .int .i64 q3, .int .i64 q2, .int .i64 q4, .string p]) (.agg #[.int .i64 4, .int .i64 q0, .int .i64 q1, .int .i64 q3, .int .i64 q2, .int .i64 q4, .string p])).run Tryd.prog W = .ok (.bool true) W := fun W => rf_same W (mkR q0 q1 q2 ⟨q3, q4, p⟩)
          have hmc2 := Lib.hid (show Calls Tryd.prog 14 #[.int .i64 q0, .int .i64 q1, .int .i64 q2, .agg #[.int .i64 q3, .int .i64 q4, .string p]] wc fun e w' => e = .returned (.tuple #[.agg #[.int .i64 4, .int .i64 q0, .int .i64 q1, .int .i64 q3, .int .i64 q2, .int .i64 q4, .string p], .int .i64 0]) ∧ Below wc.heap.size wc w' from hmc.out)
          have hrg2 := Lib.hid (show ∀ W, Calls Tryd.prog 15 #[.agg #[.int .i64 4, .int .i64 q0, .int .i64 q1, .int .i64 q3, .int .i64 q2, .int .i64 q4, .string p]] W fun e w' => e = .returned (.bool true) ∧ Below W.heap.size W w' from hrg.out)
          clear hmc hrg hg
          go_wp2_with fail
          (with_reducible refine hmc2.out.mono ?_)
          rintro e w3 ⟨rfl, hb3⟩
          have h3 := hW.out.below hb3
          have hN : Hid (NmA w q0 q1 q2 q3 q4 ((w3.alloc (.cells #[.int .i64 4, .int .i64 q0, .int .i64 q1, .int .i64 q3, .int .i64 q2, .int .i64 q4, .string p] 29)).alloc (.cells #[.int .i64 4, .int .i64 q0, .int .i64 q1, .int .i64 q3, .int .i64 q2, .int .i64 q4, .string p] 30)) ∧ RcAt ((w3.alloc (.cells #[.int .i64 4, .int .i64 q0, .int .i64 q1, .int .i64 q3, .int .i64 q2, .int .i64 q4, .string p] 29)).alloc (.cells #[.int .i64 4, .int .i64 q0, .int .i64 q1, .int .i64 q3, .int .i64 q2, .int .i64 q4, .string p] 30)) w3.heap.size ⟨4, q0, q1, q3, q2, q4, p⟩ ∧ RcAt ((w3.alloc (.cells #[.int .i64 4, .int .i64 q0, .int .i64 q1, .int .i64 q3, .int .i64 q2, .int .i64 q4, .string p] 29)).alloc (.cells #[.int .i64 4, .int .i64 q0, .int .i64 q1, .int .i64 q3, .int .i64 q2, .int .i64 q4, .string p] 30)) (w3.heap.size + 1) ⟨4, q0, q1, q3, q2, q4, p⟩) := Lib.hid (by
            have k5 : RcAt (w3.alloc (.cells #[.int .i64 4, .int .i64 q0, .int .i64 q1, .int .i64 q3, .int .i64 q2, .int .i64 q4, .string p] 29)) w3.heap.size ⟨4, q0, q1, q3, q2, q4, p⟩ := RcAt.new w3 ⟨4, q0, q1, q3, q2, q4, p⟩ 29
            have b5 := (Below.refl w3.heap.size w3).alloc (Nat.le_refl _) (.cells #[.int .i64 4, .int .i64 q0, .int .i64 q1, .int .i64 q3, .int .i64 q2, .int .i64 q4, .string p] 29)
            have s5 := World.size_alloc w3 (.cells #[.int .i64 4, .int .i64 q0, .int .i64 q1, .int .i64 q3, .int .i64 q2, .int .i64 q4, .string p] 29)
            generalize w3.alloc (.cells #[.int .i64 4, .int .i64 q0, .int .i64 q1, .int .i64 q3, .int .i64 q2, .int .i64 q4, .string p] 29) = W5 at k5 b5 s5 ⊢
            have k7 : RcAt (W5.alloc (.cells #[.int .i64 4, .int .i64 q0, .int .i64 q1, .int .i64 q3, .int .i64 q2, .int .i64 q4, .string p] 30)) W5.heap.size ⟨4, q0, q1, q3, q2, q4, p⟩ := RcAt.new W5 ⟨4, q0, q1, q3, q2, q4, p⟩ 30
            have b7 := (Below.refl W5.heap.size W5).alloc (Nat.le_refl _) (.cells #[.int .i64 4, .int .i64 q0, .int .i64 q1, .int .i64 q3, .int .i64 q2, .int .i64 q4, .string p] 30)
            rw [s5] at k7
            exact ⟨(h3.below b5).below b7, k5.below b7, k7⟩)
          clear a0 a1 a2 a3 a4 hmc2 hW hb3
          have hlt3 := lt_of_cell h3.a0
          obtain ⟨a0, a1, a2, a3, a4, _⟩ := h3
          go_upto_region 9 with fail
          clear a0 a1 a2 a3 a4
          generalize w3.heap.size = b5 at hN ⊢
          refine fresh_world (fun W => NmA w q0 q1 q2 q3 q4 W ∧ RcAt W b5 ⟨4, q0, q1, q3, q2, q4, p⟩ ∧ RcAt W (b5 + 1) ⟨4, q0, q1, q3, q2, q4, p⟩) hN.out ?_
          clear hN
          rintro w4 ⟨h4, hr5, hr7⟩
          have h4H := Lib.hid h4
          have hr5H := Lib.hid hr5
          have hr7H := Lib.hid hr7
          obtain ⟨x0, x1, x2, x3, x4, x5, x6⟩ := hr7
          clear h4 hr5
          go_wp2_with fail
          (with_reducible refine (hrg2.out _).mono ?_)
          rintro e w5 ⟨rfl, hb5⟩
          have hF := Lib.hid (h4H.out.below hb5).bw
          obtain ⟨y0, y1, y2, y3, y4, y5, y6⟩ := hr5H.out.below hb5
          clear x0 x1 x2 x3 x4 x5 x6
          obtain ⟨x0, x1, x2, x3, x4, x5, x6⟩ := hr7H.out.below hb5
          clear h4H hr5H hr7H hb5 hrg2
          go_wp2_with fail
          go_ret
          exact ⟨rfl, hF.out⟩
        case neg =>
          rw [if_neg hg] at hmc
          rw [Bool.not_eq_true] at hg
          rw [hg] at hrg
          have hrs : ∀ W, (binOp .eql 29 (.agg #[.int .i64 0, .int .i64 0, .int .i64 0, .int .i64 0, .int .i64 0, .int .i64 0, .string ⟨#[]⟩]) (.agg #[.int .i64 0, .int .i64 0, .int .i64 0, .int .i64 0, .int .i64 0, .int .i64 0, .string ⟨#[]⟩])).run Tryd.prog W = .ok (.bool true) W := fun W => rr_same W zR
          have hmc2 := Lib.hid (show Calls Tryd.prog 14 #[.int .i64 q0, .int .i64 q1, .int .i64 q2, .agg #[.int .i64 q3, .int .i64 q4, .string p]] wc fun e w' => e = .returned (.tuple #[.agg #[.int .i64 0, .int .i64 0, .int .i64 0, .int .i64 0, .int .i64 0, .int .i64 0, .string ⟨#[]⟩], .int .i64 1]) ∧ Below wc.heap.size wc w' from hmc.out)
          have hrg2 := Lib.hid (show ∀ W, Calls Tryd.prog 15 #[.agg #[.int .i64 4, .int .i64 q0, .int .i64 q1, .int .i64 q3, .int .i64 q2, .int .i64 q4, .string p]] W fun e w' => e = .returned (.bool false) ∧ Below W.heap.size W w' from hrg.out)
          clear hmc hrg hg
          go_wp2_with fail
          (with_reducible refine hmc2.out.mono ?_)
          rintro e w3 ⟨rfl, hb3⟩
          have h3 := hW.out.below hb3
          have hN : Hid (NmA w q0 q1 q2 q3 q4 ((w3.alloc (.cells #[.int .i64 0, .int .i64 0, .int .i64 0, .int .i64 0, .int .i64 0, .int .i64 0, .string ⟨#[]⟩] 29)).alloc (.cells #[.int .i64 4, .int .i64 q0, .int .i64 q1, .int .i64 q3, .int .i64 q2, .int .i64 q4, .string p] 30)) ∧ RcAt ((w3.alloc (.cells #[.int .i64 0, .int .i64 0, .int .i64 0, .int .i64 0, .int .i64 0, .int .i64 0, .string ⟨#[]⟩] 29)).alloc (.cells #[.int .i64 4, .int .i64 q0, .int .i64 q1, .int .i64 q3, .int .i64 q2, .int .i64 q4, .string p] 30)) w3.heap.size zR ∧ RcAt ((w3.alloc (.cells #[.int .i64 0, .int .i64 0, .int .i64 0, .int .i64 0, .int .i64 0, .int .i64 0, .string ⟨#[]⟩] 29)).alloc (.cells #[.int .i64 4, .int .i64 q0, .int .i64 q1, .int .i64 q3, .int .i64 q2, .int .i64 q4, .string p] 30)) (w3.heap.size + 1) ⟨4, q0, q1, q3, q2, q4, p⟩) := Lib.hid (by
            have k5 : RcAt (w3.alloc (.cells #[.int .i64 0, .int .i64 0, .int .i64 0, .int .i64 0, .int .i64 0, .int .i64 0, .string ⟨#[]⟩] 29)) w3.heap.size zR := RcAt.new w3 zR 29
            have b5 := (Below.refl w3.heap.size w3).alloc (Nat.le_refl _) (.cells #[.int .i64 0, .int .i64 0, .int .i64 0, .int .i64 0, .int .i64 0, .int .i64 0, .string ⟨#[]⟩] 29)
            have s5 := World.size_alloc w3 (.cells #[.int .i64 0, .int .i64 0, .int .i64 0, .int .i64 0, .int .i64 0, .int .i64 0, .string ⟨#[]⟩] 29)
            generalize w3.alloc (.cells #[.int .i64 0, .int .i64 0, .int .i64 0, .int .i64 0, .int .i64 0, .int .i64 0, .string ⟨#[]⟩] 29) = W5 at k5 b5 s5 ⊢
            have k7 : RcAt (W5.alloc (.cells #[.int .i64 4, .int .i64 q0, .int .i64 q1, .int .i64 q3, .int .i64 q2, .int .i64 q4, .string p] 30)) W5.heap.size ⟨4, q0, q1, q3, q2, q4, p⟩ := RcAt.new W5 ⟨4, q0, q1, q3, q2, q4, p⟩ 30
            have b7 := (Below.refl W5.heap.size W5).alloc (Nat.le_refl _) (.cells #[.int .i64 4, .int .i64 q0, .int .i64 q1, .int .i64 q3, .int .i64 q2, .int .i64 q4, .string p] 30)
            rw [s5] at k7
            exact ⟨(h3.below b5).below b7, k5.below b7, k7⟩)
          clear a0 a1 a2 a3 a4 hmc2 hW hb3
          have hlt3 := lt_of_cell h3.a0
          obtain ⟨a0, a1, a2, a3, a4, _⟩ := h3
          go_upto_region 9 with fail
          clear a0 a1 a2 a3 a4
          generalize w3.heap.size = b5 at hN ⊢
          refine fresh_world (fun W => NmA w q0 q1 q2 q3 q4 W ∧ RcAt W b5 zR ∧ RcAt W (b5 + 1) ⟨4, q0, q1, q3, q2, q4, p⟩) hN.out ?_
          clear hN
          rintro w4 ⟨h4, hr5, hr7⟩
          have h4H := Lib.hid h4
          have hr5H := Lib.hid hr5
          obtain ⟨x0, x1, x2, x3, x4, x5, x6⟩ := hr7
          clear h4 hr5
          go_wp2_with fail
          (with_reducible refine (hrg2.out _).mono ?_)
          rintro e w5 ⟨rfl, hb5⟩
          have hF := Lib.hid (h4H.out.below hb5).bw
          obtain ⟨y0, y1, y2, y3, y4, y5, y6⟩ := hr5H.out.below hb5
          dsimp only [zR] at y0 y1 y2 y3 y4 y5 y6
          clear x0 x1 x2 x3 x4 x5 x6 h4H hr5H hb5 hrg2
          go_wp2_with fail
          go_ret
          exact ⟨rfl, hF.out⟩
end Go.Proofs.YtdjdldcpaidmnaaDoor
