/- The law of a write's steps. -/
import Derived.Test.YtpgnajcbahklgaaPlRef
namespace Go.Proofs.Ytpgnajcbahklgaa
open Go.RowKit Pl Tl

/-- What both Writes return. -/
def WPost (t : TypeId) (w : World) (L : List St) (k : Int) (e : Ending) (w' : World) : Prop := ∃ A cap, e = .returned (.tuple #[.slice A L.length cap, .int .i64 k]) ∧ stE.Row w' w.heap.size t A cap L ∧ Below w.heap.size w w'
theorem no_wpost {t : TypeId} {w : World} {k : Int} {e : Ending} {w' : World} (h : NoPost w k e w') : WPost t w [] k e w' := ⟨none, 0, h.1, Enc.Row.nil _ _ _, h.2⟩
/-- Both say the same. -/
theorem writes_any (D Z B O A zone f n : Int) (hz : -9223372036854775808 ≤ zone ∧ zone ≤ 9223372036854775807) (hf : f ≤ 9223372036854775807) (hn : n ≤ 9223372036854775807) :
    ∃ (L : List St) (k : Int), L.length ≤ 8000 ∧ (∀ w, Calls Try.prog 26 #[.agg #[.int .i64 D, .int .i64 Z, .int .i64 B, .int .i64 O, .int .i64 A], .int .i64 zone, .int .i64 f, .int .i64 n] w (WPost 76 w L k)) ∧
      (∀ w, Calls Try.prog 27 #[.agg #[.int .i64 D, .int .i64 Z, .int .i64 B, .int .i64 O, .int .i64 A], .int .i64 zone, .int .i64 f, .int .i64 n] w (WPost 75 w L k)) := by
  cases hok : wrB D Z B O A zone f n with
  | false => exact ⟨[], _, by simp, fun w => (write_no2 D Z B O A zone f n hf hok w).mono fun _ _ h => no_wpost h, fun w => (rwrite_no D Z B O A zone f n hz hn hok w).mono fun _ _ h => no_wpost h⟩
  | true =>
    obtain ⟨wd, z, f', n', hD, rfl, rfl, rfl, hg, hz', hn1, hcap, hw2, hw15, hfn⟩ := wr_yes hok
    refine ⟨steps wd z (f' + n') f' n', 0, ?_, fun w => write_good wd z f' n' D Z B O A hD w hg hz' hn1 hcap, fun w => rwrite_good wd z f' n' D Z B O A hD w hg hz' hn1 hcap⟩
    have := steps_len (w := wd) (z := z) (e := f' + n') n' f'
    omega
theorem rst_eql (w : World) (x y : St) : (binOp .neq 75 (.agg #[.int .i64 x.k, .int .i64 x.s, .int .i64 x.r, .int .i64 x.b, .int .i64 x.c]) (.agg #[.int .i64 y.k, .int .i64 y.s, .int .i64 y.r, .int .i64 y.b, .int .i64 y.c])).run Try.prog w = .ok (.bool (!eqSt x y)) w := by
  obtain ⟨f0, f1, f2, f3, f4, hl, h0, h1, h2, h3, h4⟩ := struct_five (P := Try.prog) (t := 75) (k0 := (3, 0, true)) (k1 := (3, 1, true)) (k2 := (3, 2, true)) (k3 := (3, 3, true)) (k4 := (3, 4, true)) (by kernel_rfl)
  refine (eql_of (by kernel_rfl) (by kernel_rfl) ?_).2
  rw [hl,
    eqF_cons h0 (a := .int .i64 x.k) (b := .int .i64 y.k) (by kernel_rfl) (by kernel_rfl) (run_equalIn_int _ 9998 _ _ .i64 _ _ Try.underlying3),
    eqF_cons h1 (a := .int .i64 x.s) (b := .int .i64 y.s) (by kernel_rfl) (by kernel_rfl) (run_equalIn_int _ 9998 _ _ .i64 _ _ Try.underlying3),
    eqF_cons h2 (a := .int .i64 x.r) (b := .int .i64 y.r) (by kernel_rfl) (by kernel_rfl) (run_equalIn_int _ 9998 _ _ .i64 _ _ Try.underlying3),
    eqF_cons h3 (a := .int .i64 x.b) (b := .int .i64 y.b) (by kernel_rfl) (by kernel_rfl) (run_equalIn_int _ 9998 _ _ .i64 _ _ Try.underlying3),
    eqF_cons h4 (a := .int .i64 x.c) (b := .int .i64 y.c) (by kernel_rfl) (by kernel_rfl) (run_equalIn_int _ 9998 _ _ .i64 _ _ Try.underlying3), eqF_nil]
  unfold eqSt
  generalize (x.k == y.k) = b0
  generalize (x.s == y.s) = b1
  generalize (x.r == y.r) = b2
  generalize (x.b == y.b) = b3
  generalize (x.c == y.c) = b4
  cases b0 <;> cases b1 <;> cases b2 <;> cases b3 <;> cases b4 <;> rfl
theorem rst_at {t : TypeId} {W : World} {base cap : Nat} {A : Option Addr} {l : List St} (h : stE.Row W base t A cap l) {i : Nat} (hi : i < l.length) :
    ∃ g, A = some ⟨g, 0, none⟩ ∧ l.length ≤ cap ∧ W.cell? ⟨g, i * 5, none⟩ = some (.int .i64 l[i].k) ∧ W.cell? ⟨g, i * 5 + 1, none⟩ = some (.int .i64 l[i].s) ∧ W.cell? ⟨g, i * 5 + 2, none⟩ = some (.int .i64 l[i].r) ∧ W.cell? ⟨g, i * 5 + 3, none⟩ = some (.int .i64 l[i].b) ∧ W.cell? ⟨g, i * 5 + 4, none⟩ = some (.int .i64 l[i].c) := by
  obtain ⟨g, e, _, _, hcap, hc, _⟩ := h.at_ hi
  exact ⟨g, e, hcap, hc 0 (by decide), hc 1 (by decide), hc 2 (by decide), hc 3 (by decide), hc 4 (by decide)⟩
/-- Two steps' cells. -/
def TwoSt (W : World) (g g' o : Nat) (x : St) : Prop := W.cell? ⟨g, o, none⟩ = some (.int .i64 x.k) ∧ W.cell? ⟨g, o + 1, none⟩ = some (.int .i64 x.s) ∧ W.cell? ⟨g, o + 2, none⟩ = some (.int .i64 x.r) ∧ W.cell? ⟨g, o + 3, none⟩ = some (.int .i64 x.b) ∧ W.cell? ⟨g, o + 4, none⟩ = some (.int .i64 x.c) ∧
  W.cell? ⟨g', o, none⟩ = some (.int .i64 x.k) ∧ W.cell? ⟨g', o + 1, none⟩ = some (.int .i64 x.s) ∧ W.cell? ⟨g', o + 2, none⟩ = some (.int .i64 x.r) ∧ W.cell? ⟨g', o + 3, none⟩ = some (.int .i64 x.b) ∧ W.cell? ⟨g', o + 4, none⟩ = some (.int .i64 x.c)
set_option maxRecDepth 100000 in
set_option maxHeartbeats 4000000 in
theorem writes_law (D Z B O A zone f n : Int) (w : World) (hz : -9223372036854775808 ≤ zone ∧ zone ≤ 9223372036854775807) (hf : f ≤ 9223372036854775807) (hn : n ≤ 9223372036854775807) :
    Calls Try.prog 7 #[.agg #[.int .i64 D, .int .i64 Z, .int .i64 B, .int .i64 O, .int .i64 A], .int .i64 zone, .agg #[.int .i64 f, .int .i64 n]] w fun e w' => e = .returned (.bool true) ∧ Below w.heap.size w w' := by
  have hsp := Lib.hid (fun W => speaks13 W)
  obtain ⟨L, k, hL8, hw1, hw2⟩ := writes_any D Z B O A zone f n hz hf hn
  have hw1H := Lib.hid hw1
  have hw2H := Lib.hid hw2
  have hB0 : Below w.heap.size w ((w.alloc (.cells #[.int .i64 D, .int .i64 Z, .int .i64 B, .int .i64 O, .int .i64 A] 67)).alloc (.cells #[.int .i64 f, .int .i64 n] 45)) := ((Below.refl _ _).alloc (Nat.le_refl _) _).alloc (by simp) _
  have hs0 : ((w.alloc (.cells #[.int .i64 D, .int .i64 Z, .int .i64 B, .int .i64 O, .int .i64 A] 67)).alloc (.cells #[.int .i64 f, .int .i64 n] 45)).heap.size = w.heap.size + 2 := by simp
  have hG0 := (GeoAt.new w D Z B O A 67).below ((Below.refl _ _).alloc (Nat.le_refl _) (.cells #[.int .i64 f, .int .i64 n] 45))
  have hP0 : ((w.alloc (.cells #[.int .i64 D, .int .i64 Z, .int .i64 B, .int .i64 O, .int .i64 A] 67)).alloc (.cells #[.int .i64 f, .int .i64 n] 45)).cell? ⟨w.heap.size + 1, 0, none⟩ = some (.int .i64 f) ∧ ((w.alloc (.cells #[.int .i64 D, .int .i64 Z, .int .i64 B, .int .i64 O, .int .i64 A] 67)).alloc (.cells #[.int .i64 f, .int .i64 n] 45)).cell? ⟨w.heap.size + 1, 1, none⟩ = some (.int .i64 n) := by
    constructor <;> go_simp
  clear hw1 hw2 hz hf hn
  go_enter Try.func7, Try.ntmps7
  go_upto_region 1 with fail
  generalize (w.alloc (.cells #[.int .i64 D, .int .i64 Z, .int .i64 B, .int .i64 O, .int .i64 A] 67)).alloc (.cells #[.int .i64 f, .int .i64 n] 45) = W0 at hB0 hs0 hG0 hP0 ⊢
  obtain ⟨p0, p1⟩ := hP0
  have hG0H := Lib.hid hG0
  have hB0H := Lib.hid hB0
  clear hG0 hB0
  go_quiet (fail)
  go_wp2_with fail
  (with_reducible refine (hsp.out _).mono ?_)
  rintro e w1 ⟨rfl, hb1⟩
  have hbd := bmore (below_drewN (Below.refl W0.heap.size W0) _) hb1
  have hB1 := bmore hB0H.out hbd
  have hG1 := hG0H.out.below hbd
  have hB1H := Lib.hid hB1
  have hG1H := Lib.hid hG1
  clear hB1 hsp hbd hb1 hG0H hB0H p0 p1 hs0
  obtain ⟨h0, h1, h2, h3, h4, _⟩ := hG1
  go_wp2_with fail
  (with_reducible refine (hw1H.out _).mono ?_)
  rintro e w2 ⟨A1, cap1, rfl, hR1, hb2⟩
  have hG2 := hG1H.out.below hb2
  have hB2 := bmore hB1H.out hb2
  clear h0 h1 h2 h3 h4 hG1H hB1H hb2 hw1H
  obtain ⟨h0, h1, h2, h3, h4, _⟩ := hG2
  go_wp2_with fail
  (with_reducible refine (hw2H.out _).mono ?_)
  rintro e w4 ⟨A2, cap2, rfl, hR2, hb4⟩
  have hB4 := Lib.hid (bmore hB2 hb4)
  have hR1H := Lib.hid (hR1.below hb4)
  have hR2H := Lib.hid hR2
  clear h0 h1 h2 h3 h4 hB2 hb4 hR1 hR2 hw2H
  obtain ⟨nl, hnl⟩ : ∃ nl, L.length = nl := ⟨_, rfl⟩
  rw [hnl] at hL8
  rw [hnl]
  have hnlH := Lib.hid hnl
  have heq := Lib.hid rst_eql
  clear hnl
  go_wp2_with fail
  go_loopw [13] (fun s wr => ∃ (i : Nat), s = .int .i64 (i : Int) ∧ i ≤ nl ∧ Hid (Below w4.heap.size w4 wr)) (fun s _ => nl - (intOf s).toNat)
  case atStart => exact ⟨0, rfl, Nat.zero_le _, Lib.hid (Below.refl _ _)⟩
  case round =>
    obtain ⟨i, rfl, hi, hbr⟩ := hrel
    by_cases hlt : i < nl
    case neg =>
      have hF := Lib.hid (bmore hB4.out hbr.out)
      clear hbr hR1H hR2H hnlH
      go_wp2
      go_ret
      exact ⟨rfl, hF.out⟩
    case pos =>
      have hlt' : i < L.length := by rw [hnlH.out]; exact hlt
      obtain ⟨g, rfl, hcap, a0, a1, a2, a3, a4⟩ := rst_at (hR1H.out.below hbr.out) hlt'
      obtain ⟨g', rfl, hcap', b0, b1, b2, b3, b4⟩ := rst_at (hR2H.out.below hbr.out) hlt'
      rw [hnlH.out] at hcap hcap'
      have hTw : TwoSt wr g g' (i * 5) L[i] := ⟨a0, a1, a2, a3, a4, b0, b1, b2, b3, b4⟩
      obtain ⟨x, hx⟩ : ∃ x, L[i] = x := ⟨_, rfl⟩
      rw [hx] at hTw
      have iw : IntKind.i64.wrap ((i : Int) + 1) = (i : Int) + 1 := IntWalk.i64_in _ (by omega)
      have heqx : ∀ W, (binOp .neq 75 (.agg #[.int .i64 x.k, .int .i64 x.s, .int .i64 x.r, .int .i64 x.b, .int .i64 x.c]) (.agg #[.int .i64 x.k, .int .i64 x.s, .int .i64 x.r, .int .i64 x.b, .int .i64 x.c])).run Try.prog W = .ok (.bool false) W := fun W => by rw [heq.out W x x, eqSt_self]; rfl
      clear a0 a1 a2 a3 a4 b0 b1 b2 b3 b4 hx
      go_upto_region 11 with fail
      have hS0 : TwoSt wr.drew g g' (i * 5) x ∧ Below w4.heap.size w4 wr.drew := ⟨hTw, hbr.out.drew⟩
      refine region_anyC (fun _ => true) (fun W => TwoSt W g g' (i * 5) x ∧ Below w4.heap.size w4 W) (by kernel_rfl) ?_
      refine anyL_take 0 (v := ?_) rfl (by kernel_rfl) (fun _ _ _ h => h) (Or.inl ⟨by rfl, ?_⟩) hS0 ?_
      rotate_left
      focus (intro W hW; go_simp; try with_reducible rfl)
      simp only [Act.put, List.setIfInBounds_toArray, List.set_cons_zero, List.set_cons_succ]
      refine anyL_take 1 (v := ?_) rfl (by kernel_rfl) (fun _ _ _ h => h) (Or.inl ⟨by rfl, ?_⟩) hS0 ?_
      rotate_left
      focus (intro W hW; go_simp; try with_reducible rfl)
      simp only [Act.put, List.setIfInBounds_toArray, List.set_cons_zero, List.set_cons_succ]
      refine anyL_take 2 (v := ?_) rfl (by kernel_rfl) (fun _ _ _ h => h) (Or.inl ⟨by rfl, ?_⟩) hS0 ?_
      rotate_left
      focus (intro W hW; go_simp; try with_reducible rfl)
      simp only [Act.put, List.setIfInBounds_toArray, List.set_cons_zero, List.set_cons_succ]
      refine anyL_take 3 (v := ?_) rfl (by kernel_rfl) (fun _ _ _ h => h) (Or.inl ⟨by rfl, ?_⟩) hS0 ?_
      rotate_left
      focus (intro W hW; obtain ⟨⟨x0, x1, x2, x3, x4, z0, z1, z2, z3, z4⟩, _⟩ := hW; go_simp; try with_reducible rfl)
      simp only [Act.put, List.setIfInBounds_toArray, List.set_cons_zero, List.set_cons_succ]
      refine anyL_take 4 (v := ?_) rfl (by kernel_rfl) (fun _ _ _ h => h) (Or.inl ⟨by rfl, ?_⟩) hS0 ?_
      rotate_left
      focus (intro W hW; go_simp; try with_reducible rfl)
      simp only [Act.put, List.setIfInBounds_toArray, List.set_cons_zero, List.set_cons_succ]
      refine anyL_take 5 (v := ?_) rfl (by kernel_rfl) (fun _ _ _ h => h) (Or.inl ⟨by rfl, ?_⟩) hS0 ?_
      rotate_left
      focus (intro W hW; go_simp; try with_reducible rfl)
      simp only [Act.put, List.setIfInBounds_toArray, List.set_cons_zero, List.set_cons_succ]
      refine anyL_take 6 (v := ?_) rfl (by kernel_rfl) (fun _ _ _ h => h) (Or.inl ⟨by rfl, ?_⟩) hS0 ?_
      rotate_left
      focus (intro W hW; go_simp; try with_reducible rfl)
      simp only [Act.put, List.setIfInBounds_toArray, List.set_cons_zero, List.set_cons_succ]
      refine anyL_take 7 (v := ?_) rfl (by kernel_rfl) (fun _ _ _ h => h) (Or.inl ⟨by rfl, ?_⟩) hS0 ?_
      rotate_left
      focus (intro W hW; obtain ⟨⟨x0, x1, x2, x3, x4, z0, z1, z2, z3, z4⟩, _⟩ := hW; go_simp; try with_reducible rfl)
      simp only [Act.put, List.setIfInBounds_toArray, List.set_cons_zero, List.set_cons_succ]
      refine anyL_take 8 (v := ?_) rfl (by kernel_rfl) (fun _ _ _ h => h) (Or.inl ⟨by rfl, ?_⟩) hS0 ?_
      rotate_left
      focus (intro W hW; have q := heqx W; go_simp; try with_reducible rfl)
      simp only [Act.put, List.setIfInBounds_toArray, List.set_cons_zero, List.set_cons_succ]
      refine anyC_done (by kernel_rfl) ?_ _
      clear hTw
      go_wp2_with fail
      go_roundw
      case rel => exact ⟨i + 1, by go_num, hlt, Lib.hid hbr.out.drew⟩
      case measure => simp [intOf]; omega
end Go.Proofs.Ytpgnajcbahklgaa
