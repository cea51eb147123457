/- The law of the lengths. -/
import Derived.Test.YtpgnajcbahklgaaPlSuL
namespace Go.Proofs.Ytpgnajcbahklgaa
open Go.RowKit Pl Tl

/-- Where one stands among the steps, and what each slot has by then. -/
def LnSt (wd z E : Nat) (L : List St) (i : Nat) (hv : List Int) : Prop :=
  (∃ b, Aft wd z E L i b ∧ hv = lens wd z b) ∨ (∃ b, Mid wd z E L i b ∧ hv = bump (lens wd z b) (sl wd z b)) ∨ (i = L.length ∧ hv = lens wd z E)
theorem LnSt.fin {wd z E : Nat} {L : List St} {i : Nat} {hv : List Int} (h : LnSt wd z E L i hv) (hi : ¬ i < L.length) : hv = lens wd z E := by
  rcases h with ⟨b, h1, h2⟩ | ⟨b, h1, _⟩ | ⟨_, h2⟩
  · rw [← (h1.done hi).1]; exact h2
  · obtain ⟨hlt, _⟩ := h1.next; exact absurd hlt hi
  · exact h2
theorem getD_lens {wd z b : Nat} {s : Int} (h0 : 0 ≤ s) (h1 : s < (wd : Int) + 1) : (lens wd z b).getD s.toNat 0 = len wd z b s := by
  have hi : s.toNat < (lens wd z b).length := by rw [lens_len]; omega
  rw [List.getD_eq_getElem?_getD, List.getElem?_eq_getElem hi]
  have := lens_at (w := wd) (z := z) (b := b) hi
  rw [Int.toNat_of_nonneg h0] at this
  exact this
theorem getD_bump {l : List Int} {s t : Int} (h0 : 0 ≤ s) (ht : 0 ≤ t) (hne : s ≠ t) : (bump l s).getD t.toNat 0 = l.getD t.toNat 0 := by
  unfold bump
  rw [List.getD_eq_getElem?_getD, List.getElem?_set_ne (by omega), ← List.getD_eq_getElem?_getD]
theorem LnSt.next {wd z E : Nat} {L : List St} {i : Nat} {hv : List Int} (h : LnSt wd z E L i hv) (hw : 0 < wd) (hi : i < L.length) :
    (L[i].k ≠ 3 ∧ 0 ≤ L[i].s ∧ L[i].s < (wd : Int) + 1 ∧ L[i].r = hv.getD L[i].s.toNat 0 ∧ hv.length = wd + 1 ∧ 0 ≤ L[i].r ∧ L[i].r ≤ (E : Int) ∧ LnSt wd z E L (i + 1) (bump hv L[i].s)) ∨ (L[i].k = 3 ∧ LnSt wd z E L (i + 1) hv) := by
  rcases h with ⟨b, h1, h2⟩ | ⟨b, h1, h2⟩ | ⟨h1, _⟩
  · obtain ⟨hlt, e1, hn⟩ := h1.next hi
    left
    have hb := sl_bd wd z b
    have hq : b / wd ≤ b := Nat.div_le_self _ _
    rw [e1]
    refine ⟨by show (1 : Int) ≠ 3; decide, hb.1, hb.2, ?_, by rw [h2, lens_len], Int.natCast_nonneg _, ?_, ?_⟩
    · rw [h2]; exact ((getD_lens hb.1 hb.2).trans (len_sl hw)).symm
    · show ((b / wd : Nat) : Int) ≤ (E : Int); omega
    · rcases hn with ⟨h3, h4, _⟩ | h3
      · have hm := Nat.mod_lt b hw
        exact .inl ⟨b + 1, h3, by rw [h2]; exact (lens_next hw (by omega)).symm⟩
      · exact .inr (.inl ⟨b, h3, by rw [h2]; rfl⟩)
  · obtain ⟨_, hlt, hn⟩ := h1.next
    have hq : b / wd ≤ b := Nat.div_le_self _ _
    rcases hn with ⟨e1, e2, h3⟩ | ⟨e1, e2, e3, e4⟩
    · left
      have hb := sl_bd wd z b
      have hp := par_bd wd z (b / wd)
      rw [e1]
      refine ⟨by show (2 : Int) ≠ 3; decide, hp.1, hp.2, ?_, by rw [h2, bump_len, lens_len], Int.natCast_nonneg _, ?_, .inl ⟨b + 1, h3, ?_⟩⟩
      · rw [h2]
        exact ((getD_bump hb.1 hp.1 (par_ne hw)).trans ((getD_lens hp.1 hp.2).trans (len_par hw))).symm
      · show ((b / wd : Nat) : Int) ≤ (E : Int); omega
      · rw [h2]; exact (lens_full hw e2).symm
    · right
      have hm := Nat.mod_lt b hw
      refine ⟨by rw [e1]; rfl, .inr (.inr ⟨e4, ?_⟩)⟩
      rw [h2, ← e3]
      exact (lens_next hw (by omega)).symm
  · omega
/-- The boxes of the law, and what each slot has. -/
structure PlW (w W : World) (D Z B O A : Int) (x y G : Nat) (hv : List Int) : Prop where
  bx : Boxes w W [w.heap.size, x, y] D Z B O A
  rp : RepW W G (ints hv)
  n1 : w.heap.size ≠ G
  n2 : x ≠ G
  n3 : y ≠ G
  le : w.heap.size ≤ G
theorem PlW.below {w W W' : World} {D Z B O A : Int} {x y G : Nat} {hv : List Int} (h : PlW w W D Z B O A x y G hv) (hb : Below W.heap.size W W') : PlW w W' D Z B O A x y G hv :=
  ⟨h.bx.below hb, h.rp.below hb, h.n1, h.n2, h.n3, h.le⟩
theorem geo_block {W W' : World} {b : Nat} {D Z B O A : Int} (h : GeoAt W b D Z B O A) (hh : W'.heap[b]? = W.heap[b]?) (hs : W.heap.size ≤ W'.heap.size) : GeoAt W' b D Z B O A := by
  obtain ⟨q0, q1, q2, q3, q4, ql⟩ := h
  exact ⟨(World.cell?_of_block (a := ⟨b, 0, none⟩) hh).trans q0, (World.cell?_of_block (a := ⟨b, 1, none⟩) hh).trans q1, (World.cell?_of_block (a := ⟨b, 2, none⟩) hh).trans q2, (World.cell?_of_block (a := ⟨b, 3, none⟩) hh).trans q3, (World.cell?_of_block (a := ⟨b, 4, none⟩) hh).trans q4, Nat.lt_of_lt_of_le ql hs⟩
theorem PlW.bump {w W : World} {D Z B O A : Int} {x y G : Nat} {hv : List Int} (h : PlW w W D Z B O A x y G hv) (s : Nat) : PlW w (W.setCell ⟨G, s, none⟩ (.int .i64 (hv.getD s 0 + 1))) D Z B O A x y G (Pl.bump hv (s : Int)) := by
  have hh : ∀ b, b ≠ G → (W.setCell ⟨G, s, none⟩ (.int .i64 (hv.getD s 0 + 1))).heap[b]? = W.heap[b]? := fun b hb => Below.heap_setCell W ⟨G, s, none⟩ _ b hb
  have hsz : W.heap.size ≤ (W.setCell ⟨G, s, none⟩ (.int .i64 (hv.getD s 0 + 1))).heap.size := by simp [World.setCell]
  refine ⟨⟨fun b hb => geo_block (h.bx.1 b hb) (hh b ?_) hsz, h.bx.2.setCell (by show w.heap.size ≤ G; exact h.le) _⟩, h.rp.bump s, h.n1, h.n2, h.n3, h.le⟩
  have h1 := h.n1
  have h2 := h.n2
  have h3 := h.n3
  simp only [List.mem_cons, List.not_mem_nil, or_false] at hb
  rcases hb with rfl | rfl | rfl
  · exact h1
  · exact h2
  · exact h3
theorem step_row_far {W : World} {base cap G s : Nat} {A : Option Addr} {l : List St} {v : Value} (h : stE.Row W base 76 A cap l) (hG : G < base) : stE.Row (W.setCell ⟨G, s, none⟩ v) base 76 A cap l := by
  refine h.far (grown1 W G s v) fun g e e' => ?_
  rcases h.form with ⟨h1, _⟩ | ⟨g', h1, h2, _⟩
  · rw [h1] at e; cases e
  · rw [h1] at e; injection e with e; injection e with e; injection e' with e'; omega
theorem ints_zero (n : Nat) : rep n 0 0 = ints (List.replicate n 0) := by unfold rep ints; simp
/-- A zone that there is not. -/
theorem ex_no {D Z B O A zone : Int} (h : exB D Z B O A zone = false) (hg : goodB D Z B O A = true) : zone < 0 ∨ Z - 4 < zone := by
  by_cases h2 : zone < 0
  · exact .inl h2
  · right
    by_cases h3 : Z - 4 < zone
    · exact h3
    · rw [exB_mk (goodB_iff.1 hg) (by omega) (by omega)] at h; cases h
theorem z4_wraps {Z : Int} (hZ : 5 ≤ Z ∧ Z ≤ 64) : wrap64 (Z - 4) = Z - 4 ∧ IntKind.i64.wrap (Z - 4) = Z - 4 := ⟨IntWalk.wrap64_in _ (by omega), IntWalk.i64_in _ (by omega)⟩
theorem part_nums (v : Int) : ∃ M N : Nat, bits .and .i64 v 15 = (M : Int) ∧ wrap64 (1 + (M : Int)) = (N : Int) ∧ IntKind.i64.wrap (1 + (M : Int)) = (N : Int) ∧ 1 ≤ N ∧ N ≤ 16 := by
  obtain ⟨M, h1, h2⟩ := mask_nat2 v 4 15 (by decide) (by decide)
  have h16 : M < 16 := h1
  refine ⟨M, 1 + M, h2, ?_, ?_, by omega, by omega⟩
  · rw [IntWalk.wrap64_in _ (by omega)]; omega
  · rw [IntWalk.i64_in _ (by omega)]; omega
theorem add_nums {a N E : Nat} (h : a + N = E) (h2 : E ≤ 100000) : wrap64 ((a : Int) + (N : Int)) = (E : Int) ∧ IntKind.i64.wrap ((a : Int) + (N : Int)) = (E : Int) :=
  ⟨by rw [IntWalk.wrap64_in _ (by omega)]; omega, by rw [IntWalk.i64_in _ (by omega)]; omega⟩
theorem wdv_nums {D V : Int} {wd : Nat} (hD : D = (wd : Int) + 1) (hw : wd ≤ 15) (hV : 0 ≤ V ∧ V ≤ 3840) : wrap64 (D - 1) = (wd : Int) ∧ IntKind.i64.wrap (D - 1) = (wd : Int) ∧ wrap64 V = V ∧ IntKind.i64.wrap V = V ∧ wrap64 (V + 1) = V + 1 ∧ IntKind.i64.wrap (V + 1) = V + 1 := by
  refine ⟨?_, ?_, IntWalk.wrap64_in _ (by omega), IntWalk.i64_in _ (by omega), IntWalk.wrap64_in _ (by omega), IntWalk.i64_in _ (by omega)⟩
  · rw [IntWalk.wrap64_in _ (by omega)]; omega
  · rw [IntWalk.i64_in _ (by omega)]; omega
set_option maxRecDepth 100000 in
set_option maxHeartbeats 4000000 in
theorem plen_law (D Z B O A zone : Int) (A0 : Option Addr) (cap0 : Nat) (zs : List Int) (w : World) (hI : IntsIn w A0 zs) :
    Calls Try.prog 8 #[.agg #[.int .i64 D, .int .i64 Z, .int .i64 B, .int .i64 O, .int .i64 A], .int .i64 zone, .slice A0 zs.length cap0] w fun e w' => e = .returned (.bool true) ∧ Below w.heap.size w w' := by
  have hsp := Lib.hid (fun W => speaks13 W)
  have hrg := Lib.hid (fun W => refgood_any D Z B O A W)
  have hIH := Lib.hid (fun W (hb : Below w.heap.size w W) => hI.below hb)
  have hB0 : Below w.heap.size w (w.alloc (.cells #[.int .i64 D, .int .i64 Z, .int .i64 B, .int .i64 O, .int .i64 A] 67)) := (Below.refl _ _).alloc (Nat.le_refl _) _
  have hBH := Lib.hid hB0
  have hGH := Lib.hid (GeoAt.new w D Z B O A 67)
  clear hB0 hI
  go_enter Try.func8, Try.ntmps8
  go_wp2_with fail
  (with_reducible refine (hsp.out _).mono ?_)
  rintro e w1 ⟨rfl, hb1⟩
  have hG := hGH.out.below hb1
  have hB := bmore hBH.out hb1
  clear hGH hBH hb1 hsp
  have hGH := Lib.hid hG
  have hBH := Lib.hid hB
  clear hB
  obtain ⟨h0, h1, h2, h3, h4, hlt⟩ := hG
  go_upto_region 3 with fail
  go_cut [7, 8] (fun s7 s8 wx => ∃ x y : Nat, s7 = .pointer (some ⟨x, 0, none⟩) ∧ s8 = .pointer (some ⟨y, 0, none⟩) ∧ Boxes w wx [w.heap.size, x, y] D Z B O A)
  case first =>
    go_region
    all_goals
      go_wp2_with fail
      go_meet
      first
        | exact ⟨_, _, rfl, rfl, (((Boxes.one hGH.out hBH.out).more _).more _).sub (by simp)⟩
        | exact ⟨_, _, rfl, rfl, ((((Boxes.one hGH.out hBH.out).more _).more _).below (Below.refl _ _).drew).sub (by simp)⟩
        | skip
  case rest =>
    clear h0 h1 h2 h3 h4 hlt hGH hBH
    obtain ⟨x, y, rfl, rfl, hT⟩ := hcut
    have hTH := Lib.hid hT
    obtain ⟨h0, h1, h2, h3, h4, hl0⟩ := hT.1 w.heap.size (by simp)
    obtain ⟨k0, k1, k2, k3, k4, hl1⟩ := hT.1 x (by simp)
    obtain ⟨j0, j1, j2, j3, j4, hl2⟩ := hT.1 y (by simp)
    clear hT
    go_wp2_with fail
    (with_reducible refine (hrg.out _).mono ?_)
    rintro e w2 ⟨rfl, hb2⟩
    have hT := hTH.out.below hb2
    clear hTH hb2 h0 h1 h2 h3 h4 k0 k1 k2 k3 k4 j0 j1 j2 j3 j4 hrg
    have hTH := Lib.hid hT
    obtain ⟨h0, h1, h2, h3, h4, hm0⟩ := hT.1 w.heap.size (by simp)
    obtain ⟨k0, k1, k2, k3, k4, hm1⟩ := hT.1 x (by simp)
    obtain ⟨j0, j1, j2, j3, j4, hm2⟩ := hT.1 y (by simp)
    clear hT
    cases hex : exB D Z B O A zone with
    | false =>
      have hno := Lib.hid (fun W => lengths_no D Z B O A zone 0 (by unfold lnB; rw [hex]; rfl) W)
      cases hok : goodB D Z B O A with
      | false =>
        clear hex hok
        go_wp2_with fail
        (with_reducible refine (hno.out _).mono ?_)
        rintro e w3 ⟨rfl, hb3⟩
        have hF := Lib.hid (bmore hTH.out.2 hb3)
        clear hb3
        go_wp2
        go_ret
        exact ⟨rfl, hF.out⟩
      | true =>
        have hor := ex_no hex hok
        have hZ : 5 ≤ Z ∧ Z ≤ 64 := ⟨(goodB_iff.1 hok).2.2.1, (goodB_iff.1 hok).2.2.2.1⟩
        obtain ⟨z1, z2⟩ := z4_wraps hZ
        clear hex hok hZ
        by_cases q1 : zone < 0
        case pos =>
          clear hor
          go_wp2_with fail
          (with_reducible refine (hno.out _).mono ?_)
          rintro e w3 ⟨rfl, hb3⟩
          have hF := Lib.hid (bmore hTH.out.2 hb3)
          clear hb3
          go_wp2
          go_ret
          exact ⟨rfl, hF.out⟩
        case neg =>
          have q2 : Z - 4 < zone := hor.resolve_left q1
          clear hor
          go_wp2_with fail
          (with_reducible refine (hno.out _).mono ?_)
          rintro e w3 ⟨rfl, hb3⟩
          have hF := Lib.hid (bmore hTH.out.2 hb3)
          clear hb3
          go_wp2
          go_ret
          exact ⟨rfl, hF.out⟩
    | true =>
      obtain ⟨hg, q1, q2⟩ := exB_true hex
      have hok := goodB_iff.2 hg
      rw [hok]
      have hV := capV_bd D Z B O A
      rw [capV_good hg] at hV
      obtain ⟨wd, hD⟩ : ∃ wd : Nat, D = (wd : Int) + 1 := ⟨(D - 1).toNat, by have := hg.1; omega⟩
      have hw2 : 2 ≤ wd := by have := hg.1; omega
      have hw15 : wd ≤ 15 := by have := hg.2.1; omega
      have hZ : 5 ≤ Z ∧ Z ≤ 64 := ⟨hg.2.2.1, hg.2.2.2.1⟩
      obtain ⟨z, rfl⟩ := Int.eq_ofNat_of_zero_le q1
      have hD1 : D - 1 = (wd : Int) := by omega
      have hDn : D = ((wd + 1 : Nat) : Int) := by omega
      have hwg := Lib.hid (fun (a N : Nat) (h1 : 1 ≤ N) (h2 : (a : Int) + (N : Int) ≤ (wd : Int) * B) W => write_good wd z a N D Z B O A hD W hg q2 h1 (by rw [hD1]; exact h2))
      have hwn := Lib.hid (fun (a N : Nat) (ha : a ≤ 100000) (h2 : ¬ ((a : Int) + (N : Int) ≤ (wd : Int) * B)) W => write_range D Z B O A (z : Int) (a : Int) (N : Int) W (by omega) hg (.inr (.inr (.inr (by rw [hD1]; omega)))))
      have hln := Lib.hid (fun (r : Nat) (h2 : (r : Int) ≤ (wd : Int) * B) W => lengths_good wd z r D Z B O A hD W hg q2 (by rw [hD1]; exact h2))
      have hnoA := Lib.hid (fun W => lengths_no D Z B O A (z : Int) (-1) (by unfold lnB; rw [hex, Bool.true_and]; exact decide_eq_false (fun h => by omega)) W)
      have hnoB := fun W => lengths_no D Z B O A (z : Int) ((wd : Int) * B + 1) (by unfold lnB; rw [hex, Bool.true_and, hD1]; exact decide_eq_false (fun h => by omega)) W
      rw [hD1] at hV
      obtain ⟨V, hVe⟩ : ∃ V, (wd : Int) * B = V := ⟨_, rfl⟩
      rw [hVe] at hV
      simp only [hVe] at hwg hwn hln hnoB
      have hnoB := Lib.hid hnoB
      obtain ⟨z1, z2⟩ := z4_wraps hZ
      obtain ⟨i0, hi, hz0, hz1, hz2⟩ := info_parts infoI
      have hmk := fun W => run_make_m (P := Try.prog) 24 3 i0 (.int .i64 0) Try.underlying24 hi hz0 .i64 .i64 (wd + 1) (wd + 1) (Nat.le_refl _) (by rw [hz2]; clear z1 z2; omega) (by clear z1 z2; omega) W
      rw [hz1, Nat.mul_one, ← hDn] at hmk
      have hVm := Lib.hid (show wrap64 ((wd : Int) * B) = V ∧ IntKind.i64.wrap ((wd : Int) * B) = V from ⟨by rw [hVe]; exact IntWalk.wrap64_in _ (by clear z1 z2; omega), by rw [hVe]; exact IntWalk.i64_in _ (by clear z1 z2; omega)⟩)
      have hwv := Lib.hid (wdv_nums hD hw15 hV)
      have hDH := Lib.hid hD
      have hwH := Lib.hid (And.intro hw2 (And.intro hw15 hV))
      have q3 : ¬ ((z : Int) < 0) := by clear z1 z2; omega
      have q4 : ¬ (Z - 4 < (z : Int)) := by clear z1 z2; omega
      clear hex hok hg hV hD hw2 hw15 hZ hD1 hDn hi hz0 hz1 hz2 hVe q1 q2
      obtain ⟨nl, hnl⟩ : ∃ nl, wd + 1 = nl := ⟨_, rfl⟩
      go_upto_region 8 with fail
      refine fresh_world (fun W => PlW w W D Z B O A x y w2.heap.size (lens wd z 0)) ?_ ?_
      · subst hnl
        have hA := (Below.refl w2.heap.size w2).alloc (Nat.le_refl _) (Obj.cells (madeCells #[Value.int .i64 0] (wd + 1)) 3)
        have hm := made_rep w2 (wd + 1) 0
        rw [ints_zero, ← lens_zero wd z] at hm
        exact ⟨hTH.out.below hA, hm, Nat.ne_of_lt hm0, Nat.ne_of_lt hm1, Nat.ne_of_lt hm2, Nat.le_of_lt hm0⟩
      clear h0 h1 h2 h3 h4 k0 k1 k2 k3 k4 j0 j1 j2 j3 j4 z1 z2 hmk hTH q3 q4
      rintro W3 hW3
      have hW3H := Lib.hid hW3
      clear hW3
      generalize w2.heap.size = G at hW3H hm0 hm1 hm2 ⊢
      clear hl0 hl1 hl2
      have hnl16 : nl ≤ 16 := by have := hwH.out; omega
      have hnlD : (nl : Int) = D := by have := hDH.out; omega
      have hnlDH := Lib.hid hnlD
      have hnlH := Lib.hid hnl
      clear hnlD hnl hm0 hm1 hm2
      go_wp2_with fail
      go_loopw [10, 11] (fun s10 s11 wr => ∃ (i a : Nat), s11 = .int .i64 (i : Int) ∧ s10 = .int .i64 (a : Int) ∧ i ≤ zs.length ∧ i ≤ 60 ∧ Hid ((a : Int) ≤ V) ∧ Hid (PlW w wr D Z B O A x y G (lens wd z a))) (fun _ s11 _ => 60 - (intOf s11).toNat)
      case atStart => exact ⟨0, 0, rfl, rfl, Nat.zero_le _, Nat.zero_le _, Lib.hid (by have := hwH.out; omega), hW3H⟩
      case round =>
        clear hW3H
        obtain ⟨i, a, rfl, rfl, hi, hi60, ha, hP⟩ := hrel
        by_cases hlt : i < zs.length
        case neg =>
          have g1 : ¬ ((i : Int) < (zs.length : Int)) := by omega
          obtain ⟨h0, h1, h2, h3, h4, _⟩ := hP.out.bx.1 w.heap.size (by simp)
          obtain ⟨k0, k1, k2, k3, k4, _⟩ := hP.out.bx.1 x (by simp)
          go_wp2_with fail
          (with_reducible refine (hnoA.out _).mono ?_)
          rintro e w8 ⟨rfl, hb8⟩
          have hP8 := Lib.hid (hP.out.below hb8)
          clear h0 h1 h2 h3 h4 k0 k1 k2 k3 k4 hb8 hP
          obtain ⟨h0, h1, h2, h3, h4, _⟩ := hP8.out.bx.1 w.heap.size (by simp)
          obtain ⟨k0, k1, k2, k3, k4, _⟩ := hP8.out.bx.1 x (by simp)
          obtain ⟨b1, b2, b3, b4, b5, b6⟩ := hwv.out
          obtain ⟨m1, m2⟩ := hVm.out
          go_wp2_with fail
          (with_reducible refine (hnoB.out _).mono ?_)
          rintro e w9 ⟨rfl, hb9⟩
          have hF := Lib.hid (hP8.out.below hb9).bx.2
          clear h0 h1 h2 h3 h4 k0 k1 k2 k3 k4 hb9 hP8 b1 b2 b3 b4 b5 b6 m1 m2
          go_wp2
          go_ret
          exact ⟨rfl, hF.out⟩
        case pos =>
        have g1 : (i : Int) < (zs.length : Int) := by omega
        by_cases hlt6 : i < 60
        case neg =>
          have g2 : ¬ ((i : Int) < 60) := by omega
          obtain ⟨h0, h1, h2, h3, h4, _⟩ := hP.out.bx.1 w.heap.size (by simp)
          obtain ⟨k0, k1, k2, k3, k4, _⟩ := hP.out.bx.1 x (by simp)
          go_wp2_with fail
          (with_reducible refine (hnoA.out _).mono ?_)
          rintro e w8 ⟨rfl, hb8⟩
          have hP8 := Lib.hid (hP.out.below hb8)
          clear h0 h1 h2 h3 h4 k0 k1 k2 k3 k4 hb8 hP
          obtain ⟨h0, h1, h2, h3, h4, _⟩ := hP8.out.bx.1 w.heap.size (by simp)
          obtain ⟨k0, k1, k2, k3, k4, _⟩ := hP8.out.bx.1 x (by simp)
          obtain ⟨b1, b2, b3, b4, b5, b6⟩ := hwv.out
          obtain ⟨m1, m2⟩ := hVm.out
          go_wp2_with fail
          (with_reducible refine (hnoB.out _).mono ?_)
          rintro e w9 ⟨rfl, hb9⟩
          have hF := Lib.hid (hP8.out.below hb9).bx.2
          clear h0 h1 h2 h3 h4 k0 k1 k2 k3 k4 hb9 hP8 b1 b2 b3 b4 b5 b6 m1 m2
          go_wp2
          go_ret
          exact ⟨rfl, hF.out⟩
        case pos =>
        have g2 : (i : Int) < 60 := by omega
        obtain ⟨b, off, rfl, s0⟩ : ∃ b off, A0 = some ⟨b, off, none⟩ ∧ wr.cell? ⟨b, off + i, none⟩ = some (.int .i64 zs[i]) := by
          rcases hIH.out wr hP.out.bx.2 with h | ⟨b, off, e, _, hc⟩
          · rw [h] at hlt; simp at hlt
          · exact ⟨b, off, e, hc i hlt⟩
        generalize zs[i] = v at s0
        obtain ⟨M, N, n1, n2, n3, n4, n5⟩ := part_nums v
        have hN := Lib.hid (And.intro n1 (And.intro n2 n3))
        clear n1 n2 n3
        have ha9 : a ≤ 3840 := by have h1 := ha.out; have h2 := hwH.out; omega
        have hiw : Hid (IntKind.i64.wrap ((i : Int) + 1) = (i : Int) + 1) := Lib.hid (IntWalk.i64_in _ (by omega))
        have hme : 59 - i < 60 - i := by omega
        have hi61 : i + 1 ≤ 60 := hlt6
        obtain ⟨E, hE⟩ : ∃ E, a + N = E := ⟨_, rfl⟩
        have hEw := Lib.hid (add_nums hE (by omega))
        obtain ⟨h0, h1, h2, h3, h4, _⟩ := hP.out.bx.1 w.heap.size (by simp)
        obtain ⟨k0, k1, k2, k3, k4, _⟩ := hP.out.bx.1 x (by simp)
        obtain ⟨n1, n2, n3⟩ := hN.out
        by_cases hfit : (a : Int) + (N : Int) ≤ V
        case neg =>
          have hwnk := Lib.hid (hwn.out a N (by clear n1 n2 n3; omega) (by clear n1 n2 n3; omega))
          have hfit2 : ¬ ((E : Int) ≤ V) := by clear n1 n2 n3; omega
          have hfd : decide ((E : Int) ≤ V) = false := decide_eq_false hfit2
          clear hi hi60 hlt hlt6
          go_wp2_with fail
          (with_reducible refine (hwnk.out _).mono ?_)
          rintro e w5 ⟨rfl, hb5⟩
          have hP5 := Lib.hid (hP.out.below hb5)
          clear h0 h1 h2 h3 h4 k0 k1 k2 k3 k4 hb5 hP n1 n2 n3 s0
          obtain ⟨h0, h1, h2, h3, h4, _⟩ := hP5.out.bx.1 w.heap.size (by simp)
          obtain ⟨b1, b2, b3, b4, b5, b6⟩ := hwv.out
          obtain ⟨m1, m2⟩ := hVm.out
          obtain ⟨e1, e2⟩ := hEw.out
          have iw := hiw.out
          go_wp2_with fail
          go_roundw
          case rel => exact ⟨i + 1, a, by go_num, rfl, (by clear b1 b2 b3 b4 b5 b6 m1 m2 e1 e2 iw; omega), hi61, ha, hP5⟩
          case measure => simp [intOf]; exact hme
        case pos =>
          have hwgk := Lib.hid (hwg.out a N n4 hfit)
          have hEV : (E : Int) ≤ V := by clear n1 n2 n3; omega
          have hfd : decide ((E : Int) ≤ V) = true := decide_eq_true hEV
          have hE9 : E ≤ 3840 := by clear n1 n2 n3; have := hwH.out; omega
          have hst0 : LnSt wd z E (steps wd z E a N) 0 (lens wd z a) := .inl ⟨a, by rw [← hE]; exact aft_start n4, rfl⟩
          rw [hE] at hwgk
          have hll := steps_len (w := wd) (z := z) (e := E) N a
          obtain ⟨L, hL⟩ : ∃ L, steps wd z E a N = L := ⟨_, rfl⟩
          rw [hL] at hwgk hst0 hll
          obtain ⟨ll, hlle⟩ : ∃ ll, L.length = ll := ⟨_, rfl⟩
          have hlleH := Lib.hid hlle
          rw [hlle] at hll
          have hst0H := Lib.hid hst0
          have hzlt : i + 1 ≤ zs.length := hlt
          clear hi hi60 hlt hlt6 hst0 hL hlle
          go_wp2_with fail
          (with_reducible refine (hwgk.out _).mono ?_)
          rintro e w5 ⟨A1, cap1, rfl, hR5, hb5⟩
          rw [hlleH.out]
          have hP5 := Lib.hid (hP.out.below hb5)
          have hR5H := Lib.hid hR5
          have hGb : G < wr.heap.size := hP.out.rp.lt
          have hbs := Lib.hid hGb
          clear h0 h1 h2 h3 h4 k0 k1 k2 k3 k4 hb5 hP n1 n2 n3 s0 hR5 hGb
          generalize wr.heap.size = bs at hR5H hbs
          obtain ⟨h0, h1, h2, h3, h4, _⟩ := hP5.out.bx.1 w.heap.size (by simp)
          obtain ⟨b1, b2, b3, b4, b5, b6⟩ := hwv.out
          obtain ⟨m1, m2⟩ := hVm.out
          obtain ⟨e1, e2⟩ := hEw.out
          go_upto_region 16 with fail
          clear h0 h1 h2 h3 h4 b1 b2 b3 b4 b5 b6 m1 m2 e1 e2
          go_wp2_with fail
          go_loopw [15] (fun s15 wq => ∃ (k : Nat) (hv : List Int), s15 = .int .i64 (k : Int) ∧ k ≤ ll ∧ Hid (LnSt wd z E L k hv) ∧ Hid (PlW w wq D Z B O A x y G hv) ∧ Hid (stE.Row wq bs 76 A1 cap1 L)) (fun s15 _ => ll - (intOf s15).toNat)
          case atStart => exact ⟨0, _, rfl, Nat.zero_le _, hst0H, hP5, hR5H⟩
          case round =>
            clear hst0H hP5 hR5H
            obtain ⟨k, hv, rfl, hk, hst, hP, hR⟩ := hrel
            by_cases hkl : k < ll
            case pos =>
              have hkl' : k < L.length := by rw [hlleH.out]; exact hkl
              obtain ⟨g, rfl, hcap, a0, a1, a2, a3, a4⟩ := st_at hR.out hkl'
              rw [hlleH.out] at hcap
              have hnx := hst.out.next (by have := hwH.out; omega) hkl'
              obtain ⟨X, hX⟩ : ∃ X, L[k] = X := ⟨_, rfl⟩
              rw [hX] at a0 a1 a2 a3 a4 hnx
              have kwH : Hid (IntKind.i64.wrap ((k : Int) + 1) = (k : Int) + 1) := Lib.hid (IntWalk.i64_in _ (by omega))
              have hmk2 : ll - (k + 1) < ll - k := by omega
              clear hst hX hkl'
              rcases hnx with ⟨x0, x1, x2, x3, x4, x5, x6, x7⟩ | ⟨x0, x7⟩
              case inr =>
                obtain ⟨Xk, Xs, Xr, Xb, Xc⟩ := X
                change Xk = 3 at x0
                subst x0
                change _ = some (Value.int .i64 3) at a0
                have hst7 := Lib.hid x7
                have kw := kwH.out
                clear x7 a1 a2 a3 a4
                go_wp2_with fail
                go_roundw
                case rel => exact ⟨k + 1, hv, by go_num, hkl, hst7, hP, hR⟩
                case measure => simp [intOf]; exact hmk2
              case inl =>
                obtain ⟨Xk, Xs, Xr, Xb, Xc⟩ := X
                change Xk ≠ 3 at x0
                change 0 ≤ Xs at x1
                change Xs < (wd : Int) + 1 at x2
                change Xr = hv.getD Xs.toNat 0 at x3
                change 0 ≤ Xr at x5
                change Xr ≤ (E : Int) at x6
                change LnSt wd z E L (k + 1) (bump hv Xs) at x7
                obtain ⟨s, rfl⟩ := Int.eq_ofNat_of_zero_le x1
                rw [Int.toNat_natCast] at x3
                change _ = some (Value.int .i64 Xk) at a0
                change _ = some (Value.int .i64 (s : Int)) at a1
                change _ = some (Value.int .i64 Xr) at a2
                have hst7 := Lib.hid x7
                have hsl : s < hv.length := by omega
                have hcell := hP.out.rp.at_ hsl
                rw [← x3] at hcell
                have hfr := hP.out.rp.free s
                have hput := hP.out.bump s
                rw [← x3] at hput
                have hGbs := hbs.out
                have hRput := step_row_far (s := s) (v := .int .i64 (Xr + 1)) hR.out hGbs
                have hputd := Lib.hid hput
                have hnlw : s < nl := by have := hnlH.out; omega
                have hsd : ¬ ((s : Int) < 0) := by omega
                have hsD : (s : Int) < D := by have := hDH.out; omega
                have d1 : decide ((s : Int) < 0) = false := decide_eq_false hsd
                have d2 : decide (D ≤ (s : Int)) = false := decide_eq_false (by omega)
                have xw : Hid (IntKind.i64.wrap (Xr + 1) = Xr + 1) := Lib.hid (IntWalk.i64_in _ (by omega))
                have hsi : (s : Int) < (nl : Int) := by omega
                have hsl2 := Lib.hid hsl
                have hX3 := Lib.hid x3
                clear x7 a3 a4 x1 x2 x3 x4 x5 x6 hput hRput hputd hfr hsl
                obtain ⟨h0, h1, h2, h3, h4, _⟩ := hP.out.bx.1 w.heap.size (by simp)
                have hS0 : (wr.drew.cell? ⟨g, k * 5, none⟩ = some (Value.int .i64 Xk) ∧ wr.drew.cell? ⟨g, k * 5 + 1, none⟩ = some (Value.int .i64 (s : Int)) ∧ wr.drew.cell? ⟨g, k * 5 + 2, none⟩ = some (Value.int .i64 Xr)) ∧ wr.drew.cell? ⟨G, s, none⟩ = some (Value.int .i64 Xr) ∧ wr.drew.cell? ⟨w.heap.size, 0, none⟩ = some (Value.int .i64 D) := ⟨⟨a0, a1, a2⟩, hcell, h0⟩
                clear h0 h1 h2 h3 h4 hcell
                go_upto_region 20 with fail
                refine region_anyC (fun _ => true) (fun W => (W.cell? ⟨g, k * 5, none⟩ = some (Value.int .i64 Xk) ∧ W.cell? ⟨g, k * 5 + 1, none⟩ = some (Value.int .i64 (s : Int)) ∧ W.cell? ⟨g, k * 5 + 2, none⟩ = some (Value.int .i64 Xr)) ∧ W.cell? ⟨G, s, none⟩ = some (Value.int .i64 Xr) ∧ W.cell? ⟨w.heap.size, 0, none⟩ = some (Value.int .i64 D)) (by kernel_rfl) ?_
                refine anyL_take 0 (v := ?_) rfl (by kernel_rfl) (fun _ _ _ h => h) (Or.inl ⟨by rfl, ?_⟩) hS0 ?_
                rotate_left
                focus (intro W hW; go_simp; try with_reducible rfl)
                simp only [Act.put, List.setIfInBounds_toArray, List.set_cons_zero, List.set_cons_succ]
                refine anyL_take 1 (v := ?_) rfl (by kernel_rfl) (fun _ _ _ h => h) (Or.inl ⟨by rfl, ?_⟩) hS0 ?_
                rotate_left
                focus (intro W hW; go_simp; try with_reducible rfl)
                simp only [Act.put, List.setIfInBounds_toArray, List.set_cons_zero, List.set_cons_succ]
                refine anyL_take 2 (v := ?_) rfl (by kernel_rfl) (fun _ _ _ h => h) (Or.inl ⟨by rfl, ?_⟩) hS0 ?_
                rotate_left
                focus (intro W hW; go_simp; try with_reducible rfl)
                simp only [Act.put, List.setIfInBounds_toArray, List.set_cons_zero, List.set_cons_succ]
                refine anyL_take 3 (v := ?_) rfl (by kernel_rfl) (fun _ _ _ h => h) (Or.inl ⟨by rfl, ?_⟩) hS0 ?_
                rotate_left
                focus (intro W hW; go_simp; try with_reducible rfl)
                simp only [Act.put, List.setIfInBounds_toArray, List.set_cons_zero, List.set_cons_succ]
                refine anyL_take 4 (v := ?_) rfl (by kernel_rfl) (fun _ _ _ h => h) (Or.inl ⟨by rfl, ?_⟩) hS0 ?_
                rotate_left
                focus (intro W hW; obtain ⟨⟨c0, c1, c2⟩, c3, c4⟩ := hW; go_simp; try with_reducible rfl)
                simp only [Act.put, List.setIfInBounds_toArray, List.set_cons_zero, List.set_cons_succ]
                refine anyL_take 5 (v := ?_) rfl (by kernel_rfl) (fun _ _ _ h => h) (Or.inl ⟨by rfl, ?_⟩) hS0 ?_
                rotate_left
                focus (intro W hW; go_simp; try with_reducible rfl)
                simp only [Act.put, List.setIfInBounds_toArray, List.set_cons_zero, List.set_cons_succ]
                refine anyL_take 6 (v := ?_) rfl (by kernel_rfl) (fun _ _ _ h => h) (Or.inl ⟨by rfl, ?_⟩) hS0 ?_
                rotate_left
                focus (intro W hW; go_simp; try with_reducible rfl)
                simp only [Act.put, List.setIfInBounds_toArray, List.set_cons_zero, List.set_cons_succ]
                refine anyL_take 7 (v := ?_) rfl (by kernel_rfl) (fun _ _ _ h => h) (Or.inl ⟨by rfl, ?_⟩) hS0 ?_
                rotate_left
                focus (intro W hW; go_simp; try with_reducible rfl)
                simp only [Act.put, List.setIfInBounds_toArray, List.set_cons_zero, List.set_cons_succ]
                refine anyL_take 8 (v := ?_) rfl (by kernel_rfl) (fun _ _ _ h => h) (Or.inl ⟨by rfl, ?_⟩) hS0 ?_
                rotate_left
                focus (intro W hW; go_simp; try with_reducible rfl)
                simp only [Act.put, List.setIfInBounds_toArray, List.set_cons_zero, List.set_cons_succ]
                refine anyL_take 9 (v := ?_) rfl (by kernel_rfl) (fun _ _ _ h => h) (Or.inl ⟨by rfl, ?_⟩) hS0 ?_
                rotate_left
                focus (intro W hW; go_simp; try with_reducible rfl)
                simp only [Act.put, List.setIfInBounds_toArray, List.set_cons_zero, List.set_cons_succ]
                refine anyL_take 10 (v := ?_) rfl (by kernel_rfl) (fun _ _ _ h => h) (Or.inl ⟨by rfl, ?_⟩) hS0 ?_
                rotate_left
                focus (intro W hW; go_simp; try with_reducible rfl)
                simp only [Act.put, List.setIfInBounds_toArray, List.set_cons_zero, List.set_cons_succ]
                refine anyL_take 11 (v := ?_) rfl (by kernel_rfl) (fun _ _ _ h => h) (Or.inl ⟨by rfl, ?_⟩) hS0 ?_
                rotate_left
                focus (intro W hW; obtain ⟨⟨c0, c1, c2⟩, c3, c4⟩ := hW; go_simp; try with_reducible rfl)
                simp only [Act.put, List.setIfInBounds_toArray, List.set_cons_zero, List.set_cons_succ]
                refine anyL_take 12 (v := ?_) rfl (by kernel_rfl) (fun _ _ _ h => h) (Or.inl ⟨by rfl, ?_⟩) hS0 ?_
                rotate_left
                focus (intro W hW; go_simp; try with_reducible rfl)
                simp only [Act.put, List.setIfInBounds_toArray, List.set_cons_zero, List.set_cons_succ]
                refine anyL_take 13 (v := ?_) rfl (by kernel_rfl) (fun _ _ _ h => h) (Or.inl ⟨by rfl, ?_⟩) hS0 ?_
                rotate_left
                focus (intro W hW; obtain ⟨⟨c0, c1, c2⟩, c3, c4⟩ := hW; go_simp; try with_reducible rfl)
                simp only [Act.put, List.setIfInBounds_toArray, List.set_cons_zero, List.set_cons_succ]
                refine anyL_take 14 (v := ?_) rfl (by kernel_rfl) (fun _ _ _ h => h) (Or.inl ⟨by rfl, ?_⟩) hS0 ?_
                rotate_left
                focus (intro W hW; go_simp; try with_reducible rfl)
                simp only [Act.put, List.setIfInBounds_toArray, List.set_cons_zero, List.set_cons_succ]
                refine anyL_take 15 (v := ?_) rfl (by kernel_rfl) (fun _ _ _ h => h) (Or.inl ⟨by rfl, ?_⟩) hS0 ?_
                rotate_left
                focus (intro W hW; go_simp; try with_reducible rfl)
                simp only [Act.put, List.setIfInBounds_toArray, List.set_cons_zero, List.set_cons_succ]
                refine anyL_take 16 (v := ?_) rfl (by kernel_rfl) (fun _ _ _ h => h) (Or.inl ⟨by rfl, ?_⟩) hS0 ?_
                rotate_left
                focus (intro W hW; go_simp; try with_reducible rfl)
                simp only [Act.put, List.setIfInBounds_toArray, List.set_cons_zero, List.set_cons_succ]
                refine anyL_take 17 (v := ?_) rfl (by kernel_rfl) (fun _ _ _ h => h) (Or.inl ⟨by rfl, ?_⟩) hS0 ?_
                rotate_left
                focus (intro W hW; go_simp; try with_reducible rfl)
                simp only [Act.put, List.setIfInBounds_toArray, List.set_cons_zero, List.set_cons_succ]
                refine anyL_take 18 (v := ?_) rfl (by kernel_rfl) (fun _ _ _ h => h) (Or.inl ⟨by rfl, ?_⟩) hS0 ?_
                rotate_left
                focus (intro W hW; go_simp; try with_reducible rfl)
                simp only [Act.put, List.setIfInBounds_toArray, List.set_cons_zero, List.set_cons_succ]
                refine anyL_take 19 (v := ?_) rfl (by kernel_rfl) (fun _ _ _ h => h) (Or.inl ⟨by rfl, ?_⟩) hS0 ?_
                rotate_left
                focus (intro W hW; go_simp; try with_reducible rfl)
                simp only [Act.put, List.setIfInBounds_toArray, List.set_cons_zero, List.set_cons_succ]
                refine anyL_take 20 (v := ?_) rfl (by kernel_rfl) (fun _ _ _ h => h) (Or.inl ⟨by rfl, ?_⟩) hS0 ?_
                rotate_left
                focus (intro W hW; go_simp; try with_reducible rfl)
                simp only [Act.put, List.setIfInBounds_toArray, List.set_cons_zero, List.set_cons_succ]
                refine anyL_take 21 (v := ?_) rfl (by kernel_rfl) (fun _ _ _ h => h) (Or.inl ⟨by rfl, ?_⟩) hS0 ?_
                rotate_left
                focus (intro W hW; obtain ⟨⟨c0, c1, c2⟩, c3, c4⟩ := hW; go_simp; try with_reducible rfl)
                simp only [Act.put, List.setIfInBounds_toArray, List.set_cons_zero, List.set_cons_succ]
                refine anyL_take 22 (v := ?_) rfl (by kernel_rfl) (fun _ _ _ h => h) (Or.inl ⟨by rfl, ?_⟩) hS0 ?_
                rotate_left
                focus (intro W hW; go_simp; try with_reducible rfl)
                simp only [Act.put, List.setIfInBounds_toArray, List.set_cons_zero, List.set_cons_succ]
                refine anyL_take 23 (v := ?_) rfl (by kernel_rfl) (fun _ _ _ h => h) (Or.inl ⟨by rfl, ?_⟩) hS0 ?_
                rotate_left
                focus (intro W hW; go_simp; try with_reducible rfl)
                simp only [Act.put, List.setIfInBounds_toArray, List.set_cons_zero, List.set_cons_succ]
                refine anyL_take 24 (v := ?_) rfl (by kernel_rfl) (fun _ _ _ h => h) (Or.inl ⟨by rfl, ?_⟩) hS0 ?_
                rotate_left
                focus (intro W hW; go_simp; try with_reducible rfl)
                simp only [Act.put, List.setIfInBounds_toArray, List.set_cons_zero, List.set_cons_succ]
                refine anyL_take 25 (v := ?_) rfl (by kernel_rfl) (fun _ _ _ h => h) (Or.inl ⟨by rfl, ?_⟩) hS0 ?_
                rotate_left
                focus (intro W hW; go_simp; try with_reducible rfl)
                simp only [Act.put, List.setIfInBounds_toArray, List.set_cons_zero, List.set_cons_succ]
                refine anyL_take 26 (v := ?_) rfl (by kernel_rfl) (fun _ _ _ h => h) (Or.inl ⟨by rfl, ?_⟩) hS0 ?_
                rotate_left
                focus (intro W hW; go_simp; try with_reducible rfl)
                simp only [Act.put, List.setIfInBounds_toArray, List.set_cons_zero, List.set_cons_succ]
                refine anyL_take 27 (v := ?_) rfl (by kernel_rfl) (fun _ _ _ h => h) (Or.inl ⟨by rfl, ?_⟩) hS0 ?_
                rotate_left
                focus (intro W hW; obtain ⟨⟨c0, c1, c2⟩, c3, c4⟩ := hW; go_simp; try with_reducible rfl)
                simp only [Act.put, List.setIfInBounds_toArray, List.set_cons_zero, List.set_cons_succ]
                refine anyL_take 28 (v := ?_) rfl (by kernel_rfl) (fun _ _ _ h => h) (Or.inl ⟨by rfl, ?_⟩) hS0 ?_
                rotate_left
                focus (intro W hW; go_simp; try with_reducible rfl)
                simp only [Act.put, List.setIfInBounds_toArray, List.set_cons_zero, List.set_cons_succ]
                refine anyL_take 29 (v := ?_) rfl (by kernel_rfl) (fun _ _ _ h => h) (Or.inl ⟨by rfl, ?_⟩) hS0 ?_
                rotate_left
                focus (intro W hW; obtain ⟨⟨c0, c1, c2⟩, c3, c4⟩ := hW; go_simp; try with_reducible rfl)
                simp only [Act.put, List.setIfInBounds_toArray, List.set_cons_zero, List.set_cons_succ]
                refine anyL_take 30 (v := ?_) rfl (by kernel_rfl) (fun _ _ _ h => h) (Or.inl ⟨by rfl, ?_⟩) hS0 ?_
                rotate_left
                focus (intro W hW; go_simp; try with_reducible rfl)
                simp only [Act.put, List.setIfInBounds_toArray, List.set_cons_zero, List.set_cons_succ]
                refine anyL_take 31 (v := ?_) rfl (by kernel_rfl) (fun _ _ _ h => h) (Or.inl ⟨by rfl, ?_⟩) hS0 ?_
                rotate_left
                focus (intro W hW; go_simp; try with_reducible rfl)
                simp only [Act.put, List.setIfInBounds_toArray, List.set_cons_zero, List.set_cons_succ]
                refine anyC_done (by kernel_rfl) ?_ _
                clear hS0 d1 d2 hsd hsD
                have hPd := hP.out.below (Below.refl _ _).drew
                have hRd := hR.out.below (Below.refl _ _).drew
                have hcell := hPd.rp.at_ hsl2.out
                rw [← hX3.out] at hcell
                have hfr := hPd.rp.free s
                have hput := hPd.bump s
                rw [← hX3.out] at hput
                have hputH := Lib.hid hput
                have hRputH := Lib.hid (step_row_far (s := s) (v := .int .i64 (Xr + 1)) hRd hbs.out)
                have kw := kwH.out
                have kx := xw.out
                have b0 : wr.drew.cell? ⟨g, k * 5, none⟩ = some (Value.int .i64 Xk) := a0
                have b1 : wr.drew.cell? ⟨g, k * 5 + 1, none⟩ = some (Value.int .i64 (s : Int)) := a1
                clear hput hPd hRd hP hR a0 a1 a2
                go_wp2_with fail
                go_roundw
                case rel => exact ⟨k + 1, _, by go_num, hkl, hst7, hputH, hRputH⟩
                case measure => simp [intOf]; exact hmk2
            case neg =>
              have hfin := hst.out.fin (by rw [hlleH.out]; exact hkl)
              subst hfin
              have hlnE := Lib.hid (hln.out E hEV)
              obtain ⟨h0, h1, h2, h3, h4, _⟩ := hP.out.bx.1 w.heap.size (by simp)
              obtain ⟨k0, k1, k2, k3, k4, _⟩ := hP.out.bx.1 x (by simp)
              obtain ⟨e1, e2⟩ := hEw.out
              clear hR hst
              go_wp2_with fail
              (with_reducible refine (hlnE.out _).mono ?_)
              rintro e w7 ⟨G2, rfl, hR7, hG2, hb7⟩
              have hP7 := Lib.hid (hP.out.below hb7)
              have hR7H := Lib.hid hR7
              rw [hnlH.out]
              clear h0 h1 h2 h3 h4 k0 k1 k2 k3 k4 e1 e2 hP hR7 hb7 hlnE
              obtain ⟨h0, h1, h2, h3, h4, _⟩ := hP7.out.bx.1 w.heap.size (by simp)
              have kD := hnlDH.out
              have kDb : ((nl : Int) != D) = false := by rw [kD]; simp
              clear kD
              go_upto_region 27 with fail
              clear kDb h0 h1 h2 h3 h4
              go_wp2_with fail
              go_loopw [17] (fun s17 wq => ∃ (k : Nat), s17 = .int .i64 (k : Int) ∧ k ≤ nl ∧ Hid (PlW w wq D Z B O A x y G (lens wd z E)) ∧ Hid (RepW wq G2 (ints (lens wd z E)))) (fun s17 _ => nl - (intOf s17).toNat)
              case atStart => exact ⟨0, rfl, Nat.zero_le _, hP7, hR7H⟩
              case round =>
                clear hP7 hR7H
                obtain ⟨k, rfl, hk, hP, hR⟩ := hrel
                have hP0 := hP.out.bx.1 w.heap.size (by simp)
                obtain ⟨h0, h1, h2, h3, h4, _⟩ := hP0
                by_cases hkn : k < nl
                case neg =>
                  have kge : ¬ ((k : Int) < D) := by have := hnlDH.out; omega
                  have iw := hiw.out
                  go_wp2_with fail
                  go_roundw
                  case rel => exact ⟨i + 1, E, by go_num, rfl, hzlt, hi61, Lib.hid hEV, hP⟩
                  case measure => simp [intOf]; exact hme
                case pos =>
                  have kltD : (k : Int) < D := by have := hnlDH.out; omega
                  have hkl : k < (lens wd z E).length := by rw [lens_len]; have := hnlH.out; omega
                  have c1 := hP.out.rp.at_ hkl
                  have c2 := hR.out.at_ hkl
                  generalize (lens wd z E).getD k 0 = u at c1 c2
                  have kw : IntKind.i64.wrap ((k : Int) + 1) = (k : Int) + 1 := IntWalk.i64_in _ (by omega)
                  have hm5 : nl - (k + 1) < nl - k := by omega
                  have kin : (k : Int) < (nl : Int) := by omega
                  have hS0 : wr.drew.cell? ⟨G, k, none⟩ = some (Value.int .i64 u) ∧ wr.drew.cell? ⟨G2, k, none⟩ = some (Value.int .i64 u) := ⟨c1, c2⟩
                  go_upto_region 30 with fail
                  clear h0 h1 h2 h3 h4 c1 c2 hkl
                  refine region_anyC (fun _ => true) (fun W => W.cell? ⟨G, k, none⟩ = some (Value.int .i64 u) ∧ W.cell? ⟨G2, k, none⟩ = some (Value.int .i64 u)) (by kernel_rfl) ?_
                  refine anyL_take 0 (v := ?_) rfl (by kernel_rfl) (fun _ _ _ h => h) (Or.inl ⟨by rfl, ?_⟩) hS0 ?_
                  rotate_left
                  focus (intro W hW; go_simp; try with_reducible rfl)
                  simp only [Act.put, List.setIfInBounds_toArray, List.set_cons_zero, List.set_cons_succ]
                  refine anyL_take 1 (v := ?_) rfl (by kernel_rfl) (fun _ _ _ h => h) (Or.inl ⟨by rfl, ?_⟩) hS0 ?_
                  rotate_left
                  focus (intro W hW; go_simp; try with_reducible rfl)
                  simp only [Act.put, List.setIfInBounds_toArray, List.set_cons_zero, List.set_cons_succ]
                  refine anyL_take 2 (v := ?_) rfl (by kernel_rfl) (fun _ _ _ h => h) (Or.inl ⟨by rfl, ?_⟩) hS0 ?_
                  rotate_left
                  focus (intro W hW; go_simp; try with_reducible rfl)
                  simp only [Act.put, List.setIfInBounds_toArray, List.set_cons_zero, List.set_cons_succ]
                  refine anyL_take 3 (v := ?_) rfl (by kernel_rfl) (fun _ _ _ h => h) (Or.inl ⟨by rfl, ?_⟩) hS0 ?_
                  rotate_left
                  focus (intro W hW; obtain ⟨c0, c1⟩ := hW; go_simp; try with_reducible rfl)
                  simp only [Act.put, List.setIfInBounds_toArray, List.set_cons_zero, List.set_cons_succ]
                  refine anyL_take 4 (v := ?_) rfl (by kernel_rfl) (fun _ _ _ h => h) (Or.inl ⟨by rfl, ?_⟩) hS0 ?_
                  rotate_left
                  focus (intro W hW; go_simp; try with_reducible rfl)
                  simp only [Act.put, List.setIfInBounds_toArray, List.set_cons_zero, List.set_cons_succ]
                  refine anyL_take 5 (v := ?_) rfl (by kernel_rfl) (fun _ _ _ h => h) (Or.inl ⟨by rfl, ?_⟩) hS0 ?_
                  rotate_left
                  focus (intro W hW; go_simp; try with_reducible rfl)
                  simp only [Act.put, List.setIfInBounds_toArray, List.set_cons_zero, List.set_cons_succ]
                  refine anyL_take 6 (v := ?_) rfl (by kernel_rfl) (fun _ _ _ h => h) (Or.inl ⟨by rfl, ?_⟩) hS0 ?_
                  rotate_left
                  focus (intro W hW; go_simp; try with_reducible rfl)
                  simp only [Act.put, List.setIfInBounds_toArray, List.set_cons_zero, List.set_cons_succ]
                  refine anyL_take 7 (v := ?_) rfl (by kernel_rfl) (fun _ _ _ h => h) (Or.inl ⟨by rfl, ?_⟩) hS0 ?_
                  rotate_left
                  focus (intro W hW; obtain ⟨c0, c1⟩ := hW; go_simp; try with_reducible rfl)
                  simp only [Act.put, List.setIfInBounds_toArray, List.set_cons_zero, List.set_cons_succ]
                  refine anyL_take 8 (v := ?_) rfl (by kernel_rfl) (fun _ _ _ h => h) (Or.inl ⟨by rfl, ?_⟩) hS0 ?_
                  rotate_left
                  focus (intro W hW; go_simp; try with_reducible rfl)
                  simp only [Act.put, List.setIfInBounds_toArray, List.set_cons_zero, List.set_cons_succ]
                  refine anyC_done (by kernel_rfl) ?_ _
                  clear hS0
                  go_wp2_with fail
                  go_roundw
                  case rel => exact ⟨k + 1, by go_num, hkn, Lib.hid (hP.out.below (Below.refl _ _).drew), Lib.hid (hR.out.below (Below.refl _ _).drew)⟩
                  case measure => simp [intOf]; exact hm5
end Go.Proofs.Ytpgnajcbahklgaa
