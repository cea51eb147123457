/- How many blocks each slot has. -/
import Derived.Test.YtdjdldcpaidmnaaNRp
import Derived.Test.YtdjdldcpaidmnaaNPm
import Derived.Test.YtdjdldcpaidmnaaSRef
namespace Go.Proofs.Ytdjdldcpaidmnaa
open Go.RowKit Pl Tl
/-- The lengths that there are. -/
def lnB (D Z B O A zone wr : Int) : Bool := exB D Z B O A zone && decide (0 ≤ wr ∧ wr ≤ (D - 1) * B)
theorem ln_yes {D Z B O A zone wr : Int} (h : lnB D Z B O A zone wr = true) : ∃ wd z r : Nat, D = (wd : Int) + 1 ∧ zone = (z : Int) ∧ wr = (r : Int) ∧ GoodP D Z B O A ∧ (z : Int) ≤ Z - 4 ∧ (r : Int) ≤ (D - 1) * B ∧ 2 ≤ wd ∧ wd ≤ 15 ∧ r ≤ 3840 := by
  unfold lnB at h
  rw [Bool.and_eq_true, decide_eq_true_eq] at h
  obtain ⟨he, h1, h2⟩ := h
  obtain ⟨hg, z1, z2⟩ := exB_true he
  have hV := capV_bd D Z B O A
  rw [capV_good hg] at hV
  have d1 := hg.1
  have d2 := hg.2.1
  exact ⟨(D - 1).toNat, zone.toNat, wr.toNat, by omega, by omega, by omega, hg, by omega, by rw [Int.toNat_of_nonneg h1]; exact h2, by omega, by omega, by omega⟩
set_option maxHeartbeats 1000000 in
theorem lengths_no (D Z B O A zone wr : Int) (h : lnB D Z B O A zone wr = false) (w : World) :
    Calls Try.prog 61 #[.agg #[.int .i64 D, .int .i64 Z, .int .i64 B, .int .i64 O, .int .i64 A], .int .i64 zone, .int .i64 wr] w fun e w' => e = .returned (.slice none 0 0) ∧ Below w.heap.size w w' := by
  have c2 := Lib.hid (fun W => pexists_any D Z B O A zone W)
  have c3 := Lib.hid (fun W => cap_any D Z B O A W)
  have hor : exB D Z B O A zone = false ∨ (exB D Z B O A zone = true ∧ (wr < 0 ∨ capV D Z B O A < wr)) := by
    cases he : exB D Z B O A zone with
    | false => exact .inl rfl
    | true =>
      right
      unfold lnB at h
      rw [he, Bool.true_and, decide_eq_false_iff_not] at h
      rw [capV_good (exB_true he).1]
      exact ⟨rfl, by omega⟩
  generalize exB D Z B O A zone = ex at c2 hor
  generalize capV D Z B O A = V at c3 hor
  have hB0 : Below w.heap.size w (w.alloc (.cells #[.int .i64 D, .int .i64 Z, .int .i64 B, .int .i64 O, .int .i64 A] 30)) := (Below.refl _ _).alloc (Nat.le_refl _) _
  have hBH := Lib.hid hB0
  have hGH := Lib.hid (GeoAt.new w D Z B O A 30)
  clear hB0 h
  go_enter Try.func61, Try.ntmps61
  go_wp2_with fail
  (with_reducible refine (c2.out _).mono ?_)
  rintro e w1 ⟨rfl, hb1⟩
  have hG := hGH.out.below hb1
  have hB := bmore hBH.out hb1
  clear hGH hBH hb1
  have hBH := Lib.hid hB
  clear hB
  obtain ⟨h0, h1, h2, h3, h4, _⟩ := hG
  rcases hor with rfl | ⟨rfl, hor⟩
  · go_wp2
    go_ret
    exact ⟨rfl, hBH.out⟩
  by_cases k1 : wr < 0
  · go_wp2
    go_ret
    exact ⟨rfl, hBH.out⟩
  have k3 : V < wr := by omega
  clear hor
  go_wp2_with fail
  (with_reducible refine (c3.out _).mono ?_)
  rintro e w3 ⟨rfl, hb3⟩
  have hFH := Lib.hid (bmore hBH.out hb3)
  clear hBH hb3 h0 h1 h2 h3 h4
  go_wp2
  go_ret
  exact ⟨rfl, hFH.out⟩
def ints (l : List Int) : List Value := l.map (Value.int .i64)
theorem RepW.at_ {W : World} {G : Nat} {l : List Int} (h : RepW W G (ints l)) {s : Nat} (hs : s < l.length) : W.cell? ⟨G, s, none⟩ = some (.int .i64 (l.getD s 0)) := by
  rw [cell_of_row W G _ _ _ _ h, List.getElem?_toArray]
  unfold ints
  rw [List.getElem?_map, List.getElem?_eq_getElem hs, List.getD_eq_getElem?_getD, List.getElem?_eq_getElem hs]
  rfl
theorem RepW.free {W : World} {G : Nat} {l : List Value} (h : RepW W G l) (j : Nat) : W.frozen? ⟨G, j, none⟩ = false := by simp [World.frozen?, show W.heap[G]? = _ from h]
theorem RepW.lt {W : World} {G : Nat} {l : List Value} (h : RepW W G l) : G < W.heap.size := (Array.getElem?_eq_some_iff.1 h).1
theorem RepW.below {W W' : World} {G : Nat} {l : List Value} (h : RepW W G l) (hb : Below W.heap.size W W') : RepW W' G l := (hb.block G h.lt).trans h
theorem RepW.bump {W : World} {G : Nat} {l : List Int} (h : RepW W G (ints l)) (s : Nat) : RepW (W.setCell ⟨G, s, none⟩ (.int .i64 (l.getD s 0 + 1))) G (ints (bump l (s : Int))) := by
  have h2 := heap_set h s (.int .i64 (l.getD s 0 + 1))
  unfold RepW
  rw [h2]
  congr 2
  unfold ints Pl.bump
  rw [Int.toNat_natCast]
  apply Array.ext'
  simp
theorem ints_rep (n : Nat) (v : Int) : List.replicate n (Value.int .i64 v) = ints (List.replicate n v) := by unfold ints; simp
/-- The row that has begun. -/
theorem ln_nums {wd r : Nat} (hw : 0 < wd) (hw15 : wd ≤ 15) (hr : r ≤ 3840) : ∃ q m, r / wd = q ∧ r % wd = m ∧ m < wd ∧ q * wd + m = r ∧ (r : Int).tdiv (wd : Int) = (q : Int) ∧ IntKind.i64.wrap (q : Int) = (q : Int) ∧ wrap64 ((q : Int) * (wd : Int)) = ((q * wd : Nat) : Int) ∧ IntKind.i64.wrap ((q : Int) * (wd : Int)) = ((q * wd : Nat) : Int) ∧ q ≤ 3840 := by
  have h1 := Nat.div_add_mod r wd
  have h2 := Nat.mod_lt r hw
  have h3 := tdiv_nat r wd
  have h4 : r / wd ≤ r := Nat.div_le_self _ _
  obtain ⟨q, hq⟩ : ∃ q, r / wd = q := ⟨_, rfl⟩
  obtain ⟨m, hm⟩ : ∃ m, r % wd = m := ⟨_, rfl⟩
  rw [hq] at h1 h3 h4
  rw [hm] at h1 h2
  have h5 : q * wd + m = r := by rw [Nat.mul_comm]; exact h1
  have h6 : (q : Int) * (wd : Int) = ((q * wd : Nat) : Int) := (Int.natCast_mul q wd).symm
  refine ⟨q, m, hq, hm, h2, h5, h3, IntWalk.i64_in _ (by omega), ?_, ?_, by omega⟩
  · rw [h6, IntWalk.wrap64_in _ (by omega)]
  · rw [h6, IntWalk.i64_in _ (by omega)]
theorem base_div {q wd j : Nat} (hw : 0 < wd) (hj : j < wd) : (q * wd + j) / wd = q ∧ (q * wd + j) % wd = j := by
  constructor
  · rw [Nat.mul_comm, Nat.mul_add_div hw, Nat.div_eq_of_lt hj, Nat.add_zero]
  · rw [Nat.mul_comm, Nat.mul_add_mod, Nat.mod_eq_of_lt hj]
def LnPost (w : World) (n : Nat) (l : List Int) (e : Ending) (w' : World) : Prop := ∃ G, e = .returned (.slice (some ⟨G, 0, none⟩) n n) ∧ RepW w' G (ints l) ∧ w.heap.size ≤ G ∧ Below w.heap.size w w'
set_option maxRecDepth 100000 in
set_option maxHeartbeats 4000000 in
theorem lengths_good (wd z r : Nat) (D Z B O A : Int) (hD : D = (wd : Int) + 1) (w : World) (hg : GoodP D Z B O A) (hz : (z : Int) ≤ Z - 4) (hr : (r : Int) ≤ (D - 1) * B) :
    Calls Try.prog 61 #[.agg #[.int .i64 D, .int .i64 Z, .int .i64 B, .int .i64 O, .int .i64 A], .int .i64 (z : Int), .int .i64 (r : Int)] w (LnPost w (wd + 1) (lens wd z r)) := by
  have hw : 0 < wd := by have := hg.1; omega
  have hw15 : wd ≤ 15 := by have := hg.2.1; omega
  have d1 : 3 ≤ D ∧ D ≤ 16 := ⟨hg.1, hg.2.1⟩
  have hD1 : D - 1 = (wd : Int) := by omega
  have hD2 : D = ((wd + 1 : Nat) : Int) := by omega
  have hV := capV_bd D Z B O A
  have hVe := capV_good hg
  have hr9 : r ≤ 3840 := by omega
  rw [← hVe] at hr
  have c2 := Lib.hid (fun W => pexists_any D Z B O A (z : Int) W)
  rw [exB_mk hg (Int.natCast_nonneg z) hz] at c2
  have c3 := Lib.hid (fun W => cap_any D Z B O A W)
  have c4 := Lib.hid (fun W => pperRow_any D Z B O A W d1)
  rw [hD1] at c4
  obtain ⟨q, m, hq, hm, hmw, hqm, n1, n2, n3, n4, hq9⟩ := ln_nums hw hw15 hr9
  have n12 := Lib.hid (And.intro n1 n2)
  have n34 := Lib.hid (And.intro n3 n4)
  clear n1 n2 n3 n4
  have c5 := Lib.hid (fun W g (hg : W.cell? ⟨g, 0, none⟩ = some (.int .i64 (q : Int))) => repeat_any (q : Int) (wd + 1) (by omega) (by omega) W g hg)
  rw [← hD2] at c5
  have c6 := Lib.hid (fun (j : Nat) (hj : j < m) W => place_any D Z B O A (z : Int) (((q * wd : Nat) : Int) + (j : Int)) W)
  have hpv : ∀ j, j < m → plR D Z B O A (z : Int) (((q * wd : Nat) : Int) + (j : Int)) = (((q * wd + j) / wd : Nat) : Int) ∧ plD D Z B O A (z : Int) (((q * wd : Nat) : Int) + (j : Int)) = sl wd z (q * wd + j) := fun j hj => place_dat (b := q * wd + j) hD hg hz (by rw [← hVe]; omega)
  have hpvH := Lib.hid hpv
  have hlen0 : lens wd z (q * wd) = List.replicate (wd + 1) (q : Int) := by
    have h2 := base_div (q := q) hw hw
    rw [Nat.add_zero] at h2
    rw [lens_rows h2.2, h2.1]
  have hnext : ∀ j, j < m → lens wd z (q * wd + (j + 1)) = bump (lens wd z (q * wd + j)) (sl wd z (q * wd + j)) := fun j hj => by
    rw [← Nat.add_assoc]
    exact lens_next hw (by rw [(base_div hw (by omega)).2]; omega)
  obtain ⟨bs, hbs⟩ : ∃ bs, q * wd = bs := ⟨_, rfl⟩
  rw [hbs] at hqm n34 hlen0
  simp only [hbs] at c6 hpvH hnext
  have hnextH := Lib.hid hnext
  have hlen0H := Lib.hid hlen0
  obtain ⟨V, hVV⟩ : ∃ V, capV D Z B O A = V := ⟨_, rfl⟩
  rw [hVV] at c3 hr
  have k1 : ¬ ((r : Int) < 0) := by omega
  have k3 : ¬ (V < (r : Int)) := by omega
  have wne : ¬ ((wd : Int) = 0) := by omega
  have wne1 : ¬ ((wd : Int) = -1) := by omega
  have wne2 : ¬ (wd = 0) := by omega
  have hmwH := Lib.hid (And.intro hmw (And.intro hqm (And.intro hr9 hw15)))
  have hB0 : Below w.heap.size w (w.alloc (.cells #[.int .i64 D, .int .i64 Z, .int .i64 B, .int .i64 O, .int .i64 A] 30)) := (Below.refl _ _).alloc (Nat.le_refl _) _
  have hBH := Lib.hid hB0
  have hGH := Lib.hid (GeoAt.new w D Z B O A 30)
  clear hB0 hg hVe hV hr hD hD1 hD2 d1 hpv hlen0 hnext hbs hVV hq hm hmw hqm hr9 hw hw15 hz hq9
  go_enter Try.func61, Try.ntmps61
  go_wp2_with fail
  (with_reducible refine (c2.out _).mono ?_)
  rintro e w1 ⟨rfl, hb1⟩
  have hG := hGH.out.below hb1
  have hB := bmore hBH.out hb1
  clear hGH hBH hb1
  have hGH := Lib.hid hG
  have hBH := Lib.hid hB
  clear hB
  obtain ⟨h0, h1, h2, h3, h4, _⟩ := hG
  go_wp2_with fail
  (with_reducible refine (c3.out _).mono ?_)
  rintro e w2 ⟨rfl, hb2⟩
  have hG := hGH.out.below hb2
  have hB := bmore hBH.out hb2
  clear hGH hBH hb2 h0 h1 h2 h3 h4
  have hGH := Lib.hid hG
  have hBH := Lib.hid hB
  clear hB
  obtain ⟨h0, h1, h2, h3, h4, _⟩ := hG
  go_wp2_with fail
  (with_reducible refine (c4.out _).mono ?_)
  rintro e w3 ⟨rfl, hb3⟩
  have hG := hGH.out.below hb3
  have hB := bmore hBH.out hb3
  clear hGH hBH hb3 h0 h1 h2 h3 h4
  have hGH := Lib.hid hG
  have hBH := Lib.hid hB
  clear hB
  obtain ⟨h0, h1, h2, h3, h4, _⟩ := hG
  obtain ⟨n1, n2⟩ := n12.out
  go_upto_region 4 with fail
  clear n1 n2
  have hA := (Below.refl w3.heap.size w3).alloc (Nat.le_refl _) (.cells #[.int .i64 (q : Int)] 3)
  have hcq : (w3.alloc (.cells #[.int .i64 (q : Int)] 3)).cell? ⟨w3.heap.size, 0, none⟩ = some (.int .i64 (q : Int)) := by go_simp
  have hcqH := Lib.hid hcq
  have hAH := Lib.hid hA
  clear hA hcq
  go_wp2_with fail
  (with_reducible refine (c5.out _ _ hcqH.out).mono ?_)
  rintro e w4 ⟨G, rfl, hR4, hG4, hb4⟩
  have hb4' := bmore hAH.out hb4
  have hG := hGH.out.below hb4'
  have hB := bmore hBH.out hb4'
  have hGle : w.heap.size ≤ G := by have := hBH.out.size; have := hAH.out.size; omega
  have hGne : w.heap.size ≠ G := by have := hGH.out.2.2.2.2.2; have := hAH.out.size; omega
  have hG43 : w3.heap.size ≤ G := by have := hAH.out.size; omega
  clear hGH hBH hb4 hb4' hcqH hAH h0 h1 h2 h3 h4
  rw [ints_rep, ← hlen0H.out] at hR4
  have hGH := Lib.hid hG
  have hBH := Lib.hid hB
  have hR4H := Lib.hid hR4
  clear hB hR4 hlen0H
  obtain ⟨h0, h1, h2, h3, h4, _⟩ := hG
  go_wp2_with fail
  (with_reducible refine (c4.out _).mono ?_)
  rintro e w5 ⟨rfl, hb5⟩
  have hR5H := Lib.hid (hR4H.out.below hb5)
  clear hR4H
  have hG := hGH.out.below hb5
  have hB := bmore hBH.out hb5
  clear hGH hBH hb5 h0 h1 h2 h3 h4
  have hGH := Lib.hid hG
  have hBH := Lib.hid hB
  clear hB
  obtain ⟨h0, h1, h2, h3, h4, _⟩ := hG
  clear h0 h1 h2 h3 h4
  obtain ⟨n3, n4⟩ := n34.out
  go_wp2_with fail
  clear n3 n4
  go_loopw [9] (fun s wr => ∃ (j : Nat), s = .int .i64 ((bs : Int) + (j : Int)) ∧ j ≤ m ∧ Hid (RepW wr G (ints (lens wd z (bs + j)))) ∧ Hid (GeoAt wr w.heap.size D Z B O A) ∧ Hid (Below w.heap.size w wr)) (fun s _ => m - (intOf s - bs).toNat)
  case atStart => exact ⟨0, by simp, Nat.zero_le _, hR5H, hGH, hBH⟩
  case round =>
    clear hR5H hGH hBH
    obtain ⟨j, rfl, hj, hR, hg, hb⟩ := hrel
    by_cases hlt : j < m
    case neg =>
      have e : j = m := by omega
      subst e
      have hR2 := hR.out
      rw [hmwH.out.2.1] at hR2
      have hF : LnPost w (wd + 1) (lens wd z r) (.returned (.slice (some ⟨G, 0, none⟩) (wd + 1) (wd + 1))) wr := ⟨G, rfl, hR2, hGle, hb.out⟩
      have hFH := Lib.hid hF
      have hE : (bs : Int) + (j : Int) = (r : Int) := by have := hmwH.out.2.1; omega
      clear hF hR2 hR hg hb hnextH hpvH c6 hmwH
      rw [hE]
      go_wp2
      go_ret
      exact hFH.out
    case pos =>
      obtain ⟨hmw, hqm, hr9, hw15⟩ := hmwH.out
      obtain ⟨pv1, pv2⟩ := hpvH.out j hlt
      have hsb := sl_bd wd z (bs + j)
      obtain ⟨s, hs⟩ := Int.eq_ofNat_of_zero_le hsb.1
      rw [hs] at hsb pv2
      have hnx := hnextH.out j hlt
      rw [hs] at hnx
      have hll := lens_len wd z (bs + j)
      have hsl : s < wd + 1 := by omega
      have hbd := len_bd wd z (bs + j) (s : Int)
      have hx9 : (bs + j) / wd ≤ 3840 := Nat.le_trans (Nat.div_le_self _ _) (by omega)
      have hxe : (lens wd z (bs + j)).getD s 0 = len wd z (bs + j) (s : Int) := by
        rw [List.getD_eq_getElem?_getD, List.getElem?_eq_getElem (by rw [hll]; exact hsl)]
        exact lens_at _
      obtain ⟨x, hx⟩ : ∃ x, (lens wd z (bs + j)).getD s 0 = x := ⟨_, rfl⟩
      rw [hxe] at hx
      rw [hx] at hbd
      have hxb : 0 ≤ x ∧ x ≤ 3841 := by
        obtain ⟨b1, b2⟩ := hbd
        generalize (bs + j) / wd = Q at b1 b2 hx9
        split at b2 <;> omega
      rw [hx] at hxe
      have hbump := hR.out.bump s
      have hcell := hR.out.at_ (s := s) (by rw [hll]; exact hsl)
      rw [hxe] at hcell
      have c6j := Lib.hid (c6.out j hlt)
      have hjr : (bs : Int) + (j : Int) < (r : Int) := by omega
      have hm1 : m - (j + 1) < m - j := by omega
      have hmeas2 : Hid (m - (intOf (Value.int .i64 ((bs : Int) + ((j + 1 : Nat) : Int))) - bs).toNat < m - (intOf (Value.int .i64 ((bs : Int) + (j : Int))) - bs).toNat) := Lib.hid (by simp only [intOf]; omega)
      have kjH : Hid (IntKind.i64.wrap ((bs : Int) + (j : Int) + 1) = (bs : Int) + ((j + 1 : Nat) : Int)) := Lib.hid (next_wrap (by omega))
      have kxH : Hid (IntKind.i64.wrap (x + 1) = x + 1) := Lib.hid (IntWalk.i64_in _ (by omega))
      have hs1 : (s : Int) < (wd : Int) + 1 := by omega
      have hs2 : (s : Int) < ((wd + 1 : Nat) : Int) := by omega
      have hxeH := Lib.hid hxe
      clear hbump hcell hbd hxb hx9 hx hqm hr9 hsb hll hj hmw
      obtain ⟨h0, h1, h2, h3, h4, _⟩ := hg.out
      go_wp2_with fail
      (with_reducible refine (c6j.out _).mono ?_)
      rintro e w7 ⟨rfl, hb7⟩
      rw [pv1, pv2]
      have hR7 := hR.out.below hb7
      have hg7 := hg.out.below hb7
      have hb77 := bmore hb.out hb7
      have hcell := hR7.at_ (s := s) (by rw [lens_len]; exact hsl)
      rw [hxeH.out] at hcell
      have hfr := hR7.free s
      have hbump := hR7.bump s
      rw [hxeH.out, ← hnx] at hbump
      have hR8H := Lib.hid hbump
      have hg8H : Hid (GeoAt (w7.setCell ⟨G, s, none⟩ (.int .i64 (x + 1))) w.heap.size D Z B O A) := Lib.hid (by
        obtain ⟨q0, q1, q2, q3, q4, ql⟩ := hg7
        have hh := Below.heap_setCell w7 ⟨G, s, none⟩ (.int .i64 (x + 1)) w.heap.size hGne
        exact ⟨(World.cell?_of_block (a := ⟨w.heap.size, 0, none⟩) hh).trans q0, (World.cell?_of_block (a := ⟨w.heap.size, 1, none⟩) hh).trans q1, (World.cell?_of_block (a := ⟨w.heap.size, 2, none⟩) hh).trans q2, (World.cell?_of_block (a := ⟨w.heap.size, 3, none⟩) hh).trans q3, (World.cell?_of_block (a := ⟨w.heap.size, 4, none⟩) hh).trans q4, by simpa using ql⟩)
      have hb8H : Hid (Below w.heap.size w (w7.setCell ⟨G, s, none⟩ (.int .i64 (x + 1)))) := Lib.hid (hb77.setCell (by show w.heap.size ≤ G; exact hGle) _)
      have kx := kxH.out
      have kj := kjH.out
      clear hR7 hg7 hb77 hbump hR hg hb hb7 c6j hnx h0 h1 h2 h3 h4 pv1 pv2
      go_wp2_with fail
      go_roundw
      case rel => exact ⟨j + 1, rfl, hlt, hR8H, hg8H, hb8H⟩
      case measure => exact hmeas2.out
end Go.Proofs.Ytdjdldcpaidmnaa
namespace Go.Proofs.Ytdjdldcpaidmnaa
open Go.RowKit Pl Tl
/-- A number brought into a range, as Go reckons it. -/
theorem mod_nums (x : Int) {m : Int} (h1 : 1 ≤ m) (h2 : m ≤ 5000) : ∃ (t : Int) (c : Nat), x.tmod m = t ∧ -5000 ≤ t ∧ t ≤ 5000 ∧ -m < t ∧ t < m ∧ (t + m).tmod m = (c : Int) ∧ (c : Int) < m := by
  have h3 := Int.tmod_lt_of_pos x (show 0 < m by omega)
  have h4 := Int.lt_tmod_of_pos x (show 0 < m by omega)
  obtain ⟨t, ht⟩ : ∃ t, x.tmod m = t := ⟨_, rfl⟩
  rw [ht] at h3 h4
  have h5 : 0 ≤ (t + m).tmod m := by
    rw [Int.tmod_eq_emod_of_nonneg (by omega)]; exact Int.emod_nonneg _ (by omega)
  have h6 := Int.tmod_lt_of_pos (t + m) (show 0 < m by omega)
  obtain ⟨c, hc⟩ := Int.eq_ofNat_of_zero_le h5
  exact ⟨t, c, ht, by omega, by omega, h4, h3, hc, by rw [← hc]; exact h6⟩
theorem zone_wraps {t Z : Int} (h1 : -5000 ≤ t) (h2 : t ≤ 5000) (hZ : 5 ≤ Z ∧ Z ≤ 64) : wrap64 (Z - 3) = Z - 3 ∧ IntKind.i64.wrap (Z - 3) = Z - 3 ∧ IntKind.i64.wrap t = t ∧ wrap64 (t + Z) = t + Z ∧ IntKind.i64.wrap (t + Z) = t + Z ∧ wrap64 (t + Z - 3) = t + Z - 3 ∧ IntKind.i64.wrap (t + Z - 3) = t + Z - 3 :=
  ⟨IntWalk.wrap64_in _ (by omega), IntWalk.i64_in _ (by omega), IntWalk.i64_in _ (by omega), IntWalk.wrap64_in _ (by omega), IntWalk.i64_in _ (by omega), IntWalk.wrap64_in _ (by omega), IntWalk.i64_in _ (by omega)⟩
theorem cap_wraps {t D V : Int} {wd : Nat} (h1 : -5000 ≤ t) (h2 : t ≤ 5000) (hD : D = (wd : Int) + 1) (hw : wd ≤ 15) (hV : 0 ≤ V ∧ V ≤ 3840) : wrap64 (D - 1) = (wd : Int) ∧ IntKind.i64.wrap (D - 1) = (wd : Int) ∧ wrap64 V = V ∧ IntKind.i64.wrap V = V ∧ wrap64 (V + 1) = V + 1 ∧ IntKind.i64.wrap (V + 1) = V + 1 ∧ IntKind.i64.wrap t = t ∧ wrap64 (t + V) = t + V ∧ IntKind.i64.wrap (t + V) = t + V ∧ wrap64 (t + V + 1) = t + V + 1 ∧ IntKind.i64.wrap (t + V + 1) = t + V + 1 := by
  refine ⟨?_, ?_, IntWalk.wrap64_in _ (by omega), IntWalk.i64_in _ (by omega), IntWalk.wrap64_in _ (by omega), IntWalk.i64_in _ (by omega), IntWalk.i64_in _ (by omega), IntWalk.wrap64_in _ (by omega), IntWalk.i64_in _ (by omega), IntWalk.wrap64_in _ (by omega), IntWalk.i64_in _ (by omega)⟩
  · rw [IntWalk.wrap64_in _ (by omega)]; omega
  · rw [IntWalk.i64_in _ (by omega)]; omega
theorem nat_wrap {c : Nat} (h : c ≤ 100000) : IntKind.i64.wrap (c : Int) = (c : Int) ∧ wrap64 (c : Int) = (c : Int) := ⟨IntWalk.i64_in _ (by omega), IntWalk.wrap64_in _ (by omega)⟩
theorem sum_take {l : List Int} {i : Nat} (h : i < l.length) : sum (l.take (i + 1)) = sum (l.take i) + l[i] := by
  rw [List.take_succ_eq_append_getElem h, sum_append]
  show _ + (l[i] + 0) = _
  omega
/-- No slot has more than the zone's rows. -/
theorem len_rows {wd z r : Nat} {B : Int} (hw : 0 < wd) (hr : (r : Int) ≤ (wd : Int) * B) (s : Int) : len wd z r s ≤ B := by
  have h := (len_bd wd z r s).2
  have hB : 0 ≤ B := by
    by_cases h1 : B < 0
    · have : (wd : Int) * B ≤ (wd : Int) * (-1) := Int.mul_le_mul_of_nonneg_left (by omega) (by omega)
      omega
    · omega
  obtain ⟨b, rfl⟩ := Int.eq_ofNat_of_zero_le hB
  have hr2 : r ≤ wd * b := by
    have : ((wd * b : Nat) : Int) = (wd : Int) * (b : Int) := Int.natCast_mul wd b
    omega
  by_cases hm : r % wd = 0
  · rw [if_pos hm] at h
    have : r / wd ≤ b := Nat.div_le_of_le_mul hr2
    omega
  · rw [if_neg hm] at h
    have h3 : r < wd * b := by
      rcases Nat.lt_or_ge r (wd * b) with h4 | h4
      · exact h4
      · have : r = wd * b := by omega
        rw [this, Nat.mul_mod_right] at hm
        exact absurd rfl hm
    have : r / wd < b := Nat.div_lt_of_lt_mul h3
    omega
end Go.Proofs.Ytdjdldcpaidmnaa
