/- What the law TopRow does. -/
import Derived.Test.YtflkkmiehioejabDoorTopContent
import Derived.Test.YtflkkmiehioejabDoorTopSpreadW
import Derived.Test.YtflkkmiehioejabDoorStrsOwn
namespace Go.Proofs.YtflkkmiehioejabDoor
open Go.RowKit Xor

/-- A block of the call's own whose cells are texts. -/
def AllAt (W : World) (g : Nat) (L : List ByteArray) : Prop := (∀ i (h : i < L.length), W.cell? ⟨g, i, none⟩ = some (.string L[i])) ∧ (∀ i, i < L.length → W.frozen? ⟨g, i, none⟩ = false) ∧ g < W.heap.size
theorem AllAt.below {W W' : World} {g n : Nat} {L : List ByteArray} (h : AllAt W g L) (hb : Below n W W') (hg : g < n) : AllAt W' g L :=
  ⟨fun i hi => (hb.cell (p := ⟨g, i, none⟩) hg).trans (h.1 i hi), fun i hi => (hb.frozen (p := ⟨g, i, none⟩) hg).trans (h.2.1 i hi), Nat.lt_of_lt_of_le h.2.2 hb.size⟩
theorem AllAt.set {W : World} {g j : Nat} {L : List ByteArray} (h : AllAt W g L) (hj : j < L.length) (s : ByteArray) : AllAt (W.setCell ⟨g, j, none⟩ (.string s)) g (L.set j s) := by
  refine ⟨fun i hi => ?_, fun i hi => by rw [World.frozen?_setCell]; exact h.2.1 i (by simpa using hi), by simpa using h.2.2⟩
  have hi' : i < L.length := by simpa using hi
  by_cases e : j = i
  · subst e
    rw [World.cell?_setCell_same' _ _ _ (by rw [h.1 j hj]; rfl)]
    simp
  · rw [World.cell?_setCell_other _ _ _ _ (by intro e'; injection e' with _ e'; omega), h.1 i hi']
    simp [e]
theorem AllAt.strs {W : World} {g : Nat} {L : List ByteArray} (h : AllAt W g L) : StrsIn W (some ⟨g, 0, none⟩) L := .inr ⟨g, 0, rfl, h.2.2, fun i hi => by rw [Nat.zero_add]; exact h.1 i hi⟩
theorem GeoAt.far {W : World} {b0 : Nat} {D Z B O A : Int} (h : GeoAt W b0 D Z B O A) {p : Addr} (hp : p.block ≠ b0) (v : Value) : GeoAt (W.setCell p v) b0 D Z B O A := by
  obtain ⟨h0, h1, h2, h3, h4, hlt⟩ := h
  have hc : ∀ j, (W.setCell p v).cell? ⟨b0, j, none⟩ = W.cell? ⟨b0, j, none⟩ := fun j => World.cell?_setCell_other _ _ _ _ (by rintro rfl; exact hp rfl)
  exact ⟨(hc 0).trans h0, (hc 1).trans h1, (hc 2).trans h2, (hc 3).trans h3, (hc 4).trans h4, by simpa using hlt⟩

/-- What stands while the row is filled. -/
structure Fill (w W : World) (g b0 : Nat) (L : List ByteArray) (D Z B O A : Int) : Prop where
  all : AllAt W g L
  geo : GeoAt W b0 D Z B O A
  below : Below w.heap.size w W
  own : w.heap.size ≤ g
  ne : g ≠ b0
theorem Fill.next {w W W' : World} {g b0 : Nat} {L : List ByteArray} {D Z B O A : Int} (h : Fill w W g b0 L D Z B O A) (hb : Below W.heap.size W W') : Fill w W' g b0 L D Z B O A :=
  ⟨h.all.below hb h.all.2.2, h.geo.below hb, bmore h.below hb, h.own, h.ne⟩
theorem Fill.set {w W : World} {g b0 j : Nat} {L : List ByteArray} {D Z B O A : Int} (h : Fill w W g b0 L D Z B O A) (hj : j < L.length) (s : ByteArray) : Fill w (W.setCell ⟨g, j, none⟩ (.string s)) g b0 (L.set j s) D Z B O A :=
  ⟨h.all.set hj s, h.geo.far (p := ⟨g, j, none⟩) h.ne _, h.below.setCell (by exact h.own) _, h.own, h.ne⟩

/-- How long the texts are that have been laid so far: 64 bytes, but for the parity's place. -/
def Sized (L : List ByteArray) (P j : Nat) : Prop := ∀ i (h : i < L.length), L[i].size = if i < j ∧ i ≠ P then 64 else 0
theorem Sized.set {L : List ByteArray} {P j : Nat} (h : Sized L P j) (hne : j ≠ P) {s : ByteArray} (hs : s.size = 64) : Sized (L.set j s) P (j + 1) := fun i hi => by
  have hi' : i < L.length := by simpa using hi
  by_cases e : j = i
  · subst e
    rw [List.getElem_set_self, if_pos ⟨by omega, hne⟩]; exact hs
  · rw [List.getElem_set_ne e, h i hi']
    by_cases hc : i < j ∧ i ≠ P
    · rw [if_pos hc, if_pos ⟨by omega, hc.2⟩]
    · rw [if_neg hc, if_neg (by omega)]
theorem Sized.skip {L : List ByteArray} {P : Nat} (h : Sized L P P) : Sized L P (P + 1) := fun i hi => by
  rw [h i hi]
  by_cases hc : i < P ∧ i ≠ P
  · rw [if_pos hc, if_pos ⟨by omega, hc.2⟩]
  · rw [if_neg hc, if_neg (by omega)]
theorem Sized.le {L : List ByteArray} {P j : Nat} (h : Sized L P j) : longest L ≤ 64 := longest_le fun p hp => by
  obtain ⟨k, hk, rfl⟩ := List.getElem_of_mem hp
  rw [h k hk]; split <;> omega
theorem fold_none (n : Nat) : foldS (List.replicate n ByteArray.empty) = ⟨#[]⟩ := by
  have h : longest (List.replicate n ByteArray.empty) = 0 := Nat.le_zero.1 (longest_le fun p hp => by rw [List.eq_of_mem_replicate hp]; exact Nat.le_refl _)
  unfold foldS; rw [h]; rfl
theorem Sized.end_ {L : List ByteArray} {P : Nat} (h : Sized L P L.length) (h3 : 3 ≤ L.length) : (foldS L).size = 64 ∧ ∀ p ∈ L.set P (foldS L), p.size = 64 := by
  have h64 : (foldS L).size = 64 := by
    rw [size_foldS]
    obtain ⟨i, hi, hne⟩ : ∃ i, i < L.length ∧ i ≠ P := by
      by_cases h0 : P = 0
      · exact ⟨1, by omega, by omega⟩
      · exact ⟨0, by omega, fun e => h0 e.symm⟩
    have h1 := longest_ge (List.getElem_mem hi)
    rw [h i hi, if_pos ⟨hi, hne⟩] at h1
    have h2 : longest L ≤ 64 := longest_le fun p hp => by
      obtain ⟨k, hk, rfl⟩ := List.getElem_of_mem hp
      rw [h k hk]; split <;> omega
    omega
  refine ⟨h64, fun p hp => ?_⟩
  obtain ⟨k, hk, rfl⟩ := List.getElem_of_mem hp
  by_cases e : P = k
  · subst e
    rw [List.getElem_set_self]; exact h64
  · rw [List.getElem_set_ne e]
    have hk' : k < L.length := by simpa using hk
    rw [h k hk', if_pos ⟨hk', fun x => e x.symm⟩]

set_option maxRecDepth 100000 in
set_option maxHeartbeats 4000000 in
theorem row_law (x0 x1 x2 y0 y1 y2 : Int) (w : World) (hT : Tab w) :
    Calls Tryd.prog 3 #[.agg #[.int .i64 x0, .int .i64 x1, .int .i64 x2], .agg #[.int .i64 y0, .int .i64 y1, .int .i64 y2]] w fun e w' => e = .returned (.bool true) ∧ Below w.heap.size w w' := by
  obtain ⟨D, Z, B, ⟨g1, g2, g3, g4, g5, g6⟩, hshape⟩ := shape_any x0 x1 x2
  have hg : GoodP D Z B 2 4 := ⟨by omega, by omega, by omega, by omega, by omega, by omega, by omega, by omega, by omega⟩
  have cz := fun W => zones_any D Z B 2 4 W
  rw [zonesV_good hg] at cz
  obtain ⟨zt, z, ez1, ez2, z1, z2, zt1, zt2, ez3, ez4, ez5⟩ := mod_in y0 (Z - 3) (by omega) (by omega)
  obtain ⟨rt, y, ey1, ey2, yl1, yl2, rt1, rt2, ey3, ey4, ey5⟩ := mod_in y1 B (by omega) (by omega)
  obtain ⟨lt_, l, el1, el2, l1, l2, lt1, lt2, el3, el4, el5⟩ := mod_in y2 D (by omega) (by omega)
  obtain ⟨ln, rfl⟩ := Int.eq_ofNat_of_zero_le l1
  have hpv := parV_good (row := y) hg z1 (show z ≤ Z - 4 by omega) yl1 (by omega)
  have p1 := Int.emod_nonneg (z + y) (show D ≠ 0 by omega)
  have p2 := Int.emod_lt_of_pos (z + y) (show 0 < D by omega)
  obtain ⟨P, hP⟩ := Int.eq_ofNat_of_zero_le p1
  rw [hP] at hpv p2
  obtain ⟨dn, rfl⟩ := Int.eq_ofNat_of_zero_le (show 0 ≤ D by omega)
  have cp := fun W => parity_any (dn : Int) Z B 2 4 z y W
  rw [hpv] at cp
  have hbk : ∀ j : Nat, j < dn → bkB (dn : Int) Z B 2 4 z y (j : Int) = decide (j ≠ P) := fun j hj => by
    unfold bkB
    rw [hpv, decide_eq_true (show (0 : Int) ≤ (P : Int) by omega), betB_iff.2 ⟨show (0 : Int) ≤ (j : Int) by omega, by omega⟩, Bool.true_and, Bool.and_true, decide_eq_decide]
    omega
  have cb := fun (j : Nat) (hj : j < dn) W => back_any (dn : Int) Z B 2 4 z y (j : Int) W
  obtain ⟨V, hVe⟩ : ∃ V, Z - 3 = V := ⟨_, rfl⟩
  rw [hVe] at cz ez1 ez2 ez4 z2
  have hV0 : ¬ V = 0 := by omega
  have hB0 : ¬ B = 0 := by omega
  have hD0 : ¬ (dn : Int) = 0 := by omega
  have hdn0 : ¬ dn = 0 := by omega
  have hVb : V ≤ 61 := by omega
  have hPd : P < dn := by omega
  have hld : ln < dn := by omega
  obtain ⟨i0, hi, hz0, hz1, hz2⟩ := info_parts infoStr
  have hmk := fun W => run_make_m (P := Tryd.prog) 28 9 i0 (.string ByteArray.empty) Tryd.underlying28 hi hz0 .i64 .i64 dn dn (Nat.le_refl _) (by rw [hz2]; omega) (by omega) W
  rw [hz1] at hmk
  have hmkH := Lib.hid hmk
  have cs := Lib.hid hshape
  have czH := Lib.hid cz
  have cpH := Lib.hid cp
  have cbH := Lib.hid cb
  have hbkH := Lib.hid hbk
  have ezH := Lib.hid (show _ ∧ _ ∧ _ ∧ _ ∧ _ from ⟨ez1, ez2, ez3, ez4, ez5⟩)
  have eyH := Lib.hid (show _ ∧ _ ∧ _ ∧ _ ∧ _ from ⟨ey1, ey2, ey3, ey4, ey5⟩)
  have elH := Lib.hid (show _ ∧ _ ∧ _ ∧ _ ∧ _ from ⟨el1, el2, el3, el4, el5⟩)
  have hplaces := Lib.hid (fun W (hb : Below w.heap.size w W) => places_any W (hT.below hb))
  clear hshape cz cp cb hbk hmk hi hz0 hz1 hz2 ez1 ez2 ez3 ez4 ez5 ey1 ey2 ey3 ey4 ey5 el1 el2 el3 el4 el5 hVe hg hT hpv hP
  -- the two boxes
  have hA0 : ArrIn ((w.alloc (.cells #[.int .i64 x0, .int .i64 x1, .int .i64 x2] 22)).alloc (.cells #[.int .i64 y0, .int .i64 y1, .int .i64 y2] 22)) w.heap.size x0 x1 x2 := (ArrIn.new w x0 x1 x2 _).below ((Below.refl _ _).alloc (Nat.le_refl _) _)
  have hB0w : Below w.heap.size w ((w.alloc (.cells #[.int .i64 x0, .int .i64 x1, .int .i64 x2] 22)).alloc (.cells #[.int .i64 y0, .int .i64 y1, .int .i64 y2] 22)) := ((Below.refl _ _).alloc (Nat.le_refl _) _).alloc (by simp) _
  have hA0H := Lib.hid hA0
  have hB0H := Lib.hid hB0w
  clear hA0 hB0w
  go_enter Tryd.func3, Tryd.ntmps3
  go_wp2_with fail
  go_quiet (fail)
  go_wp2_with fail
  (with_reducible refine (hplaces.out _ (below_drewN hB0H.out nq)).mono ?_)
  rintro e w1 ⟨rfl, hb1⟩
  have hB1 := (below_drewN hB0H.out nq).trans (hb1.mono (below_drewN hB0H.out nq).size)
  have hA1 := (hA0H.out.below (below_drewN (Below.refl _ _) nq)).below hb1
  clear hb1 hA0H hB0H
  obtain ⟨a0, a1', a2', _⟩ := hA1
  go_wp2_with fail
  (with_reducible refine (cs.out _).mono ?_)
  rintro e w2 ⟨rfl, hb2⟩
  have hB2 := bmore hB1 hb2
  clear a0 a1' a2' hb2 hB1
  have hT : Boxes w (w2.alloc (.cells #[.int .i64 (dn : Int), .int .i64 Z, .int .i64 B, .int .i64 2, .int .i64 4] 25)) [w2.heap.size] (dn : Int) Z B 2 4 := ⟨fun x hx => by rw [List.mem_singleton.1 hx]; exact GeoAt.new w2 (dn : Int) Z B 2 4 _, hB2.alloc hB2.size _⟩
  have hTH := Lib.hid hT
  clear hB2 hT
  obtain ⟨ez1, ez2, ez3, ez4, ez5⟩ := ezH.out
  obtain ⟨ey1, ey2, ey3, ey4, ey5⟩ := eyH.out
  obtain ⟨el1, el2, el3, el4, el5⟩ := elH.out
  go_wp2_with fail
  refine fresh_world (fun W => Boxes w W [w2.heap.size] (dn : Int) Z B 2 4) hTH.out ?_
  clear hTH
  intro w3 hT
  have hTH := Lib.hid hT
  obtain ⟨h0, h1, h2, h3, h4, _⟩ := hT.1 w2.heap.size (by simp)
  clear hT
  go_wp2_with fail
  have hk : ∀ W, Below w3.heap.size w3 W → (W.cell? ⟨w2.heap.size, 0, none⟩ = some (.int .i64 (dn : Int)) ∧ W.cell? ⟨w2.heap.size, 1, none⟩ = some (.int .i64 Z) ∧ W.cell? ⟨w2.heap.size, 2, none⟩ = some (.int .i64 B) ∧ W.cell? ⟨w2.heap.size, 3, none⟩ = some (.int .i64 2) ∧ W.cell? ⟨w2.heap.size, 4, none⟩ = some (.int .i64 4)) := fun W hb => by
    have hT := hTH.out.below hb
    obtain ⟨h0, h1, h2, h3, h4, _⟩ := hT.1 w2.heap.size (by simp)
    exact ⟨h0, h1, h2, h3, h4⟩
  have hkH := Lib.hid hk
  clear hk h0 h1 h2 h3 h4
  go_region_held3 (fun W => W.cell? ⟨w2.heap.size, 0, none⟩ = some (.int .i64 (dn : Int)) ∧ W.cell? ⟨w2.heap.size, 1, none⟩ = some (.int .i64 Z) ∧ W.cell? ⟨w2.heap.size, 2, none⟩ = some (.int .i64 B) ∧ W.cell? ⟨w2.heap.size, 3, none⟩ = some (.int .i64 2) ∧ W.cell? ⟨w2.heap.size, 4, none⟩ = some (.int .i64 4))
    (first | exact hkH.out _ (Below.refl _ _).drew | exact hkH.out _ hq3' | exact hkH.out _ hq2' | exact hkH.out _ hq1')
    (first | (go_at_call 7; ((with_reducible refine (czH.out _).mono ?_); rintro e' v1 ⟨rfl, hq1⟩); have hq1' := ((Below.refl w3.heap.size w3).drew).trans (hq1.mono (by simp))) | (go_at_call 7; ((with_reducible refine (czH.out _).mono ?_); rintro e' v2 ⟨rfl, hq2⟩); have hq2' := bmore hq1' hq2) | (go_at_call 7; ((with_reducible refine (czH.out _).mono ?_); rintro e' v3 ⟨rfl, hq3⟩); have hq3' := bmore hq2' hq3))
  simp only [Exit.then]
  refine fresh_K (fun W => Boxes w W [w2.heap.size] (dn : Int) Z B 2 4) (hTH.out.below hq3') ?_
  clear hkH hTH
  rintro w4 hT
  have hTH := Lib.hid hT
  obtain ⟨h0, h1, h2, h3, h4, _⟩ := hT.1 w2.heap.size (by simp)
  clear hT
  clear ez1 ez2 ez3 ez4 ez5 ey1 ey2 ey3 ey4 ey5 el1 el2 el3 el4 el5
  have hmk := hmkH.out
  go_wp2_with fail
  clear hmk
  refine fresh_world (fun W => Fill w W w4.heap.size w2.heap.size (List.replicate dn ByteArray.empty) (dn : Int) Z B 2 4) ?_ ?_
  · have hT := hTH.out
    have hb4 : Below w4.heap.size w4 (w4.alloc (.cells (madeCells #[.string ByteArray.empty] dn) 9)) := (Below.refl _ _).alloc (Nat.le_refl _) _
    have hgeo := hT.1 w2.heap.size (by simp)
    refine ⟨⟨fun i hi => ?_, fun i hi => made_free w4 _ _ _ _, by simp⟩, hgeo.below hb4, bmore hT.2 hb4, hT.2.size, Nat.ne_of_gt hgeo.2.2.2.2.2⟩
    rw [made_noughts w4 9 (.string ByteArray.empty) dn i (by simpa using hi), List.getElem_replicate]
  clear hTH h0 h1 h2 h3 h4
  intro w5 hF0
  generalize w4.heap.size = g at hF0 ⊢
  generalize w2.heap.size = b0 at hF0 ⊢
  have hF0H := Lib.hid hF0
  clear hF0
  go_loopw [10, 11] (fun p d wr => ∃ (j : Nat) (L : List ByteArray), j ≤ dn ∧ d = .int .i64 (j : Int) ∧ p = .string (foldS L) ∧ L.length = dn ∧ Hid (Sized L P j) ∧ Fill w wr g b0 L (dn : Int) Z B 2 4) (fun _ d _ => dn - (intOf d).toNat)
  case atStart => exact ⟨0, _, by omega, rfl, by rw [fold_none], List.length_replicate .., Lib.hid (fun i hi => by rw [List.getElem_replicate, if_neg (by omega)]; rfl), hF0H.out⟩
  case round =>
    clear hF0H
    obtain ⟨j, L, hj, rfl, rfl, hlen, hsz, hF⟩ := hrel
    have hFH := Lib.hid hF
    have hlenH := Lib.hid hlen
    obtain ⟨h0, h1, h2, h3, h4, _⟩ := hF.geo
    by_cases hlt : j < dn
    · have cbj := cbH.out j hlt
      rw [hbkH.out j hlt] at cbj
      generalize bkV (dn : Int) Z B 2 4 z y (j : Int) = v at cbj
      by_cases hjP : j = P
      · rw [decide_eq_false (fun h => h hjP)] at cbj
        have cbjH := Lib.hid cbj
        have hjPH := Lib.hid hjP
        clear cbj hjP hF hlen
        generalize hfp : foldS L = fp
        go_wp2_with fail
        (with_reducible refine (cbjH.out _).mono ?_)
        rintro e w6 ⟨rfl, hb6⟩
        have hF6 := hFH.out.next hb6
        clear hb6 h0 h1 h2 h3 h4
        go_wp2
        go_roundw
        case rel => exact ⟨j + 1, L, by omega, by go_num, by rw [hfp], hlenH.out, Lib.hid (by have h := hsz.out; rw [hjPH.out] at h ⊢; exact h.skip), hF6⟩
        case measure => simp [intOf]; omega
      · rw [decide_eq_true hjP] at cbj
        have cbjH := Lib.hid cbj
        have hL0 : L[j]'(by omega) = L[j]'(by omega) := rfl
        clear cbj hF
        go_wp2_with fail
        (with_reducible refine (cbjH.out _).mono ?_)
        rintro e w6 ⟨rfl, hb6⟩
        have hF6 := hFH.out.next hb6
        clear hb6 h0 h1 h2 h3 h4
        have hF6H := Lib.hid hF6
        clear hF6
        go_wp2_with fail
        (with_reducible refine (content_any z v w6).mono ?_)
        rintro e w7 ⟨s, hs64, rfl, hb7⟩
        have hF7 := hF6H.out.next hb7
        have hc := hF7.all.1 j (by omega)
        have hf := hF7.all.2.1 j (by omega)
        have hF7H := Lib.hid hF7
        have hj0 : (L[j]'(by omega)).size = 0 := by rw [hsz.out j (by omega), if_neg (by omega)]
        have hlong : longest L ≤ 64 := hsz.out.le
        have hadd := fun W => xadd_any (foldS L) s W (by rw [size_foldS]; omega) (by omega)
        rw [foldS_set L j s (by omega) hj0] at hadd
        have haddH := Lib.hid hadd
        have hnextH := Lib.hid (hsz.out.set hjP hs64)
        have hF8H := Lib.hid (hF7.set (j := j) (by omega) s)
        clear hF7 hb7 hs64 hadd hj0 hL0 hF6H hlong
        generalize L[j]'(by omega) = q at hc
        go_wp2_with fail
        (with_reducible refine (haddH.out _).mono ?_)
        rintro e w8 ⟨rfl, hb8⟩
        have hF9 := hF8H.out.next hb8
        clear hb8 hc hf
        go_wp2
        go_roundw
        case rel => exact ⟨j + 1, L.set j s, by omega, by go_num, rfl, by rw [List.length_set]; exact hlenH.out, hnextH, hF9⟩
        case measure => simp [intOf]; omega
    · obtain rfl : j = dn := by omega
      have hend := (show Sized L P L.length by rw [hlen]; exact hsz.out).end_ (by omega)
      obtain ⟨hf64, h64⟩ := hend
      have hsP : (L[P]'(by omega)).size = 0 := by rw [hsz.out P (by omega), if_neg (by omega)]
      have hzero := laid_zero L P (by omega) hsP
      have hfpH := Lib.hid hf64
      obtain ⟨L2, hL2⟩ : ∃ L2, L.set P (foldS L) = L2 := ⟨_, rfl⟩
      have hlen2 : L2.length = j := by rw [← hL2, List.length_set]; exact hlen
      rw [hL2] at h64 hzero
      have h64H := Lib.hid h64
      have hzeroH := Lib.hid hzero
      have hL2H := Lib.hid hL2
      have hlen2H := Lib.hid hlen2
      clear hf64 h64 hzero hsP hL2 hF hsz hlen
      go_wp2_with fail
      (with_reducible refine (cpH.out _).mono ?_)
      rintro e w6 ⟨rfl, hb6⟩
      have hF6 := hFH.out.next hb6
      have hPL : P < L.length := by rw [hlenH.out]; exact hPd
      have hc := hF6.all.1 P hPL
      have hf := hF6.all.2.1 P hPL
      have hF7 := hF6.set hPL (foldS L)
      rw [hL2H.out] at hF7
      have hF7H := Lib.hid hF7
      clear hF6 hF7 hb6 h0 h1 h2 h3 h4 hFH hlen2
      generalize L[P] = q at hc
      generalize foldS L = fp at hF7H ⊢
      go_wp2_with fail
      refine fresh_world (fun W => Fill w W g b0 L2 (j : Int) Z B 2 4) hF7H.out ?_
      clear hc hf hF7H hlenH hL2H hfpH hPL
      intro w7 hF
      have hFH := Lib.hid hF
      clear hF
      go_loopw [14, 15] (fun v i wr => ∃ (k : Nat) (A' : Option Addr) (cap' : Nat) (O : List ByteArray), k ≤ j ∧ i = .int .i64 (k : Int) ∧ v = .slice A' O.length cap' ∧ Row wr w7.heap.size A' cap' O ∧ Below w7.heap.size w7 wr ∧
        Hid ((∀ t, xorAt O t = xorAt (L2.take k) t ^^^ (if ln < k then byteAt (L2.getD ln ByteArray.empty) t else 0)) ∧ (∀ p ∈ O, p.size = 64) ∧ O.length + (if ln < k then 1 else 0) = k)) (fun _ i _ => j - (intOf i).toNat)
      case atStart => exact ⟨0, none, 0, [], by omega, rfl, rfl, Row.nil _ _, Below.refl _ _, Lib.hid ⟨fun t => by rw [if_neg (by omega), UInt8.xor_zero]; rfl, by simp, by simp⟩⟩
      case round =>
        obtain ⟨k, A', cap', O, hk, rfl, rfl, hRow, hB, hO⟩ := hrel
        have hF := hFH.out
        have hAll := hF.all.below hB hF.all.2.2
        have hGeo := hF.geo.below (hB.mono (Nat.le_refl _))
        obtain ⟨h0, h1, h2, h3, h4, _⟩ := hGeo
        have hRowH := Lib.hid hRow
        have hBH := Lib.hid hB
        have hOl : O.length ≤ k := by have := hO.out.2.2; omega
        by_cases hlt : k < j
        · have hkL : k < L2.length := by rw [hlen2H.out]; exact hlt
          have hc := hAll.1 k hkL
          have hxt := fun t => xorAt_take L2 k t hkL
          have h64k := h64H.out _ (List.getElem_mem hkL)
          have hgd : L2.getD k ByteArray.empty = L2[k] := by rw [List.getD_eq_getElem?_getD, List.getElem?_eq_getElem hkL]; rfl
          generalize L2[k] = q at hc hxt h64k hgd
          have hxtH := Lib.hid hxt
          have hqH := Lib.hid h64k
          have hgdH := Lib.hid hgd
          clear hxt h64k hgd hAll hF hRow
          by_cases hkl : k = ln
          · have hkb : ((k : Int) == (ln : Int)) = true := by rw [beq_iff_eq]; omega
            have hkb2 : ((k : Int) != (ln : Int)) = false := by rw [bne, hkb]; rfl
            have hnext := Lib.hid (show (∀ t, xorAt O t = xorAt (L2.take (k + 1)) t ^^^ (if ln < k + 1 then byteAt (L2.getD ln ByteArray.empty) t else 0)) ∧ (∀ p ∈ O, p.size = 64) ∧ O.length + (if ln < k + 1 then 1 else 0) = k + 1 from by
              obtain ⟨o1, o2, o3⟩ := hO.out
              rw [if_neg (by omega)] at o3
              refine ⟨fun t => ?_, o2, by rw [if_pos (by omega)]; omega⟩
              rw [o1 t, hxtH.out t, if_neg (by omega), if_pos (by omega), ← hkl, hgdH.out, UInt8.xor_assoc, UInt8.xor_self])
            clear hkl hB
            go_wp2
            go_roundw
            case rel => exact ⟨k + 1, A', cap', O, by omega, by go_num, rfl, hRowH.out, hBH.out, hnext⟩
            case measure => simp [intOf]; omega
          · have hkb : ((k : Int) == (ln : Int)) = false := by rw [beq_eq_false_iff_ne]; omega
            have hkb2 : ((k : Int) != (ln : Int)) = true := by rw [bne, hkb]; rfl
            have hnext := Lib.hid (show (∀ t, xorAt (O ++ [q]) t = xorAt (L2.take (k + 1)) t ^^^ (if ln < k + 1 then byteAt (L2.getD ln ByteArray.empty) t else 0)) ∧ (∀ p ∈ O ++ [q], p.size = 64) ∧ (O ++ [q]).length + (if ln < k + 1 then 1 else 0) = k + 1 from by
              obtain ⟨o1, o2, o3⟩ := hO.out
              refine ⟨fun t => ?_, fun p hp => ?_, ?_⟩
              · rw [xorAt_snoc, o1 t, hxtH.out t, UInt8.xor_assoc, UInt8.xor_assoc]
                congr 1
                by_cases hc : ln < k
                · rw [if_pos hc, if_pos (by omega), UInt8.xor_comm]
                · rw [if_neg hc, if_neg (by omega), UInt8.zero_xor, UInt8.xor_zero]
              · rcases List.mem_append.1 hp with hp | hp
                · exact o2 p hp
                · rw [List.mem_singleton.1 hp]; exact hqH.out
              · rw [List.length_append, List.length_singleton]
                by_cases hc : ln < k
                · rw [if_pos hc] at o3; rw [if_pos (by omega)]; omega
                · rw [if_neg hc] at o3; rw [if_neg (by omega)]; omega)
            obtain ⟨A2, cap2, w8, hrun, hRow2, hgrow, _⟩ := append_row (hRowH.out.alloc (.cells #[.string q] 9)) (strs_one wr q) (cap2 := 1) (fun h => by cases h) (by simp; omega) (by have := hB.size; simp; omega) 28
            have hB8 : Below w7.heap.size w7 w8 := (hB.alloc hB.size _).trans (below_row (hRowH.out.alloc (.cells #[.string q] 9)) hgrow (by have := hB.size; simp; omega))
            have hrunH := Lib.hid hrun
            have hRow2H := Lib.hid hRow2
            have hB8H := Lib.hid hB8
            clear hkl hB hrun hRow2 hgrow hB8
            go_wp2_with (at_builtin; refine wpList_append_run (by first | rfl | (simp [Region.wanted, yielded])) (.tmp 102) (.tmp 107) 28 rfl rfl rfl hrunH.out ?_)
            go_roundw
            case rel => exact ⟨k + 1, A2, cap2, O ++ [q], by omega, by go_num, by rw [List.length_append]; rfl, hRow2H.out, hB8H.out, hnext⟩
            case measure => simp [intOf]; omega
        · obtain rfl : k = j := by omega
          have hll : ln < L2.length := by rw [hlen2H.out]; exact hld
          obtain ⟨o1, o2, o3⟩ := hO.out
          rw [if_pos hld] at o3
          have htk : L2.take k = L2 := List.take_of_length_le (by rw [hlen2H.out]; exact Nat.le_refl _)
          have hgd : L2.getD ln ByteArray.empty = L2[ln] := by rw [List.getD_eq_getElem?_getD, List.getElem?_eq_getElem hll]; rfl
          have hfo := others_fold (O := O) hll h64H.out hzeroH.out (by omega) o2 (fun t => by rw [o1 t, htk, if_pos hld, hgd])
          have hlongO : longest O ≤ 65536 := longest_le fun p hp => by rw [o2 p hp]; omega
          have hlongL : longest L2 ≤ 65536 := longest_le fun p hp => by rw [h64H.out p hp]; omega
          have hempty : emptyB (foldS L2) = true := emptyB_mk fun i _ => by rw [byteAt_foldS]; exact hzeroH.out i
          have cf1 := fun W h => fold_any A' cap' O W (by omega) hlongO h
          rw [hfo] at cf1
          have cf2 := fun W h => fold_any (some ⟨g, 0, none⟩) k L2 W (by rw [hlen2H.out]; omega) hlongL h
          have cem := fun W => empty_any (foldS L2) W (by unfold maxLen; rw [size_foldS]; omega)
          rw [hempty] at cem
          rw [hlen2H.out] at cf2
          have hc := hAll.1 ln hll
          have hStrs := hRowH.out.strs
          have hAllH := Lib.hid hAll
          generalize foldS L2 = f2 at cf2 cem
          generalize L2[ln] = q at hc cf1
          have cf1H := Lib.hid cf1
          have cf2H := Lib.hid cf2
          have cemH := Lib.hid cem
          have hSH := Lib.hid hStrs
          have hS2 := Lib.hid (fun W (hb : Below wr.heap.size wr W) => (hAllH.out.below hb hAllH.out.2.2).strs)
          have hkeep := Lib.hid (fun W (hb : Below wr.heap.size wr W) => (hb.cell (p := ⟨g, ln, none⟩) hAllH.out.2.2).trans hc)
          have hcH := Lib.hid hc
          clear hfo hlongO hlongL hempty cf1 cf2 cem hc hStrs hAll o1 o2 htk hgd hF hRow
          have hk1 := hcH.out
          go_wp2_with fail
          clear hk1 h0 h1 h2 h3 h4
          have hlnI : (ln : Int) < (k : Int) := by omega
          go_region_held3 (fun W => W.cell? ⟨g, ln, none⟩ = some (.string q))
            (first | exact hkeep.out _ (Below.refl _ _).drew | exact hkeep.out _ hq2' | exact hkeep.out _ hq1')
            (first | (go_at_call 12; ((with_reducible refine (cf1H.out _ (hSH.out.below (Below.refl _ _).drew)).mono ?_); rintro e' v1 ⟨rfl, hq1⟩); have hq1' := ((Below.refl wr.heap.size wr).drew).trans (hq1.mono (by simp))) | (go_at_call 12; ((with_reducible refine (cf2H.out _ (hS2.out _ hq1')).mono ?_); rintro e' v2 ⟨rfl, hq2⟩); have hq2' := bmore hq1' hq2) | (go_at_call 13; ((with_reducible refine (cemH.out _).mono ?_); rintro e' wq ⟨rfl, rfl⟩)))
          have hW := bmore (bmore hFH.out.below hBH.out) hq2'
          go_wp2
          go_ret
          exact ⟨by simp, hW⟩
end Go.Proofs.YtflkkmiehioejabDoor
