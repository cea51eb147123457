/- TailPlain: the walk. -/
import Derived.Test.YtpgnajcbahklgaaTlPm
import Derived.Test.YtpgnajcbahklgaaTlVw
import Derived.Test.YtpgnajcbahklgaaSRef
namespace Go.Proofs.Ytpgnajcbahklgaa
open Go.RowKit Tl

/-- The arguments' boxes. -/
structure PnB (w : World) (D Z Bk O Ac : Int) (A : Option Addr) (ca : Nat) (ls : List Int) (m : Int) (Bn : Option Addr) (cb : Nat) (ns : List (Int × Int)) (W : World) : Prop where
  g : GeoAt W w.heap.size D Z Bk O Ac
  v : VwB W (w.heap.size + 1) A ca Bn cb ⟨ls, m, ns⟩
  bw : Below w.heap.size w W
theorem PnB.below {w W W' : World} {D Z Bk O Ac : Int} {A : Option Addr} {ca : Nat} {ls : List Int} {m : Int} {Bn : Option Addr} {cb : Nat} {ns : List (Int × Int)} (h : PnB w D Z Bk O Ac A ca ls m Bn cb ns W) (hb : Below W.heap.size W W') : PnB w D Z Bk O Ac A ca ls m Bn cb ns W' := ⟨h.g.below hb, h.v.below hb, bmore h.bw hb⟩
theorem PnB.new (w : World) (D Z Bk O Ac : Int) (A : Option Addr) (ca : Nat) (ls : List Int) (m : Int) (Bn : Option Addr) (cb : Nat) (ns : List (Int × Int)) (hA : IntsIn w A ls) (hP : ntE.In w Bn ns) : PnB w D Z Bk O Ac A ca ls m Bn cb ns ((w.alloc (.cells #[.int .i64 D, .int .i64 Z, .int .i64 Bk, .int .i64 O, .int .i64 Ac] 23)).alloc (.cells #[.slice A ls.length ca, .int .i64 m, .slice Bn ns.length cb] 27)) := by
  have s1 := World.size_alloc w (.cells #[.int .i64 D, .int .i64 Z, .int .i64 Bk, .int .i64 O, .int .i64 Ac] 23)
  have g1 := GeoAt.new w D Z Bk O Ac 23
  have b1 := (Below.refl w.heap.size w).alloc (Nat.le_refl _) (.cells #[.int .i64 D, .int .i64 Z, .int .i64 Bk, .int .i64 O, .int .i64 Ac] 23)
  have hI : VwIn (w.alloc (.cells #[.int .i64 D, .int .i64 Z, .int .i64 Bk, .int .i64 O, .int .i64 Ac] 23)) A Bn ⟨ls, m, ns⟩ := ⟨hA.below b1, hP.below b1⟩
  generalize w.alloc (.cells #[.int .i64 D, .int .i64 Z, .int .i64 Bk, .int .i64 O, .int .i64 Ac] 23) = W1 at s1 g1 b1 hI ⊢
  have v2 := VwB.new (ca := ca) (cb := cb) hI 27
  have a2 := (Below.refl W1.heap.size W1).alloc (Nat.le_refl _) (.cells #[.slice A ls.length ca, .int .i64 m, .slice Bn ns.length cb] 27)
  rw [s1] at v2
  exact ⟨g1.below a2, v2, bmore b1 a2⟩
/-- The view's box behind views: what lay in memory then lies there still. -/
structure PnC (w3 : World) (A1 : Option Addr) (c1 : Nat) (ls : List Int) (B1 : Option Addr) (d1 : Nat) (xs : List (Int × Int)) (W : World) : Prop where
  z : W.heap[w3.heap.size]? = some (.cells #[.slice A1 ls.length c1, .int .i64 (-1), .slice B1 xs.length d1] 31 (0, 0))
  b : Below w3.heap.size w3 W
theorem PnC.below {w3 W W' : World} {A1 : Option Addr} {c1 : Nat} {ls : List Int} {B1 : Option Addr} {d1 : Nat} {xs : List (Int × Int)} (h : PnC w3 A1 c1 ls B1 d1 xs W) (hb : Below W.heap.size W W') : PnC w3 A1 c1 ls B1 d1 xs W' :=
  ⟨(hb.block _ (Array.getElem?_eq_some_iff.1 h.z).1).trans h.z, bmore h.b hb⟩
theorem PnC.nil {w3 W : World} {A1 : Option Addr} {c1 : Nat} {ls : List Int} {B1 : Option Addr} {d1 : Nat} {xs : List (Int × Int)} (h : PnC w3 A1 c1 ls B1 d1 xs W) : PnC w3 A1 c1 ls none 0 [] (W.setCell ⟨w3.heap.size, 2, none⟩ (.slice none 0 0)) :=
  ⟨heap_setV h.z 2 _, h.b.setCell (Nat.le_refl _) _⟩
set_option maxRecDepth 100000 in
set_option maxHeartbeats 4000000 in
theorem plain_law (w : World) (D Z Bk O Ac : Int) (A : Option Addr) (ca : Nat) (ls : List Int) (m : Int) (Bn : Option Addr) (cb : Nat) (ns : List (Int × Int)) (zone : Int) (hA : IntsIn w A ls) (hA0 : A = none → ca = 0) (hP : ntE.In w Bn ns) :
    Calls Try.prog 6 #[.agg #[.int .i64 D, .int .i64 Z, .int .i64 Bk, .int .i64 O, .int .i64 Ac], .int .i64 zone, .agg #[.slice A ls.length ca, .int .i64 m, .slice Bn ns.length cb]] w fun e w' => e = .returned (.bool true) ∧ Below w.heap.size w w' := by
  have hN := Lib.hid (PnB.new w D Z Bk O Ac A ca ls m Bn cb ns hA hP)
  have hA0H := Lib.hid hA0
  clear hA hA0 hP
  go_enter Try.func6, Try.ntmps6
  go_wp2_with fail
  (with_reducible refine (speaks12 _).mono ?_)
  rintro e w1 ⟨rfl, hb1⟩
  have h1 := hN.out.below hb1
  have hB1 := Lib.hid h1
  obtain ⟨g0, g1, g2, g3, g4, _⟩ := h1.g
  have v0 := h1.v.c0
  clear hN hb1 h1
  clear v0
  go_upto_region 4 with fail
  have hG7 := GeoAt.new w1 D Z Bk O Ac 37
  have hB4 := hB1.out.below ((Below.refl w1.heap.size w1).alloc (Nat.le_refl _) (.cells #[.int .i64 D, .int .i64 Z, .int .i64 Bk, .int .i64 O, .int .i64 Ac] 37))
  clear g0 g1 g2 g3 g4
  generalize w1.heap.size = s7 at hG7 ⊢
  refine fresh_world (fun W => PnB w D Z Bk O Ac A ca ls m Bn cb ns W ∧ GeoAt W s7 D Z Bk O Ac) ⟨hB4, hG7⟩ ?_
  clear hG7 hB4 hB1
  rintro w4 ⟨h4, k4⟩
  have v0 : w4.cell? ⟨w.heap.size + 1, 0, none⟩ = some (.slice A ls.length ca) := h4.v.c0
  have v1 : w4.cell? ⟨w.heap.size + 1, 1, none⟩ = some (.int .i64 m) := h4.v.c1
  have v2 : w4.cell? ⟨w.heap.size + 1, 2, none⟩ = some (.slice Bn ns.length cb) := h4.v.c2
  have hH4 := Lib.hid h4
  have hK4 := Lib.hid k4
  obtain ⟨g0, g1, g2, g3, g4, _⟩ := h4.g
  clear h4 k4
  by_cases hl : (40 : Int) < (ls.length : Int)
  · go_wp2_with fail
    go_ret
    exact ⟨rfl, hH4.out.bw⟩
  · have c1 := Lib.hid (fun W => refgood_any D Z Bk O Ac W)
    cases hg : goodB D Z Bk O Ac with
    | false =>
      rw [hg] at c1
      go_wp2_with fail
      (with_reducible refine (c1.out _).mono ?_)
      rintro e w2 ⟨rfl, hb2⟩
      have hF := Lib.hid (bmore hH4.out.bw hb2)
      clear hH4 hK4 hb2 v0 v1 v2 g0 g1 g2 g3 g4
      go_wp2_with fail
      go_ret
      exact ⟨rfl, hF.out⟩
    | true =>
      rw [hg] at c1
      go_wp2_with fail
      (with_reducible refine (c1.out _).mono ?_)
      rintro e w2 ⟨rfl, hb2⟩
      have hH := Lib.hid (hH4.out.below hb2)
      have hK := Lib.hid (hK4.out.below hb2)
      clear hH4 hK4 hb2 v0 v1 v2 g0 g1 g2 g3 g4 c1
      have v0 : w2.cell? ⟨w.heap.size + 1, 0, none⟩ = some (.slice A ls.length ca) := hH.out.v.c0
      have v1 : w2.cell? ⟨w.heap.size + 1, 1, none⟩ = some (.int .i64 m) := hH.out.v.c1
      have v2 : w2.cell? ⟨w.heap.size + 1, 2, none⟩ = some (.slice Bn ns.length cb) := hH.out.v.c2
      have hvw := Lib.hid (fun W (hb : Below w2.heap.size w2 W) => views_any W A ca ls m Bn cb ns (hH.out.v.i.ls.below hb) hA0H.out (by omega) (hH.out.v.i.ns.below hb))
      go_wp2_with fail
      (with_reducible refine (hvw.out _ (Below.refl _ _)).mono ?_)
      rintro e w3 ⟨A1, c1, B1, d1, A2, c2, B2, d2, rfl, hi1, hn1, _, _, hb3⟩
      clear v0 v1 v2 hvw
      have hxl : (ns.take 40).length ≤ 40 := by rw [List.length_take]; omega
      generalize ns.take 40 = xs at hn1 hxl ⊢
      have hG3 := Lib.hid (hK.out.below hb3)
      have hI3 := Lib.hid (⟨hi1, hn1⟩ : VwIn w3 A1 B1 ⟨ls, -1, xs⟩)
      have hE3 := Lib.hid (⟨hi1, .inl rfl⟩ : VwIn w3 A1 none ⟨ls, -1, []⟩)
      have hB3 := Lib.hid (bmore hH.out.bw hb3)
      have hxlH := Lib.hid hxl
      clear hi1 hn1 hb3 hH hK hxl hA0H
      go_upto_region 8 with fail
      have hz8 : PnC w3 A1 c1 ls B1 d1 xs (((w3.alloc (.cells #[.slice A1 ls.length c1, .int .i64 (-1), .slice B1 xs.length d1] 31)).alloc (.cells #[.slice A2 ls.length c2, .int .i64 m, .slice B2 xs.length d2] 34))) := by
        refine PnC.below ⟨World.alloc_heap_new w3 _, (Below.refl w3.heap.size w3).alloc (Nat.le_refl _) _⟩ ((Below.refl _ _).alloc (Nat.le_refl _) _)
      refine fresh_world (fun W => PnC w3 A1 c1 ls B1 d1 xs W) hz8 ?_
      clear hz8
      rintro w8 h8
      have hlen := Lib.hid (fun W A B c d ys (h : VwIn W A B ⟨ls, -1, ys⟩) (hy : ys.length ≤ 1000000) => length_any12 D Z Bk O Ac zone A c B d ⟨ls, -1, ys⟩ W h (by show ls.length ≤ 1000000; omega) hy)
      have hsrc := Lib.hid (fun W A B c d ys b (h : VwIn W A B ⟨ls, -1, ys⟩) (hy : ys.length ≤ 1000000) => source_any D Z Bk O Ac zone A c B d ⟨ls, -1, ys⟩ b W h (by show ls.length ≤ 1000000; omega) hy)
      dsimp only at hlen hsrc
      have hcap := Lib.hid (fun W => cap_any D Z Bk O Ac W)
      have hpl := plain_len (D := D) (Z := Z) (B := Bk) (O := O) (A := Ac) (zone := zone) (ls := ls) xs
      obtain ⟨n, hn⟩ : ∃ n, lenV D Z Bk O Ac zone ⟨ls, -1, xs⟩ = n := ⟨_, rfl⟩
      rw [hn] at hpl
      have hplH := Lib.hid hpl
      have htold := Lib.hid (fun (k : Nat) (hk : k < n) => plain_told (D := D) (Z := Z) (B := Bk) (O := O) (A := Ac) (zone := zone) (v := ⟨ls, -1, xs⟩) rfl (b := k) (by rw [hn]; exact hk))
      have hnH := Lib.hid hn
      clear hpl hn
      obtain ⟨g0, g1, g2, g3, g4, _⟩ := hG3.out.below h8.b
      have z0 : w8.cell? ⟨w3.heap.size, 0, none⟩ = some (.slice A1 ls.length c1) := cell_of_row w8 w3.heap.size 0 _ _ _ h8.z
      have z1 : w8.cell? ⟨w3.heap.size, 1, none⟩ = some (.int .i64 (-1)) := cell_of_row w8 w3.heap.size 1 _ _ _ h8.z
      have z2 : w8.cell? ⟨w3.heap.size, 2, none⟩ = some (.slice B1 xs.length d1) := cell_of_row w8 w3.heap.size 2 _ _ _ h8.z
      have hl1 := hlen.out w8 A1 B1 c1 d1 xs (hI3.out.below h8.b) (by have := hxlH.out; omega)
      rw [hnH.out] at hl1
      have h8H := Lib.hid h8
      clear h8
      go_wp2_with fail
      (with_reducible refine hl1.mono ?_)
      rintro e w9 ⟨rfl, hb9⟩
      have h9 := Lib.hid (h8H.out.below hb9)
      clear hl1 h8H hb9 g0 g1 g2 g3 g4 z0 z1 z2
      go_wp2_with fail
      go_loopw [11] (fun i wr => ∃ (k : Nat), i = .int .i64 (k : Int) ∧ k ≤ n ∧ k ≤ 100 ∧ Hid (PnC w3 A1 c1 ls B1 d1 xs wr)) (fun i _ => 100 - (intOf i).toNat)
      case atStart => exact ⟨0, rfl, Nat.zero_le _, by omega, h9⟩
      case round =>
        obtain ⟨k, rfl, hk, hk1, hR⟩ := hrel
        clear h9
        by_cases hkn : k < n
        case neg =>
          have hj : ¬ (k : Int) < (n : Int) := by omega
          obtain ⟨g0, g1, g2, g3, g4, _⟩ := hG3.out.below hR.out.b
          have z0 : wr.cell? ⟨w3.heap.size, 0, none⟩ = some (.slice A1 ls.length c1) := cell_of_row wr w3.heap.size 0 _ _ _ hR.out.z
          have z1 : wr.cell? ⟨w3.heap.size, 1, none⟩ = some (.int .i64 (-1)) := cell_of_row wr w3.heap.size 1 _ _ _ hR.out.z
          have z2 : wr.cell? ⟨w3.heap.size, 2, none⟩ = some (.slice B1 xs.length d1) := cell_of_row wr w3.heap.size 2 _ _ _ hR.out.z
          have zf : ∀ j, wr.frozen? ⟨w3.heap.size, j, none⟩ = false := fun j => by simp [World.frozen?, hR.out.z]
          have zl := lt_of_cell z0
          have hE := hR.out.nil
          clear hR g0 g1 g2 g3 g4
          go_upto_region 16 with fail
          refine fresh_world (fun W => PnC w3 A1 c1 ls none 0 [] W) hE ?_
          clear hE z0 z1 z2 zf zl
          rintro w11 h11
          obtain ⟨g0, g1, g2, g3, g4, _⟩ := hG3.out.below h11.b
          have z0 : w11.cell? ⟨w3.heap.size, 0, none⟩ = some (.slice A1 ls.length c1) := cell_of_row w11 w3.heap.size 0 _ _ _ h11.z
          have z1 : w11.cell? ⟨w3.heap.size, 1, none⟩ = some (.int .i64 (-1)) := cell_of_row w11 w3.heap.size 1 _ _ _ h11.z
          have z2 : w11.cell? ⟨w3.heap.size, 2, none⟩ = some (.slice none 0 0) := cell_of_row w11 w3.heap.size 2 _ _ _ h11.z
          have h11H := Lib.hid h11
          have hs2 := hsrc.out w11 A1 none c1 0 [] (n : Int) (hE3.out.below h11.b) (by simp)
          rw [List.length_nil] at hs2
          clear h11
          rcases plain_src (D := D) (Z := Z) (B := Bk) (O := O) (A := Ac) (zone := zone) (v := ⟨ls, -1, []⟩) rfl (n : Int) with hr | hr
          case inl =>
            rw [hr] at hs2
            go_wp2_with fail
            (with_reducible refine hs2.mono ?_)
            intro e w12 h12
            obtain ⟨rfl, hb12⟩ := h12
            have h12 := h11H.out.below hb12
            clear hs2 h11H hb12 g0 g1 g2 g3 g4 z0 z1 z2
            obtain ⟨g0, g1, g2, g3, g4, _⟩ := hG3.out.below h12.b
            have z0 : w12.cell? ⟨w3.heap.size, 0, none⟩ = some (.slice A1 ls.length c1) := cell_of_row w12 w3.heap.size 0 _ _ _ h12.z
            have z1 : w12.cell? ⟨w3.heap.size, 1, none⟩ = some (.int .i64 (-1)) := cell_of_row w12 w3.heap.size 1 _ _ _ h12.z
            have z2 : w12.cell? ⟨w3.heap.size, 2, none⟩ = some (.slice none 0 0) := cell_of_row w12 w3.heap.size 2 _ _ _ h12.z
            have hl2 := hlen.out w12 A1 none c1 0 [] (hE3.out.below h12.b) (by simp)
            rw [← hplH.out, List.length_nil] at hl2
            have h12H := Lib.hid h12
            clear h12
            go_wp2_with fail
            (with_reducible refine hl2.mono ?_)
            rintro e w13 ⟨rfl, hb13⟩
            have h13 := h12H.out.below hb13
            clear hl2 h12H hb13 g0 g1 g2 g3 g4 z0 z1 z2
            have hB := Lib.hid (bmore hB3.out h13.b)
            clear h13 hlen hsrc hcap htold
            go_wp2_with fail
            go_ret
            exact ⟨rfl, hB.out⟩
          case inr =>
            have hcn : capV D Z Bk O Ac = (n : Int) := by
              rcases len_end (D := D) (Z := Z) (B := Bk) (O := O) (A := Ac) (zone := zone) ⟨ls, -1, []⟩ with h | h | h
              · rw [← hplH.out, hr] at h; cases h
              · rw [← hplH.out] at h; exact h.symm
              · exact absurd rfl h
            rw [hr] at hs2
            go_wp2_with fail
            (with_reducible refine hs2.mono ?_)
            intro e w12 h12
            obtain ⟨rfl, hb12⟩ := h12
            have h12 := h11H.out.below hb12
            clear hs2 h11H hb12 g0 g1 g2 g3 g4 z0 z1 z2
            obtain ⟨g0, g1, g2, g3, g4, _⟩ := hG3.out.below h12.b
            have z0 : w12.cell? ⟨w3.heap.size, 0, none⟩ = some (.slice A1 ls.length c1) := cell_of_row w12 w3.heap.size 0 _ _ _ h12.z
            have z1 : w12.cell? ⟨w3.heap.size, 1, none⟩ = some (.int .i64 (-1)) := cell_of_row w12 w3.heap.size 1 _ _ _ h12.z
            have z2 : w12.cell? ⟨w3.heap.size, 2, none⟩ = some (.slice none 0 0) := cell_of_row w12 w3.heap.size 2 _ _ _ h12.z
            have hl2 := hlen.out w12 A1 none c1 0 [] (hE3.out.below h12.b) (by simp)
            rw [← hplH.out, List.length_nil] at hl2
            have h12H := Lib.hid h12
            clear h12
            go_wp2_with fail
            (with_reducible refine hl2.mono ?_)
            rintro e w13 ⟨rfl, hb13⟩
            have h13 := h12H.out.below hb13
            clear hl2 h12H hb13 g0 g1 g2 g3 g4 z0 z1 z2
            obtain ⟨g0, g1, g2, g3, g4, _⟩ := hG3.out.below h13.b
            have z0 : w13.cell? ⟨w3.heap.size, 0, none⟩ = some (.slice A1 ls.length c1) := cell_of_row w13 w3.heap.size 0 _ _ _ h13.z
            have z1 : w13.cell? ⟨w3.heap.size, 1, none⟩ = some (.int .i64 (-1)) := cell_of_row w13 w3.heap.size 1 _ _ _ h13.z
            have z2 : w13.cell? ⟨w3.heap.size, 2, none⟩ = some (.slice none 0 0) := cell_of_row w13 w3.heap.size 2 _ _ _ h13.z
            have hc2 := hcap.out w13
            rw [hcn] at hc2
            have h13H := Lib.hid h13
            clear h13
            go_wp2_with fail
            (with_reducible refine hc2.mono ?_)
            rintro e w14 ⟨rfl, hb14⟩
            have h14 := h13H.out.below hb14
            have hB := Lib.hid (bmore hB3.out h14.b)
            clear h14 hlen hsrc hcap htold g0 g1 g2 g3 g4 z0 z1 z2 h13H hb14 hc2
            go_wp2_with fail
            go_ret
            exact ⟨rfl, hB.out⟩
        case pos =>
          have hj : (k : Int) < (n : Int) := by omega
          by_cases hk2 : k < 100
          case neg =>
            have hj2 : ¬ (k : Int) < 100 := by omega
            obtain ⟨g0, g1, g2, g3, g4, _⟩ := hG3.out.below hR.out.b
            have z0 : wr.cell? ⟨w3.heap.size, 0, none⟩ = some (.slice A1 ls.length c1) := cell_of_row wr w3.heap.size 0 _ _ _ hR.out.z
            have z1 : wr.cell? ⟨w3.heap.size, 1, none⟩ = some (.int .i64 (-1)) := cell_of_row wr w3.heap.size 1 _ _ _ hR.out.z
            have z2 : wr.cell? ⟨w3.heap.size, 2, none⟩ = some (.slice B1 xs.length d1) := cell_of_row wr w3.heap.size 2 _ _ _ hR.out.z
            have zf : ∀ j, wr.frozen? ⟨w3.heap.size, j, none⟩ = false := fun j => by simp [World.frozen?, hR.out.z]
            have zl := lt_of_cell z0
            have hE := hR.out.nil
            clear hR g0 g1 g2 g3 g4
            go_upto_region 16 with fail
            refine fresh_world (fun W => PnC w3 A1 c1 ls none 0 [] W) hE ?_
            clear hE z0 z1 z2 zf zl
            rintro w11 h11
            obtain ⟨g0, g1, g2, g3, g4, _⟩ := hG3.out.below h11.b
            have z0 : w11.cell? ⟨w3.heap.size, 0, none⟩ = some (.slice A1 ls.length c1) := cell_of_row w11 w3.heap.size 0 _ _ _ h11.z
            have z1 : w11.cell? ⟨w3.heap.size, 1, none⟩ = some (.int .i64 (-1)) := cell_of_row w11 w3.heap.size 1 _ _ _ h11.z
            have z2 : w11.cell? ⟨w3.heap.size, 2, none⟩ = some (.slice none 0 0) := cell_of_row w11 w3.heap.size 2 _ _ _ h11.z
            have h11H := Lib.hid h11
            have hs2 := hsrc.out w11 A1 none c1 0 [] (n : Int) (hE3.out.below h11.b) (by simp)
            rw [List.length_nil] at hs2
            clear h11
            rcases plain_src (D := D) (Z := Z) (B := Bk) (O := O) (A := Ac) (zone := zone) (v := ⟨ls, -1, []⟩) rfl (n : Int) with hr | hr
            case inl =>
              rw [hr] at hs2
              go_wp2_with fail
              (with_reducible refine hs2.mono ?_)
              intro e w12 h12
              obtain ⟨rfl, hb12⟩ := h12
              have h12 := h11H.out.below hb12
              clear hs2 h11H hb12 g0 g1 g2 g3 g4 z0 z1 z2
              obtain ⟨g0, g1, g2, g3, g4, _⟩ := hG3.out.below h12.b
              have z0 : w12.cell? ⟨w3.heap.size, 0, none⟩ = some (.slice A1 ls.length c1) := cell_of_row w12 w3.heap.size 0 _ _ _ h12.z
              have z1 : w12.cell? ⟨w3.heap.size, 1, none⟩ = some (.int .i64 (-1)) := cell_of_row w12 w3.heap.size 1 _ _ _ h12.z
              have z2 : w12.cell? ⟨w3.heap.size, 2, none⟩ = some (.slice none 0 0) := cell_of_row w12 w3.heap.size 2 _ _ _ h12.z
              have hl2 := hlen.out w12 A1 none c1 0 [] (hE3.out.below h12.b) (by simp)
              rw [← hplH.out, List.length_nil] at hl2
              have h12H := Lib.hid h12
              clear h12
              go_wp2_with fail
              (with_reducible refine hl2.mono ?_)
              rintro e w13 ⟨rfl, hb13⟩
              have h13 := h12H.out.below hb13
              clear hl2 h12H hb13 g0 g1 g2 g3 g4 z0 z1 z2
              have hB := Lib.hid (bmore hB3.out h13.b)
              clear h13 hlen hsrc hcap htold
              go_wp2_with fail
              go_ret
              exact ⟨rfl, hB.out⟩
            case inr =>
              have hcn : capV D Z Bk O Ac = (n : Int) := by
                rcases len_end (D := D) (Z := Z) (B := Bk) (O := O) (A := Ac) (zone := zone) ⟨ls, -1, []⟩ with h | h | h
                · rw [← hplH.out, hr] at h; cases h
                · rw [← hplH.out] at h; exact h.symm
                · exact absurd rfl h
              rw [hr] at hs2
              go_wp2_with fail
              (with_reducible refine hs2.mono ?_)
              intro e w12 h12
              obtain ⟨rfl, hb12⟩ := h12
              have h12 := h11H.out.below hb12
              clear hs2 h11H hb12 g0 g1 g2 g3 g4 z0 z1 z2
              obtain ⟨g0, g1, g2, g3, g4, _⟩ := hG3.out.below h12.b
              have z0 : w12.cell? ⟨w3.heap.size, 0, none⟩ = some (.slice A1 ls.length c1) := cell_of_row w12 w3.heap.size 0 _ _ _ h12.z
              have z1 : w12.cell? ⟨w3.heap.size, 1, none⟩ = some (.int .i64 (-1)) := cell_of_row w12 w3.heap.size 1 _ _ _ h12.z
              have z2 : w12.cell? ⟨w3.heap.size, 2, none⟩ = some (.slice none 0 0) := cell_of_row w12 w3.heap.size 2 _ _ _ h12.z
              have hl2 := hlen.out w12 A1 none c1 0 [] (hE3.out.below h12.b) (by simp)
              rw [← hplH.out, List.length_nil] at hl2
              have h12H := Lib.hid h12
              clear h12
              go_wp2_with fail
              (with_reducible refine hl2.mono ?_)
              rintro e w13 ⟨rfl, hb13⟩
              have h13 := h12H.out.below hb13
              clear hl2 h12H hb13 g0 g1 g2 g3 g4 z0 z1 z2
              obtain ⟨g0, g1, g2, g3, g4, _⟩ := hG3.out.below h13.b
              have z0 : w13.cell? ⟨w3.heap.size, 0, none⟩ = some (.slice A1 ls.length c1) := cell_of_row w13 w3.heap.size 0 _ _ _ h13.z
              have z1 : w13.cell? ⟨w3.heap.size, 1, none⟩ = some (.int .i64 (-1)) := cell_of_row w13 w3.heap.size 1 _ _ _ h13.z
              have z2 : w13.cell? ⟨w3.heap.size, 2, none⟩ = some (.slice none 0 0) := cell_of_row w13 w3.heap.size 2 _ _ _ h13.z
              have hc2 := hcap.out w13
              rw [hcn] at hc2
              have h13H := Lib.hid h13
              clear h13
              go_wp2_with fail
              (with_reducible refine hc2.mono ?_)
              rintro e w14 ⟨rfl, hb14⟩
              have h14 := h13H.out.below hb14
              have hB := Lib.hid (bmore hB3.out h14.b)
              clear h14 hlen hsrc hcap htold g0 g1 g2 g3 g4 z0 z1 z2 h13H hb14 hc2
              go_wp2_with fail
              go_ret
              exact ⟨rfl, hB.out⟩
          case pos =>
            have hj2 : (k : Int) < 100 := by omega
            obtain ⟨g0, g1, g2, g3, g4, _⟩ := hG3.out.below hR.out.b
            have z0 : wr.cell? ⟨w3.heap.size, 0, none⟩ = some (.slice A1 ls.length c1) := cell_of_row wr w3.heap.size 0 _ _ _ hR.out.z
            have z1 : wr.cell? ⟨w3.heap.size, 1, none⟩ = some (.int .i64 (-1)) := cell_of_row wr w3.heap.size 1 _ _ _ hR.out.z
            have z2 : wr.cell? ⟨w3.heap.size, 2, none⟩ = some (.slice B1 xs.length d1) := cell_of_row wr w3.heap.size 2 _ _ _ hR.out.z
            have hs1 := hsrc.out wr A1 B1 c1 d1 xs (k : Int) (hI3.out.below hR.out.b) (by have := hxlH.out; omega)
            rw [htold.out k hkn] at hs1
            have hkw : IntKind.i64.wrap ((k : Int) + 1) = (k : Int) + 1 := IntWalk.i64_in _ (by omega)
            go_wp2_with fail
            (with_reducible refine hs1.mono ?_)
            intro e w10 h10
            obtain ⟨rfl, hb10⟩ := h10
            have hR2 := Lib.hid (hR.out.below hb10)
            clear hR hb10 hs1 g0 g1 g2 g3 g4 z0 z1 z2
            go_wp2_with fail
            go_roundw
            case rel => exact ⟨k + 1, by go_num, hkn, hk2, hR2⟩
            case measure => simp only [intOf]; omega
end Go.Proofs.Ytpgnajcbahklgaa
