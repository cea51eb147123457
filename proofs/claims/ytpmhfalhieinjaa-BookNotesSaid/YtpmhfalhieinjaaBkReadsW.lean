/- BookReads, walked: what any lists of records say, or that they say none. -/
import Derived.Test.YtpmhfalhieinjaaBkRRead
import Derived.Test.YtpmhfalhieinjaaBkReadG
import Derived.Test.YtpmhfalhieinjaaBkSpk
import Derived.Test.YtpmhfalhieinjaaBkSame
import Derived.Test.YtpmhfalhieinjaaBkGiv
namespace Go.Proofs.Ytpmhfalhieinjaa
open Go.RowKit Rec Bk

theorem flat_of {la lb : List LRow} {ls : List PRow} (ha : la.map LRow.rs = givL ls) (hb : lb.map LRow.rs = givL ls) : flatL lb = flatL la := by
  rw [flatL_rs, flatL_rs, ha, hb]
/-- What Read answers, whatever the geometry. -/
inductive RdC (D Z B O A : Int) : Prop where
  | bad (h : goodB D Z B O A = false) : RdC D Z B O A
  | good (n m : Nat) (h : goodB (m : Int) Z B O A = true) (hD : D = (m : Int)) (hn : Z - 3 = (n : Int)) : RdC D Z B O A
theorem rdC (D Z B O A : Int) : RdC D Z B O A := by
  cases h : goodB D Z B O A with
  | false => exact .bad h
  | true =>
    obtain ⟨g1, g2, g3, g4, _⟩ := goodB_iff.1 h
    obtain ⟨m, rfl⟩ := Int.eq_ofNat_of_zero_le (show 0 ≤ D by omega)
    obtain ⟨n, hn⟩ := Int.eq_ofNat_of_zero_le (show 0 ≤ Z - 3 by omega)
    exact .good n m h rfl hn
theorem box_start (w : World) (D Z B O A : Int) (t : TypeId) : GzAt (w.alloc (.cells #[.int .i64 D, .int .i64 Z, .int .i64 B, .int .i64 O, .int .i64 A] t)) w.heap.size D Z B O A ∧ Below w.heap.size w (w.alloc (.cells #[.int .i64 D, .int .i64 Z, .int .i64 B, .int .i64 O, .int .i64 A] t)) :=
  ⟨GzAt.new w D Z B O A t, (Below.refl _ _).alloc (Nat.le_refl _) _⟩
/-- The world behind given. -/
structure RsW (w W : World) (D Z B O A : Int) (Aa : Option Addr) (la : List LRow) (Ab : Option Addr) (lb : List LRow) : Prop where
  g : GzAt W w.heap.size D Z B O A
  a : ListsIn W Aa la
  b : ListsIn W Ab lb
  bw : Below w.heap.size w W
theorem RsW.below {w W W' : World} {D Z B O A : Int} {Aa : Option Addr} {la : List LRow} {Ab : Option Addr} {lb : List LRow} (h : RsW w W D Z B O A Aa la Ab lb) (hb : Below W.heap.size W W') : RsW w W' D Z B O A Aa la Ab lb :=
  ⟨h.g.below hb, h.a.below hb, h.b.below hb, h.bw.trans (hb.mono h.bw.size)⟩
/-- A book that was handed back, put into a box. -/
theorem boxed {W : World} {A1 : Option Addr} {c1 : Nat} {A2 : Option Addr} {c2 : Nat} {b : Bo} (h : BkIn W A1 c1 A2 c2 b) (t : TypeId) {R : World → Prop} (hR : R W) (hB : ∀ W W', R W → Below W.heap.size W W' → R W') :
    (fun W' => BkAt W' W.heap.size A1 c1 A2 c2 b ∧ BkIn W' A1 c1 A2 c2 b ∧ R W') (W.alloc (.cells #[.int .i64 b.q, .slice A1 b.zs.length c1, .slice A2 b.ms.length c2, .int .i64 b.sl, .int .i64 b.cu] t)) := by
  have hb : Below W.heap.size W (W.alloc (.cells #[.int .i64 b.q, .slice A1 b.zs.length c1, .slice A2 b.ms.length c2, .int .i64 b.sl, .int .i64 b.cu] t)) := (Below.refl _ _).alloc (Nat.le_refl _) _
  exact ⟨BkAt.new W A1 c1 A2 c2 b t, h.below hb, hB _ _ hR hb⟩
/-- What Read answers where it is no book, and where it is one. -/
def NoP (ev : Int) (w : World) (e : Ending) (w' : World) : Prop := e = .returned (.tuple #[.agg #[.int .i64 0, .slice none 0 0, .slice none 0 0, .int .i64 0, .int .i64 0], .int .i64 ev]) ∧ Below w.heap.size w w'
def YesP (b : Bo) (w : World) (e : Ending) (w' : World) : Prop := ∃ A1 c1 A2 c2, e = .returned (.tuple #[.agg #[.int .i64 b.q, .slice A1 b.zs.length c1, .slice A2 b.ms.length c2, .int .i64 b.sl, .int .i64 b.cu], .int .i64 0]) ∧ BkIn w' A1 c1 A2 c2 b ∧ Below w.heap.size w w'
theorem reads_two (D Z B O A : Int) {la lb : List LRow} {ls : List PRow} (ha : la.map LRow.rs = givL ls) (hb : lb.map LRow.rs = givL ls) (Aa Ab : Option Addr) (ca cb : Nat) :
    (∃ ev : Int, ev ≠ 0 ∧ (∀ W, ListsIn W Aa la → Calls Try.prog 9 #[.agg #[.int .i64 D, .int .i64 Z, .int .i64 B, .int .i64 O, .int .i64 A], .slice Aa la.length ca] W (NoP ev W)) ∧
      (∀ W, ListsIn W Ab lb → Calls Try.prog 10 #[.agg #[.int .i64 D, .int .i64 Z, .int .i64 B, .int .i64 O, .int .i64 A], .slice Ab lb.length cb] W (NoP ev W))) ∨
    (∃ n m : Nat, goodB D Z B O A = true ∧ D = (m : Int) ∧ Z - 3 = (n : Int) ∧ SaysB D Z n m (flatL la) ∧ (∀ W, ListsIn W Aa la → Calls Try.prog 9 #[.agg #[.int .i64 D, .int .i64 Z, .int .i64 B, .int .i64 O, .int .i64 A], .slice Aa la.length ca] W (YesP (readB n m (flatL la)) W)) ∧
      (∀ W, ListsIn W Ab lb → Calls Try.prog 10 #[.agg #[.int .i64 D, .int .i64 Z, .int .i64 B, .int .i64 O, .int .i64 A], .slice Ab lb.length cb] W (YesP (readB n m (flatL la)) W))) := by
  have hfl := flat_of ha hb
  obtain ⟨hok, hpos⟩ := giv_ok ha
  obtain ⟨hokb, hposb⟩ := giv_ok hb
  cases rdC D Z B O A with
  | bad hgd => exact .inl ⟨1, by decide, fun W _ => read_bad W D Z B O A Aa la.length ca hgd, fun W _ => rread_bad W D Z B O A Ab lb.length cb hgd⟩
  | good n m hgd hD hn =>
    subst hD
    by_cases hs : SaysB (m : Int) Z n m (flatL la)
    · refine .inr ⟨n, m, hgd, rfl, hn, hs, fun W hI => (read_good W Z B O A n m Aa ca la hgd hn hI hok).mono ?_, fun W hI => (rread_good W Z B O A n m Ab cb lb hgd hn hI hokb hposb).mono ?_⟩
      · intro e W' h
        obtain ⟨A1, c1, A2, c2, h1, h2, h3⟩ := h.1 hs
        exact ⟨A1, c1, A2, c2, h1, h2.in_, h3⟩
      · intro e W' h
        have h' := h.1 (by rw [hfl]; exact hs)
        rw [hfl] at h'
        obtain ⟨A1, c1, A2, c2, h1, h2, h3⟩ := h'
        exact ⟨A1, c1, A2, c2, h1, h2.in_, h3⟩
    · refine .inl ⟨9, by decide, fun W hI => (read_good W Z B O A n m Aa ca la hgd hn hI hok).mono ?_, fun W hI => (rread_good W Z B O A n m Ab cb lb hgd hn hI hokb hposb).mono ?_⟩
      · intro e W' h
        exact h.2 hs
      · intro e W' h
        exact h.2 (by rw [hfl]; exact hs)
set_option maxRecDepth 100000 in
set_option maxHeartbeats 4000000 in
theorem reads_law (D Z B O A : Int) (A0 : Option Addr) (cap0 : Nat) (ls : List PRow) (w : World) (hI : PIn w A0 ls) :
    Calls Try.prog 3 #[.agg #[.int .i64 D, .int .i64 Z, .int .i64 B, .int .i64 O, .int .i64 A], .slice A0 ls.length cap0] w fun e w' => e = .returned (.bool true) ∧ Below w.heap.size w w' := by
  have hst := Lib.hid (box_start w D Z B O A 23)
  have hgv := Lib.hid (fun W (hb : Below w.heap.size w W) => given10 W A0 cap0 ls (hI.below hb))
  clear hI
  go_enter Try.func3, Try.ntmps3
  obtain ⟨ff, hff⟩ : ∃ ff, ff = Try.f3 := ⟨_, rfl⟩
  rw [← hff]
  have hffH := Lib.hid hff
  clear hff
  go_upto_region 1 with fail
  refine fresh_world (fun W => GzAt W w.heap.size D Z B O A ∧ Below w.heap.size w W) hst.out ?_
  clear hst
  rintro W0 ⟨hg, hb⟩
  have hgH := Lib.hid hg
  have hbH := Lib.hid hb
  clear hg hb
  go_wp2_with fail
  refine (speaks10 _).mono ?_
  rintro e w1 ⟨rfl, hb1⟩
  have hg1 := Lib.hid (hgH.out.below hb1)
  have hb1H := Lib.hid (hbH.out.trans (hb1.mono hbH.out.size))
  clear hb1 hgH hbH
  go_wp2_with fail
  refine (hgv.out _ hb1H.out).mono ?_
  rintro e w2 ⟨Aa, ca, la, Ab, cb, lb, rfl, ha, hb, hO⟩
  have htw := reads_two D Z B O A ha hb Aa Ab ca cb
  have hN := Lib.hid (⟨hg1.out.below hO.bw, hO.outA, hO.outB, hb1H.out.trans (hO.bw.mono hb1H.out.size)⟩ : RsW w w2 D Z B O A Aa la Ab lb)
  clear ha hb hO hg1 hb1H hgv
  obtain ⟨x0, x1, x2, x3, x4⟩ := hN.out.g
  rcases htw with ⟨ev, hev, hra, hrb⟩ | ⟨n, m, -, -, -, -, hra, hrb⟩
  · have hraH := Lib.hid hra
    have hrbH := Lib.hid hrb
    clear hra hrb
    go_wp2_with fail
    refine (hraH.out _ hN.out.a).mono ?_
    rintro e w3 ⟨rfl, hb3⟩
    have hN3 := Lib.hid (boxed (W := w3) (b := noB) (A1 := none) (c1 := 0) (A2 := none) (c2 := 0) ⟨.inl rfl, .inl rfl, fun _ => rfl, fun _ => rfl, Nat.zero_le _, Nat.zero_le _⟩ 33 (R := fun W => RsW w W D Z B O A Aa la Ab lb) (hN.out.below hb3) (fun _ _ h hb => h.below hb))
    clear hN x0 x1 x2 x3 x4 hb3
    go_upto_region 5 with fail
    refine fresh_world (fun W' => BkAt W' w3.heap.size none 0 none 0 noB ∧ BkIn W' none 0 none 0 noB ∧ RsW w W' D Z B O A Aa la Ab lb) hN3.out ?_
    clear hN3
    generalize w3.heap.size = X
    rintro W4 ⟨hB, -, hN⟩
    have hNH := Lib.hid hN
    have hBH := Lib.hid hB
    obtain ⟨x0, x1, x2, x3, x4⟩ := hN.g
    clear hN hB
    go_wp2_with fail
    refine (hrbH.out _ hNH.out.b).mono ?_
    rintro e w5 ⟨rfl, hb5⟩
    have hN5 := Lib.hid (boxed (W := w5) (b := noB) (A1 := none) (c1 := 0) (A2 := none) (c2 := 0) ⟨.inl rfl, .inl rfl, fun _ => rfl, fun _ => rfl, Nat.zero_le _, Nat.zero_le _⟩ 40 (R := fun W => BkAt W X none 0 none 0 noB ∧ Below w.heap.size w W) ⟨hBH.out.below hb5, hNH.out.bw.trans (hb5.mono hNH.out.bw.size)⟩ (fun _ _ h hb => ⟨h.1.below hb, h.2.trans (hb.mono h.2.size)⟩))
    clear hBH hNH x0 x1 x2 x3 x4 hb5
    go_upto_region 6 with fail
    refine fresh_world (fun W' => BkAt W' w5.heap.size none 0 none 0 noB ∧ BkIn W' none 0 none 0 noB ∧ BkAt W' X none 0 none 0 noB ∧ Below w.heap.size w W') hN5.out ?_
    clear hN5
    generalize w5.heap.size = Y
    rintro W6 ⟨-, -, hB, hb6⟩
    obtain ⟨y0, y1, y2, y3, y4, yf⟩ := hB
    have hbw := Lib.hid hb6
    clear hb6
    dsimp only [noB, List.length_nil] at y0 y1 y2 y3 y4
    clear hraH hrbH
    have hev' : (ev != 0) = true := by simp [hev]
    go_wp2_with fail
    rw [hffH.out]
    exact bodyPost_ret (v := .bool true) (by simp [results, Try.results3, go_sem]) rfl ⟨rfl, hbw.out⟩
  · have hraH := Lib.hid hra
    have hrbH := Lib.hid hrb
    clear hra hrb
    generalize readB n m (flatL la) = b at hraH hrbH
    go_wp2_with fail
    refine (hraH.out _ hN.out.a).mono ?_
    rintro e w3 ⟨A1, c1, A2, c2, rfl, hI, hb3⟩
    have hN3 := Lib.hid (boxed hI 33 (R := fun W => RsW w W D Z B O A Aa la Ab lb) (hN.out.below hb3) (fun _ _ h hb => h.below hb))
    clear hN x0 x1 x2 x3 x4 hb3 hI hraH
    go_upto_region 5 with fail
    refine fresh_world (fun W' => BkAt W' w3.heap.size A1 c1 A2 c2 b ∧ BkIn W' A1 c1 A2 c2 b ∧ RsW w W' D Z B O A Aa la Ab lb) hN3.out ?_
    clear hN3
    generalize w3.heap.size = X
    rintro W4 ⟨hB, hI, hN⟩
    have hNH := Lib.hid hN
    have hBH := Lib.hid hB
    have hIH := Lib.hid hI
    obtain ⟨x0, x1, x2, x3, x4⟩ := hN.g
    clear hN hB hI
    go_wp2_with fail
    refine (hrbH.out _ hNH.out.b).mono ?_
    rintro e w5 ⟨A3, c3, A4, c4, rfl, hJ, hb5⟩
    have hN5 := Lib.hid (boxed hJ 40 (R := fun W => BkAt W X A1 c1 A2 c2 b ∧ BkIn W A1 c1 A2 c2 b ∧ Below w.heap.size w W) ⟨hBH.out.below hb5, hIH.out.below hb5, hNH.out.bw.trans (hb5.mono hNH.out.bw.size)⟩ (fun _ _ h hb => ⟨h.1.below hb, h.2.1.below hb, h.2.2.trans (hb.mono h.2.2.size)⟩))
    clear hBH hIH hNH x0 x1 x2 x3 x4 hb5 hJ hrbH
    go_upto_region 6 with fail
    refine fresh_world (fun W' => BkAt W' w5.heap.size A3 c3 A4 c4 b ∧ BkIn W' A3 c3 A4 c4 b ∧ BkAt W' X A1 c1 A2 c2 b ∧ BkIn W' A1 c1 A2 c2 b ∧ Below w.heap.size w W') hN5.out ?_
    clear hN5
    generalize w5.heap.size = Y
    rintro W6 ⟨hC, hJ, hB, hI, hb6⟩
    have hs := Lib.hid (same10 W6 A1 c1 A2 c2 A3 c3 A4 c4 b hI hJ)
    have hbw := Lib.hid hb6
    obtain ⟨y0, y1, y2, y3, y4, yf⟩ := hB
    obtain ⟨z0, z1, z2, z3, z4, zf⟩ := hC
    clear hI hJ hb6
    go_wp2_with fail
    refine hs.out.mono ?_
    rintro e w7 ⟨rfl, hb7⟩
    have hfin := Lib.hid (hbw.out.trans (hb7.mono hbw.out.size))
    clear hb7 hbw y0 y1 y2 y3 y4 yf z0 z1 z2 z3 z4 zf
    go_wp2_with fail
    rw [hffH.out]
    exact bodyPost_ret (v := .bool true) (by simp [results, Try.results3, go_sem]) rfl ⟨rfl, hfin.out⟩
end Go.Proofs.Ytpmhfalhieinjaa
