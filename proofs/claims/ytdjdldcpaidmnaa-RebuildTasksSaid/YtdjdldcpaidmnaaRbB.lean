/- The records by which a rebuilding begins. -/
import Derived.Test.YtdjdldcpaidmnaaRbN
import Derived.Test.YtdjdldcpaidmnaaRbT
import Derived.Test.YtdjdldcpaidmnaaRbC
namespace Go.Proofs.Ytdjdldcpaidmnaa
open Go.RowKit Rec Bk Rb

namespace Rb
/-- The records by which a rebuilding begins, as they are given. -/
def begXs (D s : Int) : List Rc := [⟨6, 0, s, 2, 0, 0, ⟨#[]⟩⟩, ⟨5, 0, s, D, 0, 0, ⟨#[]⟩⟩]
/-- Another rebuilding is under way. -/
def Busy (b : Bo) (D : Int) (s : Nat) : Prop := 0 ≤ b.sl ∧ (b.sl ≠ (s : Int) ∨ b.ms[s]! = D)
def BegR (b : Bo) (D : Int) (s : Nat) (code : Int) (L : List Rc) (b' : Bo) : Prop :=
  (code = 3 ∧ Busy b D s ∧ L = [] ∧ b' = noB) ∨ (code = 13 ∧ ¬ Busy b D s ∧ D ∈ b.ms ∧ L = [] ∧ b' = noB) ∨
  (code = 0 ∧ ¬ Busy b D s ∧ D ∉ b.ms ∧ L = stL b (begXs D s) 2 ∧ b' = stB b (begXs D s) 2)
end Rb
/-- The world within Begin. -/
structure BgW (w W : World) (D Z B O A : Int) (A1 : Option Addr) (c1 : Nat) (A2 : Option Addr) (c2 : Nat) (b : Bo) : Prop where
  g : GeoAt W w.heap.size D Z B O A
  k : BkAt W (w.heap.size + 1) A1 c1 A2 c2 b
  o : BkAt W (w.heap.size + 1 + 1) none 0 none 0 noB
  bw : Below w.heap.size w W
theorem BgW.below {w W W' : World} {D Z B O A : Int} {A1 A2 : Option Addr} {c1 c2 : Nat} {b : Bo} (h : BgW w W D Z B O A A1 c1 A2 c2 b) (hb : Below W.heap.size W W') : BgW w W' D Z B O A A1 c1 A2 c2 b := ⟨h.g.below hb, h.k.below hb, h.o.below hb, bmore h.bw hb⟩
theorem BgW.new (w : World) (D Z B O A : Int) (A1 : Option Addr) (c1 : Nat) (A2 : Option Addr) (c2 : Nat) (b : Bo) : BgW w (((w.alloc (.cells #[.int .i64 D, .int .i64 Z, .int .i64 B, .int .i64 O, .int .i64 A] 30)).alloc (.cells #[.int .i64 b.q, .slice A1 b.zs.length c1, .slice A2 b.ms.length c2, .int .i64 b.sl, .int .i64 b.cu] 58)).alloc (.cells #[.int .i64 0, .slice none 0 0, .slice none 0 0, .int .i64 0, .int .i64 0] 58)) D Z B O A A1 c1 A2 c2 b := by
  have s1 := World.size_alloc w (.cells #[.int .i64 D, .int .i64 Z, .int .i64 B, .int .i64 O, .int .i64 A] 30)
  have g1 := GeoAt.new w D Z B O A 30
  have b1 := (Below.refl w.heap.size w).alloc (Nat.le_refl _) (.cells #[.int .i64 D, .int .i64 Z, .int .i64 B, .int .i64 O, .int .i64 A] 30)
  generalize w.alloc (.cells #[.int .i64 D, .int .i64 Z, .int .i64 B, .int .i64 O, .int .i64 A] 30) = W1 at s1 g1 b1 ⊢
  have s2 := World.size_alloc W1 (.cells #[.int .i64 b.q, .slice A1 b.zs.length c1, .slice A2 b.ms.length c2, .int .i64 b.sl, .int .i64 b.cu] 58)
  have k2 := BkAt.new W1 A1 c1 A2 c2 b 58
  have a2 := (Below.refl W1.heap.size W1).alloc (Nat.le_refl _) (.cells #[.int .i64 b.q, .slice A1 b.zs.length c1, .slice A2 b.ms.length c2, .int .i64 b.sl, .int .i64 b.cu] 58)
  generalize W1.alloc (.cells #[.int .i64 b.q, .slice A1 b.zs.length c1, .slice A2 b.ms.length c2, .int .i64 b.sl, .int .i64 b.cu] 58) = W2 at s2 k2 a2 ⊢
  have k3 : BkAt (W2.alloc (.cells #[.int .i64 0, .slice none 0 0, .slice none 0 0, .int .i64 0, .int .i64 0] 58)) W2.heap.size none 0 none 0 noB := BkAt.new W2 none 0 none 0 noB 58
  have a3 := (Below.refl W2.heap.size W2).alloc (Nat.le_refl _) (.cells #[.int .i64 0, .slice none 0 0, .slice none 0 0, .int .i64 0, .int .i64 0] 58)
  rw [s1] at k2 s2
  rw [s2] at k3
  exact ⟨(g1.below a2).below a3, k2.below a3, k3, bmore (bmore b1 a2) a3⟩
theorem newB_none (n : Nat) : NewB n none none := ⟨fun _ _ e => (by cases e), fun _ _ e => (by cases e)⟩
theorem noB_in (W : World) : BkIn W none 0 none 0 noB := ⟨.inl rfl, .inl rfl, fun _ => rfl, fun _ => rfl, by decide, by decide⟩
theorem BgW.nought {w W : World} {D Z B O A : Int} {A1 A2 : Option Addr} {c1 c2 : Nat} {b : Bo} (h : BgW w W D Z B O A A1 c1 A2 c2 b) :
    BkAt (((((W.setCell ⟨w.heap.size + 1 + 1, 0, none⟩ (.int .i64 0)).setCell ⟨w.heap.size + 1 + 1, 1, none⟩ (.slice none 0 0)).setCell ⟨w.heap.size + 1 + 1, 2, none⟩ (.slice none 0 0)).setCell ⟨w.heap.size + 1 + 1, 3, none⟩ (.int .i64 0)).setCell ⟨w.heap.size + 1 + 1, 4, none⟩ (.int .i64 0)) (w.heap.size + 1 + 1) none 0 none 0 noB ∧ Below w.heap.size w (((((W.setCell ⟨w.heap.size + 1 + 1, 0, none⟩ (.int .i64 0)).setCell ⟨w.heap.size + 1 + 1, 1, none⟩ (.slice none 0 0)).setCell ⟨w.heap.size + 1 + 1, 2, none⟩ (.slice none 0 0)).setCell ⟨w.heap.size + 1 + 1, 3, none⟩ (.int .i64 0)).setCell ⟨w.heap.size + 1 + 1, 4, none⟩ (.int .i64 0)) := by
  have hb1 : w.heap.size ≤ w.heap.size + 1 + 1 := by omega
  exact ⟨h.o.put noB, ((((h.bw.setCell hb1 _).setCell hb1 _).setCell hb1 _).setCell hb1 _).setCell hb1 _⟩
theorem beg_recs (W : World) (D s : Int) : RecsAt (W.alloc (.cells #[.int .i64 6, .int .i64 0, .int .i64 s, .int .i64 2, .int .i64 0, .int .i64 0, .string ⟨#[]⟩, .int .i64 5, .int .i64 0, .int .i64 s, .int .i64 D, .int .i64 0, .int .i64 0, .string ⟨#[]⟩] 62)) (some ⟨W.heap.size, 0, none⟩) (begXs D s) := by
  refine .inr ⟨W.heap.size, 0, rfl, by simp, fun i hi j hj => ?_⟩
  have h2 : i < 2 := hi
  rcases (by omega : i = 0 ∨ i = 1) with rfl | rfl
  · rcases (by omega : j = 0 ∨ j = 1 ∨ j = 2 ∨ j = 3 ∨ j = 4 ∨ j = 5 ∨ j = 6) with rfl | rfl | rfl | rfl | rfl | rfl | rfl <;> (go_simp; rfl)
  · rcases (by omega : j = 0 ∨ j = 1 ∨ j = 2 ∨ j = 3 ∨ j = 4 ∨ j = 5 ∨ j = 6) with rfl | rfl | rfl | rfl | rfl | rfl | rfl <;> (go_simp; rfl)
theorem put_far {W W' : World} {n r : Nat} {C1 C2 A : Option Addr} {e1 e2 cap : Nat} {bn : Bo} {L : List Rc} (hI : BkIn W C1 e1 C2 e2 bn) (hN : NewB n C1 C2) (hR : RRow W n 62 A cap L) (hr : r < n) (hg : W.grownBy W' (some r)) :
    BkIn W' C1 e1 C2 e2 bn ∧ RRow W' n 62 A cap L := by
  refine ⟨⟨?_, ?_, hI.n1, hI.n2, hI.zl, hI.ml⟩, hR.far hg (fun g e e' => ?_)⟩
  · rcases hI.z with h0 | ⟨g, off, e, hgl, hc⟩
    · exact .inl h0
    · have := hN.1 g off e
      exact .inr ⟨g, off, e, Nat.lt_of_lt_of_le hgl hg.size, fun i hi j hj => (World.cell?_of_block (a := ⟨g, _, none⟩) (hg.block g hgl (by simp; omega))).trans (hc i hi j hj)⟩
  · rcases hI.m with h0 | ⟨g, off, e, hgl, hc⟩
    · exact .inl h0
    · have := hN.2 g off e
      exact .inr ⟨g, off, e, Nat.lt_of_lt_of_le hgl hg.size, fun i hi => (World.cell?_of_block (a := ⟨g, _, none⟩) (hg.block g hgl (by simp; omega))).trans (hc i hi)⟩
  · injection e' with e'
    rcases hR.form with ⟨e2, _⟩ | ⟨g2, e2, hge, _⟩
    · rw [e] at e2; cases e2
    · rw [e] at e2; injection e2 with e2; injection e2 with e2; omega
/-- The world within Begin behind its records. -/
structure BhW (w W : World) (n : Nat) (C1 : Option Addr) (e1 : Nat) (C2 : Option Addr) (e2 : Nat) (bn : Bo) (A : Option Addr) (cap : Nat) (L : List Rc) : Prop where
  k : BkAt W (w.heap.size + 1) C1 e1 C2 e2 bn
  o : BkAt W (w.heap.size + 1 + 1) none 0 none 0 noB
  i : BkIn W C1 e1 C2 e2 bn
  r : RRow W n 62 A cap L
  bw : Below w.heap.size w W
theorem BgW.taken {w W : World} {D Z B O Aa : Int} {A1 A2 : Option Addr} {c1 c2 : Nat} {b : Bo} {n : Nat} {C1 C2 A : Option Addr} {e1 e2 cap : Nat} {bn : Bo} {L : List Rc} (h : BgW w W D Z B O Aa A1 c1 A2 c2 b) (hI : BkIn W C1 e1 C2 e2 bn) (hN : NewB n C1 C2) (hR : RRow W n 62 A cap L) (hn : w.heap.size + 1 + 1 < n) :
    BhW w (((((W.setCell ⟨w.heap.size + 1, 0, none⟩ (.int .i64 bn.q)).setCell ⟨w.heap.size + 1, 1, none⟩ (.slice C1 bn.zs.length e1)).setCell ⟨w.heap.size + 1, 2, none⟩ (.slice C2 bn.ms.length e2)).setCell ⟨w.heap.size + 1, 3, none⟩ (.int .i64 bn.sl)).setCell ⟨w.heap.size + 1, 4, none⟩ (.int .i64 bn.cu)) n C1 e1 C2 e2 bn A cap L := by
  have hg := grownBy_put W (w.heap.size + 1) (.int .i64 bn.q) (.slice C1 bn.zs.length e1) (.slice C2 bn.ms.length e2) (.int .i64 bn.sl) (.int .i64 bn.cu)
  obtain ⟨k1, k2⟩ := put_far hI hN hR (r := w.heap.size + 1) (by omega) hg
  have hb1 : w.heap.size ≤ w.heap.size + 1 := by omega
  exact ⟨h.k.put bn, h.o.far hg (by simp), k1, k2, ((((h.bw.setCell hb1 _).setCell hb1 _).setCell hb1 _).setCell hb1 _).setCell hb1 _⟩
theorem BhW.out {w W : World} {n : Nat} {C1 C2 A : Option Addr} {e1 e2 cap : Nat} {bn : Bo} {L : List Rc} (h : BhW w W n C1 e1 C2 e2 bn A cap L) (hN : NewB n C1 C2) (hn : w.heap.size + 1 + 1 < n) :
    BkAt (((((W.setCell ⟨w.heap.size + 1 + 1, 0, none⟩ (.int .i64 bn.q)).setCell ⟨w.heap.size + 1 + 1, 1, none⟩ (.slice C1 bn.zs.length e1)).setCell ⟨w.heap.size + 1 + 1, 2, none⟩ (.slice C2 bn.ms.length e2)).setCell ⟨w.heap.size + 1 + 1, 3, none⟩ (.int .i64 bn.sl)).setCell ⟨w.heap.size + 1 + 1, 4, none⟩ (.int .i64 bn.cu)) (w.heap.size + 1 + 1) C1 e1 C2 e2 bn ∧ BkIn (((((W.setCell ⟨w.heap.size + 1 + 1, 0, none⟩ (.int .i64 bn.q)).setCell ⟨w.heap.size + 1 + 1, 1, none⟩ (.slice C1 bn.zs.length e1)).setCell ⟨w.heap.size + 1 + 1, 2, none⟩ (.slice C2 bn.ms.length e2)).setCell ⟨w.heap.size + 1 + 1, 3, none⟩ (.int .i64 bn.sl)).setCell ⟨w.heap.size + 1 + 1, 4, none⟩ (.int .i64 bn.cu)) C1 e1 C2 e2 bn ∧ RRow (((((W.setCell ⟨w.heap.size + 1 + 1, 0, none⟩ (.int .i64 bn.q)).setCell ⟨w.heap.size + 1 + 1, 1, none⟩ (.slice C1 bn.zs.length e1)).setCell ⟨w.heap.size + 1 + 1, 2, none⟩ (.slice C2 bn.ms.length e2)).setCell ⟨w.heap.size + 1 + 1, 3, none⟩ (.int .i64 bn.sl)).setCell ⟨w.heap.size + 1 + 1, 4, none⟩ (.int .i64 bn.cu)) w.heap.size 62 A cap L ∧ Below w.heap.size w (((((W.setCell ⟨w.heap.size + 1 + 1, 0, none⟩ (.int .i64 bn.q)).setCell ⟨w.heap.size + 1 + 1, 1, none⟩ (.slice C1 bn.zs.length e1)).setCell ⟨w.heap.size + 1 + 1, 2, none⟩ (.slice C2 bn.ms.length e2)).setCell ⟨w.heap.size + 1 + 1, 3, none⟩ (.int .i64 bn.sl)).setCell ⟨w.heap.size + 1 + 1, 4, none⟩ (.int .i64 bn.cu)) := by
  have hg := grownBy_put W (w.heap.size + 1 + 1) (.int .i64 bn.q) (.slice C1 bn.zs.length e1) (.slice C2 bn.ms.length e2) (.int .i64 bn.sl) (.int .i64 bn.cu)
  obtain ⟨k1, k2⟩ := put_far h.i hN h.r (r := w.heap.size + 1 + 1) (by omega) hg
  have hb1 : w.heap.size ≤ w.heap.size + 1 + 1 := by omega
  exact ⟨h.o.put bn, k1, k2.mono (by omega), ((((h.bw.setCell hb1 _).setCell hb1 _).setCell hb1 _).setCell hb1 _).setCell hb1 _⟩
def BegPost (w : World) (b : Bo) (D : Int) (s : Nat) (e : Ending) (w' : World) : Prop := ∃ (code : Int) (L : List Rc) (b' : Bo) (B1 : Option Addr) (d1 : Nat) (B2 : Option Addr) (d2 : Nat) (A : Option Addr) (cap : Nat), e = .returned (.tuple #[.slice A L.length cap, .agg #[.int .i64 b'.q, .slice B1 b'.zs.length d1, .slice B2 b'.ms.length d2, .int .i64 b'.sl, .int .i64 b'.cu], .int .i64 code]) ∧ BegR b D s code L b' ∧ RRow w' w.heap.size 62 A cap L ∧ BkIn w' B1 d1 B2 d2 b' ∧ NewB w.heap.size B1 B2 ∧ Below w.heap.size w w'
set_option maxRecDepth 100000 in
set_option maxHeartbeats 4000000 in
theorem begin_any (w : World) (D Z B O A : Int) (A1 : Option Addr) (c1 : Nat) (A2 : Option Addr) (c2 : Nat) (b : Bo) (s : Nat) (h : BkIn w A1 c1 A2 c2 b) (hq : 0 ≤ b.q ∧ b.q ≤ 4611686018427387904) (hG : goodB D Z B O A = true) (hm : (b.ms.length : Int) = D) (hs : s < b.ms.length) :
    Calls Try.prog 21 #[.agg #[.int .i64 D, .int .i64 Z, .int .i64 B, .int .i64 O, .int .i64 A], .agg #[.int .i64 b.q, .slice A1 b.zs.length c1, .slice A2 b.ms.length c2, .int .i64 b.sl, .int .i64 b.cu], .int .i64 (s : Int)] w (BegPost w b D s) := by
  have hNH := Lib.hid (BgW.new w D Z B O A A1 c1 A2 c2 b)
  have hIH := Lib.hid (fun W (hb : Below w.heap.size w W) => h.below hb)
  have hml := h.ml
  have hgd := Lib.hid (fun W => good_any D Z B O A W)
  rw [hG] at hgd
  have hir := Lib.hid (fun W => isreb_any A1 c1 A2 c2 b W)
  have hct := Lib.hid (fun W (hb : Below w.heap.size w W) => ncontains_any W A2 c2 b.ms D ((h.below hb).m) h.ml)
  have hne : ((b.ms.length : Int) != D) = false := by simp [hm]
  have hs0 : ¬ ((s : Int) < 0) := by omega
  have hsD : ¬ (D ≤ (s : Int)) := by omega
  have hsL : Hid (s < b.ms.length) := Lib.hid hs
  have hmH := Lib.hid hm
  clear h hG hm hs
  go_enter Try.func21, Try.ntmps21
  go_upto_region 1 with fail
  refine fresh_world (fun W => BgW w W D Z B O A A1 c1 A2 c2 b) hNH.out ?_
  clear hNH
  rintro W1 h1
  have h1H := Lib.hid h1
  obtain ⟨⟨g0, g1, g2, g3, g4, _⟩, ⟨k0, k1, k2, k3, k4, _⟩, _, _⟩ := h1
  go_wp2_with fail
  (with_reducible refine (hgd.out _).mono ?_)
  rintro e w2 ⟨rfl, hb2⟩
  have h2H := Lib.hid (h1H.out.below hb2)
  clear h1H hb2 g0 g1 g2 g3 g4 k0 k1 k2 k3 k4 hgd
  obtain ⟨⟨g0, g1, g2, g3, g4, _⟩, ⟨k0, k1, k2, k3, k4, _⟩, _, _⟩ := h2H.out
  go_upto_region 4 with fail
  clear hs0 hsD hne g0 g1 g2 g3 g4
  obtain ⟨t, ht⟩ : ∃ t : Bool, (t = true ↔ Busy b D s) := ⟨@decide (Busy b D s) (Classical.propDecidable _), by simp⟩
  have htH := Lib.hid ht
  clear ht
  go_cut [51] from 35 to 51 (fun v wx => v = .bool t ∧ BgW w wx D Z B O A A1 c1 A2 c2 b)
  case first =>
    by_cases e1 : 0 ≤ b.sl
    case neg =>
      have ed : decide (0 ≤ b.sl) = false := decide_eq_false e1
      rw [ed] at hir
      have hf : t = false := by
        cases t with
        | false => rfl
        | true => exact absurd (htH.out.1 rfl).1 e1
      subst hf
      clear ed hct
      go_wp2_with fail
      (with_reducible refine (hir.out _).mono ?_)
      rintro e w3 ⟨rfl, hb3⟩
      have h3 := Lib.hid (h2H.out.below hb3)
      clear h2H hb3 k0 k1 k2 k3 k4 hir
      go_wp2_with fail
      go_meet
      exact ⟨rfl, h3.out⟩
    case pos =>
      have ed : decide (0 ≤ b.sl) = true := decide_eq_true e1
      rw [ed] at hir
      clear ed hct
      by_cases e2 : b.sl = (s : Int)
      case neg =>
        have hf : t = true := htH.out.2 ⟨e1, .inl e2⟩
        subst hf
        have en : (b.sl != (s : Int)) = true := by simp [e2]
        go_wp2_with fail
        (with_reducible refine (hir.out _).mono ?_)
        rintro e w3 ⟨rfl, hb3⟩
        have h3 := Lib.hid (h2H.out.below hb3)
        clear h2H hb3 k0 k1 k2 k3 k4 hir
        obtain ⟨_, ⟨k0, k1, k2, k3, k4, _⟩, _, _⟩ := h3.out
        go_wp2_with fail
        go_meet
        exact ⟨rfl, h3.out⟩
      case pos =>
        have en : (b.sl != (s : Int)) = false := by simp [e2]
        have e2H := Lib.hid e2
        clear e2
        go_wp2_with fail
        (with_reducible refine (hir.out _).mono ?_)
        rintro e w3 ⟨rfl, hb3⟩
        have h3 := Lib.hid (h2H.out.below hb3)
        clear h2H hb3 k0 k1 k2 k3 k4 hir
        obtain ⟨_, ⟨k0, k1, k2, k3, k4, _⟩, _, hbw⟩ := h3.out
        obtain ⟨g, off, rfl, hgl, hc⟩ := ((hIH.out w3 hbw).m).at_ hsL.out
        have hgb : b.ms[s] = b.ms[s]! := (getElem!_pos b.ms s hsL.out).symm
        obtain ⟨v, hv⟩ : ∃ v, b.ms[s]! = v := ⟨_, rfl⟩
        have hc2 : w3.cell? ⟨g, off + s, none⟩ = some (.int .i64 v) := hc.trans (by rw [← hv, ← hgb]; rfl)
        clear hc
        have hsl1 : (s : Int) < (b.ms.length : Int) := by have := hsL.out; omega
        have htv : t = (v == D) := by
          rw [Bool.eq_iff_iff, htH.out]
          unfold Busy
          rw [hv]
          simp [e2H.out]
        have htvH := Lib.hid htv.symm
        clear htv hv hgb hbw htH
        go_wp2_with fail
        go_meet
        exact ⟨by rw [htvH.out], h3.out⟩
  case rest =>
    obtain ⟨rfl, hW⟩ := hcut
    have hWH := Lib.hid hW
    clear hW h2H hir k0 k1 k2 k3 k4
    have hout := Lib.hid hWH.out.nought
    cases t with
    | true =>
      have hR : Hid (BegR b D s 3 [] noB) := Lib.hid (.inl ⟨rfl, htH.out.1 rfl, rfl, rfl⟩)
      obtain ⟨_, _, ⟨p0, p1, p2, p3, p4, pf⟩, _⟩ := hWH.out
      clear hWH htH hct
      go_wp2_with fail
      refine fresh_post (fun W => BkAt W (w.heap.size + 1 + 1) none 0 none 0 noB ∧ Below w.heap.size w W) hout.out ?_
      rintro W10 ⟨⟨z0, z1, z2, z3, z4, _⟩, hb10⟩
      dsimp only [noB, List.length_nil] at z0 z1 z2 z3 z4
      refine bodyPost_ret (v := .tuple #[.slice none 0 0, .agg #[.int .i64 0, .slice none 0 0, .slice none 0 0, .int .i64 0, .int .i64 0], .int .i64 3]) (by simp [results, Try.results21, go_sem, z0, z1, z2, z3, z4]) rfl ⟨3, [], noB, none, 0, none, 0, none, 0, rfl, hR.out, RRow.nil _ _ _, noB_in _, newB_none _, hb10⟩
    | false =>
      have hnb : Hid (¬ Busy b D s) := Lib.hid (fun h => by simpa using htH.out.2 h)
      obtain ⟨_, ⟨k0, k1, k2, k3, k4, kf⟩, ⟨p0, p1, p2, p3, p4, pf⟩, hbw⟩ := hWH.out
      have hctc := Lib.hid (hct.out wc hbw)
      clear hct htH hbw
      by_cases e3 : D ∈ b.ms
      case pos =>
        rw [decide_eq_true e3] at hctc
        have hR : Hid (BegR b D s 13 [] noB) := Lib.hid (.inr (.inl ⟨rfl, hnb.out, e3, rfl, rfl⟩))
        clear e3 hnb hWH
        go_wp2_with fail
        (with_reducible refine hctc.out.mono ?_)
        rintro e w5 ⟨rfl, rfl⟩
        go_wp2_with fail
        refine fresh_post (fun W => BkAt W (w.heap.size + 1 + 1) none 0 none 0 noB ∧ Below w.heap.size w W) hout.out ?_
        rintro W10 ⟨⟨z0, z1, z2, z3, z4, _⟩, hb10⟩
        dsimp only [noB, List.length_nil] at z0 z1 z2 z3 z4
        refine bodyPost_ret (v := .tuple #[.slice none 0 0, .agg #[.int .i64 0, .slice none 0 0, .slice none 0 0, .int .i64 0, .int .i64 0], .int .i64 13]) (by simp [results, Try.results21, go_sem, z0, z1, z2, z3, z4]) rfl ⟨13, [], noB, none, 0, none, 0, none, 0, rfl, hR.out, RRow.nil _ _ _, noB_in _, newB_none _, hb10⟩
      case neg =>
        rw [decide_eq_false e3] at hctc
        have hR : Hid (BegR b D s 0 (stL b (begXs D s) 2) (stB b (begXs D s) 2)) := Lib.hid (.inr (.inr ⟨rfl, hnb.out, e3, rfl, rfl⟩))
        clear e3 hnb hout
        go_wp2_with fail
        (with_reducible refine hctc.out.mono ?_)
        rintro e w5 ⟨rfl, rfl⟩
        clear hctc
        clear k0 k1 k2 k3 k4 kf p0 p1 p2 p3 p4 pf
        obtain ⟨_, ⟨k0, k1, k2, k3, k4, _⟩, ⟨p0, _⟩, hbw⟩ := hWH.out
        have hn := lt_of_cell p0
        have hst := Lib.hid (state_any (wc.alloc (.cells #[.int .i64 6, .int .i64 0, .int .i64 (s : Int), .int .i64 2, .int .i64 0, .int .i64 0, .string ⟨#[]⟩, .int .i64 5, .int .i64 0, .int .i64 (s : Int), .int .i64 D, .int .i64 0, .int .i64 0, .string ⟨#[]⟩] 62)) A1 c1 A2 c2 b (some ⟨wc.heap.size, 0, none⟩) 2 (begXs D (s : Int)) ((hIH.out wc hbw).below ((Below.refl _ _).alloc (Nat.le_refl _) _)) (beg_recs wc D (s : Int)) (by show 2 ≤ 8; omega) hq)
        have hLl := Lib.hid (stL_len b (begXs D (s : Int)) 2)
        clear hbw hIH p0
        go_wp2_with fail
        clear k0 k1 k2 k3 k4
        refine hst.out.mono ?_
        rintro e w6 ⟨C1, e1, C2, e2, A', cap', rfl, hRow, hIn, hNew, hb6⟩
        have hNew := hNew (by show 0 < 2; omega)
        rw [show (begXs D (s : Int)).length = 2 from rfl] at hRow hIn ⊢
        rw [World.size_alloc] at hRow hNew
        have hW6 := hWH.out.below (((Below.refl wc.heap.size wc).alloc (Nat.le_refl _) _).trans (hb6.mono (by rw [World.size_alloc]; omega)))
        generalize stB b (begXs D (s : Int)) 2 = bn at hR hIn ⊢
        generalize stL b (begXs D (s : Int)) 2 = ln at hR hRow hLl
        have hTk := Lib.hid (hW6.taken hIn hNew hRow (by omega))
        have hNewH := Lib.hid hNew
        obtain ⟨_, ⟨k0, k1, k2, k3, k4, kf⟩, _, _⟩ := hW6
        clear hWH hst hRow hIn hNew hb6
        go_upto_region 9 with fail
        refine fresh_world (fun W => BhW w W (wc.heap.size + 1) C1 e1 C2 e2 bn A' cap' ln) hTk.out ?_
        clear hTk k0 k1 k2 k3 k4 kf
        rintro W9 h9
        have h9D : BhW w W9.drew (wc.heap.size + 1) C1 e1 C2 e2 bn A' cap' ln := ⟨h9.k.below (Below.refl _ _).drew, h9.o.below (Below.refl _ _).drew, h9.i.below (Below.refl _ _).drew, h9.r.below (Below.refl _ _).drew, bmore h9.bw (Below.refl _ _).drew⟩
        have hS : (fun W' => BkAt W' (w.heap.size + 1) C1 e1 C2 e2 bn) W9.drew := h9D.k
        have hout := Lib.hid (h9D.out hNewH.out (by omega))
        obtain ⟨p0, p1, p2, p3, p4, pf⟩ := h9D.o
        have hNw : Hid (NewB w.heap.size C1 C2) := Lib.hid ⟨fun g off e => (by have := hNewH.out.1 g off e; omega), fun g off e => (by have := hNewH.out.2 g off e; omega)⟩
        clear h9 h9D hNewH hn
        refine region_anyC (fun i => decide (i < 3)) (fun W' => BkAt W' (w.heap.size + 1) C1 e1 C2 e2 bn) (by kernel_rfl) ?_
        refine anyL_take 0 (v := ?_) rfl (by kernel_rfl) (fun _ _ _ h => h) (Or.inl ⟨by rfl, ?_⟩) hS ?_
        rotate_left
        focus (intro W hW; go_simp; try with_reducible rfl)
        simp only [Act.put, List.setIfInBounds_toArray, List.set_cons_zero, List.set_cons_succ]
        refine anyL_take 1 (v := ?_) rfl (by kernel_rfl) (fun _ _ _ h => h) (Or.inl ⟨by rfl, ?_⟩) hS ?_
        rotate_left
        focus (intro W hW; obtain ⟨f0, f1, f2, f3, f4, _⟩ := hW; go_simp; try with_reducible rfl)
        simp only [Act.put, List.setIfInBounds_toArray, List.set_cons_zero, List.set_cons_succ]
        refine anyL_one 2 rfl (by kernel_rfl) (fun K hK => ?_)
        go_simp
        refine hK.out _ _ (fun _ => hS) ?_
        clear hK K
        try simp only [Act.put, List.setIfInBounds_toArray, List.set_cons_zero, List.set_cons_succ]
        clear hS
        generalize W9.drew = WD at hout p0 p1 p2 p3 p4 pf ⊢
        refine anyL_one 3 rfl (by kernel_rfl) (fun K hK => ?_)
        go_simp
        refine hK.out _ _ (fun h => absurd h (by decide)) ?_
        clear hK K
        try simp only [Act.put, List.setIfInBounds_toArray, List.set_cons_zero, List.set_cons_succ]
        refine anyL_one 4 rfl (by kernel_rfl) (fun K hK => ?_)
        go_simp
        refine hK.out _ _ (fun h => absurd h (by decide)) ?_
        clear hK K
        try simp only [Act.put, List.setIfInBounds_toArray, List.set_cons_zero, List.set_cons_succ]
        refine anyC_done (by kernel_rfl) ?_ _
        clear p0 p1 p2 p3 p4 pf
        go_wp2_with fail
        refine fresh_post (fun W => BkAt W (w.heap.size + 1 + 1) C1 e1 C2 e2 bn ∧ BkIn W C1 e1 C2 e2 bn ∧ RRow W w.heap.size 62 A' cap' ln ∧ Below w.heap.size w W) hout.out ?_
        rintro W10 ⟨⟨z0, z1, z2, z3, z4, _⟩, hI10, hR10, hb10⟩
        refine bodyPost_ret (v := .tuple #[.slice A' 2 cap', .agg #[.int .i64 bn.q, .slice C1 bn.zs.length e1, .slice C2 bn.ms.length e2, .int .i64 bn.sl, .int .i64 bn.cu], .int .i64 0]) (by simp [results, Try.results21, go_sem, z0, z1, z2, z3, z4]) rfl ⟨0, ln, bn, C1, e1, C2, e2, A', cap', by rw [hLl.out], hR.out, hR10, hI10, hNw.out, hb10⟩
end Go.Proofs.Ytdjdldcpaidmnaa
