/- The words of rebuild's laws. -/
import Derived.Test.YtdjdldcpaidmnaaRbA
import Derived.Test.YtdjdldcpaidmnaaSRef
namespace Go.Proofs.Ytdjdldcpaidmnaa
open Go.RowKit Rec Bk Rb

theorem mod_more16 (x : Int) {m : Int} (h1 : 1 ≤ m) (h2 : m ≤ 5000) : ∃ (t : Int) (c : Nat), x.tmod m = t ∧ (t + m).tmod m = (c : Int) ∧ (c : Int) < m ∧ IntKind.i64.wrap t = t ∧ IntKind.i64.wrap (t + m) = t + m ∧ wrap64 (t + m) = t + m ∧ IntKind.i64.wrap (c : Int) = (c : Int) ∧ ¬ m = 0 ∧ ¬ m = -1 := by
  obtain ⟨t, y, e1, e2, h3, h4, h5, h6, _, _⟩ := mod_in x m (by omega) (by omega)
  obtain ⟨c, rfl⟩ := Int.eq_ofNat_of_zero_le h3
  exact ⟨t, c, e1, e2, h4, IntWalk.i64_in _ (by omega), IntWalk.i64_in _ (by omega), IntWalk.wrap64_in _ (by omega), IntWalk.i64_in _ (by omega), by omega, by omega⟩
/-- The boxes of the geometry. -/
def RbG (w : World) (s7 : Nat) (D Z B O A : Int) (W : World) : Prop := GeoAt W w.heap.size D Z B O A ∧ GeoAt W s7 D Z B O A ∧ Below w.heap.size w W ∧ w.heap.size < s7
theorem RbG.below {w W W' : World} {s7 : Nat} {D Z B O A : Int} (h : RbG w s7 D Z B O A W) (hb : Below W.heap.size W W') : RbG w s7 D Z B O A W' := ⟨h.1.below hb, h.2.1.below hb, bmore h.2.2.1 hb, h.2.2.2⟩
theorem RbG.low {w W W' : World} {s7 k : Nat} {D Z B O A : Int} (h : RbG w s7 D Z B O A W) (hb : Below k W W') (hk : s7 < k) : RbG w s7 D Z B O A W' := ⟨geo_low h.1 hb (by have := h.2.2.2; omega), geo_low h.2.1 hb hk, h.2.2.1.trans (hb.mono (by have := h.2.2.2; omega)), h.2.2.2⟩
theorem RbG.lt {w W : World} {s7 : Nat} {D Z B O A : Int} (h : RbG w s7 D Z B O A W) : s7 < W.heap.size := h.2.1.2.2.2.2.2
/-- A book in a box beside them. -/
structure RbW (w W : World) (s7 s9 : Nat) (D Z B O A : Int) (C1 : Option Addr) (e1 : Nat) (C2 : Option Addr) (e2 : Nat) (b : Bo) : Prop where
  g : RbG w s7 D Z B O A W
  k : BkAt W s9 C1 e1 C2 e2 b
  i : BkIn W C1 e1 C2 e2 b
  lt : s7 < s9
theorem RbW.below {w W W' : World} {s7 s9 : Nat} {D Z B O A : Int} {C1 C2 : Option Addr} {e1 e2 : Nat} {b : Bo} (h : RbW w W s7 s9 D Z B O A C1 e1 C2 e2 b) (hb : Below W.heap.size W W') : RbW w W' s7 s9 D Z B O A C1 e1 C2 e2 b := ⟨h.g.below hb, h.k.below hb, h.i.below hb, h.lt⟩
theorem book_put {W : World} {s3 : Nat} {X1 X2 B1 B2 : Option Addr} {x1 x2 d1 d2 : Nat} {b0 b : Bo} (hX : BkAt W s3 X1 x1 X2 x2 b0) (hI : BkIn W B1 d1 B2 d2 b) (h1 : ∀ g off, B1 = some ⟨g, off, none⟩ → g ≠ s3) (h2 : ∀ g off, B2 = some ⟨g, off, none⟩ → g ≠ s3) :
    BkAt (((((W.setCell ⟨s3, 0, none⟩ (.int .i64 b.q)).setCell ⟨s3, 1, none⟩ (.slice B1 b.zs.length d1)).setCell ⟨s3, 2, none⟩ (.slice B2 b.ms.length d2)).setCell ⟨s3, 3, none⟩ (.int .i64 b.sl)).setCell ⟨s3, 4, none⟩ (.int .i64 b.cu)) s3 B1 d1 B2 d2 b ∧ BkIn (((((W.setCell ⟨s3, 0, none⟩ (.int .i64 b.q)).setCell ⟨s3, 1, none⟩ (.slice B1 b.zs.length d1)).setCell ⟨s3, 2, none⟩ (.slice B2 b.ms.length d2)).setCell ⟨s3, 3, none⟩ (.int .i64 b.sl)).setCell ⟨s3, 4, none⟩ (.int .i64 b.cu)) B1 d1 B2 d2 b ∧ Below s3 W (((((W.setCell ⟨s3, 0, none⟩ (.int .i64 b.q)).setCell ⟨s3, 1, none⟩ (.slice B1 b.zs.length d1)).setCell ⟨s3, 2, none⟩ (.slice B2 b.ms.length d2)).setCell ⟨s3, 3, none⟩ (.int .i64 b.sl)).setCell ⟨s3, 4, none⟩ (.int .i64 b.cu)) ∧ W.grownBy (((((W.setCell ⟨s3, 0, none⟩ (.int .i64 b.q)).setCell ⟨s3, 1, none⟩ (.slice B1 b.zs.length d1)).setCell ⟨s3, 2, none⟩ (.slice B2 b.ms.length d2)).setCell ⟨s3, 3, none⟩ (.int .i64 b.sl)).setCell ⟨s3, 4, none⟩ (.int .i64 b.cu)) (some s3) := by
  have hg := grownBy_put W s3 (.int .i64 b.q) (.slice B1 b.zs.length d1) (.slice B2 b.ms.length d2) (.int .i64 b.sl) (.int .i64 b.cu)
  have hl := Nat.le_refl s3
  exact ⟨hX.put b, bkin_far hI hg h1 h2, (((((Below.refl s3 W).setCell hl _).setCell hl _).setCell hl _).setCell hl _).setCell hl _, hg⟩
/-- Another book put into the box. -/
theorem RbW.put {w W : World} {s7 s3 : Nat} {D Z B O A : Int} {C1 C2 B1 B2 : Option Addr} {e1 e2 d1 d2 : Nat} {b0 b : Bo} (h : RbW w W s7 s3 D Z B O A C1 e1 C2 e2 b0) (hI : BkIn W B1 d1 B2 d2 b) (h1 : ∀ g off, B1 = some ⟨g, off, none⟩ → g ≠ s3) (h2 : ∀ g off, B2 = some ⟨g, off, none⟩ → g ≠ s3) :
    RbW w (((((W.setCell ⟨s3, 0, none⟩ (.int .i64 b.q)).setCell ⟨s3, 1, none⟩ (.slice B1 b.zs.length d1)).setCell ⟨s3, 2, none⟩ (.slice B2 b.ms.length d2)).setCell ⟨s3, 3, none⟩ (.int .i64 b.sl)).setCell ⟨s3, 4, none⟩ (.int .i64 b.cu)) s7 s3 D Z B O A B1 d1 B2 d2 b := by
  obtain ⟨k1, k2, k3, _⟩ := book_put h.k hI h1 h2
  exact ⟨h.g.low k3 h.lt, k1, k2, h.lt⟩
theorem rb_put {w W : World} {s7 s3 m : Nat} {D Z B O A : Int} {B1 B2 Al : Option Addr} {d1 d2 cap : Nat} {b : Bo} {L : List Rc} (hG : RbG w s7 D Z B O A W) (hX : BkAt W s3 none 0 none 0 noB) (hI : BkIn W B1 d1 B2 d2 b) (hR : RRow W m 62 Al cap L) (hA : Ap s3 B1 B2 Al) (hz : s7 < s3) :
    RbW w (((((W.setCell ⟨s3, 0, none⟩ (.int .i64 b.q)).setCell ⟨s3, 1, none⟩ (.slice B1 b.zs.length d1)).setCell ⟨s3, 2, none⟩ (.slice B2 b.ms.length d2)).setCell ⟨s3, 3, none⟩ (.int .i64 b.sl)).setCell ⟨s3, 4, none⟩ (.int .i64 b.cu)) s7 s3 D Z B O A B1 d1 B2 d2 b ∧ RecsAt (((((W.setCell ⟨s3, 0, none⟩ (.int .i64 b.q)).setCell ⟨s3, 1, none⟩ (.slice B1 b.zs.length d1)).setCell ⟨s3, 2, none⟩ (.slice B2 b.ms.length d2)).setCell ⟨s3, 3, none⟩ (.int .i64 b.sl)).setCell ⟨s3, 4, none⟩ (.int .i64 b.cu)) Al L := by
  obtain ⟨h1, h2, h3, h4⟩ := box_put hX hI hR hA
  exact ⟨⟨hG.low h4 hz, h1, h2, hz⟩, rrow_at h3⟩
namespace Rb
def begL (b : Bo) (D : Int) (s : Nat) : List Rc := [⟨6, b.q + 1, (s : Int), 2, 0, 0, ⟨#[]⟩⟩, ⟨5, b.q + 2, (s : Int), D, 0, 0, ⟨#[]⟩⟩]
end Rb
/-- Begin where it can be begun. -/
theorem beg_ok (w : World) (D Z B O A : Int) (A1 : Option Addr) (c1 : Nat) (A2 : Option Addr) (c2 : Nat) (b : Bo) (s : Nat) (h : BkIn w A1 c1 A2 c2 b) (hq : 0 ≤ b.q ∧ b.q ≤ 4611686018427387904) (hG : goodB D Z B O A = true) (hm : (b.ms.length : Int) = D) (hs : s < b.ms.length) (hn : ¬ Busy b D s) (hd : D ∉ b.ms) :
    Calls Try.prog 21 #[.agg #[.int .i64 D, .int .i64 Z, .int .i64 B, .int .i64 O, .int .i64 A], .agg #[.int .i64 b.q, .slice A1 b.zs.length c1, .slice A2 b.ms.length c2, .int .i64 b.sl, .int .i64 b.cu], .int .i64 (s : Int)] w
      fun e w' => ∃ (B1 : Option Addr) (d1 : Nat) (B2 : Option Addr) (d2 : Nat) (Al : Option Addr) (cap : Nat), e = .returned (.tuple #[.slice Al 2 cap, .agg #[.int .i64 (begB b D s).q, .slice B1 (begB b D s).zs.length d1, .slice B2 (begB b D s).ms.length d2, .int .i64 (begB b D s).sl, .int .i64 (begB b D s).cu], .int .i64 0]) ∧ RRow w' w.heap.size 62 Al cap (begL b D s) ∧ BkIn w' B1 d1 B2 d2 (begB b D s) ∧ NewB w.heap.size B1 B2 ∧ Below w.heap.size w w' := by
  have hml := h.ml
  refine (begin_any w D Z B O A A1 c1 A2 c2 b s h hq hG hm hs).mono ?_
  rintro e w' ⟨code, L, b', B1, d1, B2, d2, Al, cap, rfl, hR, hRow, hI2, hN, hb⟩
  obtain ⟨rfl, rfl, rfl⟩ := beg_yes hR hn hd hs (by omega)
  exact ⟨B1, d1, B2, d2, Al, cap, rfl, hRow, hI2, hN, hb⟩
theorem new_no {n m : Nat} {D : Int} (hD : D = (m : Int)) : D ∉ (newBk n m).ms := by
  show D ∉ newMs m
  unfold newMs
  intro h
  obtain ⟨i, hi, e⟩ := List.mem_map.1 h
  have := List.mem_range.1 hi
  omega
end Go.Proofs.Ytdjdldcpaidmnaa
