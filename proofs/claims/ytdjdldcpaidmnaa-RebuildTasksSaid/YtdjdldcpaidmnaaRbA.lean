/- The record that says that a zone was rebuilt, and the book behind it. -/
import Derived.Test.YtdjdldcpaidmnaaRbV
namespace Go.Proofs.Ytdjdldcpaidmnaa
open Go.RowKit Rec Bk Rb

def zR : Rc := ⟨0, 0, 0, 0, 0, 0, ⟨#[]⟩⟩
def xR : Rc := ⟨6, 0, 65535, 0, 0, 0, ⟨#[]⟩⟩
theorem one_recs (W : World) (x : Rc) (t : TypeId) : RecsAt (W.alloc (.cells #[.int .i64 x.k, .int .i64 x.s, .int .i64 x.a, .int .i64 x.b, .int .i64 x.c, .int .i64 x.d, .string x.body] t)) (some ⟨W.heap.size, 0, none⟩) [x] := by
  refine .inr ⟨W.heap.size, 0, rfl, by simp, fun i hi j hj => ?_⟩
  have h1 : i < 1 := hi
  obtain rfl : i = 0 := by omega
  rcases (by omega : j = 0 ∨ j = 1 ∨ j = 2 ∨ j = 3 ∨ j = 4 ∨ j = 5 ∨ j = 6) with rfl | rfl | rfl | rfl | rfl | rfl | rfl <;> (go_simp; rfl)
/-- A record and a book put into their boxes. -/
theorem two_put {W : World} {X O n : Nat} {B1 B2 X1 X2 : Option Addr} {d1 d2 x1 x2 : Nat} {b0 b' : Bo} {x0 : Rc} (x : Rc) (hx : RcW W X x0) (ho : BkAt W O X1 x1 X2 x2 b0) (hI : BkIn W B1 d1 B2 d2 b') (hXO : X ≠ O) (h1 : n ≤ X) (h2 : n ≤ O)
    (hA : ∀ g off, B1 = some ⟨g, off, none⟩ → g ≠ X ∧ g ≠ O) (hB : ∀ g off, B2 = some ⟨g, off, none⟩ → g ≠ X ∧ g ≠ O) :
    RcW ((((((((((((W.setCell ⟨X, 0, none⟩ (.int .i64 x.k)).setCell ⟨X, 1, none⟩ (.int .i64 x.s)).setCell ⟨X, 2, none⟩ (.int .i64 x.a)).setCell ⟨X, 3, none⟩ (.int .i64 x.b)).setCell ⟨X, 4, none⟩ (.int .i64 x.c)).setCell ⟨X, 5, none⟩ (.int .i64 x.d)).setCell ⟨X, 6, none⟩ (.string x.body)).setCell ⟨O, 0, none⟩ (.int .i64 b'.q)).setCell ⟨O, 1, none⟩ (.slice B1 b'.zs.length d1)).setCell ⟨O, 2, none⟩ (.slice B2 b'.ms.length d2)).setCell ⟨O, 3, none⟩ (.int .i64 b'.sl)).setCell ⟨O, 4, none⟩ (.int .i64 b'.cu)) X x ∧ BkAt ((((((((((((W.setCell ⟨X, 0, none⟩ (.int .i64 x.k)).setCell ⟨X, 1, none⟩ (.int .i64 x.s)).setCell ⟨X, 2, none⟩ (.int .i64 x.a)).setCell ⟨X, 3, none⟩ (.int .i64 x.b)).setCell ⟨X, 4, none⟩ (.int .i64 x.c)).setCell ⟨X, 5, none⟩ (.int .i64 x.d)).setCell ⟨X, 6, none⟩ (.string x.body)).setCell ⟨O, 0, none⟩ (.int .i64 b'.q)).setCell ⟨O, 1, none⟩ (.slice B1 b'.zs.length d1)).setCell ⟨O, 2, none⟩ (.slice B2 b'.ms.length d2)).setCell ⟨O, 3, none⟩ (.int .i64 b'.sl)).setCell ⟨O, 4, none⟩ (.int .i64 b'.cu)) O B1 d1 B2 d2 b' ∧ BkIn ((((((((((((W.setCell ⟨X, 0, none⟩ (.int .i64 x.k)).setCell ⟨X, 1, none⟩ (.int .i64 x.s)).setCell ⟨X, 2, none⟩ (.int .i64 x.a)).setCell ⟨X, 3, none⟩ (.int .i64 x.b)).setCell ⟨X, 4, none⟩ (.int .i64 x.c)).setCell ⟨X, 5, none⟩ (.int .i64 x.d)).setCell ⟨X, 6, none⟩ (.string x.body)).setCell ⟨O, 0, none⟩ (.int .i64 b'.q)).setCell ⟨O, 1, none⟩ (.slice B1 b'.zs.length d1)).setCell ⟨O, 2, none⟩ (.slice B2 b'.ms.length d2)).setCell ⟨O, 3, none⟩ (.int .i64 b'.sl)).setCell ⟨O, 4, none⟩ (.int .i64 b'.cu)) B1 d1 B2 d2 b' ∧ Below n W ((((((((((((W.setCell ⟨X, 0, none⟩ (.int .i64 x.k)).setCell ⟨X, 1, none⟩ (.int .i64 x.s)).setCell ⟨X, 2, none⟩ (.int .i64 x.a)).setCell ⟨X, 3, none⟩ (.int .i64 x.b)).setCell ⟨X, 4, none⟩ (.int .i64 x.c)).setCell ⟨X, 5, none⟩ (.int .i64 x.d)).setCell ⟨X, 6, none⟩ (.string x.body)).setCell ⟨O, 0, none⟩ (.int .i64 b'.q)).setCell ⟨O, 1, none⟩ (.slice B1 b'.zs.length d1)).setCell ⟨O, 2, none⟩ (.slice B2 b'.ms.length d2)).setCell ⟨O, 3, none⟩ (.int .i64 b'.sl)).setCell ⟨O, 4, none⟩ (.int .i64 b'.cu)) := by
  have k1 := hx.all x
  have g1 : W.grownBy (((((((W.setCell ⟨X, 0, none⟩ (.int .i64 x.k)).setCell ⟨X, 1, none⟩ (.int .i64 x.s)).setCell ⟨X, 2, none⟩ (.int .i64 x.a)).setCell ⟨X, 3, none⟩ (.int .i64 x.b)).setCell ⟨X, 4, none⟩ (.int .i64 x.c)).setCell ⟨X, 5, none⟩ (.int .i64 x.d)).setCell ⟨X, 6, none⟩ (.string x.body)) (some X) := ((((((grownBy_one W X 0 _).trans (grownBy_one _ X 1 _)).trans (grownBy_one _ X 2 _)).trans (grownBy_one _ X 3 _)).trans (grownBy_one _ X 4 _)).trans (grownBy_one _ X 5 _)).trans (grownBy_one _ X 6 _)
  have o1 := ho.far g1 (fun e => hXO (by injection e))
  have i1 := bkin_far hI g1 (fun g off e => (hA g off e).1) (fun g off e => (hB g off e).1)
  have l1 : Below n W (((((((W.setCell ⟨X, 0, none⟩ (.int .i64 x.k)).setCell ⟨X, 1, none⟩ (.int .i64 x.s)).setCell ⟨X, 2, none⟩ (.int .i64 x.a)).setCell ⟨X, 3, none⟩ (.int .i64 x.b)).setCell ⟨X, 4, none⟩ (.int .i64 x.c)).setCell ⟨X, 5, none⟩ (.int .i64 x.d)).setCell ⟨X, 6, none⟩ (.string x.body)) := (((((((Below.refl n W).setCell h1 _).setCell h1 _).setCell h1 _).setCell h1 _).setCell h1 _).setCell h1 _).setCell h1 _
  generalize (((((((W.setCell ⟨X, 0, none⟩ (.int .i64 x.k)).setCell ⟨X, 1, none⟩ (.int .i64 x.s)).setCell ⟨X, 2, none⟩ (.int .i64 x.a)).setCell ⟨X, 3, none⟩ (.int .i64 x.b)).setCell ⟨X, 4, none⟩ (.int .i64 x.c)).setCell ⟨X, 5, none⟩ (.int .i64 x.d)).setCell ⟨X, 6, none⟩ (.string x.body)) = W1 at k1 o1 i1 l1 ⊢
  have g2 := grownBy_put W1 O (.int .i64 b'.q) (.slice B1 b'.zs.length d1) (.slice B2 b'.ms.length d2) (.int .i64 b'.sl) (.int .i64 b'.cu)
  refine ⟨?_, o1.put b', bkin_far i1 g2 (fun g off e => (hA g off e).2) (fun g off e => (hB g off e).2), l1.trans (((((((Below.refl n W1).setCell h2 _).setCell h2 _).setCell h2 _).setCell h2 _).setCell h2 _).mono (Nat.le_refl _))⟩
  exact ((((k1.far (Ne.symm hXO) 0 _).far (Ne.symm hXO) 1 _).far (Ne.symm hXO) 2 _).far (Ne.symm hXO) 3 _).far (Ne.symm hXO) 4 _
theorem bk_seven {W : World} {r X : Nat} {A1 A2 : Option Addr} {c1 c2 : Nat} {b : Bo} (h : BkAt W r A1 c1 A2 c2 b) (hne : X ≠ r) (x : Rc) : BkAt (((((((W.setCell ⟨X, 0, none⟩ (.int .i64 x.k)).setCell ⟨X, 1, none⟩ (.int .i64 x.s)).setCell ⟨X, 2, none⟩ (.int .i64 x.a)).setCell ⟨X, 3, none⟩ (.int .i64 x.b)).setCell ⟨X, 4, none⟩ (.int .i64 x.c)).setCell ⟨X, 5, none⟩ (.int .i64 x.d)).setCell ⟨X, 6, none⟩ (.string x.body)) r A1 c1 A2 c2 b :=
  h.far (((((((grownBy_one W X 0 _).trans (grownBy_one _ X 1 _)).trans (grownBy_one _ X 2 _)).trans (grownBy_one _ X 3 _)).trans (grownBy_one _ X 4 _)).trans (grownBy_one _ X 5 _)).trans (grownBy_one _ X 6 _)) (fun e => hne (by injection e))
/-- A record in a list. -/
def Lst (W : World) (g off : Nat) (x : Rc) : Prop := W.cell? ⟨g, off, none⟩ = some (.int .i64 x.k) ∧ W.cell? ⟨g, off + 1, none⟩ = some (.int .i64 x.s) ∧ W.cell? ⟨g, off + 2, none⟩ = some (.int .i64 x.a) ∧ W.cell? ⟨g, off + 3, none⟩ = some (.int .i64 x.b) ∧ W.cell? ⟨g, off + 4, none⟩ = some (.int .i64 x.c) ∧ W.cell? ⟨g, off + 5, none⟩ = some (.int .i64 x.d) ∧ W.cell? ⟨g, off + 6, none⟩ = some (.string x.body)
structure AdW (w W : World) (D Z B O A : Int) (A1 : Option Addr) (c1 : Nat) (A2 : Option Addr) (c2 : Nat) (b : Bo) : Prop where
  g : GeoAt W w.heap.size D Z B O A
  k : BkAt W (w.heap.size + 1) A1 c1 A2 c2 b
  x : RcW W (w.heap.size + 1 + 1) zR
  o : BkAt W (w.heap.size + 1 + 1 + 1) none 0 none 0 noB
  bw : Below w.heap.size w W
theorem AdW.below {w W W' : World} {D Z B O A : Int} {A1 A2 : Option Addr} {c1 c2 : Nat} {b : Bo} (h : AdW w W D Z B O A A1 c1 A2 c2 b) (hb : Below W.heap.size W W') : AdW w W' D Z B O A A1 c1 A2 c2 b := ⟨h.g.below hb, h.k.below hb, h.x.below hb, h.o.below hb, bmore h.bw hb⟩
theorem AdW.low {w W W' : World} {D Z B O A : Int} {A1 A2 : Option Addr} {c1 c2 k : Nat} {b : Bo} (h : AdW w W D Z B O A A1 c1 A2 c2 b) (hb : Below k W W') (hk : w.heap.size + 1 + 1 + 1 < k) : AdW w W' D Z B O A A1 c1 A2 c2 b := by
  have hk2 := hb.block (w.heap.size + 1 + 1) (by omega)
  refine ⟨geo_low h.g hb (by omega), h.k.of (hb.block _ (by omega)), ⟨⟨?_, ?_, ?_, ?_, ?_, ?_, ?_⟩, fun j => ?_⟩, h.o.of (hb.block _ (by omega)), h.bw.trans (hb.mono (by omega))⟩
  · exact (World.cell?_of_block (a := ⟨w.heap.size + 1 + 1, 0, none⟩) hk2).trans h.x.at_.c0
  · exact (World.cell?_of_block (a := ⟨w.heap.size + 1 + 1, 1, none⟩) hk2).trans h.x.at_.c1
  · exact (World.cell?_of_block (a := ⟨w.heap.size + 1 + 1, 2, none⟩) hk2).trans h.x.at_.c2
  · exact (World.cell?_of_block (a := ⟨w.heap.size + 1 + 1, 3, none⟩) hk2).trans h.x.at_.c3
  · exact (World.cell?_of_block (a := ⟨w.heap.size + 1 + 1, 4, none⟩) hk2).trans h.x.at_.c4
  · exact (World.cell?_of_block (a := ⟨w.heap.size + 1 + 1, 5, none⟩) hk2).trans h.x.at_.c5
  · exact (World.cell?_of_block (a := ⟨w.heap.size + 1 + 1, 6, none⟩) hk2).trans h.x.at_.c6
  · exact (World.frozen?_of_block (a := ⟨w.heap.size + 1 + 1, j, none⟩) hk2).trans (h.x.fr j)
theorem AdW.new (w : World) (D Z B O A : Int) (A1 : Option Addr) (c1 : Nat) (A2 : Option Addr) (c2 : Nat) (b : Bo) : AdW w ((((w.alloc (.cells #[.int .i64 D, .int .i64 Z, .int .i64 B, .int .i64 O, .int .i64 A] 30)).alloc (.cells #[.int .i64 b.q, .slice A1 b.zs.length c1, .slice A2 b.ms.length c2, .int .i64 b.sl, .int .i64 b.cu] 58)).alloc (.cells #[.int .i64 0, .int .i64 0, .int .i64 0, .int .i64 0, .int .i64 0, .int .i64 0, .string ⟨#[]⟩] 62)).alloc (.cells #[.int .i64 0, .slice none 0 0, .slice none 0 0, .int .i64 0, .int .i64 0] 58)) D Z B O A A1 c1 A2 c2 b := by
  have s1 := World.size_alloc w (.cells #[.int .i64 D, .int .i64 Z, .int .i64 B, .int .i64 O, .int .i64 A] 30)
  have g1 := GeoAt.new w D Z B O A 30
  have b1 := (Below.refl w.heap.size w).alloc (Nat.le_refl _) (.cells #[.int .i64 D, .int .i64 Z, .int .i64 B, .int .i64 O, .int .i64 A] 30)
  generalize w.alloc (.cells #[.int .i64 D, .int .i64 Z, .int .i64 B, .int .i64 O, .int .i64 A] 30) = W1 at s1 g1 b1 ⊢
  have s2 := World.size_alloc W1 (.cells #[.int .i64 b.q, .slice A1 b.zs.length c1, .slice A2 b.ms.length c2, .int .i64 b.sl, .int .i64 b.cu] 58)
  have k2 := BkAt.new W1 A1 c1 A2 c2 b 58
  have a2 := (Below.refl W1.heap.size W1).alloc (Nat.le_refl _) (.cells #[.int .i64 b.q, .slice A1 b.zs.length c1, .slice A2 b.ms.length c2, .int .i64 b.sl, .int .i64 b.cu] 58)
  generalize W1.alloc (.cells #[.int .i64 b.q, .slice A1 b.zs.length c1, .slice A2 b.ms.length c2, .int .i64 b.sl, .int .i64 b.cu] 58) = W2 at s2 k2 a2 ⊢
  have s3 := World.size_alloc W2 (.cells #[.int .i64 0, .int .i64 0, .int .i64 0, .int .i64 0, .int .i64 0, .int .i64 0, .string ⟨#[]⟩] 62)
  have k3 : RcW (W2.alloc (.cells #[.int .i64 0, .int .i64 0, .int .i64 0, .int .i64 0, .int .i64 0, .int .i64 0, .string ⟨#[]⟩] 62)) W2.heap.size zR := RcW.new W2 zR 62
  have a3 := (Below.refl W2.heap.size W2).alloc (Nat.le_refl _) (.cells #[.int .i64 0, .int .i64 0, .int .i64 0, .int .i64 0, .int .i64 0, .int .i64 0, .string ⟨#[]⟩] 62)
  generalize W2.alloc (.cells #[.int .i64 0, .int .i64 0, .int .i64 0, .int .i64 0, .int .i64 0, .int .i64 0, .string ⟨#[]⟩] 62) = W3 at s3 k3 a3 ⊢
  have k4 : BkAt (W3.alloc (.cells #[.int .i64 0, .slice none 0 0, .slice none 0 0, .int .i64 0, .int .i64 0] 58)) W3.heap.size none 0 none 0 noB := BkAt.new W3 none 0 none 0 noB 58
  have a4 := (Below.refl W3.heap.size W3).alloc (Nat.le_refl _) (.cells #[.int .i64 0, .slice none 0 0, .slice none 0 0, .int .i64 0, .int .i64 0] 58)
  rw [s1] at k2 s2
  rw [s2] at k3 s3
  rw [s3] at k4
  exact ⟨((g1.below a2).below a3).below a4, (k2.below a3).below a4, k3.below a4, k4, bmore (bmore (bmore b1 a2) a3) a4⟩
def AdvPost (w : World) (b : Bo) (Z : Int) (e : Ending) (w' : World) : Prop := ∃ (code : Int) (x : Rc) (b' : Bo) (B1 : Option Addr) (d1 : Nat) (B2 : Option Addr) (d2 : Nat), e = .returned (.tuple #[.agg #[.int .i64 x.k, .int .i64 x.s, .int .i64 x.a, .int .i64 x.b, .int .i64 x.c, .int .i64 x.d, .string x.body], .agg #[.int .i64 b'.q, .slice B1 b'.zs.length d1, .slice B2 b'.ms.length d2, .int .i64 b'.sl, .int .i64 b'.cu], .int .i64 code]) ∧ AdvR b Z code x b' ∧ BkIn w' B1 d1 B2 d2 b' ∧ NewB w.heap.size B1 B2 ∧ Below w.heap.size w w'
/-- The world behind the records. -/
structure AhW (w W : World) (n : Nat) (C1 : Option Addr) (e1 : Nat) (C2 : Option Addr) (e2 : Nat) (bn : Bo) (A : Option Addr) (L : List Rc) : Prop where
  k : BkAt W (w.heap.size + 1) C1 e1 C2 e2 bn
  x : RcW W (w.heap.size + 1 + 1) zR
  o : BkAt W (w.heap.size + 1 + 1 + 1) none 0 none 0 noB
  i : BkIn W C1 e1 C2 e2 bn
  r : RecsAt W A L
  bw : Below w.heap.size w W
theorem AhW.below {w W W' : World} {n : Nat} {C1 C2 A : Option Addr} {e1 e2 : Nat} {bn : Bo} {L : List Rc} (h : AhW w W n C1 e1 C2 e2 bn A L) (hb : Below W.heap.size W W') : AhW w W' n C1 e1 C2 e2 bn A L := ⟨h.k.below hb, h.x.below hb, h.o.below hb, h.i.below hb, h.r.below hb, bmore h.bw hb⟩
theorem AdW.taken {w W : World} {D Z B O Aa : Int} {A1 A2 : Option Addr} {c1 c2 : Nat} {b : Bo} {n : Nat} {C1 C2 A : Option Addr} {e1 e2 cap : Nat} {bn : Bo} {L : List Rc} (h : AdW w W D Z B O Aa A1 c1 A2 c2 b) (hI : BkIn W C1 e1 C2 e2 bn) (hN : NewB n C1 C2) (hR : RRow W n 62 A cap L) (hn : w.heap.size + 1 + 1 + 1 < n) :
    AhW w (((((W.setCell ⟨w.heap.size + 1, 0, none⟩ (.int .i64 bn.q)).setCell ⟨w.heap.size + 1, 1, none⟩ (.slice C1 bn.zs.length e1)).setCell ⟨w.heap.size + 1, 2, none⟩ (.slice C2 bn.ms.length e2)).setCell ⟨w.heap.size + 1, 3, none⟩ (.int .i64 bn.sl)).setCell ⟨w.heap.size + 1, 4, none⟩ (.int .i64 bn.cu)) n C1 e1 C2 e2 bn A L := by
  obtain ⟨h1, h2, h3, h4⟩ := box_put h.k hI hR (ap_old hN hR (show w.heap.size + 1 < n by omega))
  have hg := grownBy_put W (w.heap.size + 1) (.int .i64 bn.q) (.slice C1 bn.zs.length e1) (.slice C2 bn.ms.length e2) (.int .i64 bn.sl) (.int .i64 bn.cu)
  have hne : w.heap.size + 1 ≠ w.heap.size + 1 + 1 := by omega
  exact ⟨h1, ((((h.x.far hne 0 _).far hne 1 _).far hne 2 _).far hne 3 _).far hne 4 _, h.o.far hg (by simp), h2, rrow_at h3, h.bw.trans (h4.mono (by omega))⟩
set_option maxRecDepth 100000 in
set_option maxHeartbeats 4000000 in
theorem advance_any (w : World) (D Z B O A : Int) (A1 : Option Addr) (c1 : Nat) (A2 : Option Addr) (c2 : Nat) (b : Bo) (h : BkIn w A1 c1 A2 c2 b) (hq : 0 ≤ b.q ∧ b.q ≤ 4611686018427387904) (hZ : Z ≤ 1000) :
    Calls Try.prog 24 #[.agg #[.int .i64 D, .int .i64 Z, .int .i64 B, .int .i64 O, .int .i64 A], .agg #[.int .i64 b.q, .slice A1 b.zs.length c1, .slice A2 b.ms.length c2, .int .i64 b.sl, .int .i64 b.cu]] w (AdvPost w b Z) := by
  have hNH := Lib.hid (AdW.new w D Z B O A A1 c1 A2 c2 b)
  have hIH := Lib.hid (fun W (hb : Below w.heap.size w W) => h.below hb)
  have hir := Lib.hid (fun W => isreb_any A1 c1 A2 c2 b W)
  have hzl := h.zl
  have hnx := Lib.hid (fun W (hb : Below w.heap.size w W) => next_any16 D Z B O A A1 c1 A2 c2 b W (h.below hb) hzl)
  have hqH := Lib.hid hq
  clear h hq hzl
  go_enter Try.func24, Try.ntmps24
  go_upto_region 1 with fail
  refine fresh_world (fun W => AdW w W D Z B O A A1 c1 A2 c2 b) hNH.out ?_
  clear hNH
  rintro W1 h1
  have h1H := Lib.hid h1
  obtain ⟨k0, k1, k2, k3, k4, _⟩ := h1.k
  clear h1
  by_cases e1 : 0 ≤ b.sl
  case neg =>
    have ed : decide (0 ≤ b.sl) = false := decide_eq_false e1
    rw [ed] at hir
    have hR : Hid (AdvR b Z 3 zR noB) := Lib.hid (.inl ⟨by omega, rfl, rfl, rfl⟩)
    clear ed hnx e1
    go_wp2_with fail
    (with_reducible refine (hir.out _).mono ?_)
    rintro e w2 ⟨rfl, hb2⟩
    have h2 := h1H.out.below hb2
    have hout := Lib.hid (two_put (n := w.heap.size) zR h2.x h2.o (noB_in w2) (by omega) (by omega) (by omega) (fun g off e => by cases e) (fun g off e => by cases e))
    obtain ⟨⟨y0, y1, y2, y3, y4, y5, y6⟩, yf⟩ := h2.x
    obtain ⟨z0, z1, z2, z3, z4, zf⟩ := h2.o
    have hbw := Lib.hid h2.bw
    dsimp only [zR, noB, List.length_nil] at y0 y1 y2 y3 y4 y5 y6 z0 z1 z2 z3 z4
    clear h2 h1H hb2 hir k0 k1 k2 k3 k4
    go_wp2_with fail
    refine fresh_post (fun W => RcW W (w.heap.size + 1 + 1) zR ∧ BkAt W (w.heap.size + 1 + 1 + 1) none 0 none 0 noB ∧ BkIn W none 0 none 0 noB ∧ Below w.heap.size w2 W) hout.out ?_
    rintro W10 ⟨⟨⟨y0, y1, y2, y3, y4, y5, y6⟩, _⟩, ⟨z0, z1, z2, z3, z4, _⟩, hI10, hb10⟩
    dsimp only [zR, noB, List.length_nil] at y0 y1 y2 y3 y4 y5 y6 z0 z1 z2 z3 z4
    refine bodyPost_ret (v := .tuple #[.agg #[.int .i64 0, .int .i64 0, .int .i64 0, .int .i64 0, .int .i64 0, .int .i64 0, .string ⟨#[]⟩], .agg #[.int .i64 0, .slice none 0 0, .slice none 0 0, .int .i64 0, .int .i64 0], .int .i64 3]) (by simp [results, Try.results24, go_sem, y0, y1, y2, y3, y4, y5, y6, z0, z1, z2, z3, z4]) rfl ⟨3, zR, noB, none, 0, none, 0, rfl, hR.out, hI10, newB_none _, hbw.out.trans hb10⟩
  case pos =>
    have ed : decide (0 ≤ b.sl) = true := decide_eq_true e1
    rw [ed] at hir
    have hR : Hid (AdvR b Z 0 (nxt b (advX b Z)) (advB b Z)) := Lib.hid (.inr ⟨e1, rfl, rfl, rfl⟩)
    have e1H := Lib.hid e1
    clear ed e1
    go_wp2_with fail
    (with_reducible refine (hir.out _).mono ?_)
    rintro e w2 ⟨rfl, hb2⟩
    have h2 := h1H.out.below hb2
    have hst : Hid (AdW w (w2.alloc (.cells #[.int .i64 6, .int .i64 0, .int .i64 65535, .int .i64 0, .int .i64 0, .int .i64 0, .string ⟨#[]⟩] 62)) D Z B O A A1 c1 A2 c2 b ∧ RcW (w2.alloc (.cells #[.int .i64 6, .int .i64 0, .int .i64 65535, .int .i64 0, .int .i64 0, .int .i64 0, .string ⟨#[]⟩] 62)) w2.heap.size xR ∧ w.heap.size + 1 + 1 + 1 < w2.heap.size) := Lib.hid ⟨h2.below ((Below.refl w2.heap.size w2).alloc (Nat.le_refl _) _), RcW.new w2 xR 62, h2.o.lt⟩
    clear h2 h1H hb2 hir k0 k1 k2 k3 k4
    go_upto_region 4 with fail
    generalize w2.heap.size = xb at hst ⊢
    refine fresh_world (fun W => AdW w W D Z B O A A1 c1 A2 c2 b ∧ RcW W xb xR ∧ w.heap.size + 1 + 1 + 1 < xb) hst.out ?_
    clear hst
    rintro W4 ⟨h4, hx4, hxb⟩
    have h4H := Lib.hid h4
    have hx4H := Lib.hid hx4
    have hxbH := Lib.hid hxb
    obtain ⟨g0, g1, g2, g3, g4, _⟩ := h4.g
    obtain ⟨k0, k1, k2, k3, k4, _⟩ := h4.k
    have hnc := Lib.hid (hnx.out W4 h4.bw)
    clear h4 hx4 hxb hnx
    go_wp2_with fail
    (with_reducible refine hnc.out.mono ?_)
    rintro e w5 ⟨p, i, t, rfl, hN, hb5⟩
    have h5 := h4H.out.below hb5
    have hx5 := hx4H.out.below hb5
    have hxb := hxbH.out
    clear h4H hx4H hb5 hnc g0 g1 g2 g3 g4 k0 k1 k2 k3 k4
    rcases hN with ⟨rfl, _, hc, hp, _⟩ | ⟨rfl, rfl, rfl, hc⟩
    case inr =>
      have hX : xR = advX b Z := by unfold advX; rw [if_neg (by have := e1H.out; omega)]; rfl
      rw [hX] at hx5
      have h5H := Lib.hid h5
      have hx5H := Lib.hid hx5
      clear h5 hx5 hX hc
      obtain ⟨k0, k1, k2, k3, k4, _⟩ := h5H.out.k
      obtain ⟨x0, x1, x2, x3, x4, x5, x6⟩ := hx5H.out.at_
      have hL : Hid (stL b [advX b Z] 1 = [nxt b (advX b Z)]) := Lib.hid rfl
      have hBn : Hid (stB b [advX b Z] 1 = advB b Z) := Lib.hid rfl
      have hstt := Lib.hid (fun W (hb : Below w.heap.size w W) => state_any (W.alloc (.cells #[.int .i64 (advX b Z).k, .int .i64 (advX b Z).s, .int .i64 (advX b Z).a, .int .i64 (advX b Z).b, .int .i64 (advX b Z).c, .int .i64 (advX b Z).d, .string (advX b Z).body] 62)) A1 c1 A2 c2 b (some ⟨W.heap.size, 0, none⟩) 1 [advX b Z] ((hIH.out W hb).below ((Below.refl _ _).alloc (Nat.le_refl _) _)) (one_recs W (advX b Z) 62) (by show 1 ≤ 8; omega) hqH.out)
      have hcall := Lib.hid (hstt.out _ h5H.out.bw)
      clear hstt hIH hxb
      generalize advX b Z = xx at x0 x1 x2 x3 x4 x5 x6 hL hBn hcall hx5H hR
      go_wp2_with fail
      refine hcall.out.mono ?_
      rintro e w7 ⟨C1, e1, C2, e2, A', cap', rfl, hRow, hIn, hNew, hb7⟩
      have hNew := hNew (by show 0 < 1; omega)
      rw [show ([xx] : List Rc).length = 1 from rfl] at hRow hIn ⊢
      rw [hL.out] at hRow
      rw [hBn.out] at hIn ⊢
      rw [World.size_alloc] at hRow hNew
      have hxx := h5H.out.below (((Below.refl w5.heap.size w5).alloc (Nat.le_refl _) _).trans (hb7.mono (by rw [World.size_alloc]; omega)))
      have hTk := Lib.hid (hxx.taken hIn hNew hRow (by have := h5H.out.o.lt; omega))
      have hNewH : Hid (NewB w.heap.size C1 C2 ∧ (∀ g off, C1 = some ⟨g, off, none⟩ → g ≠ w.heap.size + 1 + 1 ∧ g ≠ w.heap.size + 1 + 1 + 1) ∧ (∀ g off, C2 = some ⟨g, off, none⟩ → g ≠ w.heap.size + 1 + 1 ∧ g ≠ w.heap.size + 1 + 1 + 1)) := Lib.hid ⟨⟨fun g off e => (by have := hNew.1 g off e; have := h5H.out.o.lt; omega), fun g off e => (by have := hNew.2 g off e; have := h5H.out.o.lt; omega)⟩, fun g off e => (by have := hNew.1 g off e; have := h5H.out.o.lt; omega), fun g off e => (by have := hNew.2 g off e; have := h5H.out.o.lt; omega)⟩
      clear k0 k1 k2 k3 k4 x0 x1 x2 x3 x4 x5 x6 hRow hIn hNew hb7 hcall hBn hL hx5H h5H
      obtain ⟨k0, k1, k2, k3, k4, kf⟩ := hxx.k
      clear hxx
      generalize hbn : advB b Z = bn at hTk hR k0 k1 k2 k3 k4 ⊢
      clear hbn
      go_upto_region 8 with fail
      refine fresh_world (fun W => AhW w W (w5.heap.size + 1) C1 e1 C2 e2 bn A' [nxt b xx]) hTk.out ?_
      clear hTk k0 k1 k2 k3 k4 kf
      rintro W8 h8
      have h8D := h8.below (Below.refl _ _).drew
      clear h8
      generalize nxt b xx = xn at h8D hR
      obtain ⟨g, off, rfl, hgl, x0, x1, x2, x3, x4, x5, x6⟩ := h8D.r.at_ (i := 0) (by show 0 < 1; omega)
      have hkS : (fun W' => BkAt W' (w.heap.size + 1) C1 e1 C2 e2 bn) W8.drew := h8D.k
      have hS4 := Lib.hid (bk_seven (X := w.heap.size + 1 + 1) h8D.k (by omega) xn)
      have hlst : Lst W8.drew g off xn := ⟨by simpa using x0, by simpa using x1, by simpa using x2, by simpa using x3, by simpa using x4, by simpa using x5, by simpa using x6⟩
      have hout := Lib.hid (two_put (n := w.heap.size) xn h8D.x h8D.o h8D.i (by omega) (by omega) (by omega) hNewH.out.2.1 hNewH.out.2.2)
      obtain ⟨⟨y0, y1, y2, y3, y4, y5, y6⟩, yf⟩ := h8D.x
      obtain ⟨z0, z1, z2, z3, z4, zf⟩ := h8D.o
      have hbw := Lib.hid h8D.bw
      have hylt : w.heap.size + 1 + 1 < W8.drew.heap.size := h8D.x.lt
      have hzlt : w.heap.size + 1 + 1 + 1 < W8.drew.heap.size := h8D.o.lt
      dsimp only [zR, noB, List.length_nil] at y0 y1 y2 y3 y4 y5 y6 z0 z1 z2 z3 z4
      clear h8D x0 x1 x2 x3 x4 x5 x6 hgl
      refine region_anyC (fun i => decide (i < 5)) (fun W' => BkAt W' (w.heap.size + 1) C1 e1 C2 e2 bn) (by kernel_rfl) ?_
      generalize W8.drew = WD at hlst hkS hS4 hout hbw y0 y1 y2 y3 y4 y5 y6 z0 z1 z2 z3 z4 yf zf hylt hzlt ⊢
      refine anyL_take 0 (v := ?_) rfl (by kernel_rfl) (fun _ _ _ h => h) (Or.inl ⟨by rfl, ?_⟩) hkS ?_
      rotate_left
      focus (intro W hW; go_simp; try with_reducible rfl)
      simp only [Act.put, List.setIfInBounds_toArray, List.set_cons_zero, List.set_cons_succ]
      refine anyL_take 1 (v := ?_) rfl (by kernel_rfl) (fun _ _ _ h => h) (Or.inl ⟨by rfl, ?_⟩) hkS ?_
      rotate_left
      focus (intro W hW; go_simp; try with_reducible rfl)
      simp only [Act.put, List.setIfInBounds_toArray, List.set_cons_zero, List.set_cons_succ]
      refine anyL_take 3 (v := ?_) rfl (by kernel_rfl) (fun _ _ _ h => h) (Or.inl ⟨by rfl, ?_⟩) hkS ?_
      rotate_left
      focus (intro W hW; obtain ⟨f0, f1, f2, f3, f4, _⟩ := hW; go_simp; try with_reducible rfl)
      simp only [Act.put, List.setIfInBounds_toArray, List.set_cons_zero, List.set_cons_succ]
      refine anyL_one 2 rfl (by kernel_rfl) (fun K hK => ?_)
      obtain ⟨f0, f1, f2, f3, f4, f5, f6⟩ := hlst
      go_simp
      refine hK.out _ _ (fun _ => hkS) ?_
      clear hK K
      try simp only [Act.put, List.setIfInBounds_toArray, List.set_cons_zero, List.set_cons_succ]
      refine anyL_one 4 rfl (by kernel_rfl) (fun K hK => ?_)
      clear f0 f1 f2 f3 f4 f5 f6
      go_simp
      refine hK.out _ _ (fun _ => hS4.out) ?_
      clear hK K
      try simp only [Act.put, List.setIfInBounds_toArray, List.set_cons_zero, List.set_cons_succ]
      refine anyL_one 5 rfl (by kernel_rfl) (fun K hK => ?_)
      go_simp
      refine hK.out _ _ (fun h => absurd h (by decide)) ?_
      clear hK K
      try simp only [Act.put, List.setIfInBounds_toArray, List.set_cons_zero, List.set_cons_succ]
      refine anyL_one 6 rfl (by kernel_rfl) (fun K hK => ?_)
      go_simp
      refine hK.out _ _ (fun h => absurd h (by decide)) ?_
      clear hK K
      try simp only [Act.put, List.setIfInBounds_toArray, List.set_cons_zero, List.set_cons_succ]
      refine anyC_done (by kernel_rfl) ?_ _
      clear y0 y1 y2 y3 y4 y5 y6 z0 z1 z2 z3 z4 yf zf hylt hzlt
      go_wp2_with fail
      refine fresh_post (fun W => RcW W (w.heap.size + 1 + 1) xn ∧ BkAt W (w.heap.size + 1 + 1 + 1) C1 e1 C2 e2 bn ∧ BkIn W C1 e1 C2 e2 bn ∧ Below w.heap.size WD W) hout.out ?_
      rintro W10 ⟨⟨⟨y0, y1, y2, y3, y4, y5, y6⟩, _⟩, ⟨z0, z1, z2, z3, z4, _⟩, hI10, hb10⟩
      refine bodyPost_ret (v := .tuple #[.agg #[.int .i64 xn.k, .int .i64 xn.s, .int .i64 xn.a, .int .i64 xn.b, .int .i64 xn.c, .int .i64 xn.d, .string xn.body], .agg #[.int .i64 bn.q, .slice C1 bn.zs.length e1, .slice C2 bn.ms.length e2, .int .i64 bn.sl, .int .i64 bn.cu], .int .i64 0]) (by simp [results, Try.results24, go_sem, y0, y1, y2, y3, y4, y5, y6, z0, z1, z2, z3, z4]) rfl ⟨0, xn, bn, C1, e1, C2, e2, rfl, hR.out, hI10, hNewH.out.1, hbw.out.trans hb10⟩
    case inl =>
      have hpb : 2 ≤ p ∧ p ≤ 1000 := by omega
      have hpw : IntKind.i64.wrap (p + 1) = p + 1 := IntWalk.i64_in _ (by omega)
      have hpw2 : wrap64 (p + 1) = p + 1 := IntWalk.wrap64_in _ (by omega)
      have g1 := h5.g.2.1
      have hglt := h5.g.2.2.2.2.2
      by_cases hlt : p + 1 < Z
      case neg =>
        have hX : xR = advX b Z := by unfold advX; rw [if_neg (by omega)]; rfl
        rw [hX] at hx5
        have h5H := Lib.hid h5
        have hx5H := Lib.hid hx5
        have hd : decide (p + 1 < Z) = false := decide_eq_false hlt
        clear h5 hx5 hX hc hp hpb
        obtain ⟨k0, k1, k2, k3, k4, _⟩ := h5H.out.k
        obtain ⟨x0, x1, x2, x3, x4, x5, x6⟩ := hx5H.out.at_
        have hL : Hid (stL b [advX b Z] 1 = [nxt b (advX b Z)]) := Lib.hid rfl
        have hBn : Hid (stB b [advX b Z] 1 = advB b Z) := Lib.hid rfl
        have hstt := Lib.hid (fun W (hb : Below w.heap.size w W) => state_any (W.alloc (.cells #[.int .i64 (advX b Z).k, .int .i64 (advX b Z).s, .int .i64 (advX b Z).a, .int .i64 (advX b Z).b, .int .i64 (advX b Z).c, .int .i64 (advX b Z).d, .string (advX b Z).body] 62)) A1 c1 A2 c2 b (some ⟨W.heap.size, 0, none⟩) 1 [advX b Z] ((hIH.out W hb).below ((Below.refl _ _).alloc (Nat.le_refl _) _)) (one_recs W (advX b Z) 62) (by show 1 ≤ 8; omega) hqH.out)
        have hcall := Lib.hid (hstt.out _ h5H.out.bw)
        clear hstt hIH hxb
        generalize advX b Z = xx at x0 x1 x2 x3 x4 x5 x6 hL hBn hcall hx5H hR
        go_wp2_with fail
        refine hcall.out.mono ?_
        rintro e w7 ⟨C1, e1, C2, e2, A', cap', rfl, hRow, hIn, hNew, hb7⟩
        have hNew := hNew (by show 0 < 1; omega)
        rw [show ([xx] : List Rc).length = 1 from rfl] at hRow hIn ⊢
        rw [hL.out] at hRow
        rw [hBn.out] at hIn ⊢
        rw [World.size_alloc] at hRow hNew
        have hxx := h5H.out.below (((Below.refl w5.heap.size w5).alloc (Nat.le_refl _) _).trans (hb7.mono (by rw [World.size_alloc]; omega)))
        have hTk := Lib.hid (hxx.taken hIn hNew hRow (by have := h5H.out.o.lt; omega))
        have hNewH : Hid (NewB w.heap.size C1 C2 ∧ (∀ g off, C1 = some ⟨g, off, none⟩ → g ≠ w.heap.size + 1 + 1 ∧ g ≠ w.heap.size + 1 + 1 + 1) ∧ (∀ g off, C2 = some ⟨g, off, none⟩ → g ≠ w.heap.size + 1 + 1 ∧ g ≠ w.heap.size + 1 + 1 + 1)) := Lib.hid ⟨⟨fun g off e => (by have := hNew.1 g off e; have := h5H.out.o.lt; omega), fun g off e => (by have := hNew.2 g off e; have := h5H.out.o.lt; omega)⟩, fun g off e => (by have := hNew.1 g off e; have := h5H.out.o.lt; omega), fun g off e => (by have := hNew.2 g off e; have := h5H.out.o.lt; omega)⟩
        clear k0 k1 k2 k3 k4 x0 x1 x2 x3 x4 x5 x6 hRow hIn hNew hb7 hcall hBn hL hx5H h5H
        obtain ⟨k0, k1, k2, k3, k4, kf⟩ := hxx.k
        clear hxx
        generalize hbn : advB b Z = bn at hTk hR k0 k1 k2 k3 k4 ⊢
        clear hbn
        go_upto_region 8 with fail
        refine fresh_world (fun W => AhW w W (w5.heap.size + 1) C1 e1 C2 e2 bn A' [nxt b xx]) hTk.out ?_
        clear hTk k0 k1 k2 k3 k4 kf
        rintro W8 h8
        have h8D := h8.below (Below.refl _ _).drew
        clear h8
        generalize nxt b xx = xn at h8D hR
        obtain ⟨g, off, rfl, hgl, x0, x1, x2, x3, x4, x5, x6⟩ := h8D.r.at_ (i := 0) (by show 0 < 1; omega)
        have hkS : (fun W' => BkAt W' (w.heap.size + 1) C1 e1 C2 e2 bn) W8.drew := h8D.k
        have hS4 := Lib.hid (bk_seven (X := w.heap.size + 1 + 1) h8D.k (by omega) xn)
        have hlst : Lst W8.drew g off xn := ⟨by simpa using x0, by simpa using x1, by simpa using x2, by simpa using x3, by simpa using x4, by simpa using x5, by simpa using x6⟩
        have hout := Lib.hid (two_put (n := w.heap.size) xn h8D.x h8D.o h8D.i (by omega) (by omega) (by omega) hNewH.out.2.1 hNewH.out.2.2)
        obtain ⟨⟨y0, y1, y2, y3, y4, y5, y6⟩, yf⟩ := h8D.x
        obtain ⟨z0, z1, z2, z3, z4, zf⟩ := h8D.o
        have hbw := Lib.hid h8D.bw
        have hylt : w.heap.size + 1 + 1 < W8.drew.heap.size := h8D.x.lt
        have hzlt : w.heap.size + 1 + 1 + 1 < W8.drew.heap.size := h8D.o.lt
        dsimp only [zR, noB, List.length_nil] at y0 y1 y2 y3 y4 y5 y6 z0 z1 z2 z3 z4
        clear h8D x0 x1 x2 x3 x4 x5 x6 hgl
        refine region_anyC (fun i => decide (i < 5)) (fun W' => BkAt W' (w.heap.size + 1) C1 e1 C2 e2 bn) (by kernel_rfl) ?_
        generalize W8.drew = WD at hlst hkS hS4 hout hbw y0 y1 y2 y3 y4 y5 y6 z0 z1 z2 z3 z4 yf zf hylt hzlt ⊢
        refine anyL_take 0 (v := ?_) rfl (by kernel_rfl) (fun _ _ _ h => h) (Or.inl ⟨by rfl, ?_⟩) hkS ?_
        rotate_left
        focus (intro W hW; go_simp; try with_reducible rfl)
        simp only [Act.put, List.setIfInBounds_toArray, List.set_cons_zero, List.set_cons_succ]
        refine anyL_take 1 (v := ?_) rfl (by kernel_rfl) (fun _ _ _ h => h) (Or.inl ⟨by rfl, ?_⟩) hkS ?_
        rotate_left
        focus (intro W hW; go_simp; try with_reducible rfl)
        simp only [Act.put, List.setIfInBounds_toArray, List.set_cons_zero, List.set_cons_succ]
        refine anyL_take 3 (v := ?_) rfl (by kernel_rfl) (fun _ _ _ h => h) (Or.inl ⟨by rfl, ?_⟩) hkS ?_
        rotate_left
        focus (intro W hW; obtain ⟨f0, f1, f2, f3, f4, _⟩ := hW; go_simp; try with_reducible rfl)
        simp only [Act.put, List.setIfInBounds_toArray, List.set_cons_zero, List.set_cons_succ]
        refine anyL_one 2 rfl (by kernel_rfl) (fun K hK => ?_)
        obtain ⟨f0, f1, f2, f3, f4, f5, f6⟩ := hlst
        go_simp
        refine hK.out _ _ (fun _ => hkS) ?_
        clear hK K
        try simp only [Act.put, List.setIfInBounds_toArray, List.set_cons_zero, List.set_cons_succ]
        refine anyL_one 4 rfl (by kernel_rfl) (fun K hK => ?_)
        clear f0 f1 f2 f3 f4 f5 f6
        go_simp
        refine hK.out _ _ (fun _ => hS4.out) ?_
        clear hK K
        try simp only [Act.put, List.setIfInBounds_toArray, List.set_cons_zero, List.set_cons_succ]
        refine anyL_one 5 rfl (by kernel_rfl) (fun K hK => ?_)
        go_simp
        refine hK.out _ _ (fun h => absurd h (by decide)) ?_
        clear hK K
        try simp only [Act.put, List.setIfInBounds_toArray, List.set_cons_zero, List.set_cons_succ]
        refine anyL_one 6 rfl (by kernel_rfl) (fun K hK => ?_)
        go_simp
        refine hK.out _ _ (fun h => absurd h (by decide)) ?_
        clear hK K
        try simp only [Act.put, List.setIfInBounds_toArray, List.set_cons_zero, List.set_cons_succ]
        refine anyC_done (by kernel_rfl) ?_ _
        clear y0 y1 y2 y3 y4 y5 y6 z0 z1 z2 z3 z4 yf zf hylt hzlt
        go_wp2_with fail
        refine fresh_post (fun W => RcW W (w.heap.size + 1 + 1) xn ∧ BkAt W (w.heap.size + 1 + 1 + 1) C1 e1 C2 e2 bn ∧ BkIn W C1 e1 C2 e2 bn ∧ Below w.heap.size WD W) hout.out ?_
        rintro W10 ⟨⟨⟨y0, y1, y2, y3, y4, y5, y6⟩, _⟩, ⟨z0, z1, z2, z3, z4, _⟩, hI10, hb10⟩
        refine bodyPost_ret (v := .tuple #[.agg #[.int .i64 xn.k, .int .i64 xn.s, .int .i64 xn.a, .int .i64 xn.b, .int .i64 xn.c, .int .i64 xn.d, .string xn.body], .agg #[.int .i64 bn.q, .slice C1 bn.zs.length e1, .slice C2 bn.ms.length e2, .int .i64 bn.sl, .int .i64 bn.cu], .int .i64 0]) (by simp [results, Try.results24, go_sem, y0, y1, y2, y3, y4, y5, y6, z0, z1, z2, z3, z4]) rfl ⟨0, xn, bn, C1, e1, C2, e2, rfl, hR.out, hI10, hNewH.out.1, hbw.out.trans hb10⟩
      case pos =>
        have hX : ({ { xR with a := b.sl } with b := p + 1 } : Rc) = advX b Z := by unfold advX; rw [if_pos (by omega), ← hp]; rfl
        have hd : decide (p + 1 < Z) = true := decide_eq_true hlt
        have hx6 := (hx5.put2 b.sl).put3 (p + 1)
        rw [hX] at hx6
        have k3 := h5.k.c3
        have yf := hx5.fr
        have y2 := hx5.at_.c2
        have y3 := hx5.at_.c3
        dsimp only [xR] at y2 y3
        have h6 : AdW w ((w5.setCell ⟨xb, 2, none⟩ (.int .i64 b.sl)).setCell ⟨xb, 3, none⟩ (.int .i64 (p + 1))) D Z B O A A1 c1 A2 c2 b := h5.low (((Below.refl xb w5).setCell (Nat.le_refl _) _).setCell (Nat.le_refl _) _) hxb
        have h56 := Lib.hid (And.intro h6 hx6)
        clear h5 hx5 hX hc hp hpb h6 hx6
        go_upto_region 7 with fail
        refine fresh_world (fun W => AdW w W D Z B O A A1 c1 A2 c2 b ∧ RcW W xb (advX b Z)) h56.out ?_
        clear h56 g1 hglt k3 yf y2 y3 hd hpw hpw2 hlt
        rintro w6 ⟨h6, hx6⟩
        have h5H := Lib.hid h6
        have hx5H := Lib.hid hx6
        clear h6 hx6
        obtain ⟨k0, k1, k2, k3, k4, _⟩ := h5H.out.k
        obtain ⟨x0, x1, x2, x3, x4, x5, x6⟩ := hx5H.out.at_
        have hL : Hid (stL b [advX b Z] 1 = [nxt b (advX b Z)]) := Lib.hid rfl
        have hBn : Hid (stB b [advX b Z] 1 = advB b Z) := Lib.hid rfl
        have hstt := Lib.hid (fun W (hb : Below w.heap.size w W) => state_any (W.alloc (.cells #[.int .i64 (advX b Z).k, .int .i64 (advX b Z).s, .int .i64 (advX b Z).a, .int .i64 (advX b Z).b, .int .i64 (advX b Z).c, .int .i64 (advX b Z).d, .string (advX b Z).body] 62)) A1 c1 A2 c2 b (some ⟨W.heap.size, 0, none⟩) 1 [advX b Z] ((hIH.out W hb).below ((Below.refl _ _).alloc (Nat.le_refl _) _)) (one_recs W (advX b Z) 62) (by show 1 ≤ 8; omega) hqH.out)
        have hcall := Lib.hid (hstt.out _ h5H.out.bw)
        clear hstt hIH hxb
        generalize advX b Z = xx at x0 x1 x2 x3 x4 x5 x6 hL hBn hcall hx5H hR
        go_wp2_with fail
        refine hcall.out.mono ?_
        rintro e w7 ⟨C1, e1, C2, e2, A', cap', rfl, hRow, hIn, hNew, hb7⟩
        have hNew := hNew (by show 0 < 1; omega)
        rw [show ([xx] : List Rc).length = 1 from rfl] at hRow hIn ⊢
        rw [hL.out] at hRow
        rw [hBn.out] at hIn ⊢
        rw [World.size_alloc] at hRow hNew
        have hxx := h5H.out.below (((Below.refl w6.heap.size w6).alloc (Nat.le_refl _) _).trans (hb7.mono (by rw [World.size_alloc]; omega)))
        have hTk := Lib.hid (hxx.taken hIn hNew hRow (by have := h5H.out.o.lt; omega))
        have hNewH : Hid (NewB w.heap.size C1 C2 ∧ (∀ g off, C1 = some ⟨g, off, none⟩ → g ≠ w.heap.size + 1 + 1 ∧ g ≠ w.heap.size + 1 + 1 + 1) ∧ (∀ g off, C2 = some ⟨g, off, none⟩ → g ≠ w.heap.size + 1 + 1 ∧ g ≠ w.heap.size + 1 + 1 + 1)) := Lib.hid ⟨⟨fun g off e => (by have := hNew.1 g off e; have := h5H.out.o.lt; omega), fun g off e => (by have := hNew.2 g off e; have := h5H.out.o.lt; omega)⟩, fun g off e => (by have := hNew.1 g off e; have := h5H.out.o.lt; omega), fun g off e => (by have := hNew.2 g off e; have := h5H.out.o.lt; omega)⟩
        clear k0 k1 k2 k3 k4 x0 x1 x2 x3 x4 x5 x6 hRow hIn hNew hb7 hcall hBn hL hx5H h5H
        obtain ⟨k0, k1, k2, k3, k4, kf⟩ := hxx.k
        clear hxx
        generalize hbn : advB b Z = bn at hTk hR k0 k1 k2 k3 k4 ⊢
        clear hbn
        go_upto_region 8 with fail
        refine fresh_world (fun W => AhW w W (w6.heap.size + 1) C1 e1 C2 e2 bn A' [nxt b xx]) hTk.out ?_
        clear hTk k0 k1 k2 k3 k4 kf
        rintro W8 h8
        have h8D := h8.below (Below.refl _ _).drew
        clear h8
        generalize nxt b xx = xn at h8D hR
        obtain ⟨g, off, rfl, hgl, x0, x1, x2, x3, x4, x5, x6⟩ := h8D.r.at_ (i := 0) (by show 0 < 1; omega)
        have hkS : (fun W' => BkAt W' (w.heap.size + 1) C1 e1 C2 e2 bn) W8.drew := h8D.k
        have hS4 := Lib.hid (bk_seven (X := w.heap.size + 1 + 1) h8D.k (by omega) xn)
        have hlst : Lst W8.drew g off xn := ⟨by simpa using x0, by simpa using x1, by simpa using x2, by simpa using x3, by simpa using x4, by simpa using x5, by simpa using x6⟩
        have hout := Lib.hid (two_put (n := w.heap.size) xn h8D.x h8D.o h8D.i (by omega) (by omega) (by omega) hNewH.out.2.1 hNewH.out.2.2)
        obtain ⟨⟨y0, y1, y2, y3, y4, y5, y6⟩, yf⟩ := h8D.x
        obtain ⟨z0, z1, z2, z3, z4, zf⟩ := h8D.o
        have hbw := Lib.hid h8D.bw
        have hylt : w.heap.size + 1 + 1 < W8.drew.heap.size := h8D.x.lt
        have hzlt : w.heap.size + 1 + 1 + 1 < W8.drew.heap.size := h8D.o.lt
        dsimp only [zR, noB, List.length_nil] at y0 y1 y2 y3 y4 y5 y6 z0 z1 z2 z3 z4
        clear h8D x0 x1 x2 x3 x4 x5 x6 hgl
        refine region_anyC (fun i => decide (i < 5)) (fun W' => BkAt W' (w.heap.size + 1) C1 e1 C2 e2 bn) (by kernel_rfl) ?_
        generalize W8.drew = WD at hlst hkS hS4 hout hbw y0 y1 y2 y3 y4 y5 y6 z0 z1 z2 z3 z4 yf zf hylt hzlt ⊢
        refine anyL_take 0 (v := ?_) rfl (by kernel_rfl) (fun _ _ _ h => h) (Or.inl ⟨by rfl, ?_⟩) hkS ?_
        rotate_left
        focus (intro W hW; go_simp; try with_reducible rfl)
        simp only [Act.put, List.setIfInBounds_toArray, List.set_cons_zero, List.set_cons_succ]
        refine anyL_take 1 (v := ?_) rfl (by kernel_rfl) (fun _ _ _ h => h) (Or.inl ⟨by rfl, ?_⟩) hkS ?_
        rotate_left
        focus (intro W hW; go_simp; try with_reducible rfl)
        simp only [Act.put, List.setIfInBounds_toArray, List.set_cons_zero, List.set_cons_succ]
        refine anyL_take 3 (v := ?_) rfl (by kernel_rfl) (fun _ _ _ h => h) (Or.inl ⟨by rfl, ?_⟩) hkS ?_
        rotate_left
        focus (intro W hW; obtain ⟨f0, f1, f2, f3, f4, _⟩ := hW; go_simp; try with_reducible rfl)
        simp only [Act.put, List.setIfInBounds_toArray, List.set_cons_zero, List.set_cons_succ]
        refine anyL_one 2 rfl (by kernel_rfl) (fun K hK => ?_)
        obtain ⟨f0, f1, f2, f3, f4, f5, f6⟩ := hlst
        go_simp
        refine hK.out _ _ (fun _ => hkS) ?_
        clear hK K
        try simp only [Act.put, List.setIfInBounds_toArray, List.set_cons_zero, List.set_cons_succ]
        refine anyL_one 4 rfl (by kernel_rfl) (fun K hK => ?_)
        clear f0 f1 f2 f3 f4 f5 f6
        go_simp
        refine hK.out _ _ (fun _ => hS4.out) ?_
        clear hK K
        try simp only [Act.put, List.setIfInBounds_toArray, List.set_cons_zero, List.set_cons_succ]
        refine anyL_one 5 rfl (by kernel_rfl) (fun K hK => ?_)
        go_simp
        refine hK.out _ _ (fun h => absurd h (by decide)) ?_
        clear hK K
        try simp only [Act.put, List.setIfInBounds_toArray, List.set_cons_zero, List.set_cons_succ]
        refine anyL_one 6 rfl (by kernel_rfl) (fun K hK => ?_)
        go_simp
        refine hK.out _ _ (fun h => absurd h (by decide)) ?_
        clear hK K
        try simp only [Act.put, List.setIfInBounds_toArray, List.set_cons_zero, List.set_cons_succ]
        refine anyC_done (by kernel_rfl) ?_ _
        clear y0 y1 y2 y3 y4 y5 y6 z0 z1 z2 z3 z4 yf zf hylt hzlt
        go_wp2_with fail
        refine fresh_post (fun W => RcW W (w.heap.size + 1 + 1) xn ∧ BkAt W (w.heap.size + 1 + 1 + 1) C1 e1 C2 e2 bn ∧ BkIn W C1 e1 C2 e2 bn ∧ Below w.heap.size WD W) hout.out ?_
        rintro W10 ⟨⟨⟨y0, y1, y2, y3, y4, y5, y6⟩, _⟩, ⟨z0, z1, z2, z3, z4, _⟩, hI10, hb10⟩
        refine bodyPost_ret (v := .tuple #[.agg #[.int .i64 xn.k, .int .i64 xn.s, .int .i64 xn.a, .int .i64 xn.b, .int .i64 xn.c, .int .i64 xn.d, .string xn.body], .agg #[.int .i64 bn.q, .slice C1 bn.zs.length e1, .slice C2 bn.ms.length e2, .int .i64 bn.sl, .int .i64 bn.cu], .int .i64 0]) (by simp [results, Try.results24, go_sem, y0, y1, y2, y3, y4, y5, y6, z0, z1, z2, z3, z4]) rfl ⟨0, xn, bn, C1, e1, C2, e2, rfl, hR.out, hI10, hNewH.out.1, hbw.out.trans hb10⟩
end Go.Proofs.Ytdjdldcpaidmnaa
