/- What Source of tail does. -/
import Derived.Test.YtdjdldcpaidmnaaTlL
namespace Go.Proofs.Ytdjdldcpaidmnaa
open Go.RowKit Tl

/-- The first four boxes of Source. -/
structure Sr4 (w W : World) (D Z Bk O Ac zone : Int) (A : Option Addr) (ca : Nat) (B : Option Addr) (cb : Nat) (v : Vw) (block : Int) : Prop where
  g : GeoAt W w.heap.size D Z Bk O Ac
  z : W.cell? ⟨w.heap.size + 1, 0, none⟩ = some (.int .i64 zone)
  vw : VwB W (w.heap.size + 2) A ca B cb v
  b : W.cell? ⟨w.heap.size + 3, 0, none⟩ = some (.int .i64 block)
  bw : Below w.heap.size w W
theorem Sr4.below {w W W' : World} {D Z Bk O Ac zone : Int} {A : Option Addr} {ca : Nat} {B : Option Addr} {cb : Nat} {v : Vw} {block : Int} (h : Sr4 w W D Z Bk O Ac zone A ca B cb v block) (hb : Below W.heap.size W W') : Sr4 w W' D Z Bk O Ac zone A ca B cb v block :=
  ⟨h.g.below hb, keepC h.z hb, h.vw.below hb, keepC h.b hb, bmore h.bw hb⟩
theorem Sr4.new {w : World} (D Z Bk O Ac zone : Int) {A : Option Addr} {ca : Nat} {B : Option Addr} {cb : Nat} {v : Vw} (block : Int) (h : VwIn w A B v) :
    Sr4 w ((((w.alloc (.cells #[.int .i64 D, .int .i64 Z, .int .i64 Bk, .int .i64 O, .int .i64 Ac] 30)).alloc (.cells #[.int .i64 zone] 3)).alloc (.cells #[.slice A v.ls.length ca, .int .i64 v.m, .slice B v.ns.length cb] 39)).alloc (.cells #[.int .i64 block] 3)) D Z Bk O Ac zone A ca B cb v block := by
  have s1 := World.size_alloc w (.cells #[.int .i64 D, .int .i64 Z, .int .i64 Bk, .int .i64 O, .int .i64 Ac] 30)
  have g1 := GeoAt.new w D Z Bk O Ac 30
  have b1 := (Below.refl w.heap.size w).alloc (Nat.le_refl _) (.cells #[.int .i64 D, .int .i64 Z, .int .i64 Bk, .int .i64 O, .int .i64 Ac] 30)
  generalize w.alloc (.cells #[.int .i64 D, .int .i64 Z, .int .i64 Bk, .int .i64 O, .int .i64 Ac] 30) = W1 at s1 g1 b1 ⊢
  have s2 := World.size_alloc W1 (.cells #[.int .i64 zone] 3)
  have a2 := (Below.refl W1.heap.size W1).alloc (Nat.le_refl _) (.cells #[.int .i64 zone] 3)
  have z2 := (Boxed.new W1 3 (.int .i64 zone)).cell
  rw [s1] at z2 s2
  have g2 := g1.below a2
  have b2 := bmore b1 a2
  clear a2 g1 b1
  generalize W1.alloc (.cells #[.int .i64 zone] 3) = W2 at s2 z2 g2 b2 ⊢
  have s3 := World.size_alloc W2 (.cells #[.slice A v.ls.length ca, .int .i64 v.m, .slice B v.ns.length cb] 39)
  have a3 := (Below.refl W2.heap.size W2).alloc (Nat.le_refl _) (.cells #[.slice A v.ls.length ca, .int .i64 v.m, .slice B v.ns.length cb] 39)
  have v3 := VwB.new (ca := ca) (cb := cb) (h.below b2) 39
  rw [s2] at v3 s3
  have g3 := g2.below a3
  have b3 := bmore b2 a3
  have z3 := keepC z2 a3
  clear a3 g2 b2 z2
  generalize W2.alloc (.cells #[.slice A v.ls.length ca, .int .i64 v.m, .slice B v.ns.length cb] 39) = W3 at s3 v3 g3 b3 z3 ⊢
  have a4 := (Below.refl W3.heap.size W3).alloc (Nat.le_refl _) (.cells #[.int .i64 block] 3)
  have b4 := (Boxed.new W3 3 (.int .i64 block)).cell
  rw [s3] at b4
  exact ⟨g3.below a4, keepC z3 a4, v3.below a4, b4, bmore b3 a4⟩
theorem src_no {D Z Bk O Ac zone block : Int} {v : Vw} (h : plB D Z Bk O Ac zone block = false ∨ okB D Bk v = false) : srcV D Z Bk O Ac zone v block = (0, 0) := by
  unfold srcV
  rw [if_neg]
  intro hh
  rw [Bool.and_eq_true] at hh
  rcases h with h | h
  · rw [h] at hh; cases hh.1
  · rw [h] at hh; cases hh.2
theorem src_yes {D Z Bk O Ac zone block : Int} {v : Vw} (h1 : plB D Z Bk O Ac zone block = true) (h2 : okB D Bk v = true) : srcV D Z Bk O Ac zone v block = srcIn D zone v block := by
  unfold srcV
  rw [if_pos (by rw [h1, h2]; rfl)]
/-- What Source returns. -/
def SrPost (w : World) (r : Int × Int) (e : Ending) (w' : World) : Prop := e = .returned (.tuple #[.int .i64 r.1, .int .i64 r.2]) ∧ Below w.heap.size w w'
set_option maxRecDepth 100000 in
set_option maxHeartbeats 4000000 in
theorem source_no (D Z Bk O Ac zone : Int) (A : Option Addr) (ca : Nat) (B : Option Addr) (cb : Nat) (v : Vw) (block : Int) (w : World) (h : VwIn w A B v) (hl : v.ls.length ≤ 1000000) (hno : plB D Z Bk O Ac zone block = false ∨ okB D Bk v = false) :
    Calls Try.prog 14 #[.agg #[.int .i64 D, .int .i64 Z, .int .i64 Bk, .int .i64 O, .int .i64 Ac], .int .i64 zone, .agg #[.slice A v.ls.length ca, .int .i64 v.m, .slice B v.ns.length cb], .int .i64 block] w (SrPost w (srcV D Z Bk O Ac zone v block)) := by
  rw [src_no hno]
  have hpl := Lib.hid (fun W => place_any D Z Bk O Ac zone block W)
  have hva := Lib.hid (fun W (h : VwIn W A B v) => valid_any12 D Z Bk O Ac A ca B cb v W h hl)
  generalize plR D Z Bk O Ac zone block = R at hpl
  generalize plD D Z Bk O Ac zone block = s at hpl
  generalize plB D Z Bk O Ac zone block = pb at hpl hno
  generalize okB D Bk v = ob at hva hno
  have hN := Lib.hid (Sr4.new D Z Bk O Ac zone (ca := ca) (cb := cb) block h)
  clear h hl
  go_enter Try.func14, Try.ntmps14
  go_upto_region 1 with fail
  refine fresh_world (fun W => Sr4 w W D Z Bk O Ac zone A ca B cb v block) hN.out ?_
  clear hN
  rintro W1 hW1
  have hW1H := Lib.hid hW1
  obtain ⟨g0, g1, g2, g3, g4, _⟩ := hW1.g
  have y1 := hW1.z
  have y2 := hW1.b
  clear hW1
  go_wp2_with fail
  (with_reducible refine (hpl.out _).mono ?_)
  rintro e w2 ⟨rfl, hb2⟩
  have hW2H := Lib.hid ((hW1H.out.below hb2).below ((Below.refl _ _).alloc (Nat.le_refl _) (.cells #[.int .i64 R] 3)))
  clear hW1H hb2 g0 g1 g2 g3 g4 y1 y2
  cases pb with
  | false =>
    go_wp2
    go_ret2
    exact ⟨rfl, hW2H.out.bw⟩
  | true =>
    obtain rfl : ob = false := by rcases hno with h | h <;> simp_all
    clear hno
    go_upto_region 2 with fail
    refine fresh_world (fun W => Sr4 w W D Z Bk O Ac zone A ca B cb v block) hW2H.out ?_
    clear hW2H
    rintro W3 hW3
    have hW3H := Lib.hid hW3
    obtain ⟨g0, g1, g2, g3, g4, _⟩ := hW3.g
    have y1 := hW3.vw.c0
    have y2 := hW3.vw.c1
    have y3 := hW3.vw.c2
    clear hW3
    go_wp2_with fail
    (with_reducible refine (hva.out _ hW3H.out.vw.i).mono ?_)
    rintro e w4 ⟨rfl, hb4⟩
    have hF := Lib.hid (bmore hW3H.out.bw hb4)
    clear hb4 hW3H g0 g1 g2 g3 g4 y1 y2 y3
    go_wp2
    go_ret2
    exact ⟨rfl, hF.out⟩
end Go.Proofs.Ytdjdldcpaidmnaa
