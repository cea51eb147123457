/- Read, walked. -/
import Derived.Test.YtpmhfalhieinjaaBkReadM
namespace Go.Proofs.Ytpmhfalhieinjaa
open Go.RowKit Rec Bk

theorem readW_start {w W0 w1 w2 w4 : World} {D Z B O A : Int} {mb nb : Nat} {l : List Rc} {S : Option Addr} {cs : Nat} {us : List (Int × Int)} {A1 : Option Addr} {c1 : Nat} {A2 : Option Addr} {c2 : Nat} {b : Bo}
    (hg : GzAt W0 w.heap.size D Z B O A) (ho : BkAt W0 (w.heap.size + 1) none 0 none 0 noB) (hb0 : Below w.heap.size w W0) (hmb : W0.heap.size ≤ mb) (hM : MapIs w1 mb nb l) (hb1 : Below W0.heap.size W0 w1)
    (hO : BkO w2 w1.heap.size A1 c1 A2 c2 b) (hb2 : Below w1.heap.size w1 w2)
    (hS : suE.Row w4 (w2.alloc (.cells #[.int .i64 b.q, .slice A1 b.zs.length c1, .slice A2 b.ms.length c2, .int .i64 b.sl, .int .i64 b.cu] 33)).heap.size 76 S cs us)
    (hb4 : Below (w2.alloc (.cells #[.int .i64 b.q, .slice A1 b.zs.length c1, .slice A2 b.ms.length c2, .int .i64 b.sl, .int .i64 b.cu] 33)).heap.size (w2.alloc (.cells #[.int .i64 b.q, .slice A1 b.zs.length c1, .slice A2 b.ms.length c2, .int .i64 b.sl, .int .i64 b.cu] 33)) w4) :
    ReadW w w4 D Z B O A mb nb l S cs us w1.heap.size w2.heap.size A1 c1 A2 c2 b := by
  have ha := BkAt.new w2 A1 c1 A2 c2 b 33
  have hb3 : Below w2.heap.size w2 (w2.alloc (.cells #[.int .i64 b.q, .slice A1 b.zs.length c1, .slice A2 b.ms.length c2, .int .i64 b.sl, .int .i64 b.cu] 33)) := (Below.refl _ _).alloc (Nat.le_refl _) _
  have e3 : (w2.alloc (.cells #[.int .i64 b.q, .slice A1 b.zs.length c1, .slice A2 b.ms.length c2, .int .i64 b.sl, .int .i64 b.cu] 33)).heap.size = w2.heap.size + 1 := World.size_alloc _ _
  generalize w2.alloc _ = W3 at ha hb3 hS hb4 e3
  have hol := ho.lt
  have hs1 := hb1.size
  have hs2 := hb2.size
  have hml := hM.lt
  have hz1 : ∀ g, A1 = some ⟨g, 0, none⟩ → w1.heap.size ≤ g ∧ g < w2.heap.size := fun g e => by
    rcases hO.z.form with ⟨e', _⟩ | ⟨g', e', hge, hlt, _⟩
    · rw [e'] at e; cases e
    · rw [e'] at e; injection e with e; injection e with e; omega
  have hz2 : ∀ g, A2 = some ⟨g, 0, none⟩ → w1.heap.size ≤ g ∧ g < w2.heap.size := fun g e => by
    rcases hO.m.form with ⟨e', _⟩ | ⟨g', e', hge, hlt, _⟩
    · rw [e'] at e; cases e
    · rw [e'] at e; injection e with e; injection e with e; omega
  have hz3 : ∀ g, S = some ⟨g, 0, none⟩ → W3.heap.size ≤ g := fun g e => by
    rcases hS.form with ⟨e', _⟩ | ⟨g', e', hge, _⟩
    · rw [e'] at e; cases e
    · rw [e'] at e; injection e with e; injection e with e; omega
  have hF : ∀ k, bkF w2.heap.size A1 A2 k → w1.heap.size ≤ k ∧ k ≤ w2.heap.size := fun k hk => by
    rcases hk with e | e | e
    · omega
    · have := hz1 k e; omega
    · have := hz2 k e; omega
  have hb34 := hb3.trans (hb4.mono hb3.size)
  have hb24 : Below w1.heap.size w1 w4 := hb2.trans (hb34.mono hs2)
  have hb14 : Below W0.heap.size W0 w4 := hb1.trans (hb24.mono hs1)
  refine ⟨hg.below hb14, ho.below hb14, hM.below hb24, hS.mono (Nat.zero_le _), ⟨ha.below hb4, hO.below hb34, fun e => by have := hz1 _ e; omega, fun e => by have := hz2 _ e; omega⟩, fun k hk => ?_, by omega, hb0.trans (hb14.mono hb0.size)⟩
  have := hF k hk
  refine ⟨by omega, by omega, fun e => ?_⟩
  have := hz3 k e
  omega
def BadP (w : World) (e : Ending) (w' : World) : Prop := e = .returned (.tuple #[.agg #[.int .i64 0, .slice none 0 0, .slice none 0 0, .int .i64 0, .int .i64 0], .int .i64 1]) ∧ Below w.heap.size w w'
theorem two_start (w : World) (D Z B O A : Int) :
    (fun W => GzAt W w.heap.size D Z B O A ∧ BkAt W (w.heap.size + 1) none 0 none 0 noB ∧ Below w.heap.size w W) ((w.alloc (.cells #[.int .i64 D, .int .i64 Z, .int .i64 B, .int .i64 O, .int .i64 A] 37)).alloc (.cells #[.int .i64 0, .slice none 0 0, .slice none 0 0, .int .i64 0, .int .i64 0] 33)) := by
  have h1 := GzAt.new w D Z B O A 37
  generalize hW1 : w.alloc _ = W1 at h1 ⊢
  have e1 : W1.heap.size = w.heap.size + 1 := by rw [← hW1, World.size_alloc]
  have hb1 : Below w.heap.size w W1 := by rw [← hW1]; exact (Below.refl _ _).alloc (Nat.le_refl _) _
  have h2 : BkAt (W1.alloc (.cells #[.int .i64 0, .slice none 0 0, .slice none 0 0, .int .i64 0, .int .i64 0] 33)) W1.heap.size none 0 none 0 noB := BkAt.new W1 none 0 none 0 noB 33
  have hb2 : Below W1.heap.size W1 (W1.alloc (.cells #[.int .i64 0, .slice none 0 0, .slice none 0 0, .int .i64 0, .int .i64 0] 33)) := (Below.refl _ _).alloc (Nat.le_refl _) _
  rw [e1] at h2
  exact ⟨h1.below hb2, h2, hb1.trans (hb2.mono hb1.size)⟩
set_option maxRecDepth 100000 in
set_option maxHeartbeats 2000000 in
theorem read_bad (w : World) (D Z B O A : Int) (A0 : Option Addr) (n0 c0 : Nat) (hg : goodB D Z B O A = false) :
    Calls Try.prog 9 #[.agg #[.int .i64 D, .int .i64 Z, .int .i64 B, .int .i64 O, .int .i64 A], .slice A0 n0 c0] w (BadP w) := by
  have hgd := Lib.hid (fun W => good_any D Z B O A W)
  rw [hg] at hgd
  have hst := Lib.hid (two_start w D Z B O A)
  clear hg
  go_enter Try.func9, Try.ntmps9
  go_wp2_with fail
  refine fresh_C (fun W => GzAt W w.heap.size D Z B O A ∧ BkAt W (w.heap.size + 1) none 0 none 0 noB ∧ Below w.heap.size w W) hst.out ?_
  clear hst
  rintro W ⟨hG, hX, hb⟩
  have hXH := Lib.hid hX
  have hbH := Lib.hid hb
  clear hG hX
  refine (hgd.out _).mono ?_
  rintro e w1 ⟨rfl, hb1⟩
  have hX1 := hXH.out.below hb1
  have hB1 := hbH.out.trans (hb1.mono hbH.out.size)
  have hpH := Lib.hid (no_put hX1 hB1)
  obtain ⟨y0, y1, y2, y3, y4, yf⟩ := hX1
  clear hB1 hb1 hb hgd
  go_wp2_with fail
  refine fresh_post (fun W => BkAt W (w.heap.size + 1) none 0 none 0 noB ∧ Below w.heap.size w W) hpH.out ?_
  rintro W10 ⟨⟨z0, z1, z2, z3, z4, _⟩, hb10⟩
  refine bodyPost_ret (v := .tuple #[.agg #[.int .i64 0, .slice none 0 0, .slice none 0 0, .int .i64 0, .int .i64 0], .int .i64 1]) (by
    have z0' : W10.cell? ⟨w.heap.size + 1, 0, none⟩ = some (.int .i64 0) := z0
    have z1' : W10.cell? ⟨w.heap.size + 1, 1, none⟩ = some (.slice none 0 0) := z1
    have z2' : W10.cell? ⟨w.heap.size + 1, 2, none⟩ = some (.slice none 0 0) := z2
    have z3' : W10.cell? ⟨w.heap.size + 1, 3, none⟩ = some (.int .i64 0) := z3
    have z4' : W10.cell? ⟨w.heap.size + 1, 4, none⟩ = some (.int .i64 0) := z4
    simp [results, Try.results9, go_sem, z0', z1', z2', z3', z4']) rfl ⟨rfl, hb10⟩
end Go.Proofs.Ytpmhfalhieinjaa
