/- The world within BookFresh. -/
import Derived.Test.YtpmhfalhieinjaaBkReadsW
import Derived.Test.YtpmhfalhieinjaaBkRecs
import Derived.Test.YtpmhfalhieinjaaBkBack
namespace Go.Proofs.Ytpmhfalhieinjaa
open Go.RowKit Rec Bk

theorem eqZ_self (x : Zo) : eqZ x x = true := eqZ_iff.2 rfl
/-- An index made of any number. -/
theorem into_modB (x : Int) (n : Nat) (h1 : 1 ≤ n) (_h2 : n ≤ 1000) : ∃ t : Int, ∃ j : Nat, x.tmod n = t ∧ -(n : Int) < t ∧ t < n ∧ (t + n) % (n : Int) = (j : Int) ∧ (t + n).tmod n = (j : Int) ∧ j < n := by
  have ha : -(n : Int) < x.tmod n ∧ x.tmod n < n := by
    have := Int.tmod_lt_of_pos x (show (0 : Int) < n by omega)
    have := Int.lt_tmod_of_pos x (show (0 : Int) < n by omega)
    omega
  have hb : (x.tmod n + n).tmod n = (x.tmod n + n) % (n : Int) := Int.tmod_eq_emod_of_nonneg (by omega)
  have hc := Int.emod_nonneg (x.tmod n + n) (show (n : Int) ≠ 0 by omega)
  have hd := Int.emod_lt_of_pos (x.tmod n + n) (show (0 : Int) < n by omega)
  exact ⟨_, ((x.tmod n + n) % (n : Int)).toNat, rfl, ha.1, ha.2, by omega, by rw [hb]; omega, by omega⟩
structure FrW (w W : World) (D Z B O A : Int) (X Y : Nat) (A1 : Option Addr) (c1 : Nat) (A2 : Option Addr) (c2 : Nat) (b : Bo) : Prop where
  g : GzAt W w.heap.size D Z B O A
  h : GzAt W X D Z B O A
  k : BkAt W Y A1 c1 A2 c2 b
  i : BkIn W A1 c1 A2 c2 b
  bw : Below w.heap.size w W
  x : w.heap.size < X ∧ X < Y
section
variable {w W W' : World} {D Z B O A : Int} {X Y : Nat} {A1 : Option Addr} {c1 : Nat} {A2 : Option Addr} {c2 : Nat} {b : Bo}
theorem FrW.below (h : FrW w W D Z B O A X Y A1 c1 A2 c2 b) (hb : Below W.heap.size W W') : FrW w W' D Z B O A X Y A1 c1 A2 c2 b :=
  ⟨h.g.below hb, h.h.below hb, h.k.below hb, h.i.below hb, h.bw.trans (hb.mono h.bw.size), h.x⟩
theorem two_boxes (w W : World) (D Z B O A : Int) (hg : GzAt W w.heap.size D Z B O A) (hb : Below w.heap.size w W) (hl : w.heap.size < W.heap.size) (t : TypeId) :
    (fun W' => GzAt W' w.heap.size D Z B O A ∧ GzAt W' W.heap.size D Z B O A ∧ Below w.heap.size w W' ∧ w.heap.size < W.heap.size ∧ W.heap.size < W'.heap.size) (W.alloc (.cells #[.int .i64 D, .int .i64 Z, .int .i64 B, .int .i64 O, .int .i64 A] t)) := by
  have hb1 : Below W.heap.size W (W.alloc (.cells #[.int .i64 D, .int .i64 Z, .int .i64 B, .int .i64 O, .int .i64 A] t)) := (Below.refl _ _).alloc (Nat.le_refl _) _
  exact ⟨hg.below hb1, GzAt.new W D Z B O A t, hb.trans (hb1.mono hb.size), hl, by simp⟩
theorem frW_start (hg : GzAt W w.heap.size D Z B O A) (hh : GzAt W X D Z B O A) (hb : Below w.heap.size w W) (hX : w.heap.size < X ∧ X < W.heap.size) (hI : BkIn W A1 c1 A2 c2 b) :
    FrW w (W.alloc (.cells #[.int .i64 b.q, .slice A1 b.zs.length c1, .slice A2 b.ms.length c2, .int .i64 b.sl, .int .i64 b.cu] 33)) D Z B O A X W.heap.size A1 c1 A2 c2 b := by
  have hb1 : Below W.heap.size W (W.alloc (.cells #[.int .i64 b.q, .slice A1 b.zs.length c1, .slice A2 b.ms.length c2, .int .i64 b.sl, .int .i64 b.cu] 33)) := (Below.refl _ _).alloc (Nat.le_refl _) _
  exact ⟨hg.below hb1, hh.below hb1, BkAt.new W A1 c1 A2 c2 b _, hI.below hb1, hb.trans (hb1.mono hb.size), hX⟩
/-- Another book is stored over its box. -/
theorem FrW.put (h : FrW w W D Z B O A X Y A1 c1 A2 c2 b) {b' : Bo} {A1' : Option Addr} {c1' : Nat} {A2' : Option Addr} {c2' : Nat} {N : Nat} (hO : BkO W N A1' c1' A2' c2' b') (hN : Y < N) :
    FrW w (((((W.setCell ⟨Y, 0, none⟩ (.int .i64 b'.q)).setCell ⟨Y, 1, none⟩ (.slice A1' b'.zs.length c1')).setCell ⟨Y, 2, none⟩ (.slice A2' b'.ms.length c2')).setCell ⟨Y, 3, none⟩ (.int .i64 b'.sl)).setCell ⟨Y, 4, none⟩ (.int .i64 b'.cu)) D Z B O A X Y A1' c1' A2' c2' b' := by
  have hx := h.x
  have hl := h.k.lt
  have hle : w.heap.size ≤ Y := by omega
  obtain ⟨n1, n2⟩ := hO.off hN
  have hg := grownBy_put W Y (.int .i64 b'.q) (.slice A1' b'.zs.length c1') (.slice A2' b'.ms.length c2') (.int .i64 b'.sl) (.int .i64 b'.cu)
  have hk := h.k.put b' (A1' := A1') (A2' := A2') (c1' := c1') (c2' := c2')
  refine ⟨?_, ?_, hk, (hO.far hg n1 n2).in_, ((((h.bw.setCell hle _).setCell hle _).setCell hle _).setCell hle _).setCell hle _, hx⟩
  · exact h.g.of (hg.block _ (by omega) (by simp; omega)) hg.size
  · exact h.h.of (hg.block _ (by omega) (by simp; omega)) hg.size
end
/-- What a record of a book is for Read. -/
theorem recs_rcok {b : Bo} (hq : 0 ≤ b.q ∧ b.q ≤ 2199023255552) (hz : b.zs.length ≤ 64) (hm : b.ms.length ≤ 64) (hs : b.sl ≤ 64) {x : Rc} (h : x ∈ recsB b) : RcOk x := by
  rcases recs_about h with ⟨j, hj, rfl⟩ | ⟨j, hj, rfl⟩ | rfl
  · exact ⟨wf_of _ (by show (0 : Int) ≤ 5 ∧ (5 : Int) ≤ 70000; omega), wf_of _ (by show (0 : Int) ≤ j ∧ (j : Int) ≤ 70000; omega), by show 0 ≤ b.q + 1 + (j : Int) ∧ b.q + 1 + (j : Int) ≤ _; omega⟩
  · exact ⟨wf_of _ (by show (0 : Int) ≤ 3 ∧ (3 : Int) ≤ 70000; omega), wf_of _ (by show (0 : Int) ≤ j ∧ (j : Int) ≤ 70000; omega), by show 0 ≤ b.q + 1 + ((b.ms.length + j : Nat) : Int) ∧ b.q + 1 + ((b.ms.length + j : Nat) : Int) ≤ _; omega⟩
  · refine ⟨wf_of _ ?_, wf_of _ ?_, ?_⟩
    · show 0 ≤ (curR b).k ∧ (curR b).k ≤ 70000
      rw [curR_k]; omega
    · show 0 ≤ (curR b).a ∧ (curR b).a ≤ 70000
      unfold curR
      split
      · show (0 : Int) ≤ 65535 ∧ (65535 : Int) ≤ 70000; omega
      · show 0 ≤ b.sl ∧ b.sl ≤ 70000; omega
    · show 0 ≤ b.q + 1 + ((b.ms.length + b.zs.length : Nat) : Int) ∧ b.q + 1 + ((b.ms.length + b.zs.length : Nat) : Int) ≤ _; omega
theorem beside_self (b : Bo) : Beside b (recsB b) := ⟨fun _ h => h, fun _ h => .inl h⟩
theorem flat_one (l : LRow) : flatL [l] = l.rs := by unfold flatL; simp
theorem RRow.recsAt {W : World} {base cap : Nat} {t : TypeId} {A : Option Addr} {rs : List Rc} (h : RRow W base t A cap rs) : RecsAt W A rs := by
  rcases h.recs with h0 | ⟨b, e, hlt, hc⟩
  · exact .inl h0
  · exact .inr ⟨b, 0, e, hlt, fun i hi j hj => by rw [Nat.zero_add]; exact hc i hi j hj⟩
/-- One list in a slice of lists that is made of it. -/
theorem one_list {W : World} {A : Option Addr} {cap : Nat} {rs : List Rc} (h : RecsAt W A rs) (t : TypeId) : ListsIn (W.alloc (.cells #[.slice A rs.length cap] t)) (some ⟨W.heap.size, 0, none⟩) [⟨A, cap, rs⟩] := by
  have hb1 : Below W.heap.size W (W.alloc (.cells #[.slice A rs.length cap] t)) := (Below.refl _ _).alloc (Nat.le_refl _) _
  refine .inr ⟨W.heap.size, 0, rfl, by simp, fun i hi => ?_⟩
  have hi1 : i < 1 := hi
  obtain rfl : i = 0 := by omega
  exact ⟨by simp [World.cell?_alloc_new], RecsAt.below h hb1⟩
/-- A book's own records, read. -/
theorem read_self (Z B O A : Int) (n m : Nat) {b : Bo} (hg : goodB (m : Int) Z B O A = true) (hn : Z - 3 = (n : Int)) (hm : m ≤ 1000) (hV : ValB (m : Int) Z n m b) (hq : 0 ≤ b.q ∧ b.q ≤ 2199023255552) (hz : b.zs.length ≤ 64) (hl : b.ms.length ≤ 64) (hs : b.sl ≤ 64)
    (W : World) (Aq : Option Addr) (cq : Nat) (Al : Option Addr) (cl : Nat) (hI : ListsIn W Aq [⟨Al, cl, recsB b⟩]) :
    Calls Try.prog 9 #[.agg #[.int .i64 (m : Int), .int .i64 Z, .int .i64 B, .int .i64 O, .int .i64 A], .slice Aq 1 cq] W (YesP (nextB b) W) := by
  have hok : ListsOk [⟨Al, cl, recsB b⟩] := ⟨by show 1 ≤ 64; omega, fun l hl2 => by
    rw [List.mem_singleton.1 hl2]
    exact ⟨by show (recsB b).length ≤ 1000; rw [recsB_len]; omega, fun x hx => recs_rcok hq hz hl hs hx⟩⟩
  obtain ⟨r1, r2⟩ := read_back hV hq.1 (by omega) (beside_self b)
  refine (read_good W Z B O A n m Aq cq [⟨Al, cl, recsB b⟩] hg hn hI hok).mono ?_
  intro e W' h
  have h' := h.1 (by rw [flat_one]; exact r1)
  rw [flat_one] at h'
  dsimp only at h'
  rw [r2] at h'
  obtain ⟨E1, e1, E2, e2, h1, h2, h3⟩ := h'
  exact ⟨E1, e1, E2, e2, h1, h2.in_, h3⟩
theorem note_move {q : Int} {zs : List Zo} {mm : List Int} {j : Nat} (hj : j < zs.length) (f g : Int) : noteB ⟨q, zs, mm, -1, 0⟩ ⟨3, q + 1, (j : Int), f, g, 0, ⟨#[]⟩⟩ = ⟨q + 1, zs.set j ⟨f, g, 0⟩, mm, -1, 0⟩ := by
  unfold noteB takeB
  rw [if_pos ⟨rfl, by show (0 : Int) ≤ j; omega, by show (j : Int) < zs.length; omega⟩]
  show (⟨max q (q + 1), zs.set (j : Int).toNat ⟨f, g, 0⟩, mm, -1, 0⟩ : Bo) = _
  rw [show max q (q + 1) = q + 1 by omega, Int.toNat_natCast]
end Go.Proofs.Ytpmhfalhieinjaa
