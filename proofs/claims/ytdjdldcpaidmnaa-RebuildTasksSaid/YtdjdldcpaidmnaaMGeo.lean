/- Places of blocks; first of all. -/
import Derived.Test.YtdjdldcpaidmnaaMKit
import Derived.SliceStrings
import Derived.SizedLaws
import Derived.Test.YtdjdldcpaidmnaaMBase
import Derived.Deep.RegionHeld3
import Derived.Test.YtdjdldcpaidmnaaMXor
import Derived.OwnWalk
import Derived.StillTailTactics
namespace Go.Proofs.Ytdjdldcpaidmnaa
open Go.ChangeShapes Go.WideShapes Go.ChangeAt Go.RowKit
/-- A slice that reads as a list of texts. -/
def StrsIn (w : World) (A : Option Addr) (ps : List ByteArray) : Prop := ps = [] ∨ ∃ b off, A = some ⟨b, off, none⟩ ∧ b < w.heap.size ∧ ∀ i (h : i < ps.length), w.cell? ⟨b, off + i, none⟩ = some (.string ps[i])
theorem StrsIn.below {w w' : World} {A : Option Addr} {ps : List ByteArray} (h : StrsIn w A ps) (hb : Below w.heap.size w w') : StrsIn w' A ps := by
  rcases h with h | ⟨b, off, rfl, hlt, hc⟩
  · exact .inl h
  · exact .inr ⟨b, off, rfl, Nat.lt_of_lt_of_le hlt hb.size, fun i hi => (hb.cell (p := ⟨b, off + i, none⟩) hlt).trans (hc i hi)⟩
theorem StrsIn.at_ {w : World} {A : Option Addr} {ps : List ByteArray} (h : StrsIn w A ps) {k : Nat} (hk : k < ps.length) : ∃ b off, A = some ⟨b, off, none⟩ ∧ b < w.heap.size ∧ w.cell? ⟨b, off + k, none⟩ = some (.string ps[k]) := by
  rcases h with rfl | ⟨b, off, rfl, hlt, hc⟩
  · simp at hk
  · exact ⟨b, off, rfl, hlt, hc k hk⟩
section
variable {H : Type} {enc : TypeId × Value → H} {P : Program} {w : World}
theorem weights_strs (e : TypeId) : ∀ (ss : List ByteArray) (s : ByteArray), s ∈ ss → s.data.toList.length ∈ DataW.weightsAll P e (strs (H := H) ss)
  | [], _, h => by cases h
  | s :: ss, t, h => by
    show _ ∈ [s.data.toList.length] ++ DataW.weightsAll P e (strs (H := H) ss)
    rcases List.mem_cons.1 h with rfl | h
    · simp
    · exact List.mem_append_right _ (weights_strs e ss t h)
theorem open_strs {r : Reach} {b0 : Nat} {t e : TypeId} {v : Value} {d : DataW H} {p : List MemPlace} (ht : P.underlying t = some (.slice e)) (he : P.underlying e = some .string) (hce : P.cellsOf e = 1)
    (hv : Value.okWide P w r b0 t v) (h : DataW.Trod enc P w 0 (fun _ => true) true t v d p) (hsz : ∀ n ∈ d.weights P t, n ≤ reachBytes) :
    ∃ (A : Option Addr) (cap : Nat) (ps : List ByteArray), v = .slice A ps.length cap ∧ ps.length ≤ cap ∧ cap ≤ maxLen ∧ StrsIn w A ps ∧ (A = none → cap = 0) ∧ ∀ x ∈ ps, x.size ≤ 140737488351232 := by
  obtain ⟨a0, len, cap, rfl⟩ := okWide_slice ht hv
  obtain ⟨fuel, hf⟩ := h
  rcases open_strings ht he hce hf with ⟨hcs, _⟩ | ⟨a, len', cap', ss, hcs, _, hl, hm, hz, hx, hcell, _⟩
  · have hcs' : a0 = none ∧ len = 0 ∧ cap = 0 := by simpa [Value.cells] using hcs
    obtain ⟨rfl, rfl, rfl⟩ := hcs'
    exact ⟨none, 0, [], rfl, Nat.zero_le _, Nat.zero_le _, .inl rfl, fun _ => rfl, by simp⟩
  · have hcs' : a0 = some a ∧ len = len' ∧ cap = cap' := by simpa [Value.cells] using hcs
    obtain ⟨rfl, rfl, rfl⟩ := hcs'
    simp only [if_true] at hz
    have hd : d = .slice (strs (ss.take len)) (strs (ss.drop len)) := congrArg Prod.fst hx
    have hlen : (ss.take len).length = len := by rw [List.length_take]; omega
    refine ⟨some a, cap, ss.take len, by rw [hlen], by omega, hm, ?_, (fun h => by cases h), fun x hxm => ?_⟩
    · by_cases h0 : ss.take len = []
      · exact .inl h0
      · have hpos : 0 < len := by rw [← hlen]; exact List.length_pos_iff.2 h0
        obtain ⟨b, off, spot⟩ := a
        have h00 := hcell 0 (by omega)
        have hspot : spot = none := by
          have := World.cell?_spot h00
          simpa [Addr.add] using this
        subst hspot
        refine .inr ⟨b, off, rfl, ?_, fun i hi => ?_⟩
        · rw [Go.WideShapes.add_plain] at h00
          exact lt_of_cell h00
        · have hi' : i < ss.length := by rw [List.length_take] at hi; omega
          have h1 := hcell i hi'
          rw [Go.WideShapes.add_plain] at h1
          rw [h1]
          simp [List.getD, hi']
    · have h1 := hsz x.data.toList.length (by
        rw [hd]
        simp only [DataW.weights, ht, List.mem_cons, List.mem_append]
        exact .inr (.inl (weights_strs e _ x hxm)))
      unfold reachBytes at h1
      have h2 : x.size = x.data.toList.length := by rw [Array.length_toList]; rfl
      omega
end
end Go.Proofs.Ytdjdldcpaidmnaa
namespace Go.Proofs.Ytdjdldcpaidmnaa
open Go.RowKit
/-- The words of the document on a geometry, over plain numbers. -/
def betB (n a b : Int) : Bool := decide (a ≤ n ∧ n ≤ b)
def GoodP (D Z B O A : Int) : Prop := 3 ≤ D ∧ D ≤ 16 ∧ 5 ≤ Z ∧ Z ≤ 64 ∧ 4 ≤ B ∧ B ≤ 256 ∧ 1 ≤ O ∧ O ≤ A ∧ A ≤ Z
instance (D Z B O A : Int) : Decidable (GoodP D Z B O A) := by unfold GoodP; infer_instance
def goodB (D Z B O A : Int) : Bool := decide (GoodP D Z B O A)
theorem ret_int {k : IntKind} {a b : Int} (h : a = b) : Ending.returned (.int k a) = .returned (.int k b) := by rw [h]
theorem betB_iff {n a b : Int} : betB n a b = true ↔ a ≤ n ∧ n ≤ b := decide_eq_true_iff
theorem goodB_iff {D Z B O A : Int} : goodB D Z B O A = true ↔ GoodP D Z B O A := decide_eq_true_iff
theorem between_any (n a b : Int) (w : World) :
    Calls Try.prog 38 #[.int .i64 n, .int .i64 a, .int .i64 b] w fun e w' => e = .returned (.bool (betB n a b)) ∧ w = w' := by
  by_cases h1 : a ≤ n
  · by_cases h2 : n ≤ b
    · have e : betB n a b = true := decide_eq_true ⟨h1, h2⟩
      rw [e]; clear e
      go_enter Try.func38, Try.ntmps38
      go_wp2
      go_ret
      exact ⟨rfl, rfl⟩
    · have e : betB n a b = false := decide_eq_false (fun h => h2 h.2)
      rw [e]; clear e
      go_enter Try.func38, Try.ntmps38
      go_wp2
      go_ret
      exact ⟨rfl, rfl⟩
  · have e : betB n a b = false := decide_eq_false (fun h => h1 h.1)
    rw [e]; clear e
    go_enter Try.func38, Try.ntmps38
    go_wp2
    go_ret
    exact ⟨rfl, rfl⟩
set_option maxHeartbeats 1000000 in
theorem good_any (D Z B O A : Int) (w : World) :
    Calls Try.prog 28 #[.agg #[.int .i64 D, .int .i64 Z, .int .i64 B, .int .i64 O, .int .i64 A]] w fun e w' => e = .returned (.bool (goodB D Z B O A)) ∧ Below w.heap.size w w' := by
  have hx : goodB D Z B O A = (betB D 3 16 && betB Z 5 64 && betB B 4 256 && betB O 1 A && decide (A ≤ Z)) := by
    rw [Bool.eq_iff_iff, goodB_iff]
    simp only [decide_eq_true_eq, Bool.and_eq_true, betB_iff]
    exact ⟨fun ⟨a1, a2, a3, a4, a5, a6, a7, a8, a9⟩ => ⟨⟨⟨⟨⟨a1, a2⟩, ⟨a3, a4⟩⟩, ⟨a5, a6⟩⟩, ⟨a7, a8⟩⟩, a9⟩, fun ⟨⟨⟨⟨⟨a1, a2⟩, ⟨a3, a4⟩⟩, ⟨a5, a6⟩⟩, ⟨a7, a8⟩⟩, a9⟩ => ⟨a1, a2, a3, a4, a5, a6, a7, a8, a9⟩⟩
  rw [hx]
  clear hx
  have c1 := Lib.hid (fun W => between_any D 3 16 W)
  have c2 := Lib.hid (fun W => between_any Z 5 64 W)
  have c3 := Lib.hid (fun W => between_any B 4 256 W)
  have c4 := Lib.hid (fun W => between_any O 1 A W)
  generalize betB D 3 16 = b1 at c1 ⊢
  generalize betB Z 5 64 = b2 at c2 ⊢
  generalize betB B 4 256 = b3 at c3 ⊢
  generalize betB O 1 A = b4 at c4 ⊢
  obtain ⟨b5, h5⟩ : ∃ b, decide (A ≤ Z) = b := ⟨_, rfl⟩
  rw [h5]
  cases b1 with
  | false =>
    clear h5
    go_enter Try.func28, Try.ntmps28
    go_wp2_with (go_at_call 38; refine (c1.out _).mono ?_; rintro e w' ⟨rfl, rfl⟩)
    go_ret
    exact ⟨rfl, (Below.refl _ _).alloc (Nat.le_refl _) _⟩
  | true =>
  cases b2 with
  | false =>
    clear h5
    go_enter Try.func28, Try.ntmps28
    go_wp2_with (first | (go_at_call 38; ((with_reducible refine (c1.out _).mono ?_); rintro e w' ⟨rfl, rfl⟩)) | (go_at_call 38; ((with_reducible refine (c2.out _).mono ?_); rintro e w' ⟨rfl, rfl⟩)))
    go_ret
    exact ⟨rfl, (Below.refl _ _).alloc (Nat.le_refl _) _⟩
  | true =>
  cases b3 with
  | false =>
    clear h5
    go_enter Try.func28, Try.ntmps28
    go_wp2_with (first | (go_at_call 38; ((with_reducible refine (c1.out _).mono ?_); rintro e w' ⟨rfl, rfl⟩)) | (go_at_call 38; ((with_reducible refine (c2.out _).mono ?_); rintro e w' ⟨rfl, rfl⟩)) | (go_at_call 38; ((with_reducible refine (c3.out _).mono ?_); rintro e w' ⟨rfl, rfl⟩)))
    go_ret
    exact ⟨rfl, (Below.refl _ _).alloc (Nat.le_refl _) _⟩
  | true =>
  cases b4 with
  | false =>
    clear h5
    go_enter Try.func28, Try.ntmps28
    go_wp2_with (first | (go_at_call 38; ((with_reducible refine (c1.out _).mono ?_); rintro e w' ⟨rfl, rfl⟩)) | (go_at_call 38; ((with_reducible refine (c2.out _).mono ?_); rintro e w' ⟨rfl, rfl⟩)) | (go_at_call 38; ((with_reducible refine (c3.out _).mono ?_); rintro e w' ⟨rfl, rfl⟩)) | (go_at_call 38; ((with_reducible refine (c4.out _).mono ?_); rintro e w' ⟨rfl, rfl⟩)))
    go_ret
    exact ⟨rfl, (Below.refl _ _).alloc (Nat.le_refl _) _⟩
  | true =>
    go_enter Try.func28, Try.ntmps28
    go_wp2_with (first | (go_at_call 38; ((with_reducible refine (c1.out _).mono ?_); rintro e w' ⟨rfl, rfl⟩)) | (go_at_call 38; ((with_reducible refine (c2.out _).mono ?_); rintro e w' ⟨rfl, rfl⟩)) | (go_at_call 38; ((with_reducible refine (c3.out _).mono ?_); rintro e w' ⟨rfl, rfl⟩)) | (go_at_call 38; ((with_reducible refine (c4.out _).mono ?_); rintro e w' ⟨rfl, rfl⟩)))
    go_ret
    exact ⟨rfl, (Below.refl _ _).alloc (Nat.le_refl _) _⟩
theorem perRow_any (D Z B O A : Int) (w : World) (h : 3 ≤ D ∧ D ≤ 16) :
    Calls Try.prog 39 #[.agg #[.int .i64 D, .int .i64 Z, .int .i64 B, .int .i64 O, .int .i64 A]] w fun e w' => e = .returned (.int .i64 (D - 1)) ∧ Below w.heap.size w w' := by
  obtain ⟨h1, h2⟩ := h
  go_enter Try.func39, Try.ntmps39
  go_wp2
  go_ret
  exact ⟨rfl, (Below.refl _ _).alloc (Nat.le_refl _) _⟩
/-- How many zones, how many blocks of each. -/
def zonesV (D Z B O A : Int) : Int := if goodB D Z B O A = true then Z - 3 else 0
def capV (D Z B O A : Int) : Int := if goodB D Z B O A = true then (D - 1) * B else 0
theorem zonesV_bd (D Z B O A : Int) : 0 ≤ zonesV D Z B O A ∧ zonesV D Z B O A ≤ 61 := by
  unfold zonesV
  split
  · rename_i h; obtain ⟨_, _, _, _, _⟩ := goodB_iff.1 h; omega
  · omega
theorem mul_bd {a b m n : Int} (ha : 0 ≤ a) (hm : a ≤ m) (hb : 0 ≤ b) (hn : b ≤ n) : 0 ≤ a * b ∧ a * b ≤ m * n :=
  ⟨Int.mul_nonneg ha hb, Int.mul_le_mul hm hn hb (by omega)⟩
theorem capV_bd (D Z B O A : Int) : 0 ≤ capV D Z B O A ∧ capV D Z B O A ≤ 3840 := by
  unfold capV
  split
  · rename_i h; obtain ⟨_, _, _, _, _, _, _⟩ := goodB_iff.1 h
    exact mul_bd (m := 15) (n := 256) (by omega) (by omega) (by omega) (by omega)
  · omega
theorem zones_any (D Z B O A : Int) (w : World) :
    Calls Try.prog 10 #[.agg #[.int .i64 D, .int .i64 Z, .int .i64 B, .int .i64 O, .int .i64 A]] w fun e w' => e = .returned (.int .i64 (zonesV D Z B O A)) ∧ Below w.heap.size w w' := by
  have c1 := fun W => good_any D Z B O A W
  unfold zonesV
  by_cases h : goodB D Z B O A = true
  · rw [if_pos h]
    rw [h] at c1
    obtain ⟨g1, g2, g3, g4, _⟩ := goodB_iff.1 h
    have c1H := Lib.hid c1
    clear c1 h
    go_enter Try.func10, Try.ntmps10
    go_wp2_with fail
    refine (c1H.out _).mono ?_
    rintro e w1 ⟨rfl, hb1⟩
    obtain ⟨hc1, hf1⟩ := bcell hb1
    go_wp2
    go_ret
    exact ⟨ret_int (by omega), (((Below.refl _ _).alloc (Nat.le_refl _) _).trans (hb1.mono (by simp)))⟩
  · rw [if_neg h]
    rw [Bool.not_eq_true] at h
    rw [h] at c1
    have c1H := Lib.hid c1
    clear c1 h
    go_enter Try.func10, Try.ntmps10
    go_wp2_with fail
    refine (c1H.out _).mono ?_
    rintro e w1 ⟨rfl, hb1⟩
    obtain ⟨hc1, hf1⟩ := bcell hb1
    go_wp2
    go_ret
    exact ⟨rfl, (((Below.refl _ _).alloc (Nat.le_refl _) _).trans (hb1.mono (by simp)))⟩
/-- A boxed geometry. -/
def GeoAt (W : World) (b : Nat) (D Z B O A : Int) : Prop := W.cell? ⟨b, 0, none⟩ = some (.int .i64 D) ∧ W.cell? ⟨b, 1, none⟩ = some (.int .i64 Z) ∧ W.cell? ⟨b, 2, none⟩ = some (.int .i64 B) ∧ W.cell? ⟨b, 3, none⟩ = some (.int .i64 O) ∧ W.cell? ⟨b, 4, none⟩ = some (.int .i64 A) ∧ b < W.heap.size
theorem GeoAt.below {W W' : World} {b : Nat} {D Z B O A : Int} (h : GeoAt W b D Z B O A) (hb : Below W.heap.size W W') : GeoAt W' b D Z B O A := by
  obtain ⟨h0, h1, h2, h3, h4, hlt⟩ := h
  have hc := (bcell hb).1
  exact ⟨(hc _ _ hlt).trans h0, (hc _ _ hlt).trans h1, (hc _ _ hlt).trans h2, (hc _ _ hlt).trans h3, (hc _ _ hlt).trans h4, Nat.lt_of_lt_of_le hlt hb.size⟩
theorem GeoAt.new (W : World) (D Z B O A : Int) (t : TypeId) : GeoAt (W.alloc (.cells #[.int .i64 D, .int .i64 Z, .int .i64 B, .int .i64 O, .int .i64 A] t)) W.heap.size D Z B O A := by
  refine ⟨?_, ?_, ?_, ?_, ?_, by simp⟩ <;> go_simp
theorem wrap_small {x : Int} (h : -9223372036854775808 ≤ x ∧ x ≤ 9223372036854775807) : IntKind.i64.wrap x = x := by
  rw [IntKind.wrap_i64]; omega
set_option maxHeartbeats 1000000 in
theorem cap_any (D Z B O A : Int) (w : World) :
    Calls Try.prog 26 #[.agg #[.int .i64 D, .int .i64 Z, .int .i64 B, .int .i64 O, .int .i64 A]] w fun e w' => e = .returned (.int .i64 (capV D Z B O A)) ∧ Below w.heap.size w w' := by
  have c1 := fun W => good_any D Z B O A W
  unfold capV
  by_cases h : goodB D Z B O A = true
  · rw [if_pos h]
    rw [h] at c1
    obtain ⟨g1, g2, g3, g4, g5, g6, _⟩ := goodB_iff.1 h
    have hbd := mul_bd (a := D - 1) (b := B) (m := 15) (n := 256) (by omega) (by omega) (by omega) (by omega)
    have hw := wrap_small (x := (D - 1) * B) (by omega)
    have c1H := Lib.hid c1
    have c2H := Lib.hid (fun W => perRow_any D Z B O A W ⟨g1, g2⟩)
    clear c1 h hbd g3 g4 g5 g6
    have hN := GeoAt.new w D Z B O A 30
    have hB0 : Below w.heap.size w (w.alloc (.cells #[.int .i64 D, .int .i64 Z, .int .i64 B, .int .i64 O, .int .i64 A] 30)) := (Below.refl _ _).alloc (Nat.le_refl _) _
    have hNH := Lib.hid hN
    have hBH := Lib.hid hB0
    clear hN hB0
    go_enter Try.func26, Try.ntmps26
    go_wp2_with fail
    refine (c1H.out _).mono ?_
    rintro e w1 ⟨rfl, hb1⟩
    have hG := hNH.out.below hb1
    have hB := bmore hBH.out hb1
    clear hNH hBH hb1
    have hk : ∀ W, Below w1.heap.size w1 W → (W.cell? ⟨w.heap.size, 0, none⟩ = some (.int .i64 D) ∧ W.cell? ⟨w.heap.size, 1, none⟩ = some (.int .i64 Z) ∧ W.cell? ⟨w.heap.size, 2, none⟩ = some (.int .i64 B) ∧ W.cell? ⟨w.heap.size, 3, none⟩ = some (.int .i64 O) ∧ W.cell? ⟨w.heap.size, 4, none⟩ = some (.int .i64 A)) := fun W hb => by
      obtain ⟨h0, h1, h2, h3, h4, _⟩ := hG.below hb
      exact ⟨h0, h1, h2, h3, h4⟩
    have hkH := Lib.hid hk
    have hwH := Lib.hid hw
    have hBH := Lib.hid hB
    clear hk hG hw hB
    go_wp2_with fail
    go_region_held3 (fun W => W.cell? ⟨w.heap.size, 0, none⟩ = some (.int .i64 D) ∧ W.cell? ⟨w.heap.size, 1, none⟩ = some (.int .i64 Z) ∧ W.cell? ⟨w.heap.size, 2, none⟩ = some (.int .i64 B) ∧ W.cell? ⟨w.heap.size, 3, none⟩ = some (.int .i64 O) ∧ W.cell? ⟨w.heap.size, 4, none⟩ = some (.int .i64 A))
      (first | exact hkH.out _ (Below.refl _ _).drew | exact hkH.out _ hb2')
      (first | (go_at_call 39; refine (c2H.out _).mono ?_; rintro e' w2 ⟨rfl, hb2⟩; have hb2' := ((Below.refl w1.heap.size w1).drew).trans (hb2.mono (by simp))))
    have hw := hwH.out
    have hBB := bmore hBH.out hb2'
    go_wp2
    go_ret
    exact ⟨ret_int hw, hBB⟩
  · rw [if_neg h]
    rw [Bool.not_eq_true] at h
    rw [h] at c1
    have c1H := Lib.hid c1
    clear c1 h
    go_enter Try.func26, Try.ntmps26
    go_wp2_with fail
    refine (c1H.out _).mono ?_
    rintro e w1 ⟨rfl, hb1⟩
    go_wp2
    go_ret
    exact ⟨rfl, (((Below.refl _ _).alloc (Nat.le_refl _) _).trans (hb1.mono (by simp)))⟩
end Go.Proofs.Ytdjdldcpaidmnaa
namespace Go.Proofs.Ytdjdldcpaidmnaa
open Go.RowKit
def exB (D Z B O A zone : Int) : Bool := betB zone 0 (zonesV D Z B O A - 1)
theorem exB_true {D Z B O A zone : Int} (h : exB D Z B O A zone = true) : GoodP D Z B O A ∧ 0 ≤ zone ∧ zone ≤ Z - 4 := by
  have h1 := betB_iff.1 h
  unfold zonesV at h1
  split at h1
  · rename_i hg; exact ⟨goodB_iff.1 hg, by omega, by omega⟩
  · omega
theorem exB_mk {D Z B O A zone : Int} (hg : GoodP D Z B O A) (h0 : 0 ≤ zone) (h1 : zone ≤ Z - 4) : exB D Z B O A zone = true := by
  unfold exB zonesV
  rw [if_pos (goodB_iff.2 hg)]
  exact betB_iff.2 ⟨h0, by omega⟩
theorem exists_any (D Z B O A zone : Int) (w : World) :
    Calls Try.prog 37 #[.agg #[.int .i64 D, .int .i64 Z, .int .i64 B, .int .i64 O, .int .i64 A], .int .i64 zone] w fun e w' => e = .returned (.bool (exB D Z B O A zone)) ∧ Below w.heap.size w w' := by
  have hz := zonesV_bd D Z B O A
  have c1 := fun W => zones_any D Z B O A W
  unfold exB
  generalize zonesV D Z B O A = V at hz c1 ⊢
  have c2 := fun W => between_any zone 0 (V - 1) W
  generalize betB zone 0 (V - 1) = r at c2 ⊢
  have c1H := Lib.hid c1
  have c2H := Lib.hid c2
  obtain ⟨hz1, hz2⟩ := hz
  clear c1 c2
  have hN := GeoAt.new w D Z B O A 30
  have hB0 : Below w.heap.size w (w.alloc (.cells #[.int .i64 D, .int .i64 Z, .int .i64 B, .int .i64 O, .int .i64 A] 30)) := (Below.refl _ _).alloc (Nat.le_refl _) _
  have hNH := Lib.hid hN
  have hBH := Lib.hid hB0
  clear hN hB0
  go_enter Try.func37, Try.ntmps37
  go_wp2_with fail
  refine (c1H.out _).mono ?_
  rintro e w1 ⟨rfl, hb1⟩
  have hG := hNH.out.below hb1
  have hB := bmore hBH.out hb1
  clear hNH hBH hb1
  have hGH := Lib.hid hG
  have hBH := Lib.hid hB
  clear hB
  obtain ⟨h0, h1, h2, h3, h4, _⟩ := hG
  go_wp2_with fail
  refine (c2H.out _).mono ?_
  rintro e w2 ⟨rfl, rfl⟩
  go_wp2
  go_ret
  exact ⟨rfl, hBH.out⟩
def parV (D Z B O A zone row : Int) : Int := if (exB D Z B O A zone && betB row 0 (B - 1)) = true then (zone + row) % D else -1
set_option maxHeartbeats 1000000 in
theorem parity_any (D Z B O A zone row : Int) (w : World) :
    Calls Try.prog 31 #[.agg #[.int .i64 D, .int .i64 Z, .int .i64 B, .int .i64 O, .int .i64 A], .int .i64 zone, .int .i64 row] w fun e w' => e = .returned (.int .i64 (parV D Z B O A zone row)) ∧ Below w.heap.size w w' := by
  have c1 := fun W => exists_any D Z B O A zone W
  unfold parV
  by_cases he : exB D Z B O A zone = true
  · obtain ⟨⟨g1, g2, g3, g4, g5, g6, _⟩, z1, z2⟩ := exB_true he
    rw [he] at c1 ⊢
    rw [Bool.true_and]
    clear he
    have c1H := Lib.hid c1
    clear c1
    by_cases hr : betB row 0 (B - 1) = true
    · rw [if_pos hr]
      have c2 := fun W => between_any row 0 (B - 1) W
      rw [hr] at c2
      obtain ⟨r1, r2⟩ := betB_iff.1 hr
      have c2H := Lib.hid c2
      clear c2 hr
      have hN := GeoAt.new w D Z B O A 30
      have hB0 : Below w.heap.size w (w.alloc (.cells #[.int .i64 D, .int .i64 Z, .int .i64 B, .int .i64 O, .int .i64 A] 30)) := (Below.refl _ _).alloc (Nat.le_refl _) _
      have hNH := Lib.hid hN
      have hBH := Lib.hid hB0
      clear hN hB0
      go_enter Try.func31, Try.ntmps31
      go_wp2_with fail
      refine (c1H.out _).mono ?_
      rintro e w1 ⟨rfl, hb1⟩
      have hG := hNH.out.below hb1
      have hB := bmore hBH.out hb1
      clear hNH hBH hb1
      have hGH := Lib.hid hG
      have hBH := Lib.hid hB
      clear hB
      obtain ⟨h0, h1, h2, h3, h4, _⟩ := hG
      go_wp2_with fail
      refine (c2H.out _).mono ?_
      rintro e w2 ⟨rfl, rfl⟩
      go_wp2
      go_ret
      exact ⟨rfl, hBH.out⟩
    · rw [if_neg hr]
      have c2 := fun W => between_any row 0 (B - 1) W
      rw [Bool.not_eq_true] at hr
      rw [hr] at c2
      have c2H := Lib.hid c2
      clear c2 hr
      have hN := GeoAt.new w D Z B O A 30
      have hB0 : Below w.heap.size w (w.alloc (.cells #[.int .i64 D, .int .i64 Z, .int .i64 B, .int .i64 O, .int .i64 A] 30)) := (Below.refl _ _).alloc (Nat.le_refl _) _
      have hNH := Lib.hid hN
      have hBH := Lib.hid hB0
      clear hN hB0
      go_enter Try.func31, Try.ntmps31
      go_wp2_with fail
      refine (c1H.out _).mono ?_
      rintro e w1 ⟨rfl, hb1⟩
      have hG := hNH.out.below hb1
      have hB := bmore hBH.out hb1
      clear hNH hBH hb1
      have hGH := Lib.hid hG
      have hBH := Lib.hid hB
      clear hB
      obtain ⟨h0, h1, h2, h3, h4, _⟩ := hG
      go_wp2_with fail
      refine (c2H.out _).mono ?_
      rintro e w2 ⟨rfl, rfl⟩
      go_wp2
      go_ret
      exact ⟨rfl, hBH.out⟩
  · rw [Bool.not_eq_true] at he
    rw [he] at c1 ⊢
    rw [Bool.false_and, if_neg (by decide)]
    clear he
    have c1H := Lib.hid c1
    clear c1
    have hN := GeoAt.new w D Z B O A 30
    have hB0 : Below w.heap.size w (w.alloc (.cells #[.int .i64 D, .int .i64 Z, .int .i64 B, .int .i64 O, .int .i64 A] 30)) := (Below.refl _ _).alloc (Nat.le_refl _) _
    have hNH := Lib.hid hN
    have hBH := Lib.hid hB0
    clear hN hB0
    go_enter Try.func31, Try.ntmps31
    go_wp2_with fail
    refine (c1H.out _).mono ?_
    rintro e w1 ⟨rfl, hb1⟩
    have hG := hNH.out.below hb1
    have hB := bmore hBH.out hb1
    clear hNH hBH hb1
    have hGH := Lib.hid hG
    have hBH := Lib.hid hB
    clear hB
    obtain ⟨h0, h1, h2, h3, h4, _⟩ := hG
    go_wp2
    go_ret
    exact ⟨rfl, hBH.out⟩
end Go.Proofs.Ytdjdldcpaidmnaa
namespace Go.Proofs.Ytdjdldcpaidmnaa
open Go.RowKit
theorem step_div {N C : Int} (hC : 0 < C) : ((N + 1) / C = N / C ∧ (N + 1) % C = N % C + 1) ∨ ((N + 1) / C = N / C + 1 ∧ (N + 1) % C = 0 ∧ N % C = C - 1) := by
  have h1 := Int.emod_add_mul_ediv N C
  have h2 := Int.emod_nonneg N (show C ≠ 0 by omega)
  have h3 := Int.emod_lt_of_pos N hC
  by_cases h : N % C + 1 < C
  · left
    exact (Int.ediv_emod_unique hC).2 ⟨by omega, by omega, h⟩
  · right
    have e : N % C = C - 1 := by omega
    have := (Int.ediv_emod_unique (a := N + 1) (r := 0) (q := N / C + 1) hC).2 ⟨by rw [Int.mul_add, Int.mul_one]; omega, by omega, by omega⟩
    exact ⟨this.1, this.2, e⟩
def plB (D Z B O A zone block : Int) : Bool := exB D Z B O A zone && betB block 0 (capV D Z B O A - 1)
def plR (D Z B O A zone block : Int) : Int := if plB D Z B O A zone block = true then block / (D - 1) else 0
def plD (D Z B O A zone block : Int) : Int := if plB D Z B O A zone block = true then (parV D Z B O A zone (block / (D - 1)) + 1 + block % (D - 1)) % D else 0
theorem capV_good {D Z B O A : Int} (h : GoodP D Z B O A) : capV D Z B O A = (D - 1) * B := if_pos (goodB_iff.2 h)
theorem zonesV_good {D Z B O A : Int} (h : GoodP D Z B O A) : zonesV D Z B O A = Z - 3 := if_pos (goodB_iff.2 h)
theorem plB_true {D Z B O A zone block : Int} (h : plB D Z B O A zone block = true) : GoodP D Z B O A ∧ 0 ≤ zone ∧ zone ≤ Z - 4 ∧ 0 ≤ block ∧ block < (D - 1) * B := by
  unfold plB at h
  rw [Bool.and_eq_true] at h
  obtain ⟨h1, h2, h3⟩ := exB_true h.1
  have h4 := betB_iff.1 h.2
  rw [capV_good h1] at h4
  exact ⟨h1, h2, h3, h4.1, by omega⟩
theorem plB_mk {D Z B O A zone block : Int} (h1 : GoodP D Z B O A) (h2 : 0 ≤ zone) (h3 : zone ≤ Z - 4) (h4 : 0 ≤ block) (h5 : block < (D - 1) * B) : plB D Z B O A zone block = true := by
  unfold plB
  rw [exB_mk h1 h2 h3, capV_good h1, Bool.true_and]
  exact betB_iff.2 ⟨h4, by omega⟩
theorem row_bd {D B block : Int} (hD : 3 ≤ D) (h0 : 0 ≤ block) (h1 : block < (D - 1) * B) : 0 ≤ block / (D - 1) ∧ block / (D - 1) ≤ B - 1 ∧ 0 ≤ block % (D - 1) ∧ block % (D - 1) ≤ D - 2 := by
  have h2 : block / (D - 1) < B := Int.ediv_lt_of_lt_mul (by omega) (by rw [Int.mul_comm]; exact h1)
  have h3 := Int.emod_lt_of_pos block (show 0 < D - 1 by omega)
  exact ⟨Int.ediv_nonneg h0 (by omega), by omega, Int.emod_nonneg _ (by omega), by omega⟩
theorem parV_good {D Z B O A zone row : Int} (h1 : GoodP D Z B O A) (h2 : 0 ≤ zone) (h3 : zone ≤ Z - 4) (h4 : 0 ≤ row) (h5 : row ≤ B - 1) : parV D Z B O A zone row = (zone + row) % D := by
  unfold parV
  rw [exB_mk h1 h2 h3, betB_iff.2 ⟨h4, h5⟩]; rfl
theorem parV_bd (D Z B O A zone row : Int) : -1 ≤ parV D Z B O A zone row ∧ (parV D Z B O A zone row = -1 ∨ (GoodP D Z B O A ∧ 0 ≤ row ∧ row ≤ B - 1 ∧ 0 ≤ zone ∧ zone ≤ Z - 4 ∧ 0 ≤ parV D Z B O A zone row ∧ parV D Z B O A zone row < D)) := by
  by_cases h : (exB D Z B O A zone && betB row 0 (B - 1)) = true
  · have h0 := h
    rw [Bool.and_eq_true] at h
    obtain ⟨hg, z1, z2⟩ := exB_true h.1
    obtain ⟨r1, r2⟩ := betB_iff.1 h.2
    have e := parV_good hg z1 z2 r1 r2
    have hD := hg.1
    have h1 := Int.emod_nonneg (zone + row) (show D ≠ 0 by omega)
    have h2 := Int.emod_lt_of_pos (zone + row) (show 0 < D by omega)
    rw [e]
    exact ⟨by omega, .inr ⟨hg, r1, r2, z1, z2, h1, h2⟩⟩
  · have e : parV D Z B O A zone row = -1 := by unfold parV; rw [if_neg h]
    rw [e]; exact ⟨by omega, .inl rfl⟩
set_option maxHeartbeats 1000000 in
theorem place_any (D Z B O A zone block : Int) (w : World) :
    Calls Try.prog 13 #[.agg #[.int .i64 D, .int .i64 Z, .int .i64 B, .int .i64 O, .int .i64 A], .int .i64 zone, .int .i64 block] w fun e w' => e = .returned (.tuple #[.int .i64 (plR D Z B O A zone block), .int .i64 (plD D Z B O A zone block), .bool (plB D Z B O A zone block)]) ∧ Below w.heap.size w w' := by
  have c1 := fun W => exists_any D Z B O A zone W
  have hcb := capV_bd D Z B O A
  by_cases hp : plB D Z B O A zone block = true
  · obtain ⟨hg, z1, z2, b1, b2⟩ := plB_true hp
    unfold plR plD
    rw [if_pos hp, if_pos hp, hp]
    unfold plB at hp
    rw [Bool.and_eq_true] at hp
    obtain ⟨he, hc⟩ := hp
    rw [he] at c1
    have c2 := fun W => cap_any D Z B O A W
    have c3 := fun W => between_any block 0 (capV D Z B O A - 1) W
    rw [hc] at c3
    have hrow := row_bd hg.1 b1 b2
    have e1 : block.tdiv (D - 1) = block / (D - 1) := Int.tdiv_eq_ediv_of_nonneg b1
    have e2 : block.tmod (D - 1) = block % (D - 1) := Int.tmod_eq_emod_of_nonneg b1
    have c4 := fun W => parity_any D Z B O A zone (block / (D - 1)) W
    have hpd := parV_good hg z1 z2 hrow.1 hrow.2.1
    have hpb : 0 ≤ parV D Z B O A zone (block / (D - 1)) ∧ parV D Z B O A zone (block / (D - 1)) < D := by
      rw [hpd]; exact ⟨Int.emod_nonneg _ (by have := hg.1; omega), Int.emod_lt_of_pos _ (by have := hg.1; omega)⟩
    clear hpd he hc
    generalize parV D Z B O A zone (block / (D - 1)) = p at c4 hpb ⊢
    generalize capV D Z B O A = V at c2 c3 hcb
    obtain ⟨q, hq⟩ : ∃ q, block / (D - 1) = q := ⟨_, rfl⟩
    obtain ⟨r, hr⟩ : ∃ r, block % (D - 1) = r := ⟨_, rfl⟩
    rw [hq] at c4 hrow e1 ⊢
    rw [hr] at hrow e2 ⊢
    obtain ⟨g1, g2, g3, g4, g5, g6, _⟩ := hg
    obtain ⟨q1, q2, r1, r2⟩ := hrow
    obtain ⟨p1, p2⟩ := hpb
    obtain ⟨v1, v2⟩ := hcb
    have hb3 : block ≤ 3840 := by have := (mul_bd (a := D - 1) (b := B) (m := 15) (n := 256) (by omega) (by omega) (by omega) (by omega)).2; omega
    have c5H := Lib.hid (fun W => perRow_any D Z B O A W ⟨g1, g2⟩)
    have c1H := Lib.hid c1
    have c2H := Lib.hid c2
    have c3H := Lib.hid c3
    have c4H := Lib.hid c4
    have e1H := Lib.hid e1
    have e2H := Lib.hid e2
    have e3 : IntKind.i64.wrap q = q := wrap_small (by omega)
    have e4 : IntKind.i64.wrap r = r := wrap_small (by omega)
    have e5 : IntKind.i64.wrap (p + 1) = p + 1 := wrap_small (by omega)
    have e6 : IntKind.i64.wrap (p + 1 + r) = p + 1 + r := wrap_small (by omega)
    have e7 : (p + 1 + r).tmod D = (p + 1 + r) % D := Int.tmod_eq_emod_of_nonneg (by omega)
    have e8 : IntKind.i64.wrap ((p + 1 + r) % D) = (p + 1 + r) % D := by
      have h1 := Int.emod_nonneg (p + 1 + r) (show D ≠ 0 by omega)
      have h2 := Int.emod_lt_of_pos (p + 1 + r) (show 0 < D by omega)
      exact wrap_small (by omega)
    have e5H := Lib.hid e5
    have e6H := Lib.hid e6
    have e7H := Lib.hid e7
    have e8H := Lib.hid e8
    have hD1 : ¬ D - 1 = 0 := by omega
    have hD0 : ¬ D = 0 := by omega
    clear e5 e6 e7 e8
    have e3H := Lib.hid e3
    have e4H := Lib.hid e4
    clear c1 c2 c3 c4 hq hr e1 e2 e3 e4 b2
    have hN := GeoAt.new w D Z B O A 30
    have hB0 : Below w.heap.size w (w.alloc (.cells #[.int .i64 D, .int .i64 Z, .int .i64 B, .int .i64 O, .int .i64 A] 30)) := (Below.refl _ _).alloc (Nat.le_refl _) _
    have hNH := Lib.hid hN
    have hBH := Lib.hid hB0
    clear hN hB0
    go_enter Try.func13, Try.ntmps13
    go_wp2_with fail
    (with_reducible refine (c1H.out _).mono ?_)
    rintro e w1 ⟨rfl, hb1⟩
    have hG := hNH.out.below hb1
    have hB := bmore hBH.out hb1
    clear hNH hBH hb1

    have hGH := Lib.hid hG
    have hBH := Lib.hid hB
    clear hB
    obtain ⟨h0, h1, h2, h3, h4, _⟩ := hG
    go_wp2_with fail
    (with_reducible refine (c2H.out _).mono ?_)
    rintro e w2 ⟨rfl, hb2⟩
    have hG := hGH.out.below hb2
    have hB := bmore hBH.out hb2
    clear hGH hBH hb2
    clear h0 h1 h2 h3 h4
    have hGH := Lib.hid hG
    have hBH := Lib.hid hB
    clear hB
    obtain ⟨h0, h1, h2, h3, h4, _⟩ := hG
    go_wp2_with fail
    (with_reducible refine (c3H.out _).mono ?_)
    rintro e w3 ⟨rfl, rfl⟩
    have e1 := e1H.out
    have e2 := e2H.out
    have e3 := e3H.out
    have e4 := e4H.out
    have hk : ∀ W, Below w2.heap.size w2 W → (W.cell? ⟨w.heap.size, 0, none⟩ = some (.int .i64 D) ∧ W.cell? ⟨w.heap.size, 1, none⟩ = some (.int .i64 Z) ∧ W.cell? ⟨w.heap.size, 2, none⟩ = some (.int .i64 B) ∧ W.cell? ⟨w.heap.size, 3, none⟩ = some (.int .i64 O) ∧ W.cell? ⟨w.heap.size, 4, none⟩ = some (.int .i64 A)) := fun W hb => by
      obtain ⟨h0, h1, h2, h3, h4, _⟩ := hGH.out.below hb
      exact ⟨h0, h1, h2, h3, h4⟩
    have hkH := Lib.hid hk
    clear hk h0 h1 h2 h3 h4
    go_wp2_with fail
    go_region_held3 (fun W => W.cell? ⟨w.heap.size, 0, none⟩ = some (.int .i64 D) ∧ W.cell? ⟨w.heap.size, 1, none⟩ = some (.int .i64 Z) ∧ W.cell? ⟨w.heap.size, 2, none⟩ = some (.int .i64 B) ∧ W.cell? ⟨w.heap.size, 3, none⟩ = some (.int .i64 O) ∧ W.cell? ⟨w.heap.size, 4, none⟩ = some (.int .i64 A))
      (first | exact hkH.out _ (Below.refl _ _).drew | exact hkH.out _ hq2' | exact hkH.out _ hq1')
      (first | (go_at_call 39; ((with_reducible refine (c5H.out _).mono ?_); rintro e' v1 ⟨rfl, hq1⟩); have hq1' := ((Below.refl w2.heap.size w2).drew).trans (hq1.mono (by simp))) | (go_at_call 39; ((with_reducible refine (c5H.out _).mono ?_); rintro e' v2 ⟨rfl, hq2⟩); have hq2' := bmore hq1' hq2))
    simp only [Exit.then]
    refine fresh_K (fun W => GeoAt W w.heap.size D Z B O A ∧ Below w.heap.size w W) ?_ ?_
    · exact ⟨hGH.out.below hq2', bmore hBH.out hq2'⟩
    clear e1 e2 e3 e4 hkH hGH hBH
    rintro w4 ⟨hG, hB⟩
    have hGH := Lib.hid hG
    have hBH := Lib.hid hB
    clear hG hB
    have e5 := e5H.out
    have e6 := e6H.out
    have e7 := e7H.out
    have e8 := e8H.out
    have hk : ∀ W, Below w4.heap.size w4 W → (W.cell? ⟨w.heap.size, 0, none⟩ = some (.int .i64 D) ∧ W.cell? ⟨w.heap.size, 1, none⟩ = some (.int .i64 Z) ∧ W.cell? ⟨w.heap.size, 2, none⟩ = some (.int .i64 B) ∧ W.cell? ⟨w.heap.size, 3, none⟩ = some (.int .i64 O) ∧ W.cell? ⟨w.heap.size, 4, none⟩ = some (.int .i64 A)) := fun W hb => by
      obtain ⟨h0, h1, h2, h3, h4, _⟩ := hGH.out.below hb
      exact ⟨h0, h1, h2, h3, h4⟩
    have hkH := Lib.hid hk
    clear hk
    go_wp2_with fail
    go_region_held3 (fun W => W.cell? ⟨w.heap.size, 0, none⟩ = some (.int .i64 D) ∧ W.cell? ⟨w.heap.size, 1, none⟩ = some (.int .i64 Z) ∧ W.cell? ⟨w.heap.size, 2, none⟩ = some (.int .i64 B) ∧ W.cell? ⟨w.heap.size, 3, none⟩ = some (.int .i64 O) ∧ W.cell? ⟨w.heap.size, 4, none⟩ = some (.int .i64 A))
      (first | exact hkH.out _ (Below.refl _ _).drew | exact hkH.out _ hq1')
      (first | (go_at_call 31; ((with_reducible refine (c4H.out _).mono ?_); rintro e' v1 ⟨rfl, hq1⟩); have hq1' := ((Below.refl w4.heap.size w4).drew).trans (hq1.mono (by simp))))
    have hBB := bmore hBH.out hq1'
    clear e5 e6 e7 e8
    go_wp2
    refine bodyPost_ret (v := .tuple #[.int .i64 q, .int .i64 ((p + 1 + r) % D), .bool true]) (by simp [results, Try.results13, go_sem]) rfl ⟨rfl, ?_⟩
    exact hBB
  · have er : plR D Z B O A zone block = 0 := by unfold plR; rw [if_neg hp]
    have ed : plD D Z B O A zone block = 0 := by unfold plD; rw [if_neg hp]
    rw [Bool.not_eq_true] at hp
    rw [er, ed, hp]
    clear er ed
    unfold plB at hp
    by_cases he : exB D Z B O A zone = true
    · rw [he, Bool.true_and] at hp
      rw [he] at c1
      have c2 := fun W => cap_any D Z B O A W
      have c3 := fun W => between_any block 0 (capV D Z B O A - 1) W
      rw [hp] at c3
      generalize capV D Z B O A = V at c2 c3 hcb
      obtain ⟨v1, v2⟩ := hcb
      have c1H := Lib.hid c1
      have c2H := Lib.hid c2
      have c3H := Lib.hid c3
      clear c1 c2 c3 hp he
      have hN := GeoAt.new w D Z B O A 30
      have hB0 : Below w.heap.size w (w.alloc (.cells #[.int .i64 D, .int .i64 Z, .int .i64 B, .int .i64 O, .int .i64 A] 30)) := (Below.refl _ _).alloc (Nat.le_refl _) _
      have hNH := Lib.hid hN
      have hBH := Lib.hid hB0
      clear hN hB0
      go_enter Try.func13, Try.ntmps13
      go_wp2_with fail
      (with_reducible refine (c1H.out _).mono ?_)
      rintro e w1 ⟨rfl, hb1⟩
      have hG := hNH.out.below hb1
      have hB := bmore hBH.out hb1
      clear hNH hBH hb1

      have hGH := Lib.hid hG
      have hBH := Lib.hid hB
      clear hB
      obtain ⟨h0, h1, h2, h3, h4, _⟩ := hG
      go_wp2_with fail
      (with_reducible refine (c2H.out _).mono ?_)
      rintro e w2 ⟨rfl, hb2⟩
      have hG := hGH.out.below hb2
      have hB := bmore hBH.out hb2
      clear hGH hBH hb2
      clear h0 h1 h2 h3 h4
      have hGH := Lib.hid hG
      have hBH := Lib.hid hB
      clear hB
      obtain ⟨h0, h1, h2, h3, h4, _⟩ := hG
      go_wp2_with fail
      (with_reducible refine (c3H.out _).mono ?_)
      rintro e w3 ⟨rfl, rfl⟩
      go_wp2
      refine bodyPost_ret (v := .tuple #[.int .i64 0, .int .i64 0, .bool false]) (by simp [results, Try.results13, go_sem]) rfl ⟨rfl, ?_⟩
      exact hBH.out
    · rw [Bool.not_eq_true] at he
      rw [he] at c1
      have c1H := Lib.hid c1
      clear c1 hp he hcb
      have hN := GeoAt.new w D Z B O A 30
      have hB0 : Below w.heap.size w (w.alloc (.cells #[.int .i64 D, .int .i64 Z, .int .i64 B, .int .i64 O, .int .i64 A] 30)) := (Below.refl _ _).alloc (Nat.le_refl _) _
      have hNH := Lib.hid hN
      have hBH := Lib.hid hB0
      clear hN hB0
      go_enter Try.func13, Try.ntmps13
      go_wp2_with fail
      (with_reducible refine (c1H.out _).mono ?_)
      rintro e w1 ⟨rfl, hb1⟩
      have hG := hNH.out.below hb1
      have hB := bmore hBH.out hb1
      clear hNH hBH hb1

      have hGH := Lib.hid hG
      have hBH := Lib.hid hB
      clear hB
      obtain ⟨h0, h1, h2, h3, h4, _⟩ := hG
      go_wp2
      refine bodyPost_ret (v := .tuple #[.int .i64 0, .int .i64 0, .bool false]) (by simp [results, Try.results13, go_sem]) rfl ⟨rfl, ?_⟩
      exact hBH.out
end Go.Proofs.Ytdjdldcpaidmnaa
namespace Go.Proofs.Ytdjdldcpaidmnaa
open Go.RowKit
/-- Boxes of one geometry, in a world that has only grown. -/
def Boxes (w W : World) (bs : List Nat) (D Z B O A : Int) : Prop := (∀ b ∈ bs, GeoAt W b D Z B O A) ∧ Below w.heap.size w W
theorem Boxes.below {w W W' : World} {bs : List Nat} {D Z B O A : Int} (h : Boxes w W bs D Z B O A) (hb : Below W.heap.size W W') : Boxes w W' bs D Z B O A :=
  ⟨fun b hx => (h.1 b hx).below hb, bmore h.2 hb⟩
theorem Boxes.one {w W : World} {b : Nat} {D Z B O A : Int} (h : GeoAt W b D Z B O A) (hb : Below w.heap.size w W) : Boxes w W [b] D Z B O A :=
  ⟨fun x hx => by rw [List.mem_singleton.1 hx]; exact h, hb⟩
theorem Boxes.more {w W : World} {bs : List Nat} {D Z B O A : Int} (h : Boxes w W bs D Z B O A) (t : TypeId) :
    Boxes w (W.alloc (.cells #[.int .i64 D, .int .i64 Z, .int .i64 B, .int .i64 O, .int .i64 A] t)) (W.heap.size :: bs) D Z B O A := by
  have hs := h.2.size
  refine ⟨fun x hx => ?_, h.2.alloc hs _⟩
  rcases List.mem_cons.1 hx with rfl | hx
  · exact GeoAt.new W D Z B O A t
  · exact (h.1 x hx).below ((Below.refl _ _).alloc (Nat.le_refl _) _)
theorem Boxes.two {w W : World} {b : Nat} {D Z B O A : Int} (h : GeoAt W b D Z B O A) (hb : Below w.heap.size w W) (t : TypeId) :
    Boxes w (W.alloc (.cells #[.int .i64 D, .int .i64 Z, .int .i64 B, .int .i64 O, .int .i64 A] t)) [b, W.heap.size] D Z B O A := by
  have h1 := (Boxes.one h hb).more t
  exact ⟨fun x hx => h1.1 x (by simp at hx ⊢; exact hx.symm), h1.2⟩
theorem Boxes.sub {w W : World} {bs cs : List Nat} {D Z B O A : Int} (h : Boxes w W bs D Z B O A) (hs : ∀ x ∈ cs, x ∈ bs) : Boxes w W cs D Z B O A := ⟨fun x hx => h.1 x (hs x hx), h.2⟩
end Go.Proofs.Ytdjdldcpaidmnaa
namespace Go.Proofs.Ytdjdldcpaidmnaa
open Go.RowKit Xor
/-- A block of the call's own whose first cells are words. -/
def WordsAt (w : World) (g : Nat) (f : Nat → Nat) (m : Nat) : Prop := ∀ k, k < m → w.cell? ⟨g, k, none⟩ = some (.int .u64 (f k : Int))
theorem WordsAt.below {w w' : World} {g m : Nat} {f : Nat → Nat} (h : WordsAt w g f m) {n : Nat} (hb : Below n w w') (hg : g < n) : WordsAt w' g f m := fun k hk =>
  (hb.cell (p := ⟨g, k, none⟩) hg).trans (h k hk)
/-- The k-th word of a row of bytes. -/
def wordOf (f : Nat → UInt8) (k : Nat) : Nat := pack (fun i => f (8 * k + i)) 8
theorem wordOf_lt (f : Nat → UInt8) (k : Nat) : wordOf f k < 18446744073709551616 := pack_lt8 _
def bytesV (f : Nat → UInt8) (n : Nat) : List Value := (List.range n).map fun i => .int .u8 ((f i).toNat : Int)
theorem bytesV_succ (f : Nat → UInt8) (n : Nat) : bytesV f n ++ [.int .u8 ((f n).toNat : Int)] = bytesV f (n + 1) := by
  unfold bytesV; rw [List.range_succ, List.map_append]; rfl
theorem own_next {w wr w' : World} {e : TypeId} {k : Nat} {v : Value} {xs : List Value} {o : Obj} (hB : Below w.heap.size w wr) (_ : w'.ownsRow w.heap.size e 1 v k xs) (hg : (wr.alloc o).grownBy w' (some w.heap.size)) : Below w.heap.size w w' :=
  (hB.alloc hB.size o).grown hg (by have := hB.size; simp; omega) (fun _ e => by cases e; exact Nat.le_refl _)
set_option maxRecDepth 100000 in
set_option maxHeartbeats 1000000 in
theorem text_any (f : Nat → UInt8) (g m n : Nat) (w : World) (hm : m ≤ 8192) (hn : n ≤ 8 * m) (hg : g < w.heap.size) (hW : WordsAt w g (wordOf f) m) :
    Calls Try.prog 77 #[.slice (some ⟨g, 0, none⟩) m m, .int .i64 (n : Int)] w fun e w' => e = .returned (.string (textOf f n)) ∧ Below w.heap.size w w' := by
  obtain ⟨i0, hi, hz0, hz1, hz2⟩ := info_parts infoB
  have hWH := Lib.hid hW
  clear hW
  go_enter Try.func77, Try.ntmps77
  go_wp2_with (at_make; refine wpList_make_own _ rfl _ _ 106 rfl w.heap.size 5 i0 (.int .u8 0) 1 Try.underlying106 hi hz0 hz1 _ _ _ (8 * m) rfl rfl (by omega) ?b2 ?b3 (Nat.le_refl _) ?_)
  case b2 => rw [hz2]; omega
  case b3 => unfold maxLen; omega
  intro w0 hown0 hgrow0
  go_wp2_with fail
  have hB0 : Below w.heap.size w w0 := (Below.refl _ _).grown hgrow0 (Nat.le_refl _) (fun k h => by cases h)
  clear hgrow0
  go_loopw [5, 15] (fun b i wr => ∃ k : Nat, k ≤ m ∧ i = .int .i64 (k : Int) ∧ b = .slice (some ⟨w.heap.size, 0, none⟩) (8 * k) (8 * m) ∧ wr.ownsRow w.heap.size 5 1 (.slice (some ⟨w.heap.size, 0, none⟩) (8 * k) (8 * m)) (8 * k) (bytesV f (8 * k)) ∧ Below w.heap.size w wr) (fun _ i _ => m - (intOf i).toNat)
  case atStart => exact ⟨0, Nat.zero_le _, rfl, rfl, hown0, hB0⟩
  case round =>
    clear hown0 hB0
    obtain ⟨k, hk, rfl, rfl, hown, hB⟩ := hrel
    have hownH := Lib.hid hown
    have hBH := Lib.hid hB
    clear hown
    by_cases hlt : k < m
    · have hc := hWH.out.below hB hg k hlt
      have hwl := wordOf_lt f k
      have hbyte : ∀ i, i < 8 → wordOf f k / 256 ^ i % 256 = (f (8 * k + i)).toNat := fun i hi => pack_byte i 8 (fun i => f (8 * k + i)) hi
      have hbyH := Lib.hid hbyte
      clear hbyte hB
      generalize wordOf f k = x at hc hwl hbyH
      go_wp2_with fail
      go_loopw [5, 19] (fun b i wr => ∃ j : Nat, j ≤ 8 ∧ i = .int .i64 (j : Int) ∧ b = .slice (some ⟨w.heap.size, 0, none⟩) (8 * k + j) (8 * m) ∧ wr.ownsRow w.heap.size 5 1 (.slice (some ⟨w.heap.size, 0, none⟩) (8 * k + j) (8 * m)) (8 * k + j) (bytesV f (8 * k + j)) ∧ Below w.heap.size w wr) (fun _ i _ => 8 - (intOf i).toNat)
      case atStart => exact ⟨0, Nat.zero_le _, rfl, rfl, hownH.out, hBH.out⟩
      case round =>
        clear hc hownH hBH
        obtain ⟨j, hj, rfl, rfl, hown, hB⟩ := hrel
        have hBH := Lib.hid hB
        have hsz := hB.size
        clear hB
        by_cases hlj : j < 8
        · obtain ⟨d, hd⟩ : ∃ d : Nat, (f (8 * k + j)).toNat = d := ⟨_, rfl⟩
          have hx : (x : Int) / 2 ^ (8 * j) % 256 = (d : Int) := by
            have h1 := hbyH.out j hlj
            rw [hd, (pow256 j hlj).1] at h1
            rw [← h1]; simp
          have hdH := Lib.hid hd
          clear hd
          go_wp2_with (at_builtin; refine wpList_append_fits _ rfl (.tmp 22) (.tmp 28) 106 rfl w.heap.size 5 i0 1 Try.underlying106 hi hz1 w.heap.size (8 * k + j) (8 * m) _ rfl (hown.alloc _) ⟨wr.heap.size, 0, none⟩ 1 1 [.int .u8 (d : Int)] rfl rfl (cell_one_new _ _ _) (by simp [Value.oneCell']) (by omega) ?_; intro w' hown' hgrow; have hnext := Lib.hid (own_next hBH.out hown' hgrow))
          clear hx
          go_roundw
          case rel => exact ⟨j + 1, by omega, by go_num, rfl, by rw [← Nat.add_assoc, ← bytesV_succ, hdH.out]; exact hown', hnext.out⟩
          case measure => simp [intOf]; omega
        · obtain rfl : j = 8 := by omega
          go_wp2
          go_roundw
          case rel => exact ⟨k + 1, by omega, by go_num, by rw [Nat.mul_add], by rw [Nat.mul_add]; exact hown, hBH.out⟩
          case measure => simp [intOf]; omega
    · obtain rfl : k = m := by omega
      have hBy : BytesAt wr w.heap.size ((List.range n).map f) := fun i hi => by
        have hi' : i < n := by simpa using hi
        have h1 := (hownH.out.cells (g := w.heap.size) rfl) i (.int .u8 ((f i).toNat : Int)) (by
          unfold bytesV
          rw [List.getElem?_map, List.getElem?_range (by omega)]; rfl)
        have h2 : (⟨w.heap.size, 0, none⟩ : Addr).add i = ⟨w.heap.size, i, none⟩ := by unfold Addr.add; split <;> simp_all
        rw [h2] at h1
        rw [h1]; simp
      have hcb := back hBy (show ((List.range n).map f).length = n by simp) (cap := 8 * k) Try.underlying106 Try.underlying5 Try.underlying9
      clear hBy hB
      have hn8 : (n : Int) ≤ 8 * (k : Int) := by omega
      go_wp2
      go_ret
      exact ⟨rfl, hBH.out⟩
/-- The sum, by words: of the first j words the newer row, of the others the elder one. -/
def mixW (X Y : Nat → UInt8) (j k : Nat) : Nat := if k < j then wordOf Y k else wordOf X k
structure SumAt (w W : World) (g : Nat) (F : Nat → Nat) (M : Nat) : Prop where
  words : WordsAt W g F M
  free : ∀ k, k < M → W.frozen? ⟨g, k, none⟩ = false
  below : Below w.heap.size w W
  own : w.heap.size ≤ g
  lt : g < W.heap.size
theorem SumAt.step {w W : World} {g M j : Nat} {X Y : Nat → UInt8} (h : SumAt w W g (mixW X Y j) M) (hj : j < M) {v : Int} (hv : v = (wordOf Y j : Int)) : SumAt w (W.setCell ⟨g, j, none⟩ (.int .u64 v)) g (mixW X Y (j + 1)) M := by
  subst hv
  refine ⟨fun k hk => ?_, fun k hk => by rw [World.frozen?_setCell]; exact h.free k hk, h.below.setCell (by exact h.own) _, h.own, by simpa using h.lt⟩
  by_cases e : j = k
  · subst e
    rw [World.cell?_setCell_same' _ _ _ (by rw [h.words j hj]; rfl)]
    unfold mixW; rw [if_pos (by omega)]
  · rw [World.cell?_setCell_other _ _ _ _ (by intro e'; injection e' with _ e'; omega), h.words k hk]
    unfold mixW
    by_cases hk' : k < j
    · rw [if_pos hk', if_pos (by omega)]
    · rw [if_neg hk', if_neg (by omega)]
theorem SumAt.congr {w W : World} {g M : Nat} {F G : Nat → Nat} (h : SumAt w W g F M) (hFG : ∀ k, k < M → F k = G k) : SumAt w W g G M :=
  ⟨fun k hk => by rw [← hFG k hk]; exact h.words k hk, h.free, h.below, h.own, h.lt⟩
theorem SumAt.drew {w W : World} {g M : Nat} {F : Nat → Nat} (h : SumAt w W g F M) : SumAt w W.drew g F M := ⟨h.words, h.free, h.below.drew, h.own, h.lt⟩
theorem wordOf_zero (k : Nat) : wordOf (fun _ => 0) k = 0 := rfl
theorem wrap_small64 {x : Int} (h : -9223372036854775808 ≤ x ∧ x ≤ 9223372036854775807) : IntKind.i64.wrap x = x := by
  rw [IntKind.wrap_i64]; omega
theorem infoW : (Try.prog.info? 132).map (fun i => (i.zero, i.size, i.bytes)) = some (some (.int .u64 0), 1, 8) := by kernel_rfl
set_option maxRecDepth 100000 in
set_option maxHeartbeats 1000000 in
theorem fold_any (A : Option Addr) (cap : Nat) (ps : List ByteArray) (w : World) (hl : ps.length ≤ 1000000) (hL : longest ps ≤ 65536) (hS : StrsIn w A ps) :
    Calls Try.prog 64 #[.slice A ps.length cap] w fun e w' => e = .returned (.string (foldS ps)) ∧ Below w.heap.size w w' := by
  have hSH := Lib.hid hS
  have hLH := Lib.hid (fun p (hp : p ∈ ps) => Nat.le_trans (longest_ge hp) hL)
  have hLL := Lib.hid hL
  clear hS hL
  go_enter Try.func64, Try.ntmps64
  go_wp2_with fail
  go_loop [3, 12] (fun n i => ∃ k : Nat, k ≤ ps.length ∧ i = .int .i64 (k : Int) ∧ n = .int .i64 ((longest (ps.take k) : Nat) : Int)) (fun _ i => ps.length - (intOf i).toNat)
  case atStart => exact ⟨0, Nat.zero_le _, rfl, rfl⟩
  case round =>
    obtain ⟨k, hk, rfl, rfl⟩ := hrel
    by_cases hlt : k < ps.length
    · obtain ⟨b, off, rfl, _, hc⟩ := hSH.out.at_ hlt
      have hp := hLH.out ps[k] (List.getElem_mem _)
      have hsn : longest (ps.take (k + 1)) = max (longest (ps.take k)) ps[k].size := by rw [List.take_succ_eq_append_getElem hlt, longest_snoc]
      have hlk : longest (ps.take k) ≤ 65536 := longest_le fun p hp => hLH.out p (List.mem_of_mem_take hp)
      generalize ps[k] = p at hc hp hsn
      have hsnH := Lib.hid hsn
      clear hsn
      generalize longest (ps.take k) = n at hsnH hlk ⊢
      rcases Nat.lt_or_ge n p.size with hx | hx
      all_goals
        go_wp2
        go_round
        case rel => exact ⟨k + 1, by omega, by go_num, by rw [hsnH.out]; go_num⟩
        case measure => simp [intOf]; omega
    · obtain rfl : k = ps.length := by omega
      rw [List.take_length]
      have hL := hLL.out
      obtain ⟨L, hLe⟩ : ∃ L, longest ps = L := ⟨_, rfl⟩
      rw [hLe] at hL ⊢
      have hLeH := Lib.hid hLe
      clear hLe
      obtain ⟨M, hM⟩ : ∃ M : Nat, M = (L + 7) / 8 := ⟨_, rfl⟩
      have hMe : ((L : Int) + 8 - 1) / 8 = (M : Int) := by omega
      have hMH := Lib.hid hM
      have hMb : M ≤ 8192 := by omega
      obtain ⟨i0, hi, hz0, hz1, hz2⟩ := info_parts infoW
      have hmk := fun W => run_make_m (P := Try.prog) 131 132 i0 (.int .u64 0) Try.underlying131 hi hz0 .i64 .i64 M M (Nat.le_refl _) (by rw [hz2]; omega) (by omega) W
      rw [hz1] at hmk
      clear hi hz0 hz1 hz2 hM
      go_wp2_with fail
      clear hmk hMe
      refine fresh_world (fun W => SumAt w W w.heap.size (wordOf fun _ => 0) M) ?_ ?_
      · refine ⟨fun k hk => ?_, fun k _ => made_free w 132 (.int .u64 0) M k, (Below.refl _ _).alloc (Nat.le_refl _) _, Nat.le_refl _, by simp⟩
        rw [made_noughts w 132 (.int .u64 0) M k hk, wordOf_zero]; rfl
      intro W2 hA0
      obtain ⟨g, hg⟩ : ∃ g, g = w.heap.size := ⟨_, rfl⟩
      rw [← hg] at hA0
      have hgH := Lib.hid hg
      rw [← hg]
      clear hg
      go_loopw [28] (fun i wr => ∃ k : Nat, k ≤ ps.length ∧ i = .int .i64 (k : Int) ∧ SumAt w wr g (wordOf (xorAt (ps.take k))) M) (fun i _ => ps.length - (intOf i).toNat)
      case atStart => exact ⟨0, Nat.zero_le _, rfl, hA0⟩
      case round =>
        clear hA0
        obtain ⟨k, hk, rfl, hA⟩ := hrel
        have hAH := Lib.hid hA
        by_cases hlt : k < ps.length
        · obtain ⟨b, off, rfl, hltb, hc0⟩ := hSH.out.at_ hlt
          have hc := (hA.below.cell (p := ⟨b, off + k, none⟩) hltb).trans hc0
          have hp := hLH.out ps[k] (List.getElem_mem _)
          have hpL := longest_ge (List.getElem_mem hlt)
          rw [hLeH.out] at hpL
          have hsn : ∀ i, xorAt (ps.take (k + 1)) i = xorAt (ps.take k) i ^^^ byteAt ps[k] i := fun i => by rw [List.take_succ_eq_append_getElem hlt, xorAt_snoc]
          generalize ps[k] = p at hc hc0 hp hpL hsn
          have hsnH := Lib.hid hsn
          obtain ⟨X, hX⟩ : ∃ X, xorAt (ps.take k) = X := ⟨_, rfl⟩
          rw [hX] at hsnH hAH
          clear hsn hA hc0 hX
          go_wp2_with fail
          go_loopw [9] (fun i wr => ∃ j : Nat, 8 * j ≤ p.size + 7 ∧ i = .int .i64 (8 * (j : Int)) ∧ SumAt w wr g (mixW X (fun i => X i ^^^ byteAt p i) j) M) (fun i _ => (p.size + 8 - (intOf i).toNat))
          case atStart => exact ⟨0, by omega, rfl, hAH.out⟩
          case round =>
            clear hc hAH
            obtain ⟨j, hj, rfl, hA⟩ := hrel
            by_cases hlj : 8 * j < p.size
            · have hjM : j < M := by have := hMH.out; omega
              have hc := hA.words j hjM
              have hf := hA.free j hjM
              have hmx : mixW X (fun i => X i ^^^ byteAt p i) j j = wordOf X j := by unfold mixW; rw [if_neg (by omega)]
              rw [hmx] at hc
              have hw := fun W => word_any (p.extract (8 * j) p.size) W (by unfold maxLen; rw [ByteArray.size_extract]; omega)
              have hwe : pack (byteAt (p.extract (8 * j) p.size)) 8 = wordOf (byteAt p) j := pack_congr 8 _ _ fun i _ => byteAt_extract p (8 * j) i
              rw [hwe] at hw
              have hxo : bits .xor .u64 ((wordOf X j : Nat) : Int) ((wordOf (byteAt p) j : Nat) : Int) = ((wordOf (fun i => X i ^^^ byteAt p i) j : Nat) : Int) := by
                rw [u64_xor_nat _ _ (wordOf_lt _ _) (wordOf_lt _ _)]
                unfold wordOf; rw [pack_xor]
              have hwH := Lib.hid hw
              have hxoH := Lib.hid hxo
              have hAH := Lib.hid hA
              have b1 := wordOf_lt X j
              have b2 := wordOf_lt (byteAt p) j
              clear hw hwe hxo hA hmx
              generalize wordOf X j = x at hc hxoH b1
              generalize wordOf (byteAt p) j = y at hwH hxoH b2
              have hb1H := Lib.hid b1
              have hb2H := Lib.hid b2
              clear b1 b2
              go_wp2_with fail
              have e1 : IntKind.i64.wrap (j : Int) = (j : Int) := wrap_small64 (by omega)
              have e2 : (j : Int) < (M : Int) := by omega
              have e3 : 8 * (j : Int) ≤ (p.size : Int) := by omega
              have e4 : 0 ≤ 8 * (j : Int) := by omega
              have e5 : (8 * (j : Int)).toNat = 8 * j := by omega
              go_still_tail 11, (by kernel_rfl)
              still_call ((hwH.out _).mono fun _ _ ⟨h1, h2⟩ => ⟨h1, h2.symm⟩)
              repeat still_step
              refine wpStill_nil ?_
              change wpList _ _ _ _ _ wr.drew
              have hd := hAH.out.drew
              have hcd := hd.words j hjM
              have hfd := hd.free j hjM
              clear e1 e2 e3 e4 e5 hc hf hd
              have hAd := Lib.hid hAH.out.drew
              clear hAH
              generalize wr.drew = w5 at hcd hfd hAd ⊢

              go_wp2
              go_roundw
              case rel => exact ⟨j + 1, by omega, by go_num, hAd.out.step hjM hxoH.out⟩
              case measure => simp [intOf]; omega
            · have hmix : SumAt w wr g (wordOf (xorAt (ps.take (k + 1)))) M := hA.congr fun i _ => by
                unfold mixW wordOf
                split
                · exact pack_congr 8 _ _ fun t _ => (hsnH.out _).symm
                · refine pack_congr 8 _ _ fun t _ => ?_
                  rw [hsnH.out, byteAt_ge (by omega), UInt8.xor_zero]
              have hmH := Lib.hid hmix
              clear hA hmix
              go_wp2
              go_roundw
              case rel => exact ⟨k + 1, by omega, by go_num, hmH.out⟩
              case measure => simp [intOf]; omega
        · obtain rfl : k = ps.length := by omega
          rw [List.take_length] at hA
          have ht := text_any (xorAt ps) g M L wr hMb (by have := hMH.out; omega) (hA.lt) hA.words
          rw [show textOf (xorAt ps) L = foldS ps by unfold foldS; rw [hLeH.out]] at ht
          have htH := Lib.hid ht
          have hbH := Lib.hid hA.below
          clear hA ht hAH
          go_wp2_with fail
          (with_reducible refine htH.out.mono ?_)
          rintro e w5 ⟨rfl, hb5⟩
          go_wp2
          go_ret
          exact ⟨rfl, bmore hbH.out hb5⟩
end Go.Proofs.Ytdjdldcpaidmnaa
namespace Go.Proofs.Ytdjdldcpaidmnaa
open Go.RowKit Xor
theorem size_fold_le {ps : List ByteArray} {n : Nat} (h : ∀ p ∈ ps, p.size ≤ n) : (foldS ps).size ≤ n := by rw [size_foldS]; exact longest_le h
theorem strs_two {W : World} {a b : ByteArray} (t : TypeId) : StrsIn (W.alloc (.cells #[.string a, .string b] t)) (some ⟨W.heap.size, 0, none⟩) [a, b] := .inr ⟨W.heap.size, 0, rfl, by simp, fun i hi => by
  match i, hi with
  | 0, _ => go_simp
  | 1, _ => go_simp⟩
theorem longest_two {a b : ByteArray} {n : Nat} (ha : a.size ≤ n) (hb : b.size ≤ n) : longest [a, b] ≤ n := longest_le fun p hp => by
  rcases List.mem_cons.1 hp with rfl | hp
  · exact ha
  · obtain rfl := List.mem_singleton.1 hp; exact hb
theorem xadd_any (a b : ByteArray) (w : World) (ha : a.size ≤ 65536) (hb : b.size ≤ 65536) :
    Calls Try.prog 62 #[.string a, .string b] w fun e w' => e = .returned (.string (foldS [a, b])) ∧ Below w.heap.size w w' := by
  have hf := fun W (h : StrsIn W (some ⟨w.heap.size, 0, none⟩) [a, b]) => (show Calls Try.prog 64 #[.slice (some ⟨w.heap.size, 0, none⟩) 2 2] W fun e w' => e = .returned (.string (foldS [a, b])) ∧ Below W.heap.size W w' from fold_any (some ⟨w.heap.size, 0, none⟩) 2 [a, b] W (by simp) (longest_two ha hb) h)
  have hf1 := Lib.hid (hf _ (strs_two (W := w) 9))
  clear hf
  go_enter Try.func62, Try.ntmps62
  go_wp2_with fail
  (with_reducible refine hf1.out.mono ?_)
  rintro e w1 ⟨rfl, hb1⟩
  go_wp2
  go_ret
  exact ⟨rfl, ((Below.refl _ _).alloc (Nat.le_refl _) _).trans (hb1.mono (by simp))⟩
theorem xorAt_two (a b : ByteArray) (i : Nat) : xorAt [a, b] i = byteAt a i ^^^ byteAt b i := by
  show byteAt a i ^^^ (byteAt b i ^^^ 0) = _
  rw [UInt8.xor_zero]
theorem size_two (a b : ByteArray) : (foldS [a, b]).size = max a.size b.size := by
  rw [size_foldS]
  show max a.size (max b.size 0) = _
  omega
theorem fold_comm (a b : ByteArray) : foldS [a, b] = foldS [b, a] := by
  refine text_ext (by rw [size_two, size_two]; omega) fun i _ => ?_
  rw [byteAt_foldS, byteAt_foldS, xorAt_two, xorAt_two, UInt8.xor_comm]
theorem emptyB_mk {s : ByteArray} (h : ∀ i, i < s.size → byteAt s i = 0) : emptyB s = true := decide_eq_true h
theorem self_empty (a : ByteArray) : emptyB (foldS [a, a]) = true := emptyB_mk fun i _ => by rw [byteAt_foldS, xorAt_two, UInt8.xor_self]
theorem foldS_snoc (ps : List ByteArray) (p : ByteArray) : foldS [foldS ps, p] = foldS (ps ++ [p]) := by
  refine text_ext (by rw [size_two, size_foldS, size_foldS, longest_snoc]) fun i _ => ?_
  rw [byteAt_foldS, byteAt_foldS, xorAt_two, byteAt_foldS, xorAt_snoc]
end Go.Proofs.Ytdjdldcpaidmnaa
