/- What comes next in a rebuilding. -/
import Derived.Test.YtdjdldcpaidmnaaNBn
import Derived.Lib.MinMax
import Derived.Shelf.GgClosure.Gives
namespace Go.Proofs.Ytdjdldcpaidmnaa
open Go.RowKit Rec Bk

theorem next1_any (z : Zo) (ph : Int) (W : World) (c : Nat) (hc : W.cell? ⟨c, 0, none⟩ = some (.int .i64 ph)) :
    Calls Try.prog 59 #[.agg #[.int .i64 z.p, .int .i64 z.g, .int .i64 z.s], .pointer (some ⟨c, 0, none⟩)] W fun e w' => e = .returned (.bool (z.p == ph)) ∧ Below W.heap.size W w' := by
  have hl := lt_of_cell hc
  have hne : ¬ c = W.heap.size := by omega
  go_enter Try.func59, Try.ntmps59
  go_wp2
  go_ret
  exact ⟨rfl, (Below.refl _ _).alloc (Nat.le_refl _) _⟩
/-- The first zone that lies in a physical one. -/
def FirstZ (zs : List Zo) (ph i : Int) : Prop := (i = -1 ∧ ∀ z ∈ zs, z.p ≠ ph) ∨ ∃ k : Nat, i = (k : Int) ∧ ∃ h : k < zs.length, zs[k].p = ph ∧ ∀ j (hj : j < zs.length), j < k → zs[j].p ≠ ph
def NixPost (W : World) (zs : List Zo) (ph : Int) (e : Ending) (w' : World) : Prop := ∃ i : Int, e = .returned (.int .i64 i) ∧ FirstZ zs ph i ∧ Below W.heap.size W w'
set_option maxRecDepth 100000 in
set_option maxHeartbeats 1000000 in
theorem nindex_any (W : World) (A : Option Addr) (cap : Nat) (zs : List Zo) (ph : Int) (c : Nat) (hI : zoE.In W A zs) (hl : zs.length ≤ 64) (hc : W.cell? ⟨c, 0, none⟩ = some (.int .i64 ph)) :
    Calls Try.prog 58 #[.slice A zs.length cap, .func (.func 59) #[] #[.pointer (some ⟨c, 0, none⟩)]] W (NixPost W zs ph) := by
  have hcl := lt_of_cell hc
  have hIH := Lib.hid (fun W' (hb : Below W.heap.size W W') => hI.below hb)
  have hcH := Lib.hid (fun W' (hb : Below W.heap.size W W') => (hb.cell (p := ⟨c, 0, none⟩) hcl).trans hc)
  have h1 := Lib.hid (fun z W' hc' => next1_any z ph W' c hc')
  have eg : ∀ args w, (callFunc 59 args).run Try.prog w = .ok (.enter 59 args) w := enters_of Try.func59 (by kernel_rfl) rfl
  obtain ⟨n, hn⟩ : ∃ n, zs.length = n := ⟨_, rfl⟩
  rw [hn] at hl
  rw [hn]
  have hnH := Lib.hid hn
  clear hI hc hn
  go_enter Try.func58, Try.ntmps58
  go_wp2_with fail
  go_loopw [8] (fun i wr => ∃ k : Nat, k ≤ n ∧ i = .int .i64 (k : Int) ∧ Hid (∀ j (hj : j < zs.length), j < k → zs[j].p ≠ ph) ∧ Hid (Below W.heap.size W wr)) (fun i _ => n - (intOf i).toNat)
  case atStart => exact ⟨0, Nat.zero_le _, rfl, Lib.hid (fun j hj h => absurd h (Nat.not_lt_zero _)), Lib.hid (Below.refl _ _)⟩
  case round =>
    obtain ⟨k, hk, rfl, hno, hB⟩ := hrel
    by_cases hlt : k < n
    case pos =>
      have hkl : k < zs.length := by rw [hnH.out]; exact hlt
      obtain ⟨b, off, rfl, _, z0, z1, z2⟩ := zo_at (hIH.out _ hB.out) hkl
      have h1k := Lib.hid (h1.out zs[k] wr (hcH.out _ hB.out))
      have hkw : IntKind.i64.wrap ((k : Int) + 1) = (k : Int) + 1 := IntWalk.i64_in _ (by omega)
      have hyes : Hid (zs[k].p = ph → FirstZ zs ph (k : Int)) := Lib.hid (fun e => .inr ⟨k, rfl, hkl, e, hno.out⟩)
      have hnx : Hid (zs[k].p ≠ ph → ∀ j (hj : j < zs.length), j < k + 1 → zs[j].p ≠ ph) := Lib.hid (fun e j hj hjk => by
        by_cases e2 : j = k
        · subst e2; exact e
        · exact hno.out j hj (by omega))
      clear hno h1
      generalize zs[k] = z at z0 z1 z2 h1k hyes hnx
      obtain ⟨r, hr⟩ : ∃ r, (z.p == ph) = r := ⟨_, rfl⟩
      rw [hr] at h1k
      have hrH := Lib.hid hr
      clear hr
      cases r with
      | true =>
        have hf : Hid (FirstZ zs ph (k : Int)) := Lib.hid (hyes.out (by simpa using hrH.out))
        clear hrH hyes hnx
        go_wp2_with (go_at_fn 59; refine h1k.out.mono ?_; rintro e w1 ⟨rfl, hb1⟩)
        go_ret
        exact ⟨(k : Int), rfl, hf.out, bmore hB.out hb1⟩
      | false =>
        have hf : Hid (∀ j (hj : j < zs.length), j < k + 1 → zs[j].p ≠ ph) := Lib.hid (hnx.out (by simpa using hrH.out))
        clear hrH hyes hnx
        go_wp2_with (go_at_fn 59; refine h1k.out.mono ?_; rintro e w1 ⟨rfl, hb1⟩)
        go_roundw
        case rel => exact ⟨k + 1, hlt, by go_num, hf, Lib.hid (bmore hB.out hb1)⟩
        case measure => simp only [intOf]; omega
    case neg =>
      have hke : k = n := by omega
      have hf : Hid (FirstZ zs ph (-1)) := Lib.hid (.inl ⟨rfl, fun z hz => by
        obtain ⟨j, hj, rfl⟩ := List.getElem_of_mem hz
        exact hno.out j hj (by rw [hke, ← hnH.out]; exact hj)⟩)
      clear hno hke
      go_wp2_with fail
      go_ret
      exact ⟨-1, rfl, hf.out, hB.out⟩
theorem isreb_any (A1 : Option Addr) (c1 : Nat) (A2 : Option Addr) (c2 : Nat) (b : Bo) (w : World) :
    Calls Try.prog 55 #[.agg #[.int .i64 b.q, .slice A1 b.zs.length c1, .slice A2 b.ms.length c2, .int .i64 b.sl, .int .i64 b.cu]] w fun e w' => e = .returned (.bool (decide (0 ≤ b.sl))) ∧ Below w.heap.size w w' := by
  go_enter Try.func55, Try.ntmps55
  go_wp2
  go_ret
  exact ⟨rfl, (Below.refl _ _).alloc (Nat.le_refl _) _⟩
/-- What Next answers. -/
def NextR (b : Bo) (Z p i : Int) (t : Bool) : Prop := (t = true ∧ 0 ≤ b.sl ∧ b.cu < Z ∧ p = max b.cu 2 ∧ FirstZ b.zs p i) ∨ (t = false ∧ p = 0 ∧ i = 0 ∧ (b.sl < 0 ∨ Z ≤ b.cu))
def NextPost (w : World) (b : Bo) (Z : Int) (e : Ending) (w' : World) : Prop := ∃ (p i : Int) (t : Bool), e = .returned (.tuple #[.int .i64 p, .int .i64 i, .bool t]) ∧ NextR b Z p i t ∧ Below w.heap.size w w'
set_option maxRecDepth 100000 in
set_option maxHeartbeats 2000000 in
theorem next_any16 (D Z B O A : Int) (A1 : Option Addr) (c1 : Nat) (A2 : Option Addr) (c2 : Nat) (b : Bo) (w : World) (h : BkIn w A1 c1 A2 c2 b) (hl : b.zs.length ≤ 64) :
    Calls Try.prog 22 #[.agg #[.int .i64 D, .int .i64 Z, .int .i64 B, .int .i64 O, .int .i64 A], .agg #[.int .i64 b.q, .slice A1 b.zs.length c1, .slice A2 b.ms.length c2, .int .i64 b.sl, .int .i64 b.cu]] w (NextPost w b Z) := by
  have hIH := Lib.hid (fun W (hb : Below w.heap.size w W) => h.z.below hb)
  have hN : GeoAt ((w.alloc (.cells #[.int .i64 D, .int .i64 Z, .int .i64 B, .int .i64 O, .int .i64 A] 30)).alloc (.cells #[.int .i64 b.q, .slice A1 b.zs.length c1, .slice A2 b.ms.length c2, .int .i64 b.sl, .int .i64 b.cu] 58)) w.heap.size D Z B O A ∧ BkAt ((w.alloc (.cells #[.int .i64 D, .int .i64 Z, .int .i64 B, .int .i64 O, .int .i64 A] 30)).alloc (.cells #[.int .i64 b.q, .slice A1 b.zs.length c1, .slice A2 b.ms.length c2, .int .i64 b.sl, .int .i64 b.cu] 58)) (w.heap.size + 1) A1 c1 A2 c2 b ∧ Below w.heap.size w ((w.alloc (.cells #[.int .i64 D, .int .i64 Z, .int .i64 B, .int .i64 O, .int .i64 A] 30)).alloc (.cells #[.int .i64 b.q, .slice A1 b.zs.length c1, .slice A2 b.ms.length c2, .int .i64 b.sl, .int .i64 b.cu] 58)) := by
    have s1 := World.size_alloc w (.cells #[.int .i64 D, .int .i64 Z, .int .i64 B, .int .i64 O, .int .i64 A] 30)
    have g1 := GeoAt.new w D Z B O A 30
    have b1 := (Below.refl w.heap.size w).alloc (Nat.le_refl _) (.cells #[.int .i64 D, .int .i64 Z, .int .i64 B, .int .i64 O, .int .i64 A] 30)
    generalize w.alloc (.cells #[.int .i64 D, .int .i64 Z, .int .i64 B, .int .i64 O, .int .i64 A] 30) = W1 at s1 g1 b1 ⊢
    have k2 := BkAt.new W1 A1 c1 A2 c2 b 58
    have a2 := (Below.refl W1.heap.size W1).alloc (Nat.le_refl _) (.cells #[.int .i64 b.q, .slice A1 b.zs.length c1, .slice A2 b.ms.length c2, .int .i64 b.sl, .int .i64 b.cu] 58)
    rw [s1] at k2
    exact ⟨g1.below a2, k2, bmore b1 a2⟩
  have hNH := Lib.hid hN
  have hir := Lib.hid (fun W => isreb_any A1 c1 A2 c2 b W)
  have hno : Hid ((b.sl < 0 ∨ Z ≤ b.cu) → NextR b Z 0 0 false) := Lib.hid (fun h => .inr ⟨rfl, rfl, rfl, h⟩)
  have hyes : Hid (0 ≤ b.sl → b.cu < Z → ∀ i, FirstZ b.zs (max b.cu 2) i → NextR b Z (max b.cu 2) i true) := Lib.hid (fun h1 h2 i h3 => .inl ⟨rfl, h1, h2, rfl, h3⟩)
  have hix := Lib.hid (fun W ph c (hb : Below w.heap.size w W) hc => nindex_any W A1 c1 b.zs ph c (hIH.out W hb) hl hc)
  clear h hN
  go_enter Try.func22, Try.ntmps22
  go_upto_region 1 with fail
  refine fresh_world (fun W => GeoAt W w.heap.size D Z B O A ∧ BkAt W (w.heap.size + 1) A1 c1 A2 c2 b ∧ Below w.heap.size w W) hNH.out ?_
  clear hNH
  rintro W1 ⟨h1, h2, h3⟩
  obtain ⟨k0, k1, k2, k3, k4, kf⟩ := h2
  have h1H := Lib.hid h1
  have h2H := Lib.hid (⟨k0, k1, k2, k3, k4, kf⟩ : BkAt W1 (w.heap.size + 1) A1 c1 A2 c2 b)
  have h3H := Lib.hid h3
  clear h1 h3 kf
  by_cases e1 : 0 ≤ b.sl
  case neg =>
    have hF := Lib.hid (hno.out (.inl (by omega)))
    have ed : decide (0 ≤ b.sl) = false := decide_eq_false e1
    rw [ed] at hir
    clear hno hyes hix ed
    go_wp2_with fail
    (with_reducible refine (hir.out _).mono ?_)
    rintro e w1 ⟨rfl, hb1⟩
    have hB := Lib.hid (bmore h3H.out hb1)
    clear h1H h2H h3H hb1 k0 k1 k2 k3 k4
    go_wp2_with fail
    go_ret3
    exact ⟨0, 0, false, rfl, hF.out, hB.out⟩
  case pos =>
    have ed : decide (0 ≤ b.sl) = true := decide_eq_true e1
    rw [ed] at hir
    clear ed
    go_wp2_with fail
    (with_reducible refine (hir.out _).mono ?_)
    rintro e w1 ⟨rfl, hb1⟩
    have h1 := h1H.out.below hb1
    have h2 := h2H.out.below hb1
    have h3 := bmore h3H.out hb1
    clear h1H h2H h3H hb1 k0 k1 k2 k3 k4 hir
    obtain ⟨g0, g1, g2, g3, g4, _⟩ := h1
    obtain ⟨k0, k1, k2, k3, k4, _⟩ := h2
    have h3H := Lib.hid h3
    have hk1H := Lib.hid (fun W (hb : Below w1.heap.size w1 W) => (hb.cell (lt_of_cell k1)).trans k1)
    clear h3
    by_cases e2 : Z ≤ b.cu
    · have hF := Lib.hid (hno.out (.inr e2))
      clear hno hyes hix
      go_wp2_with fail
      go_ret3
      exact ⟨0, 0, false, rfl, hF.out, h3H.out⟩
    · have hF := Lib.hid (hyes.out e1 (by omega))
      have e3 : b.cu < Z := by omega
      clear hno hyes
      have hs := lt_of_cell k1
      go_upto_region 4 with fail
      clear g0 g1 g2 g3 g4 k0 k2 k3 k4
      generalize hmx : max b.cu 2 = mx at hF
      have hW5 : (w1.alloc (.cells #[.int .i64 mx] 3)).cell? ⟨w1.heap.size, 0, none⟩ = some (.int .i64 mx) ∧ (w1.alloc (.cells #[.int .i64 mx] 3)).cell? ⟨w.heap.size + 1, 1, none⟩ = some (.slice A1 b.zs.length c1) ∧ Below w.heap.size w (w1.alloc (.cells #[.int .i64 mx] 3)) := by
        have ba := (Below.refl w1.heap.size w1).alloc (Nat.le_refl _) (.cells #[.int .i64 mx] 3)
        exact ⟨by simp [go_sem], hk1H.out _ ba, bmore h3H.out ba⟩
      have hWH := Lib.hid hW5
      clear hW5 h3H hk1H k1 hs hmx
      generalize w1.heap.size = sx at hWH ⊢
      refine fresh_world (fun W => W.cell? ⟨sx, 0, none⟩ = some (.int .i64 mx) ∧ W.cell? ⟨w.heap.size + 1, 1, none⟩ = some (.slice A1 b.zs.length c1) ∧ Below w.heap.size w W) hWH.out ?_
      clear hWH
      rintro W5 ⟨x0, x1, x2⟩
      have hcall := Lib.hid (hix.out W5 mx sx x2 x0)
      have hx0 := Lib.hid (fun W (hb : Below W5.heap.size W5 W) => (hb.cell (lt_of_cell x0)).trans x0)
      have x2H := Lib.hid x2
      clear hix x0 x2
      go_wp2_with fail
      (with_reducible refine hcall.out.mono ?_)
      rintro e w6 ⟨i, rfl, hf, hb6⟩
      have y0 := hx0.out w6 hb6
      have hR := Lib.hid (hF.out i hf)
      have hB := Lib.hid (bmore x2H.out hb6)
      clear hcall hx0 x2H x1 hF hf hb6
      go_wp2_with fail
      go_ret3
      exact ⟨mx, i, true, rfl, hR.out, hB.out⟩
end Go.Proofs.Ytdjdldcpaidmnaa
