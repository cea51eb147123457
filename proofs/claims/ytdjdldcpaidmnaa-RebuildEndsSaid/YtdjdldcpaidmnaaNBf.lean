/- What Free does. -/
import Derived.Test.YtdjdldcpaidmnaaNBm
import Derived.Test.YtdjdldcpaidmnaaNBn
import Derived.IntWalk
import Derived.LoopTactic
import Derived.Shelf.GgClosure.Gives
namespace Go.Proofs.Ytdjdldcpaidmnaa
open Go.RowKit Rec Bk
theorem free1_any (z : Zo) (ph : Int) (W : World) (c : Nat) (hc : W.cell? ⟨c, 0, none⟩ = some (.int .i64 ph)) :
    Calls Try.prog 54 #[.agg #[.int .i64 z.p, .int .i64 z.g, .int .i64 z.s], .pointer (some ⟨c, 0, none⟩)] W fun e w' => e = .returned (.bool (z.p == ph)) ∧ Below W.heap.size W w' := by
  have hl := lt_of_cell hc
  have hne : ¬ c = W.heap.size := by omega
  go_enter Try.func54, Try.ntmps54
  go_wp2
  go_ret
  exact ⟨rfl, (Below.refl _ _).alloc (Nat.le_refl _) _⟩
def IdxPost (W : World) (t : Bool) (e : Ending) (w' : World) : Prop := ∃ i : Int, e = .returned (.int .i64 i) ∧ decide (0 ≤ i) = t ∧ Below W.heap.size W w'
theorem hasZ_take {zs : List Zo} {k : Nat} (h : k < zs.length) (ph : Int) : hasZ (zs.take (k + 1)) ph = (hasZ (zs.take k) ph || (zs[k].p == ph)) := by
  unfold hasZ; rw [List.take_succ_eq_append_getElem h, List.any_append]; simp
set_option maxRecDepth 100000 in
set_option maxHeartbeats 1000000 in
theorem zindex_any (W : World) (A : Option Addr) (cap : Nat) (zs : List Zo) (ph : Int) (c : Nat) (hI : zoE.In W A zs) (hl : zs.length ≤ 64) (hc : W.cell? ⟨c, 0, none⟩ = some (.int .i64 ph)) :
    Calls Try.prog 58 #[.slice A zs.length cap, .func (.func 54) #[] #[.pointer (some ⟨c, 0, none⟩)]] W (IdxPost W (hasZ zs ph)) := by
  have hcl := lt_of_cell hc
  have hIH := Lib.hid (fun W' (hb : Below W.heap.size W W') => hI.below hb)
  have hcH := Lib.hid (fun W' (hb : Below W.heap.size W W') => (hb.cell (p := ⟨c, 0, none⟩) hcl).trans hc)
  have h1 := Lib.hid (fun z W' hc' => free1_any z ph W' c hc')
  have eg : ∀ args w, (callFunc 54 args).run Try.prog w = .ok (.enter 54 args) w := enters_of Try.func54 (by kernel_rfl) rfl
  obtain ⟨t, ht⟩ : ∃ t, t = hasZ zs ph := ⟨_, rfl⟩
  rw [← ht]
  have htH := Lib.hid ht
  clear hI hc ht
  go_enter Try.func58, Try.ntmps58
  go_wp2_with fail
  go_loopw [8] (fun i wr => ∃ k : Nat, k ≤ zs.length ∧ i = .int .i64 (k : Int) ∧ hasZ (zs.take k) ph = false ∧ Below W.heap.size W wr) (fun i _ => zs.length - (intOf i).toNat)
  case atStart => exact ⟨0, Nat.zero_le _, rfl, rfl, Below.refl _ _⟩
  case round =>
    obtain ⟨k, hk, rfl, hno, hB⟩ := hrel
    by_cases hlt : k < zs.length
    case pos =>
      obtain ⟨b, off, rfl, _, z0, z1, z2⟩ := zo_at (hIH.out _ hB) hlt
      have hcc := hcH.out _ hB
      have hst := hasZ_take hlt ph
      rw [hno, Bool.false_or] at hst
      have hall : ∀ j, j < zs.length → (zs[k].p == ph) = true → t = true := fun j _ e => by
        rw [htH.out]
        have : hasZ (zs.take (k + 1)) ph = true := by rw [hst, e]
        obtain ⟨z, hz, e⟩ := hasZ_iff.1 this
        exact hasZ_iff.2 ⟨z, List.mem_of_mem_take hz, e⟩
      have hallH := Lib.hid hall
      have hstH := Lib.hid hst
      have hBH := Lib.hid hB
      have h1k := Lib.hid (h1.out zs[k] wr hcc)
      have hkw : IntKind.i64.wrap ((k : Int) + 1) = (k : Int) + 1 := IntWalk.i64_in _ (by omega)
      clear hno hst hall hB hcc h1
      generalize zs[k] = z at z0 z1 z2 h1k hallH hstH
      obtain ⟨r, hr⟩ : ∃ r, r = (z.p == ph) := ⟨_, rfl⟩
      rw [← hr] at h1k
      have hrH := Lib.hid hr
      clear hr
      cases r with
      | true =>
        go_wp2_with (go_at_fn 54; refine h1k.out.mono ?_; rintro e w1 ⟨rfl, hb1⟩)
        go_ret
        exact ⟨k, rfl, by rw [hallH.out k hlt hrH.out.symm]; simp, hBH.out.trans (hb1.mono hBH.out.size)⟩
      | false =>
        go_wp2_with (go_at_fn 54; refine h1k.out.mono ?_; rintro e w1 ⟨rfl, hb1⟩)
        go_roundw
        case rel => exact ⟨k + 1, by omega, by go_num, by rw [hstH.out]; exact hrH.out.symm, hBH.out.trans (hb1.mono hBH.out.size)⟩
        case measure => simp only [intOf]; omega
    case neg =>
      have hke : k = zs.length := by omega
      rw [hke, List.take_length] at hno
      have hnoH := Lib.hid hno
      clear hno hke
      go_wp2_with fail
      go_ret
      exact ⟨-1, rfl, by rw [htH.out, hnoH.out]; rfl, hB⟩
theorem zhas_any (W : World) (A : Option Addr) (cap : Nat) (zs : List Zo) (ph : Int) (c : Nat) (hI : zoE.In W A zs) (hl : zs.length ≤ 64) (hc : W.cell? ⟨c, 0, none⟩ = some (.int .i64 ph)) :
    Calls Try.prog 53 #[.slice A zs.length cap, .func (.func 54) #[] #[.pointer (some ⟨c, 0, none⟩)]] W fun e w' => e = .returned (.bool (hasZ zs ph)) ∧ Below W.heap.size W w' := by
  have h1 := Lib.hid (zindex_any W A cap zs ph c hI hl hc)
  generalize hasZ zs ph = t at h1 ⊢
  clear hI hc
  go_enter Try.func53, Try.ntmps53
  go_wp2_with fail
  refine h1.out.mono ?_
  rintro e w1 ⟨i, rfl, hi, hb⟩
  cases t with
  | true =>
    have hi' : 0 ≤ i := of_decide_eq_true hi
    go_wp2_with fail
    go_ret
    exact ⟨by simp, hb⟩
  | false =>
    have hi' : ¬ 0 ≤ i := of_decide_eq_false hi
    go_wp2_with fail
    go_ret
    exact ⟨by simp, hb⟩
end Go.Proofs.Ytdjdldcpaidmnaa
namespace Go.Proofs.Ytdjdldcpaidmnaa
open Go.RowKit Rec Bk
structure FreeW (w W : World) (A1 : Option Addr) (n c1 : Nat) (Z : Int) (c : Nat) (p : Int) : Prop where
  a : W.cell? ⟨w.heap.size, 1, none⟩ = some (.slice A1 n c1)
  g : W.cell? ⟨w.heap.size + 1, 1, none⟩ = some (.int .i64 Z)
  cc : W.cell? ⟨c, 0, none⟩ = some (.int .i64 p)
  ff : W.frozen? ⟨c, 0, none⟩ = false
  lo : w.heap.size + 1 + 1 ≤ c
  bw : Below w.heap.size w W
theorem FreeW.below {w W W' : World} {A1 : Option Addr} {n c1 : Nat} {Z : Int} {c : Nat} {p : Int} (h : FreeW w W A1 n c1 Z c p) (hb : Below W.heap.size W W') : FreeW w W' A1 n c1 Z c p :=
  ⟨(hb.cell (p := ⟨_, 1, none⟩) (lt_of_cell h.a)).trans h.a, (hb.cell (p := ⟨_, 1, none⟩) (lt_of_cell h.g)).trans h.g, (hb.cell (p := ⟨c, 0, none⟩) (lt_of_cell h.cc)).trans h.cc, (hb.frozen (p := ⟨c, 0, none⟩) (lt_of_cell h.cc)).trans h.ff, h.lo, h.bw.trans (hb.mono h.bw.size)⟩
theorem FreeW.next {w W : World} {A1 : Option Addr} {n c1 : Nat} {Z : Int} {c : Nat} {p : Int} (h : FreeW w W A1 n c1 Z c p) (v : Int) : FreeW w (W.alloc (.cells #[.int .i64 v] 3)) A1 n c1 Z W.heap.size v := by
  have h1 := h.below (W' := W.alloc (.cells #[.int .i64 v] 3)) ((Below.refl _ _).alloc (Nat.le_refl _) _)
  have hc := lt_of_cell h.cc
  have hlo := h.lo
  exact ⟨h1.a, h1.g, by go_simp, (World.frozen?_alloc_mark W _ 3 0 0 0).trans (by simp), by omega, h1.bw⟩
def FreePost (w : World) (zs : List Zo) (Z : Int) (e : Ending) (w' : World) : Prop := ∃ f : Int, e = .returned (.int .i64 f) ∧ IsFree zs Z f ∧ Below w.heap.size w w'
set_option maxRecDepth 100000 in
set_option maxHeartbeats 1000000 in
theorem free_any (w : World) (A1 : Option Addr) (c1 : Nat) (A2 : Option Addr) (c2 : Nat) (b : Bo) (D Z B O A : Int) (h : BkIn w A1 c1 A2 c2 b) (hZ : 2 ≤ Z ∧ Z ≤ 100) :
    Calls Try.prog 20 #[.agg #[.int .i64 b.q, .slice A1 b.zs.length c1, .slice A2 b.ms.length c2, .int .i64 b.sl, .int .i64 b.cu], .agg #[.int .i64 D, .int .i64 Z, .int .i64 B, .int .i64 O, .int .i64 A]] w (FreePost w b.zs Z) := by
  have hzl := h.zl
  have hI := Lib.hid h.z
  have hca := Lib.hid (fun W (hb : Below w.heap.size w W) ph c hc => zhas_any W A1 c1 b.zs ph c (h.z.below hb) hzl hc)
  generalize b.ms.length = m
  clear h
  go_enter Try.func20, Try.ntmps20
  go_wp2_with fail
  refine fresh_world (fun W => FreeW w W A1 b.zs.length c1 Z (w.heap.size + 1 + 1) 2) ?_ ?_
  · refine ⟨by go_simp, by go_simp, by go_simp, ?_, Nat.le_refl _, (((Below.refl _ _).alloc (Nat.le_refl _) _).alloc (by simp) _).alloc (by simp; omega) _⟩
    have h1 := World.frozen?_alloc_mark ((w.alloc (.cells #[.int .i64 b.q, .slice A1 b.zs.length c1, .slice A2 m c2, .int .i64 b.sl, .int .i64 b.cu] 58)).alloc (.cells #[.int .i64 D, .int .i64 Z, .int .i64 B, .int .i64 O, .int .i64 A] 30)) #[.int .i64 2] 3 0 0 0
    simp only [World.size_alloc] at h1
    exact h1.trans (by simp)
  rintro W hW
  have hWH := Lib.hid hW
  clear hW
  go_loopw [5] (fun s wr => ∃ (c : Nat) (p : Int), s = .pointer (some ⟨c, 0, none⟩) ∧ 2 ≤ p ∧ p ≤ Z ∧ FreeW w wr A1 b.zs.length c1 Z c p ∧ ∀ p', 2 ≤ p' → p' < p → hasZ b.zs p' = true) (fun s wr => match s with | .pointer (some a) => (match wr.cell? a with | some (.int _ p) => (Z - p).toNat | _ => 0) | _ => 0)
  case atStart => exact ⟨_, 2, rfl, by omega, by omega, hWH.out, fun p' h1 h2 => absurd h2 (by omega)⟩
  case round =>
    clear hWH
    obtain ⟨c, p, rfl, hp2, hpZ, hN, hall⟩ := hrel
    have hNH := Lib.hid hN
    have hallH := Lib.hid hall
    obtain ⟨ca, cg, cc, cf, clo, _⟩ := hN
    have hcl := lt_of_cell cc
    clear hall
    by_cases hlt : p < Z
    case pos =>
      have h1 := Lib.hid (hca.out wr hNH.out.bw p c cc)
      obtain ⟨t, ht⟩ : ∃ t, t = hasZ b.zs p := ⟨_, rfl⟩
      rw [← ht] at h1
      have htH := Lib.hid ht
      clear ht hca
      cases t with
      | false =>
        go_wp2_with (go_at_call 53; refine h1.out.mono ?_; rintro e w1 ⟨rfl, hb1⟩; have cc1 := (hb1.cell (p := ⟨c, 0, none⟩) hcl).trans cc)
        go_ret
        refine ⟨p, rfl, .inr ⟨hp2, hlt, hasZ_not.1 htH.out.symm, fun p' h1 h2 => hasZ_iff.1 (hallH.out p' h1 h2)⟩, hNH.out.bw.trans (hb1.mono hNH.out.bw.size)⟩
      | true =>
        go_wp2_with (go_at_call 53; refine h1.out.mono ?_; rintro e w1 ⟨rfl, hb1⟩; have cc1 := (hb1.cell (p := ⟨c, 0, none⟩) hcl).trans cc)
        refine ⟨⟨_, p + 1, rfl, by omega, by omega, (hNH.out.below hb1).next (p + 1), fun p' h1 h2 => ?_⟩, ?_⟩
        · by_cases e : p' = p
          · rw [e]; exact htH.out.symm
          · exact hallH.out p' h1 (by omega)
        · have e1 : (w1.alloc (.cells #[.int .i64 (p + 1)] 3)).cell? ⟨w1.heap.size, 0, none⟩ = some (.int .i64 (p + 1)) := by go_simp
          simp only [e1, cc]
          omega
    case neg =>
      go_wp2_with fail
      go_ret
      refine ⟨-1, rfl, .inl ⟨rfl, fun p' h1 h2 => hasZ_iff.1 (hallH.out p' h1 (by omega))⟩, hNH.out.bw⟩
end Go.Proofs.Ytdjdldcpaidmnaa
