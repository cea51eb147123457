/- Views in memory; what valid of tail and the closures that ask which slot has a row do. -/
import Derived.Test.YtdjdldcpaidmnaaTlM
import Derived.Test.YtdjdldcpaidmnaaMKRow
import Derived.Test.YtdjdldcpaidmnaaMBase
import Derived.Deep.QuietTactic
import Derived.Shelf.GgClosure.Gives
namespace Go.Proofs.Ytdjdldcpaidmnaa
open Go.RowKit Tl

/-- How a note stands in its cells. -/
def ntE : Enc (Int × Int) := ⟨fun p => [.int .i64 p.1, .int .i64 p.2], 2, fun _ => rfl, fun x u hu => by
  simp only [List.mem_cons, List.not_mem_nil, or_false] at hu
  rcases hu with rfl | rfl <;> rfl⟩
/-- What a view's slices hold. -/
structure VwIn (W : World) (A B : Option Addr) (v : Vw) : Prop where
  ls : IntsIn W A v.ls
  ns : ntE.In W B v.ns
theorem VwIn.below {W W' : World} {A B : Option Addr} {v : Vw} (h : VwIn W A B v) (hb : Below W.heap.size W W') : VwIn W' A B v := ⟨h.ls.below hb, h.ns.below hb⟩
/-- A view in a box. -/
structure VwB (W : World) (b : Nat) (A : Option Addr) (ca : Nat) (B : Option Addr) (cb : Nat) (v : Vw) : Prop where
  c0 : W.cell? ⟨b, 0, none⟩ = some (.slice A v.ls.length ca)
  c1 : W.cell? ⟨b, 1, none⟩ = some (.int .i64 v.m)
  c2 : W.cell? ⟨b, 2, none⟩ = some (.slice B v.ns.length cb)
  i : VwIn W A B v
theorem VwB.lt {W : World} {b : Nat} {A : Option Addr} {ca : Nat} {B : Option Addr} {cb : Nat} {v : Vw} (h : VwB W b A ca B cb v) : b < W.heap.size := lt_of_cell h.c0
theorem VwB.below {W W' : World} {b : Nat} {A : Option Addr} {ca : Nat} {B : Option Addr} {cb : Nat} {v : Vw} (h : VwB W b A ca B cb v) (hb : Below W.heap.size W W') : VwB W' b A ca B cb v :=
  ⟨(hb.cell (p := ⟨b, 0, none⟩) h.lt).trans h.c0, (hb.cell (p := ⟨b, 1, none⟩) h.lt).trans h.c1, (hb.cell (p := ⟨b, 2, none⟩) h.lt).trans h.c2, h.i.below hb⟩
theorem VwB.new {W : World} {A : Option Addr} {ca : Nat} {B : Option Addr} {cb : Nat} {v : Vw} (h : VwIn W A B v) (t : TypeId) :
    VwB (W.alloc (.cells #[.slice A v.ls.length ca, .int .i64 v.m, .slice B v.ns.length cb] t)) W.heap.size A ca B cb v :=
  ⟨by go_simp, by go_simp, by go_simp, h.below ((Below.refl _ _).alloc (Nat.le_refl _) _)⟩
theorem lenAt_in {v : Vw} {j : Nat} (h : j < v.ls.length) : lenAt v (j : Int) = v.ls[j] := by
  unfold lenAt
  rw [Int.toNat_natCast, List.getD_eq_getElem?_getD, List.getElem?_eq_getElem h]; rfl
set_option maxHeartbeats 1000000 in
theorem has_any12 (v : Vw) (W : World) (bv br : Nat) (A : Option Addr) (ca : Nat) (B : Option Addr) (cb : Nat) (row s : Int) (h : VwB W bv A ca B cb v) (hr : W.cell? ⟨br, 0, none⟩ = some (.int .i64 row)) (hs : s = v.m ∨ (0 ≤ s ∧ s < (v.ls.length : Int))) :
    Calls Try.prog 41 #[.int .i64 s, .pointer (some ⟨bv, 0, none⟩), .pointer (some ⟨br, 0, none⟩)] W fun e w' => e = .returned (.bool (hasB v row s)) ∧ Below W.heap.size W w' := by
  have c1 := h.c1
  by_cases hm : s = v.m
  · have e : hasB v row s = false := by unfold hasB; exact decide_eq_false (fun h => h.1 hm)
    rw [e]
    subst hm
    clear hs e h
    go_enter Try.func41, Try.ntmps41
    go_wp2_with fail
    go_quiet (fail)
    go_wp2
    go_ret
    exact ⟨rfl, below_drewN (Below.refl _ _) _⟩
  · obtain ⟨h0, h1⟩ := hs.resolve_left hm
    obtain ⟨j, rfl⟩ := Int.eq_ofNat_of_zero_le h0
    have hj : j < v.ls.length := by omega
    have c0 := h.c0
    obtain ⟨b, off, hA, _, hcell⟩ : ∃ b off, A = some ⟨b, off, none⟩ ∧ b < W.heap.size ∧ W.cell? ⟨b, off + j, none⟩ = some (.int .i64 v.ls[j]) := by
      rcases h.i.ls with h0 | ⟨b, off, e, hlt, hc⟩
      · rw [h0] at hj; simp at hj
      · exact ⟨b, off, e, hlt, hc j hj⟩
    subst hA
    have hmb : ((j : Int) == v.m) = false := by rw [beq_eq_false_iff_ne]; exact hm
    have hmc : ((j : Int) != v.m) = true := by rw [bne, hmb]; rfl
    by_cases hl : row < v.ls[j]
    · have e : hasB v row (j : Int) = true := by unfold hasB; rw [lenAt_in hj]; exact decide_eq_true ⟨hm, hl⟩
      rw [e]
      generalize v.ls[j] = z at hcell hl
      clear e h hs
      go_enter Try.func41, Try.ntmps41
      go_wp2_with fail
      go_quiet (fail)
      go_wp2
      go_ret
      exact ⟨rfl, below_drewN (Below.refl _ _) _⟩
    · have e : hasB v row (j : Int) = false := by unfold hasB; rw [lenAt_in hj]; exact decide_eq_false (fun h => hl h.2)
      rw [e]
      have hl2 : decide (row < v.ls[j]) = false := decide_eq_false hl
      generalize v.ls[j] = z at hcell hl hl2
      clear e h hs
      go_enter Try.func41, Try.ntmps41
      go_wp2_with fail
      go_quiet (fail)
      go_wp2
      go_ret
      exact ⟨rfl, below_drewN (Below.refl _ _) _⟩
/-- Is it no length? -/
def badL (B : Int) (n : Int) : Bool := decide (n < 0 ∨ B < n)
theorem valid1_any (n B : Int) (W : World) (g : Nat) (hg : W.cell? ⟨g, 2, none⟩ = some (.int .i64 B)) :
    Calls Try.prog 66 #[.int .i64 n, .pointer (some ⟨g, 0, none⟩)] W fun e w' => e = .returned (.bool (badL B n)) ∧ W = w' := by
  unfold badL
  by_cases h0 : n < 0
  · rw [decide_eq_true (.inl h0)]
    go_enter Try.func66, Try.ntmps66
    go_wp2
    go_ret
    exact ⟨rfl, rfl⟩
  by_cases h1 : B < n
  · rw [decide_eq_true (.inr h1)]
    go_enter Try.func66, Try.ntmps66
    go_wp2
    go_ret
    exact ⟨rfl, rfl⟩
  rw [decide_eq_false (fun h => h.elim h0 h1)]
  have h2 : decide (B < n) = false := decide_eq_false h1
  go_enter Try.func66, Try.ntmps66
  go_wp2
  go_ret
  exact ⟨rfl, rfl⟩
end Go.Proofs.Ytdjdldcpaidmnaa
