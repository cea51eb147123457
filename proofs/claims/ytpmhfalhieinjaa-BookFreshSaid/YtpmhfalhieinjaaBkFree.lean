/- The least free place. -/
import Derived.Test.YtpmhfalhieinjaaBkWalks
import Derived.Test.YtpmhfalhieinjaaGeoG2
import Derived.IntWalk
import Derived.LoopTactic
import Derived.Shelf.GgClosure.Gives
namespace Go.Proofs.Ytpmhfalhieinjaa
open Go.RowKit Rec Bk

theorem free1_any (z : Zo) (ph : Int) (W : World) (c : Nat) (hc : W.cell? ⟨c, 0, none⟩ = some (.int .i64 ph)) :
    Calls Try.prog 32 #[.agg #[.int .i64 z.p, .int .i64 z.g, .int .i64 z.s], .pointer (some ⟨c, 0, none⟩)] W fun e w' => e = .returned (.bool (z.p == ph)) ∧ Below W.heap.size W w' := by
  have hl := lt_of_cell hc
  have hne : ¬ c = W.heap.size := by omega
  go_enter Try.func32, Try.ntmps32
  go_wp2
  go_ret
  exact ⟨rfl, (Below.refl _ _).alloc (Nat.le_refl _) _⟩
def IdxPost (W : World) (t : Bool) (e : Ending) (w' : World) : Prop := ∃ i : Int, e = .returned (.int .i64 i) ∧ decide (0 ≤ i) = t ∧ Below W.heap.size W w'
theorem hasZ_take {zs : List Zo} {k : Nat} (h : k < zs.length) (ph : Int) : hasZ (zs.take (k + 1)) ph = (hasZ (zs.take k) ph || (zs[k].p == ph)) := by
  unfold hasZ; rw [List.take_succ_eq_append_getElem h, List.any_append]; simp
set_option maxRecDepth 100000 in
set_option maxHeartbeats 1000000 in
theorem zindex_any (W : World) (A : Option Addr) (cap : Nat) (zs : List Zo) (ph : Int) (c : Nat) (hI : zoE.In W A zs) (hl : zs.length ≤ 64) (hc : W.cell? ⟨c, 0, none⟩ = some (.int .i64 ph)) :
    Calls Try.prog 38 #[.slice A zs.length cap, .func (.func 32) #[] #[.pointer (some ⟨c, 0, none⟩)]] W (IdxPost W (hasZ zs ph)) := by
  have hcl := lt_of_cell hc
  have hIH := Lib.hid (fun W' (hb : Below W.heap.size W W') => hI.below hb)
  have hcH := Lib.hid (fun W' (hb : Below W.heap.size W W') => (hb.cell (p := ⟨c, 0, none⟩) hcl).trans hc)
  have h1 := Lib.hid (fun z W' hc' => free1_any z ph W' c hc')
  have eg : ∀ args w, (callFunc 32 args).run Try.prog w = .ok (.enter 32 args) w := enters_of Try.func32 (by kernel_rfl) rfl
  obtain ⟨t, ht⟩ : ∃ t, t = hasZ zs ph := ⟨_, rfl⟩
  rw [← ht]
  have htH := Lib.hid ht
  clear hI hc ht
  go_enter Try.func38, Try.ntmps38
  go_wp2_with fail
  go_loopw [8] (fun i wr => ∃ k : Nat, k ≤ zs.length ∧ i = .int .i64 (k : Int) ∧ hasZ (zs.take k) ph = false ∧ Below W.heap.size W wr) (fun i _ => zs.length - (intOf i).toNat)
  case atStart => exact ⟨0, Nat.zero_le _, rfl, rfl, Below.refl _ _⟩
  case round =>
    obtain ⟨k, hk, rfl, hno, hB⟩ := hrel
    by_cases hlt : k < zs.length
    case pos =>
      obtain ⟨b, off, rfl, _, z0, z1, z2⟩ := zo_at (hIH.out _ hB) hlt
      have hcc := hcH.out _ hB
      have hst := hasZ_take hlt ph
      rw [hno, Bool.false_or] at hst
      have hall : ∀ j, j < zs.length → (zs[k].p == ph) = true → t = true := fun j _ e => by
        rw [htH.out]
        have : hasZ (zs.take (k + 1)) ph = true := by rw [hst, e]
        obtain ⟨z, hz, e⟩ := hasZ_iff.1 this
        exact hasZ_iff.2 ⟨z, List.mem_of_mem_take hz, e⟩
      have hallH := Lib.hid hall
      have hstH := Lib.hid hst
      have hBH := Lib.hid hB
      have h1k := Lib.hid (h1.out zs[k] wr hcc)
      have hkw : IntKind.i64.wrap ((k : Int) + 1) = (k : Int) + 1 := IntWalk.i64_in _ (by omega)
      clear hno hst hall hB hcc h1
      generalize zs[k] = z at z0 z1 z2 h1k hallH hstH
      obtain ⟨r, hr⟩ : ∃ r, r = (z.p == ph) := ⟨_, rfl⟩
      rw [← hr] at h1k
      have hrH := Lib.hid hr
      clear hr
      cases r with
      | true =>
        go_wp2_with (go_at_fn 32; refine h1k.out.mono ?_; rintro e w1 ⟨rfl, hb1⟩)
        go_ret
        exact ⟨k, rfl, by rw [hallH.out k hlt hrH.out.symm]; simp, hBH.out.trans (hb1.mono hBH.out.size)⟩
      | false =>
        go_wp2_with (go_at_fn 32; refine h1k.out.mono ?_; rintro e w1 ⟨rfl, hb1⟩)
        go_roundw
        case rel => exact ⟨k + 1, by omega, by go_num, by rw [hstH.out]; exact hrH.out.symm, hBH.out.trans (hb1.mono hBH.out.size)⟩
        case measure => simp only [intOf]; omega
    case neg =>
      have hke : k = zs.length := by omega
      rw [hke, List.take_length] at hno
      have hnoH := Lib.hid hno
      clear hno hke
      go_wp2_with fail
      go_ret
      exact ⟨-1, rfl, by rw [htH.out, hnoH.out]; rfl, hB⟩
theorem zhas_any (W : World) (A : Option Addr) (cap : Nat) (zs : List Zo) (ph : Int) (c : Nat) (hI : zoE.In W A zs) (hl : zs.length ≤ 64) (hc : W.cell? ⟨c, 0, none⟩ = some (.int .i64 ph)) :
    Calls Try.prog 31 #[.slice A zs.length cap, .func (.func 32) #[] #[.pointer (some ⟨c, 0, none⟩)]] W fun e w' => e = .returned (.bool (hasZ zs ph)) ∧ Below W.heap.size W w' := by
  have h1 := Lib.hid (zindex_any W A cap zs ph c hI hl hc)
  generalize hasZ zs ph = t at h1 ⊢
  clear hI hc
  go_enter Try.func31, Try.ntmps31
  go_wp2_with fail
  refine h1.out.mono ?_
  rintro e w1 ⟨i, rfl, hi, hb⟩
  cases t with
  | true =>
    have hi' : 0 ≤ i := of_decide_eq_true hi
    go_wp2_with fail
    go_ret
    exact ⟨by simp, hb⟩
  | false =>
    have hi' : ¬ 0 ≤ i := of_decide_eq_false hi
    go_wp2_with fail
    go_ret
    exact ⟨by simp, hb⟩
end Go.Proofs.Ytpmhfalhieinjaa
