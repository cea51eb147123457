/- The iterator over notes from the last to the first: slices.Backward. -/
import Derived.Test.YtdjdldcpaidmnaaTlC
import Derived.RangeFuncBox
import Derived.RangeFuncNested
import Derived.RangeFuncLeaves
import Derived.Shelf.Abstract
import Derived.WalkKit
import Derived.OwnWalkIn
import Derived.TacticsInMore
import Derived.LoopNIn
import Derived.LoopIn
namespace Go.Proofs.Ytdjdldcpaidmnaa
open Go.RowKit Go.Shelf Tl
attribute [local go_sem] Oper.semAt_some

/-- What has come when k rounds are over: the last k, from the last on. -/
def bkU (ns : List (Int × Int)) (k : Nat) : List (Nat × (Int × Int)) := (List.range k).map fun j => (ns.length - 1 - j, ns[ns.length - 1 - j]?.getD (0, 0))
theorem bkU_succ (ns : List (Int × Int)) (k : Nat) : bkU ns (k + 1) = bkU ns k ++ [(ns.length - 1 - k, ns[ns.length - 1 - k]?.getD (0, 0))] := by simp [bkU, List.range_succ]
theorem bkU_length (ns : List (Int × Int)) (k : Nat) : (bkU ns k).length = k := by simp [bkU]
theorem bkU_at {ns : List (Int × Int)} {k j : Nat} (hk : k ≤ ns.length) (hj : j < ns.length) (h : ns.length - k ≤ j) : (j, ns[j]) ∈ bkU ns k := by
  unfold bkU
  rw [List.mem_map]
  refine ⟨ns.length - 1 - j, List.mem_range.2 (by omega), ?_⟩
  rw [show ns.length - 1 - (ns.length - 1 - j) = j by omega, List.getElem?_eq_getElem hj]
  rfl
/-- A slice of notes below a place. -/
def NtB (n₀ : Nat) (W : World) (B : Option Addr) (ns : List (Int × Int)) : Prop := ns = [] ∨ ∃ b off, B = some ⟨b, off, none⟩ ∧ b < n₀ ∧ ∀ j (h : j < ns.length), W.cell? ⟨b, off + j * 2, none⟩ = some (.int .i64 ns[j].1) ∧ W.cell? ⟨b, off + j * 2 + 1, none⟩ = some (.int .i64 ns[j].2)
theorem NtB.below {n₀ : Nat} {W W' : World} {B : Option Addr} {ns : List (Int × Int)} (hb : Below n₀ W W') (h : NtB n₀ W B ns) : NtB n₀ W' B ns := by
  rcases h with h | ⟨b, off, e, hlt, hc⟩
  · exact .inl h
  · exact .inr ⟨b, off, e, hlt, fun j hj => ⟨(hb.cell (p := ⟨b, off + j * 2, none⟩) hlt).trans (hc j hj).1, (hb.cell (p := ⟨b, off + j * 2 + 1, none⟩) hlt).trans (hc j hj).2⟩⟩
theorem ntB_of_in {W : World} {B : Option Addr} {ns : List (Int × Int)} (h : ntE.In W B ns) : NtB W.heap.size W B ns := by
  rcases h with h | ⟨b, off, e, hlt, hc⟩
  · exact .inl h
  · exact .inr ⟨b, off, e, hlt, fun j hj => ⟨hc j hj 0 (by decide), hc j hj 1 (by decide)⟩⟩
theorem NtB.mono {n₀ n₁ : Nat} {W : World} {B : Option Addr} {ns : List (Int × Int)} (h : NtB n₀ W B ns) (hn : n₀ ≤ n₁) : NtB n₁ W B ns := by
  rcases h with h | ⟨b, off, e, hlt, hc⟩
  · exact .inl h
  · exact .inr ⟨b, off, e, by omega, hc⟩
def ntV (x : Nat × (Int × Int)) : Array Value := #[Value.int .i64 (x.1 : Int), Value.agg #[.int .i64 x.2.1, .int .i64 x.2.2]]
set_option maxRecDepth 100000 in
set_option maxHeartbeats 2000000 in
theorem back1_in (n : Nat) (hn : 1 ≤ n) (l Bs n₀ : Nat) (B : Option Addr) (cb : Nat) (ns : List (Int × Int)) (hl : ns.length ≤ 1000000) (hbs : Bs < n₀) (J Jx : List (Nat × (Int × Int)) → World → Prop)
    (hY : ∀ pre x W, J pre W → pre.length < ns.length → YieldAt Fence.wide (n - 1) Try.prog l (ntV x) W fun e W' =>
      (e = .returned (.bool true) ∧ J (pre ++ [x]) W' ∧ Below n₀ W W') ∨ (e = .returned (.bool false) ∧ Jx (pre ++ [x]) W'))
    (W : World) (hBs : W.cell? ⟨Bs, 0, none⟩ = some (.slice B ns.length cb)) (hc : NtB n₀ W B ns) (h0 : J [] W) :
    CallsIn Fence.wide n Try.prog 79 #[.func (.yield l) #[] #[], .pointer (some ⟨Bs, 0, none⟩)] W fun e W' => (∃ v, e = .returned v) ∧
      ((∃ ys, ys = bkU ns ns.length ∧ J ys W') ∨ (∃ pre, (∃ k, k ≤ ns.length ∧ pre = bkU ns k) ∧ Jx pre W')) := by
  refine callsIn_of_wp Try.func79 rfl trivial ?_ rfl
  simp only [Try.ntmps79, List.size_toArray, List.length_cons, List.length_nil, Nat.reduceAdd, Nat.reduceSub, Array.replicate_succ, Array.replicate_zero, List.push_toArray, List.append_toArray, List.nil_append, List.cons_append]
  have lw : IntKind.i64.wrap ((ns.length : Int) - 1) = (ns.length : Int) - 1 := IntWalk.i64_in _ (by omega)
  have hYH := Lib.hid hY
  have hcH := Lib.hid hc
  have hBsH := Lib.hid hBs
  clear hY hc
  gi_wp2
  clear hBs
  gi_loopw [3] (fun i wr => ∃ k : Nat, k ≤ ns.length ∧ i = .int .i64 ((ns.length : Int) - 1 - (k : Int)) ∧ J (bkU ns k) wr ∧ Below n₀ W wr) (fun i _ => (intOf i + 1).toNat)
  case atStart => exact ⟨0, Nat.zero_le _, by simp, h0, Below.refl _ _⟩
  case round =>
    clear h0 lw
    obtain ⟨k, hk, rfl, hJs, hnx⟩ := hrel
    have hBs := (hnx.cell (p := ⟨Bs, 0, none⟩) hbs).trans hBsH.out
    by_cases hlt : k < ns.length
    · obtain ⟨j, hj⟩ : ∃ j, ns.length - 1 - k = j := ⟨_, rfl⟩
      have hjl : j < ns.length := by omega
      have hij : (ns.length : Int) - 1 - (k : Int) = (j : Int) := by omega
      obtain ⟨b, off, rfl, hbl, hcs⟩ : ∃ b off, B = some ⟨b, off, none⟩ ∧ b < n₀ ∧ wr.cell? ⟨b, off + j * 2, none⟩ = some (.int .i64 ns[j].1) ∧ wr.cell? ⟨b, off + j * 2 + 1, none⟩ = some (.int .i64 ns[j].2) := by
        rcases hcH.out.below hnx with h | ⟨b, off, e, h1, h2⟩
        · rw [h] at hlt; simp at hlt
        · exact ⟨b, off, e, h1, h2 j hjl⟩
      obtain ⟨c0, c1⟩ := hcs
      have hsu := Lib.hid (bkU_succ ns k)
      rw [hj, List.getElem?_eq_getElem hjl] at hsu
      change Hid (bkU ns (k + 1) = bkU ns k ++ [(j, ns[j])]) at hsu
      obtain ⟨fn, tmps, assign, body, hy, hR⟩ := hYH.out _ (j, ns[j]) wr hJs (by rw [bkU_length]; exact hlt)
      generalize ns[j] = x at c0 c1 hsu hy hR
      unfold ntV at hy
      dsimp only at hy
      rw [hij]
      have j0 : (0 : Int) ≤ (j : Int) := Int.natCast_nonneg j
      have j1 : (j : Int) < (ns.length : Int) := by omega
      have jw : Hid (IntKind.i64.wrap ((j : Int) - 1) = (ns.length : Int) - 1 - ((k + 1 : Nat) : Int)) := Lib.hid (by rw [IntWalk.i64_in _ (by omega)]; omega)
      have hme : ((ns.length : Int) - 1 - ((k + 1 : Nat) : Int) + 1).toNat < ((j : Int) + 1).toNat := by omega
      have hk1 : k + 1 ≤ ns.length := hlt
      clear hij
      gi_wp2
      refine hR.mono ?_
      rintro e W3 (⟨rfl, hJ3, hk3⟩ | ⟨rfl, hJx3⟩)
      · have jw := jw.out
        gi_wp2
        go_roundw
        case rel => exact ⟨k + 1, hk1, rfl, by rw [hsu.out]; exact hJ3, hnx.trans hk3⟩
        case measure => simp only [intOf]; exact hme
      · gi_wp2
        refine bodyPost_ret (results_none rfl _ _ _) rfl ?_
        exact ⟨⟨_, rfl⟩, .inr ⟨_, ⟨k + 1, hk1, hsu.out.symm⟩, hJx3⟩⟩
    · obtain rfl : k = ns.length := by omega
      have hneg : ¬ (0 ≤ (ns.length : Int) - 1 - (ns.length : Int)) := by omega
      gi_wp2
      go_end0
      first | exact ⟨⟨_, rfl⟩, .inl ⟨_, rfl, hJs⟩⟩ | exact ⟨⟨_, rfl⟩, .inl hJs⟩
set_option maxHeartbeats 1000000 in
theorem back_in (n : Nat) (a : Option Addr) (len cap : Nat) (w : World) :
    CallsIn Fence.wide n Try.prog 67 #[.slice a len cap] w fun e w' => e = .returned (.func (.func 79) #[] #[.pointer (some ⟨w.heap.size, 0, none⟩)]) ∧ w' = w.alloc (.cells #[.slice a len cap] 37) := by
  refine callsIn_of_wp Try.func67 rfl trivial ?_ rfl
  simp only [Try.ntmps67, List.size_toArray, List.length_cons, List.length_nil, Nat.reduceAdd, Nat.reduceSub, Array.replicate_succ, Array.replicate_zero, List.push_toArray, List.append_toArray, List.nil_append, List.cons_append]
  gi_wp2
  go_ret
  exact ⟨rfl, rfl⟩
theorem back_stops (n : Nat) (hn : 1 ≤ n) (Bs n₀ : Nat) (B : Option Addr) (cb : Nat) (ns : List (Int × Int)) (hl : ns.length ≤ 1000000) (w : World) (hbs : Bs < n₀) (hn₀ : n₀ ≤ w.heap.size) (hc : w.cell? ⟨Bs, 0, none⟩ = some (.slice B ns.length cb)) (hI : NtB n₀ w B ns) :
    SeqStopsK Fence.wide n Try.prog 79 #[.pointer (some ⟨Bs, 0, none⟩)] ntV (Below n₀) (fun ys => ys = bkU ns ns.length) (fun pre => ∃ k, k ≤ ns.length ∧ pre = bkU ns k) ns.length w := fun l J Jx W hW _ _ hY h0 => by
  have hc' := (hW.cell (p := ⟨Bs, 0, none⟩) (by show Bs < w.heap.size; omega)).trans hc
  exact back1_in n hn l Bs n₀ B cb ns hl hbs J Jx hY W hc' (hI.below (hW.mono hn₀)) h0
end Go.Proofs.Ytdjdldcpaidmnaa
