/- The set's iterator: it yields the set's numbers, rising. -/
import Derived.Test.YtdiefdijhghefaaRangeBound
namespace Go.Proofs.Ytdiefdijhghefaa
open Go.RowKit Go.Shelf Sets
attribute [local go_sem] Oper.semAt_some

def upto (s : W4) (k : Nat) : List Int := ((List.range k).filter fun n => s.has n).map Int.ofNat
theorem upto_succ (s : W4) (k : Nat) : upto s (k + 1) = upto s k ++ (if s.has k then [(k : Int)] else []) := by
  unfold upto
  rw [List.range_succ, List.filter_append, List.map_append]
  congr 1
  cases h : s.has k <;> simp [h]
theorem upto_pre (s : W4) {j k : Nat} (h : j ≤ k) : upto s j <+: upto s k := by
  induction k with
  | zero => obtain rfl : j = 0 := by omega
            exact List.prefix_refl _
  | succ k ih =>
    by_cases e : j = k + 1
    · subst e; exact List.prefix_refl _
    · rw [upto_succ]; exact (ih (by omega)).trans (List.prefix_append _ _)
theorem upto_length (s : W4) (k : Nat) : (upto s k).length ≤ k := by
  unfold upto
  rw [List.length_map]
  exact Nat.le_trans (List.length_filter_le _ _) (by simp)
def elems (s : W4) : List Int := upto s 256

theorem abides_below {β : Type} {B : Nat} {J : β → World → Prop} (hJ : AbidesFrom B J) {x : β} {W W' : World} (h : J x W) (hb : Below W.heap.size W W') : J x W' :=
  hJ x W W' none h ⟨hb.os, hb.tape, hb.output, hb.size, fun i hi _ => hb.block i hi⟩ (fun r e => by cases e)
theorem cell_of_heap {W : World} {b j : Nat} {C : Array Value} {t : TypeId} (h : W.heap[b]? = some (.cells C t (0, 0))) : W.cell? ⟨b, j, none⟩ = C[j]? := by
  simp [World.cell?, h]

set_option maxRecDepth 100000 in
set_option maxHeartbeats 1000000 in
theorem all_seq (s : W4) (hs : s.ok) (n bx : Nat) : SeqB Fence.wide n Try.prog 28 #[s.val] (fun x : Int => #[Value.int .i64 x]) (KeepBox bx) (fun ys => ys = elems s) (fun pre => pre <+: elems s) bx := by
  intro l J Jx W hsz hJ hJx hY h0
  subst hsz
  have hhas := Lib.hid (fun (k : Nat) w => has_any s hs (k : Int) w)
  have hhas2 : ∀ k w, Calls Try.prog 19 #[s.val, .int .i64 (k : Nat)] w fun e w' => e = .returned (.bool (s.has k)) ∧ Below w.heap.size w w' := fun k w => by
    have h := hhas.out k w
    have e : s.hasI (k : Int) = s.has k := by unfold W4.hasI; simp
    rw [e] at h; exact h
  have hhas3 := Lib.hid hhas2
  clear hhas hhas2
  unfold W4.val at hhas3 ⊢
  refine callsIn_of_wp Try.func28 rfl trivial ?_ rfl
  simp only [Try.ntmps28, List.size_toArray, List.length_cons, List.length_nil, Nat.reduceAdd, Nat.reduceSub, Array.replicate_succ, Array.replicate_zero, List.push_toArray, List.append_toArray, List.nil_append, List.cons_append]
  gi_wp2
  have h1 : J [] (W.alloc (.cells #[.int .u64 (s.a : Int), .int .u64 (s.b : Int), .int .u64 (s.c : Int), .int .u64 (s.d : Int)] 33)) := abides_below hJ h0 ((Below.refl _ _).alloc (Nat.le_refl _) _)
  have h2 := World.alloc_heap_new W (.cells #[.int .u64 (s.a : Int), .int .u64 (s.b : Int), .int .u64 (s.c : Int), .int .u64 (s.d : Int)] 33)
  have hJH := Lib.hid hJ
  have hJxH := Lib.hid hJx
  have hYH := Lib.hid hY
  clear h0 hJ hJx hY
  obtain ⟨B, hB⟩ : ∃ B, W.heap.size = B := ⟨_, rfl⟩
  rw [hB] at hJH hJxH hYH h2 ⊢
  have hBH := Lib.hid hB
  clear hB
  gi_loopw [5] (fun i wr => ∃ k : Nat, k ≤ 256 ∧ i = .int .i64 (k : Int) ∧ J (upto s k) wr ∧ Hid (wr.heap[B]? = some (.cells #[.int .u64 (s.a : Int), .int .u64 (s.b : Int), .int .u64 (s.c : Int), .int .u64 (s.d : Int)] 33 (0, 0)))) (fun i _ => 256 - (intOf i).toNat)
  case atStart => exact ⟨0, by omega, rfl, h1, Lib.hid h2⟩
  case round =>
    clear h1 h2
    obtain ⟨k, hk, rfl, hJk, hbx⟩ := hrel
    have hc0 := cell_of_heap (j := 0) hbx.out
    have hc1 := cell_of_heap (j := 1) hbx.out
    have hc2 := cell_of_heap (j := 2) hbx.out
    have hc3 := cell_of_heap (j := 3) hbx.out
    simp at hc0 hc1 hc2 hc3
    have hup := Lib.hid (upto_succ s k)
    by_cases hlt : k < 256
    · have hhk := hhas3.out k wr
      cases hsk : s.has k
      · rw [hsk] at hhk
        have hskH := Lib.hid hsk
        have hhkH := Lib.hid hhk
        clear hsk hhk
        gi_wp2_with (refine ⟨trivial, fun h => (by cases h), ?_⟩; refine (callsIn_wide.2 hhkH.out).mono ?_; rintro e w1 ⟨rfl, hb1⟩)
        have hlt2 : B < wr.heap.size := (Array.getElem?_eq_some_iff.1 hbx.out).1
        refine ⟨fun _ h => (by cases h), ?_⟩
        gi_wp2
        go_roundw
        case rel => exact ⟨k + 1, by omega, by go_num, by rw [hup.out, hskH.out]; simpa using abides_below hJH.out hJk hb1, Lib.hid ((hb1.block B hlt2).trans hbx.out)⟩
        case measure => simp [intOf]; omega
      · rw [hsk] at hhk
        have hskH := Lib.hid hsk
        have hhkH := Lib.hid hhk
        clear hsk hhk
        have hlt2 : B < wr.heap.size := (Array.getElem?_eq_some_iff.1 hbx.out).1
        gi_wp2_with (refine ⟨trivial, fun h => (by cases h), ?_⟩; refine (callsIn_wide.2 hhkH.out).mono ?_; rintro e w1 ⟨rfl, hb1⟩; have hJ1 := abides_below hJH.out hJk hb1; obtain ⟨fn, tmps, assign, body, hy, hR⟩ := hYH.out (upto s k) (k : Int) w1 hJ1 ⟨Nat.lt_of_lt_of_le hlt2 hb1.size, Nat.lt_of_le_of_lt (upto_length s k) hlt⟩; have hbx1 := Lib.hid ((hb1.block B hlt2).trans hbx.out))
        refine ⟨fun h => (by cases h), hR.mono ?_⟩
        rintro e W3 (⟨rfl, hJ3, hk3⟩ | ⟨rfl, hJx3⟩)
        · gi_wp2
          go_roundw
          case rel => exact ⟨k + 1, by omega, by go_num, by rw [hup.out, hskH.out]; simpa using hJ3, Lib.hid (hk3 _ _ _ hbx1.out)⟩
          case measure => simp [intOf]; omega
        · gi_wp2
          refine bodyPost_ret (results_none rfl _ _ _) rfl ?_
          refine ⟨⟨_, rfl⟩, .inr ⟨upto s k ++ [(k : Int)], ?_, hJx3⟩⟩
          have := upto_pre s (show k + 1 ≤ 256 by omega)
          rw [hup.out, hskH.out] at this
          exact this
    · obtain rfl : k = 256 := by omega
      gi_wp2
      go_end0
      exact ⟨⟨_, rfl⟩, .inl ⟨_, rfl, hJk⟩⟩
end Go.Proofs.Ytdiefdijhghefaa
