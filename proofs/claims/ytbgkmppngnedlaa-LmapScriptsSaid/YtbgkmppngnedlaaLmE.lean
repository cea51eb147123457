/- That the laws of lmap speak; places compared. -/
import Derived.Test.YtbgkmppngnedlaaLmD
namespace Go.Proofs.Ytbgkmppngnedlaa
open Go.RowKit

theorem struct_threeL {P : Program} {t : TypeId} {k0 k1 k2 : TypeId × Nat × Bool} (h : (P.fieldsOf t).toList.map fKey = [k0, k1, k2]) : ∃ f0 f1 f2, (P.fieldsOf t).toList = [f0, f1, f2] ∧ fKey f0 = k0 ∧ fKey f1 = k1 ∧ fKey f2 = k2 := by
  match hl : (P.fieldsOf t).toList, h with
  | [f0, f1, f2], h => simp only [List.map_cons, List.map_nil, List.cons.injEq, and_true] at h; exact ⟨f0, f1, f2, rfl, h.1, h.2.1, h.2.2⟩
def eqW (a b c a' b' c' : Int) : Bool := a == a' && (b == b' && c == c')
theorem where_eql (w : World) (a b c a' b' c' : Int) : (binOp .eql 62 (.agg #[.int .i64 a, .int .i64 b, .int .i64 c]) (.agg #[.int .i64 a', .int .i64 b', .int .i64 c'])).run Try.prog w = .ok (.bool (eqW a b c a' b' c')) w ∧ (binOp .neq 62 (.agg #[.int .i64 a, .int .i64 b, .int .i64 c]) (.agg #[.int .i64 a', .int .i64 b', .int .i64 c'])).run Try.prog w = .ok (.bool !(eqW a b c a' b' c')) w := by
  obtain ⟨f0, f1, f2, hl, h0, h1, h2⟩ := struct_threeL (P := Try.prog) (t := 62) (k0 := (3, 0, true)) (k1 := (3, 1, true)) (k2 := (3, 2, true)) (by kernel_rfl)
  refine eql_of (by kernel_rfl) (by kernel_rfl) ?_
  rw [hl,
    eqF_cons h0 (a := .int .i64 a) (b := .int .i64 a') (by kernel_rfl) (by kernel_rfl) (run_equalIn_int _ 9998 _ _ .i64 _ _ Try.underlying3),
    eqF_cons h1 (a := .int .i64 b) (b := .int .i64 b') (by kernel_rfl) (by kernel_rfl) (run_equalIn_int _ 9998 _ _ .i64 _ _ Try.underlying3),
    eqF_cons h2 (a := .int .i64 c) (b := .int .i64 c') (by kernel_rfl) (by kernel_rfl) (run_equalIn_int _ 9998 _ _ .i64 _ _ Try.underlying3), eqF_nil]
  unfold eqW
  cases h10 : (a == a') <;> cases h11 : (b == b') <;> (first | rfl | (cases h12 : (c == c') <;> rfl))
theorem eqW_self (a b c : Int) : eqW a b c a b c = true := by unfold eqW; simp
theorem eqW_iff {a b c a' b' c' : Int} : eqW a b c a' b' c' = true ↔ a = a' ∧ b = b' ∧ c = c' := by unfold eqW; simp
/-- A slice of one entry. -/
theorem one_ge (W : World) (x : Int × Bool) : geE.In (W.alloc (.cells #[.int .i64 x.1, .bool x.2] 110)) (some ⟨W.heap.size, 0, none⟩) [x] := by
  refine .inr ⟨W.heap.size, 0, rfl, by simp, fun i hi j hj => ?_⟩
  have h1 : i < 1 := hi
  obtain rfl : i = 0 := by omega
  have h2 : j < 2 := hj
  rcases (by omega : j = 0 ∨ j = 1) with rfl | rfl <;> (go_simp; rfl)
theorem add_one (w W : World) (g mb n : Nat) (m : Lm) (z a s : Int) (x : Int × Bool) (h : LmAt W g mb n m) (hn : n ≤ 1000) (hw : WfI x.1) (hb : Below w.heap.size w W) (hg : w.heap.size ≤ g) (hm : w.heap.size ≤ mb) :
    Calls Try.prog 58 #[.pointer (some ⟨g, 0, none⟩), .int .i64 z, .int .i64 a, .agg #[.int .i64 s, .slice (some ⟨W.heap.size, 0, none⟩) 1 1, .slice none 0 0]] (W.alloc (.cells #[.int .i64 x.1, .bool x.2] 110)) fun e w' => e = .returned (.tuple #[]) ∧ LmAt w' g mb (n + 1) (m.add z a s [x]) ∧ Below w.heap.size w w' := by
  have hal := (Below.refl W.heap.size W).alloc (Nat.le_refl _) (.cells #[.int .i64 x.1, .bool x.2] 110)
  have hlt := h.lt
  have h1 := add_any (W.alloc (.cells #[.int .i64 x.1, .bool x.2] 110)) g mb n m z a s (some ⟨W.heap.size, 0, none⟩) none 1 0 0 [x] (h.below hal) (one_ge W x) (fun b off e => by injection e with e; injection e with e1 _ _; omega) (by simp) (by omega) (fun y hy => by rw [List.mem_singleton.1 hy]; exact hw)
  refine h1.mono fun e w' ⟨he, h2, h3⟩ => ⟨he, h2, ?_⟩
  have hs := hb.size
  exact (hb.alloc hs _).trans (h3.below hg hm (by simp; omega))
set_option maxRecDepth 100000 in
set_option maxHeartbeats 2000000 in
theorem speaks19 (w : World) : Calls Try.prog 27 #[] w fun e w' => e = .returned (.bool true) ∧ Below w.heap.size w w' := by
  have hnew := Lib.hid (new_any w)
  have heq : ∀ W, (binOp .eql 62 (.agg #[.int .i64 1, .int .i64 0, .int .i64 0]) (.agg #[.int .i64 1, .int .i64 0, .int .i64 0])).run Try.prog W = .ok (.bool true) W := fun W => (where_eql W 1 0 0 1 0 0).1
  go_enter Try.func27, Try.ntmps27
  go_wp2_with fail
  (with_reducible refine hnew.out.mono ?_)
  rintro e w1 ⟨g, mb, rfl, h1, hb1, hg, hm⟩
  have ha1 := Lib.hid (add_one w w1 g mb 0 Lm.new 1 0 5 (3, false) h1 (by omega) (wfI_of (by omega)) hb1 hg hm)
  clear hnew h1 hb1
  go_wp2_with fail
  (with_reducible refine ha1.out.mono ?_)
  rintro e w2 ⟨rfl, h2, hb2⟩
  have ha2 := Lib.hid (add_one w w2 g mb 1 (Lm.new.add 1 0 5 [(3, false)]) 2 7 4 (3, false) h2 (by omega) (wfI_of (by omega)) hb2 hg hm)
  clear ha1 h2 hb2
  go_wp2_with fail
  (with_reducible refine ha2.out.mono ?_)
  rintro e w3 ⟨rfl, h3, hb3⟩
  have hg3 := get_any w3 g mb 2 ((Lm.new.add 1 0 5 [(3, false)]).add 2 7 4 [(3, false)]) 3 h3 (wfI_of (by omega))
  have hf3 : ((Lm.new.add 1 0 5 [(3, false)]).add 2 7 4 [(3, false)]).f 3 = some ⟨5, false, 1, 0, 0⟩ := by rfl
  rw [hf3] at hg3
  have hg3H := Lib.hid hg3
  have h3H := Lib.hid h3
  have hb3H := Lib.hid hb3
  clear ha2 h3 hb3 hg3 hf3
  go_wp2_with fail
  (with_reducible refine hg3H.out.mono ?_)
  rintro e w4 ⟨rfl, hb4⟩
  have h4 := h3H.out.below hb4
  have hB4 := hb3H.out.trans (hb4.mono hb3H.out.size)
  have hal := (Below.refl w4.heap.size w4).alloc (Nat.le_refl _) (.cells #[.int .i64 1, .int .i64 0, .int .i64 0] 62)
  have hsq := seq_any (w4.alloc (.cells #[.int .i64 1, .int .i64 0, .int .i64 0] 62)) g mb 2 _ (h4.below hal)
  have hq5 : ((Lm.new.add 1 0 5 [(3, false)]).add 2 7 4 [(3, false)]).q = 5 := by rfl
  rw [hq5] at hsq
  have hsqH := Lib.hid hsq
  have hB5 := Lib.hid (hB4.alloc hB4.size (.cells #[.int .i64 1, .int .i64 0, .int .i64 0] 62))
  clear hg3H h3H hb3H hb4 h4 hB4 hal hsq hq5
  dsimp only [Option.getD_some, Option.isSome_some]
  go_wp2_with fail
  (with_reducible refine hsqH.out.mono ?_)
  rintro e w5 ⟨rfl, rfl⟩
  go_wp2_with fail
  go_ret
  exact ⟨rfl, hB5.out⟩
theorem live_nil (w : World) (z : Int) : Calls Try.prog 31 #[.pointer none, .int .i64 z] w fun e w' => e = .returned (.slice none 0 0) ∧ Below w.heap.size w w' := by
  have hb := Below.refl w.heap.size w
  have hbH := Lib.hid hb
  clear hb
  go_enter Try.func31, Try.ntmps31
  go_wp2_with fail
  go_ret
  exact ⟨rfl, hbH.out⟩
theorem counts_nil (w : World) (n : Int) : Calls Try.prog 34 #[.pointer none, .int .i64 n] w fun e w' => e = .returned (.slice none 0 0) ∧ Below w.heap.size w w' := by
  have hb := Below.refl w.heap.size w
  have hbH := Lib.hid hb
  clear hb
  go_enter Try.func34, Try.ntmps34
  go_wp2_with fail
  go_ret
  exact ⟨rfl, hbH.out⟩
end Go.Proofs.Ytbgkmppngnedlaa
