/- Has a slot the row? The document's answer. -/
import Derived.Test.YtdnedahbghhpgaaRvP
namespace Go.Proofs.Ytdnedahbghhpgaa
open Go.RowKit Tl Pl Md

theorem lenAt_of (ls : List Int) (m : Int) (ns : List (Int × Int)) (s : Nat) : lenAt ⟨ls, m, ns⟩ (s : Int) = ls.getD s 0 := by
  unfold lenAt
  rw [Int.toNat_natCast]
set_option maxHeartbeats 1000000 in
theorem rhas_any (A1 : Option Addr) (ca : Nat) (ls : List Int) (m : Int) (ns : List (Int × Int)) (Bn : Option Addr) (nn cb s : Nat) (row : Int) (w : World) (hI : IntsIn w A1 ls) (hs : s < ls.length) :
    Calls Try.prog 48 #[.agg #[.slice A1 ls.length ca, .int .i64 m, .slice Bn nn cb], .int .i64 (s : Int), .int .i64 row] w fun e w' => e = .returned (.bool (hasB ⟨ls, m, ns⟩ row (s : Int))) ∧ Below w.heap.size w w' := by
  obtain ⟨n, hn⟩ : ∃ n, ls.length = n := ⟨_, rfl⟩
  have hnew := World.alloc_heap_new w (.cells #[.slice A1 n ca, .int .i64 m, .slice Bn nn cb] 34)
  have ha := (Below.refl w.heap.size w).alloc (Nat.le_refl _) (.cells #[.slice A1 n ca, .int .i64 m, .slice Bn nn cb] 34)
  have hI2 := hI.below ha
  obtain ⟨bl, ol, eA, cl⟩ := ints_at hI2 hs
  have hN := Lib.hid (⟨cell_of_row _ _ 0 _ _ _ hnew, cell_of_row _ _ 1 _ _ _ hnew, cell_of_row _ _ 2 _ _ _ hnew, cl, ha⟩ : (w.alloc (.cells #[.slice A1 n ca, .int .i64 m, .slice Bn nn cb] 34)).cell? ⟨w.heap.size, 0, none⟩ = some (.slice A1 n ca) ∧ (w.alloc (.cells #[.slice A1 n ca, .int .i64 m, .slice Bn nn cb] 34)).cell? ⟨w.heap.size, 1, none⟩ = some (.int .i64 m) ∧ (w.alloc (.cells #[.slice A1 n ca, .int .i64 m, .slice Bn nn cb] 34)).cell? ⟨w.heap.size, 2, none⟩ = some (.slice Bn nn cb) ∧ (w.alloc (.cells #[.slice A1 n ca, .int .i64 m, .slice Bn nn cb] 34)).cell? ⟨bl, ol + s, none⟩ = some (.int .i64 (ls.getD s 0)) ∧ Below w.heap.size w (w.alloc (.cells #[.slice A1 n ca, .int .i64 m, .slice Bn nn cb] 34)))
  have hv : hasB ⟨ls, m, ns⟩ row (s : Int) = decide ((s : Int) ≠ m ∧ row < ls.getD s 0) := by unfold hasB; rw [lenAt_of]
  rw [hv]
  rw [hn] at hs ⊢
  clear hnew ha hI2 cl hv hI hn
  generalize ls.getD s 0 = y at hN ⊢
  subst eA
  have hsi : (s : Int) < (n : Int) := by omega
  by_cases k1 : (s : Int) = m
  · rw [decide_eq_false (fun h => h.1 k1)]
    have e1 : ((s : Int) != m) = false := by simp [k1]
    go_enter Try.func48, Try.ntmps48
    go_upto_region 1 with fail
    refine fresh_world (fun W => W.cell? ⟨w.heap.size, 0, none⟩ = some (.slice (some ⟨bl, ol, none⟩) n ca) ∧ W.cell? ⟨w.heap.size, 1, none⟩ = some (.int .i64 m) ∧ W.cell? ⟨w.heap.size, 2, none⟩ = some (.slice Bn nn cb) ∧ W.cell? ⟨bl, ol + s, none⟩ = some (.int .i64 y) ∧ Below w.heap.size w W) hN.out ?_
    clear hN k1
    rintro W ⟨c0, c1, c2, c3, hb⟩
    have hF := Lib.hid hb
    clear hb
    go_wp2_with fail
    go_ret
    exact ⟨rfl, hF.out⟩
  · have e1 : ((s : Int) != m) = true := by simp [k1]
    by_cases k2 : row < y
    · rw [decide_eq_true ⟨k1, k2⟩]
      go_enter Try.func48, Try.ntmps48
      go_upto_region 1 with fail
      refine fresh_world (fun W => W.cell? ⟨w.heap.size, 0, none⟩ = some (.slice (some ⟨bl, ol, none⟩) n ca) ∧ W.cell? ⟨w.heap.size, 1, none⟩ = some (.int .i64 m) ∧ W.cell? ⟨w.heap.size, 2, none⟩ = some (.slice Bn nn cb) ∧ W.cell? ⟨bl, ol + s, none⟩ = some (.int .i64 y) ∧ Below w.heap.size w W) hN.out ?_
      clear hN k1
      rintro W ⟨c0, c1, c2, c3, hb⟩
      have hF := Lib.hid hb
      clear hb
      go_wp2_with fail
      go_ret
      exact ⟨rfl, hF.out⟩
    · rw [decide_eq_false (fun h => k2 h.2)]
      have d2 : decide (row < y) = false := decide_eq_false k2
      go_enter Try.func48, Try.ntmps48
      go_upto_region 1 with fail
      refine fresh_world (fun W => W.cell? ⟨w.heap.size, 0, none⟩ = some (.slice (some ⟨bl, ol, none⟩) n ca) ∧ W.cell? ⟨w.heap.size, 1, none⟩ = some (.int .i64 m) ∧ W.cell? ⟨w.heap.size, 2, none⟩ = some (.slice Bn nn cb) ∧ W.cell? ⟨bl, ol + s, none⟩ = some (.int .i64 y) ∧ Below w.heap.size w W) hN.out ?_
      clear hN k1
      rintro W ⟨c0, c1, c2, c3, hb⟩
      have hF := Lib.hid hb
      clear hb
      go_wp2_with fail
      go_ret
      exact ⟨rfl, hF.out⟩
end Go.Proofs.Ytdnedahbghhpgaa
