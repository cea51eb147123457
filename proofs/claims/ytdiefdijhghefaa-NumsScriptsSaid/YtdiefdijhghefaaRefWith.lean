/- The reference's Without and With. -/
import Derived.Test.YtdiefdijhghefaaRefs
import Derived.OwnWalk
namespace Go.Proofs.Ytdiefdijhghefaa
open Go.RowKit Sets

theorem own_far {W : World} {b0 b : Nat} {e : TypeId} {size k : Nat} {v : Value} {xs : List Value} (hrow : W.ownsRow b0 e size v k xs) (hb : b < b0) : some b ≠ v.ownBlock := by
  rcases hrow.2 with ⟨rfl, _⟩ | ⟨g, cap, cur, rfl, hg, _, _⟩
  · simp [Value.ownBlock]
  · simp [Value.ownBlock]; omega

set_option maxHeartbeats 1000000 in
theorem refless_any (A : Option Addr) (cap : Nat) (xs : List Int) (n : Int) (w : World) (hl : xs.length ≤ 256) (hI : IntsIn w A xs) :
    Calls Try.prog 16 #[refV A xs.length cap, .int .i64 n] w fun e w' => ∃ A' cap', e = .returned (refV A' (lessL n xs).length cap') ∧ IntsFrom w.heap.size w' A' (lessL n xs) ∧ Below w.heap.size w w' := by
  unfold refV
  have hIH := Lib.hid hI
  clear hI
  obtain ⟨i0, hi, hz0, hz1, hz2⟩ := info_parts infoI
  have hinfo := Lib.hid (And.intro hi (And.intro hz0 (And.intro hz1 hz2)))
  clear hi hz0 hz1 hz2
  go_enter Try.func16, Try.ntmps16
  go_wp2
  refine fresh_world (fun W => W.cell? ⟨w.heap.size, 0, none⟩ = some (.slice A xs.length cap) ∧ W.cell? ⟨w.heap.size + 1, 0, none⟩ = some (.slice none 0 0) ∧ W.frozen? ⟨w.heap.size + 1, 0, none⟩ = false ∧ W.heap.size = w.heap.size + 2 ∧ Below w.heap.size w W) ⟨by go_simp, by go_simp, by go_simp, by simp, ((Below.refl _ _).alloc (Nat.le_refl _) _).alloc (by simp) _⟩ ?_
  rintro W0 ⟨hc0, hc1, hf1, hsz, hB0⟩
  have hc0H := Lib.hid hc0
  have hc1H := Lib.hid hc1
  have hf1H := Lib.hid hf1
  have hB0H := Lib.hid hB0
  clear hc0 hc1 hf1 hB0
  go_loopw [5, 6] (fun v i wr => ∃ k : Nat, k ≤ xs.length ∧ i = .int .i64 (k : Int) ∧ (∃ pre : List Int, pre = lessL n (xs.take k) ∧ wr.ownsRow (w.heap.size + 2) 3 1 v pre.length (pre.map (Value.int .i64))) ∧ Below (w.heap.size + 2) W0 wr) (fun _ i _ => xs.length - (intOf i).toNat)
  case atStart => exact ⟨0, by omega, rfl, ⟨[], by simp [lessL], World.ownsRow_nil _ _ _ _⟩, Below.refl _ _⟩
  case round =>
    obtain ⟨k, hk, rfl, ⟨pre, hpre, hrow⟩, hB⟩ := hrel
    have hb0 := (hB.cell (p := ⟨w.heap.size, 0, none⟩) (by simp)).trans hc0H.out
    have hBw := hB0H.out.trans (hB.mono (by omega))
    have hpl : pre.length ≤ 256 := by
      have h1 : (lessL n (xs.take k)).length ≤ (xs.take k).length := List.length_filter_le _ _
      rw [List.length_take] at h1
      rw [hpre]; omega
    have hpreH := Lib.hid hpre
    clear hpre
    by_cases hlt : k < xs.length
    · obtain ⟨b, off, rfl, hltb, hc⟩ := (hIH.out.below hBw).at_ hlt
      have ht : lessL n (xs.take (k + 1)) = lessL n (xs.take k) ++ (if xs[k] = n then [] else [xs[k]]) := by
        rw [List.take_succ_eq_append_getElem hlt]
        unfold lessL
        rw [List.filter_append]
        by_cases e : xs[k] = n <;> simp [e]
      generalize xs[k] = x at hc ht
      rw [← hpreH.out] at ht
      by_cases hx : x = n
      · have hd : (x != n) = false := by simp [hx]
        rw [if_pos hx, List.append_nil] at ht
        have htH := Lib.hid ht
        clear ht
        go_wp2
        go_roundw
        case rel => exact ⟨k + 1, by omega, by go_num, ⟨pre, htH.out.symm, hrow⟩, hB⟩
        case measure => simp [intOf]; omega
      · have hd : (x != n) = true := by simp [hx]
        rw [if_neg hx] at ht
        have htH := Lib.hid ht
        clear ht
        have hTs := hinfo.out
        have hbs := hB.size
        go_wp2_with (at_builtin; refine wpList_append_own _ rfl _ _ 34 rfl (w.heap.size + 2) 3 i0 (.int .i64 0) 1 8 Try.underlying34 hTs.1 hTs.2.1 hTs.2.2.1 hTs.2.2.2 rfl (by decide) _ _ _ rfl (hrow.alloc _) ⟨wr.heap.size, 0, none⟩ 1 1 [.int .i64 x] rfl rfl (cell_one_new _ _ _) (by simp [Value.oneCell']) (by unfold maxLen; omega) (by omega) (by simp; omega) ?_; intro v' w1 hown' hgrow _; have hB1 := hB.trans (row_step hrow (by omega) hgrow))
        go_roundw
        case rel => exact ⟨k + 1, by omega, by go_num, ⟨pre ++ [x], htH.out.symm, by simpa using hown'⟩, hB1⟩
        case measure => simp [intOf]; omega
    · obtain rfl : k = xs.length := by omega
      have hp := hpreH.out
      rw [List.take_length] at hp
      have hrow2 := fun u => hrow.kept (grownBy_setCell' wr (w.heap.size + 1) u) (.inr (own_far hrow (by omega)).symm)
      obtain ⟨A', cap', rfl, hI'⟩ := ints_own hrow rfl
      have hI2 : IntsFrom w.heap.size (wr.setCell ⟨w.heap.size + 1, 0, none⟩ (.slice A' pre.length cap')) A' pre := by
        obtain ⟨A2, cap2, e, h⟩ := ints_from (hrow2 (.slice A' pre.length cap')) rfl
        injection e with e1 _ _
        subst e1
        exact h.mono (by omega)
      have hb1 := (hB.cell (p := ⟨w.heap.size + 1, 0, none⟩) (by simp)).trans hc1H.out
      have hb2 := (hB.frozen (p := ⟨w.heap.size + 1, 0, none⟩) (by simp)).trans hf1H.out
      have hres := cell_set wr (w.heap.size + 1) 0 _ (.slice A' pre.length cap') hb1
      have hpH := Lib.hid hp
      have hresH := Lib.hid hres
      clear hp hres
      go_wp2
      have hres := hresH.out
      obtain rfl := hpH.out
      refine bodyPost_ret (v := .agg #[.slice A' (lessL n xs).length cap']) (by simp [results, Try.results16, go_sem, hres]) rfl ⟨A', cap', rfl, hI2, ?_⟩
      exact hBw.setCell (by simp) _
end Go.Proofs.Ytdiefdijhghefaa
