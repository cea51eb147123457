/- The reference's With. -/
import Derived.Test.YtdiefdijhghefaaRefWith
namespace Go.Proofs.Ytdiefdijhghefaa
open Go.RowKit Sets

theorem row_store {W : World} {b0 B : Nat} {e : TypeId} {size k : Nat} {v : Value} {xs : List Value} (hrow : W.ownsRow b0 e size v k xs) (hB : B < b0) (u : Value) : (W.setCell ⟨B, 0, none⟩ u).ownsRow b0 e size v k xs :=
  hrow.kept (grownBy_setCell' W B u) (.inr (own_far hrow hB).symm)

set_option maxHeartbeats 1000000 in
theorem refwith_same (A : Option Addr) (cap : Nat) (xs : List Int) (n : Int) (w : World) (hl : xs.length ≤ 256) (hI : IntsIn w A xs) (hn : n < 0 ∨ 255 < n ∨ n ∈ xs) :
    Calls Try.prog 18 #[refV A xs.length cap, .int .i64 n] w fun e w' => e = .returned (refV A xs.length cap) ∧ Below w.heap.size w w' := by
  have hhas := Lib.hid (fun W (hb : Below w.heap.size w W) => refhas_any A cap xs n W (by unfold maxLen; omega) (hI.below hb))
  unfold refV at hhas ⊢
  clear hI
  by_cases h0 : n < 0
  · clear hn
    go_enter Try.func18, Try.ntmps18
    go_wp2_with fail
    refine bodyPost_ret (v := .agg #[.slice A xs.length cap]) (by simp [results, Try.results18, go_sem]) rfl ⟨rfl, ?_⟩
    exact ((Below.refl _ _).alloc (Nat.le_refl _) _).alloc (by simp) _
  · by_cases h1 : 255 < n
    · clear hn
      go_enter Try.func18, Try.ntmps18
      go_wp2_with fail
      refine bodyPost_ret (v := .agg #[.slice A xs.length cap]) (by simp [results, Try.results18, go_sem]) rfl ⟨rfl, ?_⟩
      exact ((Below.refl _ _).alloc (Nat.le_refl _) _).alloc (by simp) _
    · have hm : decide (n ∈ xs) = true := decide_eq_true (by rcases hn with h | h | h; exact absurd h h0; exact absurd h h1; exact h)
      rw [hm] at hhas
      clear hn hm
      go_enter Try.func18, Try.ntmps18
      go_wp2_with fail
      have hBa : Below w.heap.size w ((w.alloc (.cells #[.slice A xs.length cap] 36)).alloc (.cells #[.slice none 0 0] 36)) := ((Below.refl _ _).alloc (Nat.le_refl _) _).alloc (by simp) _
      refine (hhas.out _ hBa).mono ?_
      rintro e w1 ⟨rfl, hb⟩
      have hB1 := bmore hBa hb
      have c0 : w1.cell? ⟨w.heap.size, 0, none⟩ = some (.slice A xs.length cap) := ((bcell hb).1 _ _ (by simp; try omega)).trans (by go_simp)
      have c1 : w1.cell? ⟨w.heap.size + 1, 0, none⟩ = some (.slice none 0 0) := ((bcell hb).1 _ _ (by simp; try omega)).trans (by go_simp)
      have c2 : w1.frozen? ⟨w.heap.size + 1, 0, none⟩ = false := ((bcell hb).2 _ _ (by simp; try omega)).trans (by go_simp)
      have c3 := cell_set w1 (w.heap.size + 1) 0 _ (.slice A xs.length cap) c1
      have c3H := Lib.hid c3
      clear c3
      go_wp2_with fail
      have c3 := c3H.out
      refine bodyPost_ret (v := .agg #[.slice A xs.length cap]) (by simp [results, Try.results18, go_sem, c3]) rfl ⟨rfl, ?_⟩
      exact hB1.setCell (by simp) _

set_option maxHeartbeats 2000000 in
theorem refwith_new (A : Option Addr) (cap : Nat) (xs : List Int) (n : Int) (w : World) (hl : xs.length ≤ 256) (hI : IntsIn w A xs) (hn : ¬ (n < 0 ∨ 255 < n ∨ n ∈ xs)) :
    Calls Try.prog 18 #[refV A xs.length cap, .int .i64 n] w fun e w' => ∃ A' cap', e = .returned (refV A' (ins n xs).length cap') ∧ IntsFrom w.heap.size w' A' (ins n xs) ∧ Below w.heap.size w w' := by
  have hhas := Lib.hid (fun W (hb : Below w.heap.size w W) => refhas_any A cap xs n W (by unfold maxLen; omega) (hI.below hb))
  have hm : decide (n ∈ xs) = false := decide_eq_false fun h => hn (.inr (.inr h))
  rw [hm] at hhas
  have h0 : ¬ n < 0 := by omega
  have h1 : ¬ 255 < n := by omega
  unfold refV at hhas ⊢
  have hIH := Lib.hid hI
  clear hI hn hm
  obtain ⟨i0, hi, hz0, hz1, hz2⟩ := info_parts infoI
  have hinfo := Lib.hid (And.intro hi (And.intro hz0 (And.intro hz1 hz2)))
  clear hi hz0 hz1 hz2
  go_enter Try.func18, Try.ntmps18
  go_wp2_with fail
  have hBa : Below w.heap.size w ((w.alloc (.cells #[.slice A xs.length cap] 36)).alloc (.cells #[.slice none 0 0] 36)) := ((Below.refl _ _).alloc (Nat.le_refl _) _).alloc (by simp) _
  refine (hhas.out _ hBa).mono ?_
  rintro e W0 ⟨rfl, hb⟩
  have hB0H := Lib.hid (bmore hBa hb)
  have hsz : w.heap.size + 2 ≤ W0.heap.size := by have := hb.size; simpa using this
  have hc0 : W0.cell? ⟨w.heap.size, 0, none⟩ = some (.slice A xs.length cap) := ((bcell hb).1 _ _ (by simp; try omega)).trans (by go_simp)
  have hc0H := Lib.hid hc0
  have hc1H := Lib.hid (show W0.cell? ⟨w.heap.size + 1, 0, none⟩ = some (.slice none 0 0) from ((bcell hb).1 _ _ (by simp; try omega)).trans (by go_simp))
  have hf1H := Lib.hid (show W0.frozen? ⟨w.heap.size + 1, 0, none⟩ = false from ((bcell hb).2 _ _ (by simp; try omega)).trans (by go_simp))
  clear hb hBa
  go_wp2_with fail
  clear hc0
  go_loopw [5, 6, 7] (fun v p i wr => ∃ k : Nat, k ≤ xs.length ∧ i = .int .i64 (k : Int) ∧ (∃ (q : Bool) (pre : List Int), p = .bool q ∧ pre ++ (if q then xs.drop k else ins n (xs.drop k)) = ins n xs ∧ wr.ownsRow (w.heap.size + 2) 3 1 v pre.length (pre.map (Value.int .i64))) ∧ Below (w.heap.size + 2) W0 wr) (fun _ _ i _ => xs.length - (intOf i).toNat)
  case atStart => exact ⟨0, by omega, rfl, ⟨false, [], rfl, rfl, World.ownsRow_nil _ _ _ _⟩, Below.refl _ _⟩
  case round =>
    obtain ⟨k, hk, rfl, ⟨q, pre, rfl, hpre, hrow⟩, hB⟩ := hrel
    have hb0 := (hB.cell (p := ⟨w.heap.size, 0, none⟩) (by simp)).trans hc0H.out
    have hBw := hB0H.out.trans (hB.mono (by omega))
    have hbs := hB.size
    have hpl : pre.length ≤ 257 := by
      have h1 := congrArg List.length hpre
      rw [List.length_append, ins_length] at h1
      omega
    have hpreH := Lib.hid hpre
    clear hpre
    have hTs := hinfo.out
    by_cases hlt : k < xs.length
    · obtain ⟨b, off, rfl, hlt0, hcw⟩ := hIH.out.at_ hlt
      have hc := (hBw.cell (p := ⟨b, off + k, none⟩) hlt0).trans hcw
      have hd : xs.drop k = xs[k] :: xs.drop (k + 1) := by rw [List.drop_eq_getElem_cons hlt]
      generalize xs[k] = x at hc hcw hd
      have hpl2 : pre.length ≤ 256 := by
        have h1 := congrArg List.length hpreH.out
        rw [hd, List.length_append, ins_length] at h1
        split at h1
        · simp at h1; have := congrArg List.length hd; simp at this; omega
        · rw [ins_length] at h1; simp at h1; have := congrArg List.length hd; simp at this; omega
      have hdH := Lib.hid hd
      clear hd
      cases q with
      | true =>
        have hnew : (pre ++ [x]) ++ (if true then xs.drop (k + 1) else ins n (xs.drop (k + 1))) = ins n xs := by
          have := hpreH.out
          rw [hdH.out] at this
          simpa using this
        have hnewH := Lib.hid hnew
        clear hnew
        go_wp2_with (at_builtin; refine wpList_append_own _ rfl _ _ 34 rfl (w.heap.size + 2) 3 i0 (.int .i64 0) 1 8 Try.underlying34 hTs.1 hTs.2.1 hTs.2.2.1 hTs.2.2.2 rfl (by decide) _ _ _ rfl (hrow.alloc _) ⟨wr.heap.size, 0, none⟩ 1 1 [.int .i64 x] rfl rfl (cell_one_new _ _ _) (by simp [Value.oneCell']) (by unfold maxLen; omega) (by omega) (by simp; omega) ?_; intro v1 w1 hown1 hgrow1 _; have hB1 := hB.trans (row_step hrow (by omega) hgrow1); have hbs1 := hB1.size)
        go_roundw
        case rel => exact ⟨k + 1, by omega, by go_num, ⟨true, pre ++ [x], rfl, hnewH.out, by simpa using hown1⟩, hB1⟩
        case measure => simp [intOf]; omega
      | false =>
        by_cases hx : n < x
        · have hnew : ((pre ++ [n]) ++ [x]) ++ (if true then xs.drop (k + 1) else ins n (xs.drop (k + 1))) = ins n xs := by
            have := hpreH.out
            rw [hdH.out] at this
            simp only [ins, if_pos hx] at this
            simpa using this
          have hnewH := Lib.hid hnew
          clear hnew
          go_wp2_with (first | (at_builtin; refine wpList_append_own _ rfl _ _ 34 rfl (w.heap.size + 2) 3 i0 (.int .i64 0) 1 8 Try.underlying34 hTs.1 hTs.2.1 hTs.2.2.1 hTs.2.2.2 rfl (by decide) _ _ _ rfl (hrow.alloc _) ⟨wr.heap.size, 0, none⟩ 1 1 [.int .i64 n] rfl rfl (cell_one_new _ _ _) (by simp [Value.oneCell']) (by unfold maxLen; omega) (by omega) (by simp; omega) ?_; intro v1 w1 hown1 hgrow1 _; have hB1 := hB.trans (row_step hrow (by omega) hgrow1); have hbs1 := hB1.size; have hb1 := (hB1.cell (p := ⟨w.heap.size, 0, none⟩) (by simp)).trans hc0H.out; have hx1 := ((hB0H.out.trans (hB1.mono (by omega))).cell (p := ⟨b, off + k, none⟩) hlt0).trans hcw) | (at_builtin; refine wpList_append_own _ rfl _ _ 34 rfl (w.heap.size + 2) 3 i0 (.int .i64 0) 1 8 Try.underlying34 hTs.1 hTs.2.1 hTs.2.2.1 hTs.2.2.2 rfl (by decide) _ _ _ rfl (hown1.alloc _) ⟨w1.heap.size, 0, none⟩ 1 1 [.int .i64 x] rfl rfl (cell_one_new _ _ _) (by simp [Value.oneCell']) (by unfold maxLen; omega) (by omega) (by simp; omega) ?_; intro v2 w2 hown2 hgrow2 _; have hB2 := hB1.trans (row_step hown1 (by omega) hgrow2); have hbs2 := hB2.size))
          go_roundw
          case rel => exact ⟨k + 1, by omega, by go_num, ⟨true, (pre ++ [n]) ++ [x], rfl, hnewH.out, by simpa using hown2⟩, hB2⟩
          case measure => simp [intOf]; omega
        · have hnew : (pre ++ [x]) ++ (if false then xs.drop (k + 1) else ins n (xs.drop (k + 1))) = ins n xs := by
            have := hpreH.out
            rw [hdH.out] at this
            simp only [ins, if_neg hx] at this
            simpa using this
          have hnewH := Lib.hid hnew
          clear hnew
          go_wp2_with (at_builtin; refine wpList_append_own _ rfl _ _ 34 rfl (w.heap.size + 2) 3 i0 (.int .i64 0) 1 8 Try.underlying34 hTs.1 hTs.2.1 hTs.2.2.1 hTs.2.2.2 rfl (by decide) _ _ _ rfl (hrow.alloc _) ⟨wr.heap.size, 0, none⟩ 1 1 [.int .i64 x] rfl rfl (cell_one_new _ _ _) (by simp [Value.oneCell']) (by unfold maxLen; omega) (by omega) (by simp; omega) ?_; intro v1 w1 hown1 hgrow1 _; have hB1 := hB.trans (row_step hrow (by omega) hgrow1); have hbs1 := hB1.size)
          go_roundw
          case rel => exact ⟨k + 1, by omega, by go_num, ⟨false, pre ++ [x], rfl, hnewH.out, by simpa using hown1⟩, hB1⟩
          case measure => simp [intOf]; omega
    · obtain rfl : k = xs.length := by omega
      have hp := hpreH.out
      rw [List.drop_length] at hp
      cases q with
      | true =>
        obtain rfl : pre = ins n xs := by simpa using hp
        have hb1 := (hB.cell (p := ⟨w.heap.size + 1, 0, none⟩) (by simp)).trans hc1H.out
        have hb2 := (hB.frozen (p := ⟨w.heap.size + 1, 0, none⟩) (by simp)).trans hf1H.out
        have hrow2 := fun u => hrow.kept (grownBy_setCell' wr (w.heap.size + 1) u) (.inr (own_far hrow (by omega)).symm)
        obtain ⟨A', cap', rfl, _⟩ := ints_own hrow (by simp)
        have hI2 : IntsFrom w.heap.size (wr.setCell ⟨w.heap.size + 1, 0, none⟩ (.slice A' (ins n xs).length cap')) A' (ins n xs) := by
          obtain ⟨A2, cap2, e, h⟩ := ints_from (hrow2 (.slice A' (ins n xs).length cap')) (by simp)
          injection e with e1 _ _
          subst e1
          exact h.mono (by omega)
        have hresH := Lib.hid (cell_set wr (w.heap.size + 1) 0 _ (.slice A' (ins n xs).length cap') hb1)
        go_wp2
        have hres := hresH.out
        refine bodyPost_ret (v := .agg #[.slice A' (ins n xs).length cap']) (by simp [results, Try.results18, go_sem, hres]) rfl ⟨A', ⟨cap', rfl⟩, hI2, hBw.setCell (by simp) _⟩
      | false =>
        have hp2 : pre ++ [n] = ins n xs := by simpa [ins] using hp
        have hp2H := Lib.hid hp2
        clear hp hp2
        go_wp2_with (at_builtin; refine wpList_append_own _ rfl _ _ 34 rfl (w.heap.size + 2) 3 i0 (.int .i64 0) 1 8 Try.underlying34 hTs.1 hTs.2.1 hTs.2.2.1 hTs.2.2.2 rfl (by decide) _ _ _ rfl (hrow.alloc _) ⟨wr.heap.size, 0, none⟩ 1 1 [.int .i64 n] rfl rfl (cell_one_new _ _ _) (by simp [Value.oneCell']) (by unfold maxLen; omega) (by omega) (by simp; omega) ?_; intro v1 w1 hown1 hgrow1 _; have hB1 := hB.trans (row_step hrow (by omega) hgrow1); have hbs1 := hB1.size; have hb2 := (hB1.cell (p := ⟨w.heap.size + 1, 0, none⟩) (by simp)).trans hc1H.out; have hb3 := (hB1.frozen (p := ⟨w.heap.size + 1, 0, none⟩) (by simp)).trans hf1H.out; have hown1' : w1.ownsRow (w.heap.size + 2) 3 1 v1 (pre.length + 1) ((pre ++ [n]).map (Value.int .i64)) := (by simpa using hown1); have hrow2 := Lib.hid (fun u => row_store hown1' (B := w.heap.size + 1) (Nat.lt_succ_self _) u); obtain ⟨A', cap', rfl, _⟩ := ints_own hown1' (by simp); clear hown1 hown1' hgrow1)
        have hI2 : IntsFrom w.heap.size (w1.setCell ⟨w.heap.size + 1, 0, none⟩ (.slice A' (pre.length + 1) cap')) A' (pre ++ [n]) := by
          obtain ⟨A2, cap2, e, h⟩ := ints_from (hrow2.out (.slice A' (pre.length + 1) cap')) (by simp)
          injection e with e1 _ _
          subst e1
          exact h.mono (by omega)
        have hres := cell_set w1 (w.heap.size + 1) 0 _ (.slice A' (pre.length + 1) cap') hb2
        have hp2 := hp2H.out
        have hlp : (ins n xs).length = pre.length + 1 := by rw [← hp2]; simp
        rw [hp2] at hI2
        refine bodyPost_ret (v := .agg #[.slice A' (pre.length + 1) cap']) (by simp [results, Try.results18, go_sem, hres]) rfl ⟨A', cap', by rw [hlp], hI2, (hB0H.out.trans (hB1.mono (by omega))).setCell (by simp) _⟩

theorem refwith_any (b0 : Nat) (A : Option Addr) (cap : Nat) (xs : List Int) (n : Int) (w : World) (hl : xs.length ≤ 256) (h0 : b0 ≤ w.heap.size) (hI : IntsFrom b0 w A xs) :
    Calls Try.prog 18 #[refV A xs.length cap, .int .i64 n] w fun e w' => ∃ A' cap', e = .returned (refV A' (withL n xs).length cap') ∧ IntsFrom b0 w' A' (withL n xs) ∧ Below w.heap.size w w' := by
  unfold withL
  split
  · rename_i h
    exact (refwith_same A cap xs n w hl hI.ints h).mono fun e w' ⟨he, hb⟩ => ⟨A, cap, he, hI.below hb, hb⟩
  · rename_i h
    exact (refwith_new A cap xs n w hl hI.ints h).mono fun e w' ⟨A', cap', he, h1, hb⟩ => ⟨A', cap', he, h1.mono h0, hb⟩
theorem refless_from (b0 : Nat) (A : Option Addr) (cap : Nat) (xs : List Int) (n : Int) (w : World) (hl : xs.length ≤ 256) (h0 : b0 ≤ w.heap.size) (hI : IntsFrom b0 w A xs) :
    Calls Try.prog 16 #[refV A xs.length cap, .int .i64 n] w fun e w' => ∃ A' cap', e = .returned (refV A' (lessL n xs).length cap') ∧ IntsFrom b0 w' A' (lessL n xs) ∧ Below w.heap.size w w' :=
  (refless_any A cap xs n w hl hI.ints).mono fun _ _ ⟨A', cap', he, h1, hb⟩ => ⟨A', cap', he, h1.mono h0, hb⟩
end Go.Proofs.Ytdiefdijhghefaa
