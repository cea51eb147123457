/- ints: two rows of numbers are one. -/
import Derived.Test.YtdiefdijhghefaaSetList
import Derived.Test.YtdiefdijhghefaaSetOf
namespace Go.Proofs.Ytdiefdijhghefaa
open Go.RowKit Sets

/-- A row that the call owns reads as its numbers. -/
theorem ints_own {W : World} {b0 : Nat} {v : Value} {n : Nat} {xs : List Int} (h : W.ownsRow b0 3 1 v n (xs.map (Value.int .i64))) (hn : n = xs.length) :
    ∃ A cap, v = .slice A xs.length cap ∧ IntsIn W A xs := by
  subst hn
  rcases h.2 with ⟨rfl, h0⟩ | ⟨g, cap, cur, rfl, hb, hg, hrest⟩
  · exact ⟨none, 0, by rw [h0], .inl (List.eq_nil_of_length_eq_zero h0)⟩
  · refine ⟨some ⟨g, 0, none⟩, cap, rfl, .inr ⟨g, 0, rfl, (Array.getElem?_eq_some_iff.1 hg).1, fun i hi => ?_⟩⟩
    obtain ⟨_, _, _, ht⟩ := hrest
    rw [cell_of_row W g (0 + i) cur _ _ hg]
    have hi2 : (List.take (xs.length * 1) cur.toList)[i]? = some (Value.int .i64 xs[i]) := by rw [ht]; simp [hi]
    rw [List.getElem?_take, if_pos (by omega)] at hi2
    rw [Nat.zero_add]
    simpa using hi2

/-- A slice that reads as a list of integers, in no block below b0. -/
def IntsFrom (b0 : Nat) (w : World) (A : Option Addr) (zs : List Int) : Prop := zs = [] ∨ ∃ b off, A = some ⟨b, off, none⟩ ∧ b0 ≤ b ∧ b < w.heap.size ∧ ∀ i (h : i < zs.length), w.cell? ⟨b, off + i, none⟩ = some (.int .i64 zs[i])
theorem IntsFrom.ints {b0 : Nat} {w : World} {A : Option Addr} {zs : List Int} (h : IntsFrom b0 w A zs) : IntsIn w A zs := by
  rcases h with h | ⟨b, off, h1, _, h2, h3⟩
  · exact .inl h
  · exact .inr ⟨b, off, h1, h2, h3⟩
theorem IntsFrom.below {b0 : Nat} {w w' : World} {A : Option Addr} {zs : List Int} (h : IntsFrom b0 w A zs) (hb : Below w.heap.size w w') : IntsFrom b0 w' A zs := by
  rcases h with h | ⟨b, off, rfl, h0, hlt, hc⟩
  · exact .inl h
  · exact .inr ⟨b, off, rfl, h0, Nat.lt_of_lt_of_le hlt hb.size, fun i hi => (hb.cell (p := ⟨b, off + i, none⟩) hlt).trans (hc i hi)⟩
theorem IntsFrom.mono {b0 b1 : Nat} {w : World} {A : Option Addr} {zs : List Int} (h : IntsFrom b0 w A zs) (hb : b1 ≤ b0) : IntsFrom b1 w A zs := by
  rcases h with h | ⟨b, off, rfl, h0, r⟩
  · exact .inl h
  · exact .inr ⟨b, off, rfl, Nat.le_trans hb h0, r⟩
theorem IntsFrom.other {b0 : Nat} {w : World} {A : Option Addr} {zs : List Int} (h : IntsFrom b0 w A zs) {p : Addr} (hp : p.block < b0) (v : Value) : IntsFrom b0 (w.setCell p v) A zs := by
  rcases h with h | ⟨b, off, rfl, h0, hlt, hc⟩
  · exact .inl h
  · exact .inr ⟨b, off, rfl, h0, Nat.lt_of_lt_of_le hlt (KeepsWalks.setCell w p v).size, fun i hi => (World.cell?_setCell_other _ _ _ _ (by rintro rfl; simp at hp; omega)).trans (hc i hi)⟩
theorem ints_from {W : World} {b0 : Nat} {v : Value} {n : Nat} {xs : List Int} (h : W.ownsRow b0 3 1 v n (xs.map (Value.int .i64))) (hn : n = xs.length) :
    ∃ A cap, v = .slice A xs.length cap ∧ IntsFrom b0 W A xs := by
  obtain ⟨A, cap, rfl, hI⟩ := ints_own h hn
  refine ⟨A, cap, rfl, ?_⟩
  rcases hI with hI | ⟨b, off, rfl, hlt, hc⟩
  · exact .inl hI
  · refine .inr ⟨b, off, rfl, ?_, hlt, hc⟩
    rcases h.2 with ⟨e, _⟩ | ⟨g, c, cur, e, hb, _⟩
    · cases e
    · injection e with e1 _ _
      injection e1 with e2
      injection e2 with e3 _ _
      omega

theorem ints_any (A1 A2 : Option Addr) (c1 c2 : Nat) (xs ys : List Int) (w : World) (h1l : xs.length ≤ maxLen) (h2l : ys.length ≤ maxLen) (h1 : IntsIn w A1 xs) (h2 : IntsIn w A2 ys) :
    Calls Try.prog 21 #[.slice A1 xs.length c1, .slice A2 ys.length c2] w fun e w' => e = .returned (.bool (decide (xs = ys))) ∧ Below w.heap.size w w' := by
  unfold maxLen at h1l h2l
  have h1H := Lib.hid h1
  have h2H := Lib.hid h2
  clear h1 h2
  by_cases hl : xs.length = ys.length
  · have hd : ((xs.length : Int) != (ys.length : Int)) = false := by simp [hl]
    have hl' : (xs.length : Int) = (ys.length : Int) := by omega
    go_enter Try.func21, Try.ntmps21
    go_wp2
    go_loopw [5] (fun i wr => ∃ k : Nat, k ≤ xs.length ∧ i = .int .i64 (k : Int) ∧ xs.take k = ys.take k ∧ Below w.heap.size w wr) (fun i _ => xs.length - (intOf i).toNat)
    case atStart => exact ⟨0, by omega, rfl, by simp, Below.refl _ _⟩
    case round =>
      obtain ⟨k, hk, rfl, hpre, hB⟩ := hrel
      have hpreH := Lib.hid hpre
      clear hpre
      by_cases hlt : k < xs.length
      · have hlt2 : k < ys.length := by omega
        obtain ⟨b, off, rfl, _, hc⟩ := (h1H.out.below hB).at_ hlt
        obtain ⟨b', off', rfl, _, hc'⟩ := (h2H.out.below hB).at_ hlt2
        have hx : xs.take (k + 1) = xs.take k ++ [xs[k]] := by rw [List.take_succ_eq_append_getElem hlt]
        have hy : ys.take (k + 1) = ys.take k ++ [ys[k]] := by rw [List.take_succ_eq_append_getElem hlt2]
        have hne : xs[k] ≠ ys[k] → xs ≠ ys := by rintro h rfl; exact h rfl
        generalize xs[k] = x at hc hx hne
        generalize ys[k] = y at hc' hy hne
        have hxH := Lib.hid hx
        have hyH := Lib.hid hy
        have hneH := Lib.hid hne
        clear hx hy hne
        by_cases hxy : x = y
        · subst hxy
          go_wp2_with fail
          go_quiet (fail)
          go_wp2
          go_roundw
          case rel => exact ⟨k + 1, by omega, by go_num, by rw [hxH.out, hyH.out, hpreH.out], below_drewN hB _⟩
          case measure => simp [intOf]; omega
        · have hb : (x != y) = true := by simp [hxy]
          go_wp2_with fail
          go_quiet (fail)
          go_wp2
          go_ret
          exact ⟨by rw [decide_eq_false (hneH.out hxy)]; rfl, below_drewN hB _⟩
      · obtain rfl : k = xs.length := by omega
        have he : xs = ys := by
          have := hpreH.out
          rwa [List.take_length, hl, List.take_length] at this
        go_wp2
        go_ret
        exact ⟨by rw [decide_eq_true he]; rfl, hB⟩
  · have hd : ((xs.length : Int) != (ys.length : Int)) = true := by simp; omega
    have hne : xs ≠ ys := fun e => hl (by rw [e])
    go_enter Try.func21, Try.ntmps21
    go_wp2
    go_ret
    exact ⟨by rw [decide_eq_false hne]; rfl, Below.refl _ _⟩
end Go.Proofs.Ytdiefdijhghefaa
