/- The reference's set, a rising list: Has, Next, Without, With. -/
import Derived.Test.YtdiefdijhghefaaInts
import Derived.Test.YtdiefdijhghefaaSetElems
namespace Go.Proofs.Ytdiefdijhghefaa
open Go.RowKit Sets

/-- A value of the reference's set. -/
def refV (A : Option Addr) (n cap : Nat) : Value := .agg #[.slice A n cap]

theorem row_step {W w1 : World} {b0 : Nat} {e : TypeId} {size k : Nat} {v : Value} {xs : List Value} {tmp : Obj} (hrow : W.ownsRow b0 e size v k xs) (hb0 : b0 ≤ W.heap.size)
    (hgrow : (W.alloc tmp).grownBy w1 v.ownBlock) : Below b0 W w1 := by
  refine ((Below.refl b0 W).alloc (by omega) tmp).grown hgrow (by simp; omega) fun j ej => ?_
  rcases hrow.2 with ⟨rfl, _⟩ | ⟨g, cap, cur, rfl, hb, _, _⟩
  · simp [Value.ownBlock] at ej
  · obtain rfl : g = j := by simpa [Value.ownBlock] using ej
    omega

theorem refhas_any (A : Option Addr) (cap : Nat) (xs : List Int) (n : Int) (w : World) (hl : xs.length ≤ maxLen) (hI : IntsIn w A xs) :
    Calls Try.prog 20 #[refV A xs.length cap, .int .i64 n] w fun e w' => e = .returned (.bool (decide (n ∈ xs))) ∧ Below w.heap.size w w' := by
  unfold maxLen at hl
  unfold refV
  have hIH := Lib.hid hI
  clear hI
  go_enter Try.func20, Try.ntmps20
  go_wp2
  refine fresh_world (fun W => W.cell? ⟨w.heap.size, 0, none⟩ = some (.slice A xs.length cap) ∧ Below w.heap.size w W) ⟨by go_simp, (Below.refl _ _).alloc (Nat.le_refl _) _⟩ ?_
  rintro W0 ⟨hb0, hB0⟩
  go_loopw [5] (fun i wr => ∃ k : Nat, k ≤ xs.length ∧ i = .int .i64 (k : Int) ∧ n ∉ xs.take k ∧ wr.cell? ⟨w.heap.size, 0, none⟩ = some (.slice A xs.length cap) ∧ Below w.heap.size w wr) (fun i _ => xs.length - (intOf i).toNat)
  case atStart => exact ⟨0, by omega, rfl, by simp, hb0, hB0⟩
  case round =>
    clear hb0 hB0
    obtain ⟨k, hk, rfl, hn, hb0, hB⟩ := hrel
    have hnH := Lib.hid hn
    clear hn
    by_cases hlt : k < xs.length
    · obtain ⟨b, off, rfl, _, hc⟩ := (hIH.out.below hB).at_ hlt
      have ht : xs.take (k + 1) = xs.take k ++ [xs[k]] := by rw [List.take_succ_eq_append_getElem hlt]
      have hm : xs[k] ∈ xs := List.getElem_mem _
      generalize xs[k] = x at hc ht hm
      have htH := Lib.hid ht
      have hmH := Lib.hid hm
      clear ht hm
      by_cases hx : x = n
      · have hd : (x == n) = true := by simp [hx]
        go_wp2
        go_ret
        exact ⟨by rw [decide_eq_true (hx ▸ hmH.out)]; rfl, hB⟩
      · have hd : (x == n) = false := by simp [hx]
        go_wp2
        go_roundw
        case rel => exact ⟨k + 1, by omega, by go_num, by rw [htH.out, List.mem_append]; simp [hnH.out, Ne.symm hx], hb0, hB⟩
        case measure => simp [intOf]; omega
    · obtain rfl : k = xs.length := by omega
      have hn := hnH.out
      rw [List.take_length] at hn
      go_wp2
      go_ret
      exact ⟨by rw [decide_eq_false hn]; rfl, hB⟩

theorem refnext_any (A : Option Addr) (cap : Nat) (xs : List Int) (f : Int) (w : World) (hl : xs.length ≤ maxLen) (hI : IntsIn w A xs) :
    Calls Try.prog 25 #[refV A xs.length cap, .int .i64 f] w fun e w' => e = .returned (.int .i64 (nextL xs f)) ∧ Below w.heap.size w w' := by
  unfold maxLen at hl
  unfold refV
  have hIH := Lib.hid hI
  clear hI
  go_enter Try.func25, Try.ntmps25
  go_wp2
  refine fresh_world (fun W => W.cell? ⟨w.heap.size, 0, none⟩ = some (.slice A xs.length cap) ∧ Below w.heap.size w W) ⟨by go_simp, (Below.refl _ _).alloc (Nat.le_refl _) _⟩ ?_
  rintro W0 ⟨hb0, hB0⟩
  go_loopw [5] (fun i wr => ∃ k : Nat, k ≤ xs.length ∧ i = .int .i64 (k : Int) ∧ (∀ x ∈ xs.take k, x < f) ∧ wr.cell? ⟨w.heap.size, 0, none⟩ = some (.slice A xs.length cap) ∧ Below w.heap.size w wr) (fun i _ => xs.length - (intOf i).toNat)
  case atStart => exact ⟨0, by omega, rfl, by simp, hb0, hB0⟩
  case round =>
    clear hb0 hB0
    obtain ⟨k, hk, rfl, hn, hb0, hB⟩ := hrel
    have hnH := Lib.hid hn
    clear hn
    by_cases hlt : k < xs.length
    · obtain ⟨b, off, rfl, _, hc⟩ := (hIH.out.below hB).at_ hlt
      have ht : xs.take (k + 1) = xs.take k ++ [xs[k]] := by rw [List.take_succ_eq_append_getElem hlt]
      have he : xs = xs.take k ++ xs[k] :: xs.drop (k + 1) := by rw [List.getElem_cons_drop, List.take_append_drop]
      have hnx : f ≤ xs[k] → nextL xs f = xs[k] := fun h => by
        conv => lhs; rw [he]
        exact nextL_some _ _ _ _ hnH.out h
      generalize xs[k] = x at hc ht hnx
      have htH := Lib.hid ht
      have hnxH := Lib.hid hnx
      clear ht hnx he
      by_cases hx : f ≤ x
      · go_wp2
        go_ret
        exact ⟨by rw [hnxH.out hx]; rfl, hB⟩
      · go_wp2
        go_roundw
        case rel =>
          refine ⟨k + 1, by omega, by go_num, ?_, hb0, hB⟩
          rw [htH.out]
          intro y hy
          rcases List.mem_append.1 hy with hy | hy
          · exact hnH.out y hy
          · obtain rfl : y = x := by simpa using hy
            omega
        case measure => simp [intOf]; omega
    · obtain rfl : k = xs.length := by omega
      have hn := hnH.out
      rw [List.take_length] at hn
      have hnx : nextL xs f = -1 := nextL_none _ _ hn
      have hnxH := Lib.hid hnx
      clear hnx hn
      go_wp2
      go_ret
      exact ⟨by rw [hnxH.out]; rfl, hB⟩
end Go.Proofs.Ytdiefdijhghefaa
