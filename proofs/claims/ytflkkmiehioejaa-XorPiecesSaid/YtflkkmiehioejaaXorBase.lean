/- What xor's Missing does, and what every law of the third layer asks first. -/
import Derived.Test.YtflkkmiehioejaaXorAdd
namespace Go.Proofs.Ytflkkmiehioejaa
open Go.RowKit Xor

theorem missing_any (a : ByteArray) (A : Option Addr) (cap : Nat) (ps : List ByteArray) (w : World) (ha : a.size ≤ 65536) (hl : ps.length ≤ 1000000) (hL : longest ps ≤ 65536) (hS : StrsIn w A ps) :
    Calls Try.prog 14 #[.string a, .slice A ps.length cap] w fun e w' => e = .returned (.string (foldS [a, foldS ps])) ∧ Below w.heap.size w w' := by
  have hf1 := Lib.hid (fold_any A cap ps w hl hL hS)
  have ha1 := Lib.hid (fun W => xadd_any a (foldS ps) W ha (by rw [size_foldS]; exact hL))
  clear hS
  go_enter Try.func14, Try.ntmps14
  go_wp2_with fail
  (with_reducible refine hf1.out.mono ?_)
  rintro e w1 ⟨rfl, hb1⟩
  go_wp2_with fail
  (with_reducible refine (ha1.out _).mono ?_)
  rintro e w2 ⟨rfl, hb2⟩
  have hB := bmore hb1 hb2
  clear hb1 hb2
  go_wp2
  go_ret
  exact ⟨rfl, hB⟩

theorem speaks3 (w : World) :
    Calls Try.prog 10 #[] w fun e w' => e = .returned (.bool true) ∧ Below w.heap.size w w' := by
  have c1 := fun W => xadd_any ⟨#[97, 98]⟩ ⟨#[3]⟩ W (by decide) (by decide)
  rw [show foldS [⟨#[97, 98]⟩, ⟨#[3]⟩] = ⟨#[98, 98]⟩ by decide +kernel] at c1
  have c2 := fun W => empty_any ⟨#[0]⟩ W (by decide)
  rw [show emptyB ⟨#[0]⟩ = true by decide +kernel] at c2
  have c1H := Lib.hid c1
  have c2H := Lib.hid c2
  clear c1 c2
  go_enter Try.func10, Try.ntmps10
  go_wp2_with fail
  (with_reducible refine (c1H.out _).mono ?_)
  rintro e w1 ⟨rfl, hb1⟩
  go_wp2_with fail
  (with_reducible refine (c2H.out _).mono ?_)
  rintro e w2 ⟨rfl, rfl⟩
  go_wp2
  go_ret
  exact ⟨rfl, hb1⟩

/-- More than a few thousand bytes? From the i-th text on, n bytes ahead of it. -/
def muchFrom : Nat → Nat → List ByteArray → Bool
  | _, _, [] => false
  | i, n, p :: ps => if 5000 < n + p.size ∨ 200 < i then true else muchFrom (i + 1) (n + p.size) ps
def muchB (ps : List ByteArray) : Bool := muchFrom 0 0 ps
theorem muchFrom_false : ∀ (ps : List ByteArray) (i n : Nat), muchFrom i n ps = false → n ≤ 5000 → i ≤ 201 → i + ps.length ≤ 201 ∧ ∀ p ∈ ps, p.size ≤ 5000
  | [], i, _, _, _, hi => ⟨by simpa using hi, by simp⟩
  | p :: ps, i, n, h, hn, hi => by
    unfold muchFrom at h
    by_cases hc : 5000 < n + p.size ∨ 200 < i
    · rw [if_pos hc] at h; cases h
    · rw [if_neg hc] at h
      obtain ⟨h1, h2⟩ := muchFrom_false ps (i + 1) (n + p.size) h (by omega) (by omega)
      refine ⟨by simp only [List.length_cons]; omega, fun q hq => ?_⟩
      rcases List.mem_cons.1 hq with rfl | hq
      · omega
      · exact h2 q hq
theorem much_false {ps : List ByteArray} (h : muchB ps = false) : ps.length ≤ 201 ∧ ∀ p ∈ ps, p.size ≤ 5000 := by
  have := muchFrom_false ps 0 0 h (by omega) (by omega)
  exact ⟨by omega, this.2⟩

set_option maxHeartbeats 400000 in
theorem much_any (A : Option Addr) (cap : Nat) (ps : List ByteArray) (w : World) (hz : ∀ p ∈ ps, p.size ≤ 140737488351232) (hS : StrsIn w A ps) :
    Calls Try.prog 11 #[.slice A ps.length cap] w fun e w' => e = .returned (.bool (muchB ps)) ∧ w = w' := by
  have hSH := Lib.hid hS
  have hzH := Lib.hid hz
  clear hS hz
  go_enter Try.func11, Try.ntmps11
  go_wp2_with fail
  go_loop [3, 4] (fun x i => ∃ k n : Nat, k ≤ ps.length ∧ k ≤ 201 ∧ n ≤ 5000 ∧ i = .int .i64 (k : Int) ∧ x = .int .i64 (n : Int) ∧ Hid (muchB ps = muchFrom k n (ps.drop k))) (fun _ i => ps.length - (intOf i).toNat)
  case atStart => exact ⟨0, 0, Nat.zero_le _, by omega, by omega, rfl, rfl, Lib.hid rfl⟩
  case round =>
    obtain ⟨k, n, hk, hk2, hn, rfl, rfl, hM⟩ := hrel
    by_cases hlt : k < ps.length
    · obtain ⟨b, off, rfl, _, hc⟩ := hSH.out.at_ hlt
      have hp := hzH.out ps[k] (List.getElem_mem _)
      have hsn : muchB ps = if 5000 < n + ps[k].size ∨ 200 < k then true else muchFrom (k + 1) (n + ps[k].size) (ps.drop (k + 1)) := by
        rw [hM.out, List.drop_eq_getElem_cons hlt]; rfl
      generalize ps[k] = p at hc hp hsn
      have hsnH := Lib.hid hsn
      clear hsn
      by_cases h1 : 5000 < n + p.size
      · have h1' : 5000 < (n : Int) + (p.size : Int) := by omega
        have e := hsnH.out
        rw [if_pos (.inl h1)] at e
        have eH := Lib.hid e
        clear e
        go_wp2
        go_ret
        exact ⟨by rw [eH.out]; rfl, rfl⟩
      · have h1' : ¬ 5000 < (n : Int) + (p.size : Int) := by omega
        by_cases h2 : 200 < k
        · have h2' : 200 < (k : Int) := by omega
          have e := hsnH.out
          rw [if_pos (.inr h2)] at e
          have eH := Lib.hid e
          clear e
          go_wp2
          go_ret
          exact ⟨by rw [eH.out]; rfl, rfl⟩
        · have h2' : ¬ 200 < (k : Int) := by omega
          have e := hsnH.out
          rw [if_neg (by omega)] at e
          have eH := Lib.hid e
          clear e
          go_wp2
          go_round
          case rel => exact ⟨k + 1, n + p.size, by omega, by omega, by omega, by go_num, by go_num, eH⟩
          case measure => simp [intOf]; omega
    · obtain rfl : k = ps.length := by omega
      have e := hM.out
      rw [List.drop_length] at e
      have eH := Lib.hid e
      clear e
      go_wp2
      go_ret
      exact ⟨by rw [eH.out]; rfl, rfl⟩
end Go.Proofs.Ytflkkmiehioejaa
