/- Whether a slice has an int. -/
import Derived.Test.YtdjdldcpaidmnaaNBa
namespace Go.Proofs.Ytdjdldcpaidmnaa
open Go.RowKit Rec Bk
set_option maxRecDepth 100000 in
theorem ncontains_any (w : World) (A1 : Option Addr) (c1 : Nat) (l : List Int) (x : Int) (hI : IntsIn w A1 l) (hl : l.length ≤ 64) :
    Calls Try.prog 56 #[.slice A1 l.length c1, .int .i64 x] w fun e w' => e = .returned (.bool (decide (x ∈ l))) ∧ w = w' := by
  have h1 := Lib.hid (index_any w A1 c1 l x hI hl)
  have hb : Hid (∀ i : Int, ((i = -1 ∧ ∀ y ∈ l, y ≠ x) ∨ ∃ (k : Nat) (h : k < l.length), i = (k : Int) ∧ l[k] = x ∧ ∀ j (hj : j < l.length), j < k → l[j] ≠ x) → decide (0 ≤ i) = decide (x ∈ l)) := Lib.hid (fun i h => by
    rcases h with ⟨rfl, hn⟩ | ⟨k, hk, rfl, e, _⟩
    · rw [decide_eq_false (by omega), decide_eq_false (fun hm => hn x hm rfl)]
    · rw [decide_eq_true (by omega), decide_eq_true (by rw [← e]; exact List.getElem_mem hk)])
  clear hI hl
  generalize decide (x ∈ l) = t at hb
  go_enter Try.func56, Try.ntmps56
  go_wp2_with fail
  (with_reducible refine h1.out.mono ?_)
  rintro e w1 ⟨i, rfl, hi, rfl⟩
  have hbi := Lib.hid (hb.out i hi)
  clear h1 hb hi
  go_wp2_with fail
  go_ret
  exact ⟨by rw [hbi.out]; rfl, rfl⟩
end Go.Proofs.Ytdjdldcpaidmnaa
