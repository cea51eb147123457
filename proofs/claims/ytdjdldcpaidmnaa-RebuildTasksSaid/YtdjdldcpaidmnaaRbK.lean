/- The example by which the laws of rebuild speak, plainly. -/
import Derived.Test.YtdjdldcpaidmnaaRbB
namespace Go.Proofs.Ytdjdldcpaidmnaa
open Go.RowKit Rec Bk Rb
namespace Rb
/-- The book of the example, and the one behind its beginning. -/
def bk16 : Bo := ⟨0, [⟨2, 1, 0⟩, ⟨3, 1, 0⟩], [0, 1, 2], -1, 0⟩
def bn16 : Bo := ⟨2, [⟨2, 1, 0⟩, ⟨3, 1, 0⟩], [0, 3, 2], 1, 2⟩
def ln16 : List Rc := [⟨6, 1, 1, 2, 0, 0, ⟨#[]⟩⟩, ⟨5, 2, 1, 3, 0, 0, ⟨#[]⟩⟩]
end Rb
theorem good16 : goodB 3 5 4 1 1 = true := by rw [goodB_iff]; unfold GoodP; omega
theorem new16 : newOf 3 5 4 1 1 = bk16 := by unfold newOf; rw [if_pos good16]; rfl
theorem beg16 {code : Int} {L : List Rc} {b' : Bo} (h : BegR bk16 3 1 code L b') : code = 0 ∧ L = ln16 ∧ b' = bn16 := by
  rcases h with ⟨_, ⟨h, _⟩, _⟩ | ⟨_, _, h, _⟩ | ⟨h0, _, _, h1, h2⟩
  · exact absurd h (by decide)
  · exact absurd h (by decide)
  · exact ⟨h0, h1.trans rfl, h2.trans rfl⟩
theorem next16 {p i : Int} {t : Bool} (h : NextR bn16 5 p i t) : p = 2 ∧ i = 0 ∧ t = true := by
  rcases h with ⟨h0, _, _, h1, h2⟩ | ⟨_, _, _, h | h⟩
  · have hp : p = 2 := h1.trans (by decide)
    subst hp
    refine ⟨rfl, ?_, h0⟩
    rcases h2 with ⟨_, h2⟩ | ⟨k, rfl, hk, _, h2⟩
    · exact absurd rfl (h2 ⟨2, 1, 0⟩ (List.mem_cons_self ..))
    · rcases Nat.eq_zero_or_pos k with e | e
      · subst e; rfl
      · exact absurd rfl (h2 0 (by decide) e)
  · exact absurd h (by decide)
  · exact absurd h (by decide)
end Go.Proofs.Ytdjdldcpaidmnaa
