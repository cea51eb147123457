/- FitPacks: the walk. -/
import Derived.Test.YtbgkmppngnedlaaFtC
import Derived.Lib.MinMax
namespace Go.Proofs.Ytbgkmppngnedlaa
open Go.RowKit Go.Shelf

set_option maxRecDepth 100000 in
set_option maxHeartbeats 4000000 in
theorem fpacks_law (w : World) (b : Int) : Calls Try.prog 8 #[.int .i64 b] w fun e w' => e = .returned (.bool true) ∧ Below w.heap.size w w' := by
  have hsp := Lib.hid (fun W => speaks21 W)
  have hen := Lib.hid (fun W => entries_any W b)
  by_cases h1 : b < 2
  case pos =>
    have e0 : entI b = 0 := by unfold entI ent; rw [if_neg (by omega)]; omega
    rw [e0] at hen
    have h1I : decide (b < 2) = true := decide_eq_true h1
    have q0 : ((0 : Int) == 0) = true := by simp
    clear e0
    go_enter Try.func8, Try.ntmps8
    go_wp2_with fail
    (with_reducible refine (hsp.out _).mono ?_)
    rintro e w1 ⟨rfl, hb1⟩
    have hB1 := Lib.hid (hb1)
    clear hb1 hsp
    go_wp2_with fail
    (with_reducible refine (hen.out _).mono ?_)
    rintro e w2 ⟨rfl, hb⟩
    have hB2 := Lib.hid (hB1.out.trans (hb.mono hB1.out.size))
    clear hb
    go_wp2_with fail
    go_ret
    exact ⟨rfl, hB2.out⟩
  case neg =>
    have h1I : decide (b < 2) = false := decide_eq_false h1
    by_cases h2 : 1048576 < b
    case pos =>
      have e0 : entI b = 0 := if_pos h2
      rw [e0] at hen
      have h2I : decide (b > 1048576) = true := decide_eq_true h2
      have q0 : ((0 : Int) == 0) = true := by simp
      clear e0
      go_enter Try.func8, Try.ntmps8
      go_wp2_with fail
      (with_reducible refine (hsp.out _).mono ?_)
      rintro e w1 ⟨rfl, hb1⟩
      have hB1 := Lib.hid (hb1)
      clear hb1 hsp
      go_wp2_with fail
      (with_reducible refine (hen.out _).mono ?_)
      rintro e w2 ⟨rfl, hb⟩
      have hB2 := Lib.hid (hB1.out.trans (hb.mono hB1.out.size))
      clear hb
      go_wp2_with fail
      go_ret
      exact ⟨rfl, hB2.out⟩
    case neg =>
      have h2I : decide (b > 1048576) = false := decide_eq_false h2
      have e0 : entI b = (ent b.toNat : Int) := if_neg h2
      rw [e0] at hen
      have hE := ent_is b.toNat
      have hEl : ent b.toNat < 1048576 := ent_lt (by omega)
      have hE1 : 1 ≤ ent b.toNat := by unfold ent; omega
      generalize ent b.toNat = E at hen hE hEl hE1
      unfold EntIs at hE
      have hE1I : decide ((E : Int) ≥ 1) = true := by simp; omega
      have hw : IntKind.i64.wrap ((E : Int) + 1) = ((E + 1 : Nat) : Int) := by rw [Int.natCast_add]; exact IntWalk.i64_in _ (by omega)
      obtain ⟨E2, hE2⟩ : ∃ E2, E + 1 = E2 := ⟨_, rfl⟩
      rw [hE2] at hw hE
      have hp1 := Lib.hid (fun W => pack_any (E : Int) 0 W)
      have hp2 := Lib.hid (fun W => pack_any (E2 : Int) 0 W)
      rw [pkI_nat E (by omega)] at hp1
      rw [pkI_nat E2 (by omega)] at hp2
      have c1 : decide ((pkN E : Int) ≤ b) = true := by simp; omega
      have c2 : decide ((pkN E2 : Int) > b) = true := by simp; omega
      generalize pkN E = p1 at hp1 c1 hE
      generalize pkN E2 = p2 at hp2 c2 hE
      clear hE hE2 hEl hE1 e0
      go_enter Try.func8, Try.ntmps8
      go_wp2_with fail
      (with_reducible refine (hsp.out _).mono ?_)
      rintro e w1 ⟨rfl, hb1⟩
      have hB1 := Lib.hid (hb1)
      clear hb1 hsp
      go_wp2_with fail
      (with_reducible refine (hen.out _).mono ?_)
      rintro e w2 ⟨rfl, hb⟩
      have hB2 := Lib.hid (hB1.out.trans (hb.mono hB1.out.size))
      clear hb
      go_wp2_with fail
      (with_reducible refine (hp1.out _).mono ?_)
      rintro e w3 ⟨rfl, rfl⟩
      go_wp2_with fail
      (with_reducible refine (hp2.out _).mono ?_)
      rintro e w3 ⟨rfl, rfl⟩
      go_wp2_with fail
      go_ret
      exact ⟨rfl, hB2.out⟩
end Go.Proofs.Ytbgkmppngnedlaa
