/- A rig whose power fails at a command (for RigCuts). -/
import Derived.Test.YtncbkegflkjlfaaRigFm
import Derived.Test.YtncbkegflkjlfaaMask
namespace Go.Proofs.Ytncbkegflkjlfaa
open Go.RowKit Zon Drv

/-- The rig behind i commands, of which those ahead of the N-th are done. -/
def Rct (w W : World) (r : Nat) (d : Nat → Nat) (N i : Nat) : Prop :=
  (i < N ∧ ∃ K D, Rig w W K r 3 d D ⟨64, (i : Int), (N : Int) - i, false, [1048576]⟩ ∧ ∀ j, j < 3 → ∃ l, l ≤ i ∧ Kz 4 64 1 1 (D j) l 0) ∨ (N ≤ i ∧ ∃ K D, Rig w W K r 3 d D ⟨64, (N : Int) - 1, 0, true, []⟩)
theorem Rct.new {w W : World} {K : Nat → Prop} {r : Nat} {d : Nat → Nat} {N : Nat} (h : Rig w W K r 3 d (fun _ => newD 5 64 1 1) ⟨64, 0, (N : Int), false, [1048576]⟩) (hN : 1 ≤ N) : Rct w W r d N 0 := by
  refine .inl ⟨by omega, K, _, ?_, fun j _ => ⟨0, Nat.le_refl _, Kz.new (m := 4) (by decide)⟩⟩
  rw [show (N : Int) - ((0 : Nat) : Int) = N by omega]
  exact h
theorem Rct.grow {w W W' : World} {r : Nat} {d : Nat → Nat} {N i : Nat} (h : Rct w W r d N i) (hb : Below W.heap.size W W') : Rct w W' r d N i := by
  rcases h with ⟨h1, K, D, h2, h3⟩ | ⟨h1, K, D, h2⟩
  · exact .inl ⟨h1, K, D, h2.grow hb, h3⟩
  · exact .inr ⟨h1, K, D, h2.grow hb⟩
theorem Rct.below {w W : World} {r : Nat} {d : Nat → Nat} {N i : Nat} (h : Rct w W r d N i) : Below w.heap.size w W := by
  rcases h with ⟨h1, K, D, h2, h3⟩ | ⟨h1, K, D, h2⟩
  · exact h2.fam.b
  · exact h2.fam.b
/-- What a command leaves: an answer, and the rig. -/
def RctPost (w : World) (r : Nat) (d : Nat → Nat) (N i : Nat) (er : Int) (e : Ending) (w' : World) : Prop := ∃ (t : ByteArray) (y : Int), e = .returned (.tuple #[.string t, .int .i64 y, .int .i64 er]) ∧ Rct w w' r d N i
/-- A command ahead of the cut. -/
theorem rct_ok {w W : World} {r : Nat} {d : Nat → Nat} {N i : Nat} {X : ByteArray} (hX : X.size = 64) (h : Rct w W r d N i) (hi : i + 1 < N) (hN : N < 64) (j : Nat) (hj : j < 3) :
    Calls Try.prog 30 #[.pointer (some ⟨r, 0, none⟩), .int .i64 (j : Int), .agg #[.int .i64 2, .int .i64 0, .int .i64 0, .int .i64 1], .string X] W (RctPost w r d N (i + 1) 0) := by
  rcases h with ⟨_, K, D, h, hD⟩ | ⟨h1, _⟩
  · obtain ⟨l, hl, hz⟩ := hD j hj
    refine (rk_do X j l hX h hz hj (by decide) (by decide) (by omega) rfl (show (N : Int) - i ≠ 1 by omega) (show (N : Int) - i ≤ 9223372036854775807 by omega) (show 0 ≤ (i : Int) ∧ (i : Int) ≤ 4611686018427387904 by omega)).mono ?_
    rintro e w' ⟨y, K', D', he, hR, hz'⟩
    refine ⟨_, y, he, .inl ⟨hi, K', upd D j D', ?_, fun k hk => ?_⟩⟩
    · have e2 : (if 1 < (N : Int) - i then (N : Int) - i - 1 else (N : Int) - i) = (N : Int) - ((i + 1 : Nat) : Int) := by rw [if_pos (by omega)]; omega
      rw [← e2]
      exact hR
    · by_cases e : k = j
      · subst e; rw [upd_same]; exact ⟨l + 1, by omega, hz'⟩
      · rw [upd_ne D e]
        obtain ⟨l', h1, h2⟩ := hD k hk
        exact ⟨l', by omega, h2⟩
  · omega
/-- The command at which the power fails, and those behind it. -/
theorem rct_no {w W : World} {r : Nat} {d : Nat → Nat} {N i : Nat} {X : ByteArray} (h : Rct w W r d N i) (hi : N ≤ i + 1) (j : Nat) (hj : j < 3) :
    Calls Try.prog 30 #[.pointer (some ⟨r, 0, none⟩), .int .i64 (j : Int), .agg #[.int .i64 2, .int .i64 0, .int .i64 0, .int .i64 1], .string X] W (RctPost w r d N (i + 1) 6) := by
  rcases h with ⟨h1, K, D, h, hD⟩ | ⟨h1, K, D, h⟩
  · obtain ⟨l, hl, hz⟩ := hD j hj
    have ha := adm_cut j (h.boxed 2 0 0 1) (fun k hk => by obtain ⟨l', _, h2⟩ := hD k hk; exact h2.ok) hj rfl hz.dead (show (N : Int) - i = 1 by omega)
    refine (rdo_no j 2 0 0 1 X 6 _ (by decide) ha).mono ?_
    rintro e w' ⟨he, hR, hk⟩
    refine ⟨_, 0, he, .inr ⟨hi, boxK W K, lostN D [1048576] 3, ?_⟩⟩
    rw [show (N : Int) - 1 = i by omega]
    exact hR
  · have ha := adm_off j (decide ((2 : Int) ≠ 7)) (h.boxed 2 0 0 1) hj rfl
    refine (rdo_no j 2 0 0 1 X 6 (fun w' => boxW W 2 0 0 1 = w') (by decide) ha).mono ?_
    rintro e w' ⟨he, rfl⟩
    exact ⟨_, 0, he, .inr ⟨by omega, boxK W K, D, h.boxed 2 0 0 1⟩⟩
theorem rct_off {w W : World} {r : Nat} {d : Nat → Nat} {N i : Nat} (h : Rct w W r d N i) :
    Calls Try.prog 31 #[.pointer (some ⟨r, 0, none⟩)] W fun e w' => e = .returned (.bool (decide (N ≤ i))) ∧ W = w' := by
  rcases h with ⟨h1, K, D, h, hD⟩ | ⟨h1, K, D, h⟩
  · rw [decide_eq_false (by omega)]
    exact roff_any h
  · rw [decide_eq_true h1]
    exact roff_any h
theorem rct_count {w W : World} {r : Nat} {d : Nat → Nat} {N i : Nat} (h : Rct w W r d N i) (hN : 1 ≤ N) :
    Calls Try.prog 32 #[.pointer (some ⟨r, 0, none⟩)] W fun e w' => e = .returned (.int .i64 ((min i (N - 1) : Nat) : Int)) ∧ W = w' := by
  rcases h with ⟨h1, K, D, h, hD⟩ | ⟨h1, K, D, h⟩
  · rw [show min i (N - 1) = i by omega]
    exact rcount2_any h
  · rw [show ((min i (N - 1) : Nat) : Int) = (N : Int) - 1 by omega]
    exact rcount2_any h
end Go.Proofs.Ytncbkegflkjlfaa
