/- What first of tail does, by the two closures that it is handed (by gen_tl1.py). -/
import Derived.Test.YtdjdldcpaidmnaaTlV
namespace Go.Proofs.Ytdjdldcpaidmnaa
open Go.RowKit Tl

set_option maxHeartbeats 1000000 in
theorem firstS_any (n : Nat) (hn : n ≤ 1000000) (x1 x2 x3 x4 x5 x6 : Value) (p : Nat → Bool) (R : World → Prop) (hR : ∀ W W', R W → Below W.heap.size W W' → R W') (w : World) (hw : R w)
    (hc : ∀ k, k < n → ∀ W, R W → Calls Try.prog 42 #[.int .i64 (k : Int), x1, x2, x3, x4, x5, x6] W fun e w' => e = .returned (.bool (p k)) ∧ Below W.heap.size W w') :
    Calls Try.prog 35 #[.int .i64 (n : Int), .func (.func 42) #[] #[x1, x2, x3, x4, x5, x6]] w fun e w' => e = .returned (.int .i64 (lead p n : Int)) ∧ Below w.heap.size w w' := by
  have eg : ∀ args w, (callFunc 42 args).run Try.prog w = .ok (.enter 42 args) w := enters_of Try.func42 (by kernel_rfl) rfl
  have hcH := Lib.hid hc
  have hRH := Lib.hid (fun W (hb : Below w.heap.size w W) => hR w W hw hb)
  obtain ⟨L, hL⟩ : ∃ L, lead p n = L := ⟨_, rfl⟩
  rw [hL]
  have hLH := Lib.hid hL
  clear hc hR hw hL
  go_enter Try.func35, Try.ntmps35
  go_wp2_with fail
  go_loopw [7] (fun s wr => ∃ k : Nat, k ≤ n ∧ s = .int .i64 (k : Int) ∧ Hid (∀ j, j < k → p j = true) ∧ Below w.heap.size w wr) (fun s _ => n - (intOf s).toNat)
  case atStart => exact ⟨0, Nat.zero_le _, rfl, Lib.hid (fun j h => absurd h (Nat.not_lt_zero _)), Below.refl _ _⟩
  case round =>
    obtain ⟨k, hk, rfl, hall, hB⟩ := hrel
    by_cases hlt : k < n
    case pos =>
      have g1 : (k : Int) < (n : Int) := by omega
      have hck := Lib.hid (hcH.out k hlt wr (hRH.out _ hB))
      have hkw : IntKind.i64.wrap ((k : Int) + 1) = (k : Int) + 1 := IntWalk.i64_in _ (by omega)
      have hstop : p k = false → L = k := fun h => hLH.out.symm.trans (lead_eq (Nat.le_of_lt hlt) hall.out fun _ => h)
      have hgo : p k = true → ∀ j, j < k + 1 → p j = true := fun h j hj => by
        rcases Nat.lt_succ_iff_lt_or_eq.1 hj with h1 | h1
        · exact hall.out j h1
        · rw [h1]; exact h
      have hstH := Lib.hid hstop
      have hgoH := Lib.hid hgo
      have hBH := Lib.hid hB
      clear hstop hgo hB hall
      generalize p k = v at hck hstH hgoH
      cases v
      case false =>
        have hk' := hstH.out rfl
        subst hk'
        go_wp2_with fail
        (with_reducible refine hck.out.mono ?_)
        rintro e w1 ⟨rfl, hb1⟩
        have hF := Lib.hid (hBH.out.trans (hb1.mono hBH.out.size))
        clear hb1 hck
        go_wp2
        go_ret
        exact ⟨rfl, hF.out⟩
      case true =>
        go_wp2_with fail
        (with_reducible refine hck.out.mono ?_)
        rintro e w1 ⟨rfl, hb1⟩
        have hF := Lib.hid (hBH.out.trans (hb1.mono hBH.out.size))
        have hg2 := Lib.hid (hgoH.out trivial)
        clear hb1 hck
        go_wp2_with fail
        go_roundw
        case rel => exact ⟨k + 1, by omega, by go_num, hg2, hF.out⟩
        case measure => simp [intOf]; omega
    case neg =>
      have e : k = n := by omega
      subst e
      have hk' : L = k := hLH.out.symm.trans (lead_eq (Nat.le_refl _) hall.out fun h => absurd h (Nat.lt_irrefl _))
      subst hk'
      have hBH := Lib.hid hB
      clear hB hall hLH hcH
      go_wp2
      go_ret
      exact ⟨rfl, hBH.out⟩

set_option maxHeartbeats 1000000 in
theorem firstL_any (n : Nat) (hn : n ≤ 1000000) (x1 x2 x3 : Value) (p : Nat → Bool) (R : World → Prop) (hR : ∀ W W', R W → Below W.heap.size W W' → R W') (w : World) (hw : R w)
    (hc : ∀ k, k < n → ∀ W, R W → Calls Try.prog 36 #[.int .i64 (k : Int), x1, x2, x3] W fun e w' => e = .returned (.bool (p k)) ∧ Below W.heap.size W w') :
    Calls Try.prog 35 #[.int .i64 (n : Int), .func (.func 36) #[] #[x1, x2, x3]] w fun e w' => e = .returned (.int .i64 (lead p n : Int)) ∧ Below w.heap.size w w' := by
  have eg : ∀ args w, (callFunc 36 args).run Try.prog w = .ok (.enter 36 args) w := enters_of Try.func36 (by kernel_rfl) rfl
  have hcH := Lib.hid hc
  have hRH := Lib.hid (fun W (hb : Below w.heap.size w W) => hR w W hw hb)
  obtain ⟨L, hL⟩ : ∃ L, lead p n = L := ⟨_, rfl⟩
  rw [hL]
  have hLH := Lib.hid hL
  clear hc hR hw hL
  go_enter Try.func35, Try.ntmps35
  go_wp2_with fail
  go_loopw [7] (fun s wr => ∃ k : Nat, k ≤ n ∧ s = .int .i64 (k : Int) ∧ Hid (∀ j, j < k → p j = true) ∧ Below w.heap.size w wr) (fun s _ => n - (intOf s).toNat)
  case atStart => exact ⟨0, Nat.zero_le _, rfl, Lib.hid (fun j h => absurd h (Nat.not_lt_zero _)), Below.refl _ _⟩
  case round =>
    obtain ⟨k, hk, rfl, hall, hB⟩ := hrel
    by_cases hlt : k < n
    case pos =>
      have g1 : (k : Int) < (n : Int) := by omega
      have hck := Lib.hid (hcH.out k hlt wr (hRH.out _ hB))
      have hkw : IntKind.i64.wrap ((k : Int) + 1) = (k : Int) + 1 := IntWalk.i64_in _ (by omega)
      have hstop : p k = false → L = k := fun h => hLH.out.symm.trans (lead_eq (Nat.le_of_lt hlt) hall.out fun _ => h)
      have hgo : p k = true → ∀ j, j < k + 1 → p j = true := fun h j hj => by
        rcases Nat.lt_succ_iff_lt_or_eq.1 hj with h1 | h1
        · exact hall.out j h1
        · rw [h1]; exact h
      have hstH := Lib.hid hstop
      have hgoH := Lib.hid hgo
      have hBH := Lib.hid hB
      clear hstop hgo hB hall
      generalize p k = v at hck hstH hgoH
      cases v
      case false =>
        have hk' := hstH.out rfl
        subst hk'
        go_wp2_with fail
        (with_reducible refine hck.out.mono ?_)
        rintro e w1 ⟨rfl, hb1⟩
        have hF := Lib.hid (hBH.out.trans (hb1.mono hBH.out.size))
        clear hb1 hck
        go_wp2
        go_ret
        exact ⟨rfl, hF.out⟩
      case true =>
        go_wp2_with fail
        (with_reducible refine hck.out.mono ?_)
        rintro e w1 ⟨rfl, hb1⟩
        have hF := Lib.hid (hBH.out.trans (hb1.mono hBH.out.size))
        have hg2 := Lib.hid (hgoH.out trivial)
        clear hb1 hck
        go_wp2_with fail
        go_roundw
        case rel => exact ⟨k + 1, by omega, by go_num, hg2, hF.out⟩
        case measure => simp [intOf]; omega
    case neg =>
      have e : k = n := by omega
      subst e
      have hk' : L = k := hLH.out.symm.trans (lead_eq (Nat.le_refl _) hall.out fun h => absurd h (Nat.lt_irrefl _))
      subst hk'
      have hBH := Lib.hid hB
      clear hB hall hLH hcH
      go_wp2
      go_ret
      exact ⟨rfl, hBH.out⟩
end Go.Proofs.Ytdjdldcpaidmnaa
