/- What the document's answer does: Count, open. -/
import Derived.Test.YtncbkegflkjlfaaZonCmds
import Derived.Test.YtncbkegflkjlfaaZonMath2
namespace Go.Proofs.Ytncbkegflkjlfaa
open Go.RowKit Zon

set_option maxHeartbeats 1000000 in
theorem rcount_any (g z : Nat) (m : Mc) (lo hi : Int) (w : World) (hM : MAt w g z m) (hl : m.zs.length ≤ 64) :
    Calls Try.prog 70 #[.pointer (some ⟨g, 0, none⟩), .int .i64 lo, .int .i64 hi] w fun e w' => e = .returned (.int .i64 ((m.zs.countP fun y => decide (lo ≤ y.s) && decide (y.s ≤ hi) : Nat) : Int)) ∧ w = w' := by
  obtain ⟨⟨cap, c0⟩, _, _, _, hne, hzl, hza⟩ := hM
  have hzH := Lib.hid hza
  clear hza
  obtain ⟨f, hf⟩ : ∃ f : Zn → Bool, f = fun y => decide (lo ≤ y.s) && decide (y.s ≤ hi) := ⟨_, rfl⟩
  rw [← hf]
  have hfH := Lib.hid hf
  clear hf
  go_enter Try.func70, Try.ntmps70
  go_wp2
  go_loop [7, 8] (fun n i => ∃ k : Nat, k ≤ m.zs.length ∧ i = .int .i64 (k : Int) ∧ n = .int .i64 (((m.zs.take k).countP f : Nat) : Int)) (fun _ i => m.zs.length - (intOf i).toNat)
  case atStart => exact ⟨0, by omega, rfl, rfl⟩
  case round =>
    obtain ⟨k, hk, rfl, rfl⟩ := hrel
    have hc := Nat.le_trans (List.countP_le_length (p := f) (l := m.zs.take k)) (List.length_take_le _ _)
    by_cases hlt : k < m.zs.length
    · obtain ⟨h1, h2, _, _⟩ := hzH.out k hlt
      rw [← zAt_get hlt] at h1 h2
      have e1 : (m.zs.take (k + 1)).countP f = (m.zs.take k).countP f + (if f (zAt m.zs k) = true then 1 else 0) := by
        rw [List.take_succ_eq_append_getElem hlt, List.countP_append, zAt_get hlt]; simp [List.countP_cons]
      have hfy : f (zAt m.zs k) = (decide (lo ≤ (zAt m.zs k).s) && decide ((zAt m.zs k).s ≤ hi)) := by rw [hfH.out]
      rw [hfy] at e1
      clear hfy
      generalize zAt m.zs k = y at h1 h2 e1
      generalize (m.zs.take k).countP f = no at hc e1 ⊢
      have e1H := Lib.hid e1
      clear e1
      by_cases ha : lo ≤ y.s
      · by_cases hb : y.s ≤ hi
        · go_wp2
          go_round
          case rel => exact ⟨k + 1, by omega, by go_num, by rw [e1H.out]; simp [ha, hb]⟩
          case measure => simp [intOf]; omega
        · have hb' : decide (y.s ≤ hi) = false := by simpa using hb
          go_wp2
          go_round
          case rel => exact ⟨k + 1, by omega, by go_num, by rw [e1H.out]; simp [hb]⟩
          case measure => simp [intOf]; omega
      · have ha' : decide (lo ≤ y.s) = false := by simpa using ha
        go_wp2
        go_round
        case rel => exact ⟨k + 1, by omega, by go_num, by rw [e1H.out]; simp [ha]⟩
        case measure => simp [intOf]; omega
    · obtain rfl : k = m.zs.length := by omega
      rw [List.take_length]
      rw [List.take_length] at hc
      go_wp2
      go_ret
      exact ⟨rfl, rfl⟩

theorem countP_same {f g : Zn → Bool} (h : ∀ y, f y = g y) (zs : List Zn) : zs.countP f = zs.countP g := by
  have : f = g := funext h
  rw [this]
theorem rcount_open (g z : Nat) (m : Mc) (w : World) (hM : MAt w g z m) (hl : m.zs.length ≤ 64) :
    Calls Try.prog 70 #[.pointer (some ⟨g, 0, none⟩), .int .i64 1, .int .i64 2] w fun e w' => e = .returned (.int .i64 (nOpen m.zs : Int)) ∧ w = w' := by
  have h := rcount_any g z m 1 2 w hM hl
  rw [countP_same (g := fun y => openB y.s) (fun y => by unfold openB; rw [Bool.eq_iff_iff]; simp; omega)] at h
  exact h
theorem rcount_act (g z : Nat) (m : Mc) (w : World) (hM : MAt w g z m) (hl : m.zs.length ≤ 64) :
    Calls Try.prog 70 #[.pointer (some ⟨g, 0, none⟩), .int .i64 1, .int .i64 3] w fun e w' => e = .returned (.int .i64 (nAct m.zs : Int)) ∧ w = w' := by
  have h := rcount_any g z m 1 3 w hM hl
  rw [countP_same (g := fun y => actB y.s) (fun y => by unfold actB openB; rw [Bool.eq_iff_iff]; simp; omega)] at h
  exact h

/-- The zones behind the document's opening. -/
def ropn (m : Mc) (i : Nat) (st : Int) : List Zn :=
  if (admit m i).1 = 0 then (admit m i).2.set i ⟨if openB (zAt m.zs i).s = true ∧ st = 1 then (zAt m.zs i).s else st, (zAt m.zs i).l⟩ else m.zs
def OpenPost (w : World) (g z : Nat) (m : Mc) (i : Nat) (st : Int) (e : Ending) (w' : World) : Prop := e = .returned (.int .i64 (admit m i).1) ∧ MAt w' g z (m.with (ropn m i st)) ∧ Only w w' z

theorem ropen_open (g z : Nat) (m : Mc) (i : Nat) (st : Int) (w : World) (hM : MAt w g z m) (hok : m.Ok) (hi : i < m.zs.length) (hst : st = 1 ∨ st = 2) (ho : openB (zAt m.zs i).s = true) :
    Calls Try.prog 63 #[.pointer (some ⟨g, 0, none⟩), .int .i64 (i : Int), .int .i64 st] w (OpenPost w g z m i st) := by
  have hz2 := hok.z2
  have had : admit m i = (0, m.zs) := by unfold admit; rw [if_pos ho]
  have hr : ropn m i st = m.zs.set i ⟨if st = 1 then (zAt m.zs i).s else st, (zAt m.zs i).l⟩ := by unfold ropn; simp [had, ho]
  have hMH := Lib.hid hM
  obtain ⟨k1, k2, k3, k4⟩ := hM.cells hi
  obtain ⟨⟨cap, c0⟩, c1, c2, c3, hne, hzl, _⟩ := hM
  have hsame : m.zs.set i ⟨(zAt m.zs i).s, (zAt m.zs i).l⟩ = m.zs := set_zAt m.zs i
  have hs12 : (zAt m.zs i).s = 1 ∨ (zAt m.zs i).s = 2 := by simpa [openB] using ho
  have hend : OpenPost w g z m i st (.returned (.int .i64 0)) w ∨ st = 2 := by
    rcases hst with rfl | rfl
    · left; exact ⟨by rw [had], by rw [hr, if_pos rfl, hsame]; exact hMH.out, Only.refl _ _⟩
    · right; rfl
  have hend2 : st = 2 → OpenPost w g z m i st (.returned (.int .i64 0)) (w.setCell ⟨z, i * 2, none⟩ (.int .i64 2)) := fun h => by
    subst h
    exact ⟨by rw [had], by rw [hr, if_neg (by omega)]; exact hMH.out.set_s hi 2, (Only.refl _ _).set _ _⟩
  have hendH := Lib.hid hend
  have hend2H := Lib.hid hend2
  generalize zAt m.zs i = y at k1 k2 hs12
  clear hend hend2 hr had hsame hok ho
  rcases hst with rfl | rfl
  · have he := Lib.hid (hendH.out.resolve_right (by omega))
    rcases hs12 with h | h
    all_goals
      rw [h] at k1
      clear h
      go_enter Try.func63, Try.ntmps63
      go_wp2_with fail
      go_ret
      exact he.out
  · have he := Lib.hid (hend2H.out rfl)
    rcases hs12 with h | h
    all_goals
      rw [h] at k1
      clear h
      go_enter Try.func63, Try.ntmps63
      go_wp2_with fail
      go_ret
      exact he.out
end Go.Proofs.Ytncbkegflkjlfaa
