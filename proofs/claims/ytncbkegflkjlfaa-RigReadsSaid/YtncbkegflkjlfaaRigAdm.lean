/- Whether a command reaches its drive. -/
import Derived.Test.YtncbkegflkjlfaaRigFail
namespace Go.Proofs.Ytncbkegflkjlfaa
open Go.RowKit Zon Drv

section
variable {w W : World} {K : Nat → Prop} {r n : Nat} {d : Nat → Nat} {D : Nat → Dr} {s : Rs}
theorem adm_none (i : Int) (b : Bool) (h : Rig w W K r n d D s) (hi : ¬ (0 ≤ i ∧ i < n)) :
    Calls Try.prog 52 #[.pointer (some ⟨r, 0, none⟩), .int .i64 i, .bool b] W fun e w' => e = .returned (.int .i64 1) ∧ W = w' := by
  have hh := Lib.hid (rhas_any i h)
  rw [decide_eq_false hi] at hh
  clear h hi
  go_enter Try.func52, Try.ntmps52
  go_wp2_with (go_at_call 53; refine hh.out.mono ?_; rintro e w1 ⟨rfl, rfl⟩)
  go_ret
  exact ⟨rfl, rfl⟩
theorem adm_off (i : Nat) (b : Bool) (h : Rig w W K r n d D s) (hi : i < n) (ho : s.off = true) :
    Calls Try.prog 52 #[.pointer (some ⟨r, 0, none⟩), .int .i64 (i : Int), .bool b] W fun e w' => e = .returned (.int .i64 6) ∧ W = w' := by
  have hh := Lib.hid (rhas_any i h)
  rw [decide_eq_true (show 0 ≤ (i : Int) ∧ (i : Int) < n by omega)] at hh
  have c3 := h.c3
  rw [ho] at c3
  clear h ho
  go_enter Try.func52, Try.ntmps52
  go_wp2_with (go_at_call 53; refine hh.out.mono ?_; rintro e w1 ⟨rfl, rfl⟩)
  go_ret
  exact ⟨rfl, rfl⟩
theorem adm_dead (i : Nat) (b : Bool) (h : Rig w W K r n d D s) (hi : i < n) (ho : s.off = false) (hd : (D i).dead = true) :
    Calls Try.prog 52 #[.pointer (some ⟨r, 0, none⟩), .int .i64 (i : Int), .bool b] W fun e w' => e = .returned (.int .i64 7) ∧ W = w' := by
  have hh := Lib.hid (rhas_any i h)
  rw [decide_eq_true (show 0 ≤ (i : Int) ∧ (i : Int) < n by omega)] at hh
  have c3 := h.c3
  rw [ho] at c3
  obtain ⟨q, q1, _, _, q4⟩ := h.row
  have p1 := q4 i hi
  have hde := Lib.hid (fam_dead W i h.fam hi)
  rw [hd] at hde
  have hnb := h.nb
  clear h ho hd q4
  go_enter Try.func52, Try.ntmps52
  go_wp2_with (first | (go_at_call 53; refine hh.out.mono ?_; rintro e w1 ⟨rfl, rfl⟩) | (go_at_call 26; refine hde.out.mono ?_; rintro e w1 ⟨rfl, rfl⟩))
  go_ret
  exact ⟨rfl, rfl⟩
theorem adm_read (i : Nat) (h : Rig w W K r n d D s) (hi : i < n) (ho : s.off = false) (hd : (D i).dead = false) :
    Calls Try.prog 52 #[.pointer (some ⟨r, 0, none⟩), .int .i64 (i : Int), .bool false] W fun e w' => e = .returned (.int .i64 0) ∧ W = w' := by
  have hh := Lib.hid (rhas_any i h)
  rw [decide_eq_true (show 0 ≤ (i : Int) ∧ (i : Int) < n by omega)] at hh
  have c3 := h.c3
  rw [ho] at c3
  obtain ⟨q, q1, _, _, q4⟩ := h.row
  have p1 := q4 i hi
  have hde := Lib.hid (fam_dead W i h.fam hi)
  rw [hd] at hde
  have hnb := h.nb
  clear h ho hd q4
  go_enter Try.func52, Try.ntmps52
  go_wp2_with (first | (go_at_call 53; refine hh.out.mono ?_; rintro e w1 ⟨rfl, rfl⟩) | (go_at_call 26; refine hde.out.mono ?_; rintro e w1 ⟨rfl, rfl⟩))
  go_ret
  exact ⟨rfl, rfl⟩
theorem adm_cut (i : Nat) (h : Rig w W K r n d D s) (hok : ∀ i, i < n → (D i).Ok) (hi : i < n) (ho : s.off = false) (hd : (D i).dead = false) (hdu : s.due = 1) :
    Calls Try.prog 52 #[.pointer (some ⟨r, 0, none⟩), .int .i64 (i : Int), .bool true] W fun e w' => e = .returned (.int .i64 6) ∧ Rig w w' K r n d (lostN D s.ks n) { s with off := true, due := 0, ks := [] } ∧ SameK W w' (KR K r) := by
  have hh := Lib.hid (rhas_any i h)
  rw [decide_eq_true (show 0 ≤ (i : Int) ∧ (i : Int) < n by omega)] at hh
  have c3 := h.c3
  rw [ho] at c3
  have c4 := h.c4
  rw [hdu] at c4
  obtain ⟨q, q1, _, _, q4⟩ := h.row
  have p1 := q4 i hi
  have hde := Lib.hid (fam_dead W i h.fam hi)
  rw [hd] at hde
  have hnb := h.nb
  obtain ⟨A, cap, a1, a2, a3, a4⟩ := h.c5
  have hfa := Lib.hid (fail_any h hok A cap s.ks a2 (fun h0 b off e => (a3 h0 b off e).1) a4 h.kl.1 h.kl.2)
  generalize s.ks.length = kl at a1 hfa
  clear h ho hd q4 a2 a3 a4 hok hdu
  go_enter Try.func52, Try.ntmps52
  go_wp2_with (first | (go_at_call 53; refine hh.out.mono ?_; rintro e w1 ⟨rfl, rfl⟩) | (go_at_call 26; refine hde.out.mono ?_; rintro e w1 ⟨rfl, rfl⟩) | (go_at_call 54; refine hfa.out.mono ?_; rintro e w1 ⟨rfl, hR, hk⟩))
  go_ret
  exact ⟨rfl, hR, hk⟩
theorem adm_ok (i : Nat) (h : Rig w W K r n d D s) (hi : i < n) (ho : s.off = false) (hd : (D i).dead = false) (hdu : s.due ≠ 1) (hdb : s.due ≤ 9223372036854775807) (hcb : 0 ≤ s.cnt ∧ s.cnt ≤ 4611686018427387904) :
    Calls Try.prog 52 #[.pointer (some ⟨r, 0, none⟩), .int .i64 (i : Int), .bool true] W fun e w' => e = .returned (.int .i64 0) ∧ Rig w w' K r n d D { s with due := if 1 < s.due then s.due - 1 else s.due, cnt := s.cnt + 1 } ∧ SameK W w' (KR K r) := by
  have hh := Lib.hid (rhas_any i h)
  rw [decide_eq_true (show 0 ≤ (i : Int) ∧ (i : Int) < n by omega)] at hh
  have c2 := h.c2
  have c3 := h.c3
  rw [ho] at c3
  have c4 := h.c4
  obtain ⟨q, q1, _, _, q4⟩ := h.row
  have p1 := q4 i hi
  have hde := Lib.hid (fam_dead W i h.fam hi)
  rw [hd] at hde
  have hnb := h.nb
  have f2 := h.fr 2
  have f4 := h.fr 4
  by_cases h1 : 1 < s.due
  · rw [if_pos h1]
    have hR := Lib.hid ((h.set_due (s.due - 1)).set_cnt (s.cnt + 1))
    have hk := Lib.hid ((SameK.set W K r 4 (.int .i64 (s.due - 1))).trans (SameK.set _ K r 2 (.int .i64 (s.cnt + 1))))
    generalize s.due = du at *
    generalize s.cnt = cn at *
    clear h ho hd q4
    go_enter Try.func52, Try.ntmps52
    go_wp2_with (first | (go_at_call 53; refine hh.out.mono ?_; rintro e w1 ⟨rfl, rfl⟩) | (go_at_call 26; refine hde.out.mono ?_; rintro e w1 ⟨rfl, rfl⟩))
    go_ret
    exact ⟨rfl, hR.out, hk.out⟩
  · rw [if_neg h1]
    have hR := Lib.hid (h.set_cnt (s.cnt + 1))
    have hk := Lib.hid (SameK.set W K r 2 (.int .i64 (s.cnt + 1)))
    generalize s.due = du at *
    generalize s.cnt = cn at *
    clear h ho hd q4
    go_enter Try.func52, Try.ntmps52
    go_wp2_with (first | (go_at_call 53; refine hh.out.mono ?_; rintro e w1 ⟨rfl, rfl⟩) | (go_at_call 26; refine hde.out.mono ?_; rintro e w1 ⟨rfl, rfl⟩))
    go_ret
    exact ⟨rfl, hR.out, hk.out⟩
end
end Go.Proofs.Ytncbkegflkjlfaa
