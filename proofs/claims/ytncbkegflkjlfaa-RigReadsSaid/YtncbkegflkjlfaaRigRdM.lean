/- A rig of one written drive: new, grown, cut at a flush (for RigReads). -/
import Derived.Test.YtncbkegflkjlfaaRigOne
import Derived.Test.YtncbkegflkjlfaaMask
namespace Go.Proofs.Ytncbkegflkjlfaa
open Go.RowKit Zon Drv

theorem R1.new {w W : World} {K : Nat → Prop} {r : Nat} {d : Nat → Nat} {s : Rs} (b : Int) (h : Rig w W K r 2 d (fun _ => newD 5 b 1 1) s) (hok : newOk 5 b 1 1 = true) : R1 b w W K r d 0 s :=
  ⟨0, [], 0, by rw [show zD 4 b 1 1 0 ((0 : Nat) : Int) [] 0 = newD 5 b 1 1 from (newD_zD 4 b 1 1).symm, upd_const]; exact h, rfl, .inl rfl, by rw [show zD 4 b 1 1 0 ((0 : Nat) : Int) [] 0 = newD 5 b 1 1 from (newD_zD 4 b 1 1).symm]; exact newD_ok hok⟩
theorem R1.grow {b : Int} {w W W' : World} {K : Nat → Prop} {r : Nat} {d : Nat → Nat} {l : Nat} {s : Rs} (h : R1 b w W K r d l s) (hb : Below W.heap.size W W') : R1 b w W' K r d l s := by
  obtain ⟨s0, c, n, hR, h2⟩ := h
  exact ⟨s0, c, n, hR.grow hb, h2⟩
/-- The flush of the other drive, at which the power goes. -/
theorem r1_cutflush {b : Int} {w W : World} {K : Nat → Prop} {r : Nat} {d : Nat → Nat} {l : Nat} {s : Rs} (h : R1 b w W K r d l s) (hn : newOk 5 b 1 1 = true) (ho : s.off = false) (hdu : s.due = 1) :
    Calls Try.prog 37 #[.pointer (some ⟨r, 0, none⟩), .int .i64 1] W fun e w' => e = .returned (.int .i64 6) ∧ ∃ D, Rig w w' K r 2 d D { s with off := true, due := 0, ks := [] } := by
  obtain ⟨s0, c, n, hR, hc, hs, hok⟩ := h
  have h1 := adm_cut 1 hR (fun i _ => by
    by_cases e : i = 0
    · subst e; rw [upd_same]; exact hok
    · rw [upd_ne _ e]; exact newD_ok hn) (by decide) ho (by rfl) hdu
  exact rflush_no 1 6 (fun w' => ∃ D, Rig w w' K r 2 d D { s with off := true, due := 0, ks := [] }) (by decide) (h1.mono fun e w' ⟨a, b, _⟩ => ⟨a, _, b⟩)
theorem r1_count {b : Int} {w W : World} {K : Nat → Prop} {r : Nat} {d : Nat → Nat} {l : Nat} {s : Rs} (h : R1 b w W K r d l s) :
    Calls Try.prog 32 #[.pointer (some ⟨r, 0, none⟩)] W fun e w' => e = .returned (.int .i64 s.cnt) ∧ W = w' := by
  obtain ⟨s0, c, n, hR, _⟩ := h
  exact rcount2_any hR
/-- The rig of RigReads, k commands on. -/
def rdS (a k : Nat) : Rs := ⟨32, (k : Int), (a : Int) + 2 - k, false, []⟩
theorem rd_write {w W : World} {K : Nat → Prop} {r : Nat} {d : Nat → Nat} {a k : Nat} {X : ByteArray} (hX : X.size = 64) (h : R1 32 w W K r d k (rdS a k)) (hk : k ≤ a) (ha : a < 16) :
    Calls Try.prog 30 #[.pointer (some ⟨r, 0, none⟩), .int .i64 0, .agg #[.int .i64 2, .int .i64 0, .int .i64 0, .int .i64 1], .string X] W (R1Post 32 w r d (k + 1) (rdS a (k + 1))) := by
  have h1 := r1_write X hX h (by omega) rfl (show (a : Int) + 2 - k ≠ 1 by omega) (show (a : Int) + 2 - k ≤ 9223372036854775807 by omega) (show 0 ≤ (k : Int) ∧ (k : Int) ≤ 4611686018427387904 by omega)
  have e : ({ rdS a k with due := if 1 < (rdS a k).due then (rdS a k).due - 1 else (rdS a k).due, cnt := (rdS a k).cnt + 1 } : Rs) = rdS a (k + 1) := by
    show Rs.mk 32 ((k : Int) + 1) (if 1 < (a : Int) + 2 - k then (a : Int) + 2 - k - 1 else _) false [] = Rs.mk 32 ((k + 1 : Nat) : Int) ((a : Int) + 2 - ((k + 1 : Nat) : Int)) false []
    rw [if_pos (by omega), show (a : Int) + 2 - k - 1 = (a : Int) + 2 - ((k + 1 : Nat) : Int) by omega]
    rfl
  rw [e] at h1
  exact h1
theorem rd_read {w W : World} {K : Nat → Prop} {r : Nat} {d : Nat → Nat} {a k : Nat} (h : R1 32 w W K r d (k + 1) (rdS a (k + 1))) (hk : k ≤ a) (ha : a < 16) :
    Calls Try.prog 30 #[.pointer (some ⟨r, 0, none⟩), .int .i64 0, .agg #[.int .i64 7, .int .i64 0, .int .i64 (k : Int), .int .i64 1], .string ⟨#[]⟩] W (R1Post 32 w r d (k + 1) (rdS a (k + 1))) :=
  r1_read k h (by omega) (by omega) rfl
end Go.Proofs.Ytncbkegflkjlfaa
