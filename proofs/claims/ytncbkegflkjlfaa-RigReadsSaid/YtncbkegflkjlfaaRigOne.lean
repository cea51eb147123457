/- A rig of two drives, of which the first alone is written, in its first zone. -/
import Derived.Test.YtncbkegflkjlfaaRigSpk
import Derived.Test.YtncbkegflkjlfaaDrvOne
namespace Go.Proofs.Ytncbkegflkjlfaa
open Go.RowKit Zon Drv

section
variable {b : Int} {w W : World} {K : Nat → Prop} {r : Nat} {d : Nat → Nat} {l : Nat} {s : Rs}
def R1 (b : Int) (w W : World) (K : Nat → Prop) (r : Nat) (d : Nat → Nat) (l : Nat) (s : Rs) : Prop :=
  ∃ (s0 : Int) (c : List UInt8) (n : Nat), Rig w W K r 2 d (upd (fun _ => newD 5 b 1 1) 0 (zD 4 b 1 1 s0 l c n)) s ∧ c.length = 64 * l ∧ (s0 = 0 ∨ s0 = 1 ∨ s0 = 3) ∧ (zD 4 b 1 1 s0 l c n).Ok
/-- What a call leaves: a text, a place, an answer, and the rig. -/
def R1Post (b : Int) (w : World) (r : Nat) (d : Nat → Nat) (l : Nat) (s : Rs) (e : Ending) (w' : World) : Prop := ∃ (t : ByteArray) (y : Int) (K : Nat → Prop), e = .returned (.tuple #[.string t, .int .i64 y, .int .i64 0]) ∧ R1 b w w' K r d l s
theorem upd_twice {α : Type} (f : Nat → α) (i : Nat) (u v : α) : upd (upd f i u) i v = upd f i v := by
  funext j
  by_cases e : j = i
  · subst e; rw [upd_same, upd_same]
  · rw [upd_ne _ e, upd_ne _ e, upd_ne _ e]
theorem r1_write (X : ByteArray) (hX : X.size = 64) (h : R1 b w W K r d l s) (hl : (l : Int) + 1 < b) (ho : s.off = false) (hdu : s.due ≠ 1) (hdb : s.due ≤ 9223372036854775807) (hcb : 0 ≤ s.cnt ∧ s.cnt ≤ 4611686018427387904) :
    Calls Try.prog 30 #[.pointer (some ⟨r, 0, none⟩), .int .i64 0, .agg #[.int .i64 2, .int .i64 0, .int .i64 0, .int .i64 1], .string X] W (R1Post b w r d (l + 1) { s with due := if 1 < s.due then s.due - 1 else s.due, cnt := s.cnt + 1 }) := by
  obtain ⟨s0, c, n, hR, hc, hs, hok⟩ := h
  have e0 : (upd (fun _ => newD 5 b 1 1) 0 (zD 4 b 1 1 s0 l c n)) 0 = zD 4 b 1 1 s0 l c n := upd_same _ _ _
  have h1 := adm_ok 0 (hR.boxed 2 0 0 1) (by decide) ho (by rw [e0]; rfl) hdu hdb hcb
  have h2 := rdo_reach 0 2 0 0 1 X hR.lt (by decide) (by rw [e0]; exact hok) (by decide) (by omega) h1
  have hlen : X.data.toList.length = 64 := hX
  have hok2 := doD_ok hok 2 0 0 1 X.data.toList
  rw [e0] at h2
  rw [doD_append 4 b 1 1 s0 l 1 c n X.data.toList hs (by decide) (by decide) (by omega) (by decide) hl (by omega)] at h2 hok2
  refine h2.mono ?_
  rintro e w' ⟨he, K', _, hR', _⟩
  rw [upd_twice] at hR'
  exact ⟨_, _, K', he, 1, _, n, hR', by rw [List.length_append]; omega, .inr (.inl rfl), hok2⟩
theorem r1_read (i : Nat) (h : R1 b w W K r d l s) (hi : i < l) (hlb : l ≤ 4096) (ho : s.off = false) :
    Calls Try.prog 30 #[.pointer (some ⟨r, 0, none⟩), .int .i64 0, .agg #[.int .i64 7, .int .i64 0, .int .i64 (i : Int), .int .i64 1], .string ⟨#[]⟩] W (R1Post b w r d l s) := by
  obtain ⟨s0, c, n, hR, hc, hs, hok⟩ := h
  have e0 : (upd (fun _ => newD 5 b 1 1) 0 (zD 4 b 1 1 s0 l c n)) 0 = zD 4 b 1 1 s0 l c n := upd_same _ _ _
  have h1 := adm_read 0 (hR.boxed 7 0 i 1) (by decide) ho (by rw [e0]; rfl)
  have h2 := rdo_reach (s := s) (n := 2) (d := d) (D := upd (fun _ => newD 5 b 1 1) 0 (zD 4 b 1 1 s0 l c n)) 0 7 0 i 1 ⟨#[]⟩ hR.lt (by decide) (by rw [e0]; exact hok) (by omega) (by decide) (h1.mono fun e w' ⟨a, c⟩ => by subst c; exact ⟨a, hR.boxed 7 0 i 1, ⟨Nat.le_refl _, fun _ _ _ => rfl⟩⟩)
  rw [e0] at h2
  have hw : withinB i 1 l = true := by unfold withinB; simp; omega
  have hrd := doD_read 4 b 1 1 s0 l i 1 c n
  rw [if_pos hw] at hrd
  rw [show (⟨#[]⟩ : ByteArray).data.toList = [] from rfl, hrd] at h2
  refine h2.mono ?_
  rintro e w' ⟨he, K', _, hR', _⟩
  rw [upd_twice] at hR'
  exact ⟨_, _, K', he, s0, c, n, hR', hc, hs, hok⟩
end
end Go.Proofs.Ytncbkegflkjlfaa
