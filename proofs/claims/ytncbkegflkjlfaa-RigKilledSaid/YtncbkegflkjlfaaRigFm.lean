/- A rig of drives of which the first zones alone are written, block by block. -/
import Derived.Test.YtncbkegflkjlfaaRigSpk
import Derived.Test.YtncbkegflkjlfaaDrvFm
namespace Go.Proofs.Ytncbkegflkjlfaa
open Go.RowKit Zon Drv

section
variable {m : Nat} {b o a : Int} {w W : World} {K : Nat → Prop} {r n : Nat} {d : Nat → Nat} {D : Nat → Dr} {s : Rs}
/-- What a block more leaves. -/
def RkPost (m : Nat) (b o a : Int) (w : World) (r n : Nat) (d : Nat → Nat) (D : Nat → Dr) (i l : Nat) (s : Rs) (e : Ending) (w' : World) : Prop :=
  ∃ (y : Int) (K : Nat → Prop) (D' : Dr), e = .returned (.tuple #[.string ⟨#[]⟩, .int .i64 y, .int .i64 0]) ∧ Rig w w' K r n d (upd D i D') s ∧ Kz m b o a D' l 0
theorem Kz.dead {D : Dr} {l k : Nat} (h : Kz m b o a D l k) : D.dead = false := by
  obtain ⟨s, S, rfl, _⟩ := h
  rfl
theorem Kz.ok {D : Dr} {l k : Nat} (h : Kz m b o a D l k) : D.Ok := by
  obtain ⟨s, S, rfl, _, _, _, h⟩ := h
  exact h
theorem Kz.new (hok : newOk ((m + 1 : Nat) : Int) b o a = true) : Kz m b o a (newD ((m + 1 : Nat) : Int) b o a) 0 0 :=
  ⟨0, [], newD_zD m b o a, rfl, Nat.le_refl _, .inl ⟨rfl, rfl⟩, newD_ok hok⟩
theorem rk_do (X : ByteArray) (i l : Nat) (hX : X.size = 64) (h : Rig w W K r n d D s) (hz : Kz m b o a (D i) l 0) (hi : i < n) (hoo : 1 ≤ o) (haa : 1 ≤ a) (hl : (l : Int) + 1 < b) (ho : s.off = false) (hdu : s.due ≠ 1) (hdb : s.due ≤ 9223372036854775807) (hcb : 0 ≤ s.cnt ∧ s.cnt ≤ 4611686018427387904) :
    Calls Try.prog 30 #[.pointer (some ⟨r, 0, none⟩), .int .i64 (i : Int), .agg #[.int .i64 2, .int .i64 0, .int .i64 0, .int .i64 1], .string X] W (RkPost m b o a w r n d D i (l + 1) { s with due := if 1 < s.due then s.due - 1 else s.due, cnt := s.cnt + 1 }) := by
  obtain ⟨s0, c, hD, hc, hn, hs, hok⟩ := hz
  have h1 := adm_ok i (h.boxed 2 0 0 1) hi ho (by rw [hD]; rfl) hdu hdb hcb
  have h2 := rdo_reach i 2 0 0 1 X h.lt hi hok (by decide) (by omega) h1
  have hlen : X.data.toList.length = 64 := hX
  have hok2 := doD_ok hok 2 0 0 1 X.data.toList
  rw [hD] at h2 hok2
  rw [doD_append m b o a s0 l 1 c 0 X.data.toList (by omega) hoo haa (by omega) (by decide) hl (by omega)] at h2 hok2
  refine h2.mono ?_
  rintro e w' ⟨he, K', _, hR', _⟩
  exact ⟨_, K', _, he, hR', 1, _, rfl, by rw [List.length_append]; omega, Nat.zero_le _, .inr (.inl rfl), hok2⟩
end
end Go.Proofs.Ytncbkegflkjlfaa
