/- A rig's Zone, and a rig that is nil. -/
import Derived.Test.YtncbkegflkjlfaaRigReach
namespace Go.Proofs.Ytncbkegflkjlfaa
open Go.RowKit Zon Drv

section
variable {w W : World} {K : Nat → Prop} {r n : Nat} {d : Nat → Nat} {D : Nat → Dr} {s : Rs}
theorem rzone_any (i : Nat) (z : Int) (h : Rig w W K r n d D s) (hi : i < n) :
    Calls Try.prog 33 #[.pointer (some ⟨r, 0, none⟩), .int .i64 (i : Int), .int .i64 z] W fun e w' => e = .returned (.tuple #[.agg #[.int .i64 (getM (D i).m z).s, .int .i64 (getM (D i).m z).l], .bool (hasB (D i).m z)]) ∧ Below W.heap.size W w' := by
  have hBa : Below W.heap.size W (W.alloc (.cells #[.int .i64 0, .int .i64 0] 54)) := (Below.refl _ _).alloc (Nat.le_refl _) _
  have h2 : Rig w (W.alloc (.cells #[.int .i64 0, .int .i64 0] 54)) K r n d D s := h.below hBa (fun x hx => .inl hx) (fun x hx => Nat.lt_of_lt_of_le (h.fam.kb x hx) hBa.size) (fun _ _ hx => hx)
  have hh := Lib.hid (rhas_any (i : Int) h2)
  rw [decide_eq_true (show 0 ≤ (i : Int) ∧ (i : Int) < n by omega)] at hh
  obtain ⟨q, q1, _, _, q4⟩ := h2.row
  have p1 := q4 i hi
  have hg := Lib.hid (fam_zone _ i z h2.fam hi)
  have hnb := h.nb
  have hBH := Lib.hid hBa
  clear h h2 q4 hBa
  generalize getM (D i).m z = y at hg ⊢
  generalize hasB (D i).m z = v at hg ⊢
  go_enter Try.func33, Try.ntmps33
  go_wp2_with fail
  refine hh.out.mono ?_
  rintro e w1 ⟨rfl, rfl⟩
  go_wp2_with (go_at_call 24; refine hg.out.mono ?_; rintro e w1 ⟨rfl, hb⟩; obtain ⟨hc, hf⟩ := bcell hb)
  refine fresh_endD (fun W' => Zn2 W' W.heap.size y.s y.l ∧ Below W.heap.size W W') ⟨Zn2.set (u := .int .i64 0) (v := .int .i64 0) (by rw [hc _ _ (by simp)]; go_simp) (by rw [hc _ _ (by simp)]; go_simp) _ _, bput (bput (hBH.out.trans (hb.mono (by simp))) (Nat.le_refl _)) (Nat.le_refl _)⟩ ?_
  rintro W9 ⟨⟨d0, d1⟩, hB9⟩
  refine bodyPost_ret (v := .tuple #[.agg #[.int .i64 y.s, .int .i64 y.l], .bool v]) (by simp [results, Try.results33, go_sem, d0, d1]) rfl ⟨rfl, ?_⟩
  exact hB9
end

theorem rhas_nil (i : Int) (w : World) :
    Calls Try.prog 53 #[.pointer none, .int .i64 i] w fun e w' => e = .returned (.bool false) ∧ w = w' := by
  go_enter Try.func53, Try.ntmps53
  go_wp2
  go_ret
  exact ⟨rfl, rfl⟩
theorem radm_nil (i : Int) (b : Bool) (w : World) :
    Calls Try.prog 52 #[.pointer none, .int .i64 i, .bool b] w fun e w' => e = .returned (.int .i64 1) ∧ w = w' := by
  go_enter Try.func52, Try.ntmps52
  go_wp2_with (go_at_call 53; refine (rhas_nil _ _).mono ?_; rintro e w1 ⟨rfl, rfl⟩)
  go_ret
  exact ⟨rfl, rfl⟩
theorem rdo_nil (i k zz a x : Int) (t : ByteArray) (w : World) :
    Calls Try.prog 30 #[.pointer none, .int .i64 i, .agg #[.int .i64 k, .int .i64 zz, .int .i64 a, .int .i64 x], .string t] w fun e w' => e = .returned (.tuple #[.string ⟨#[]⟩, .int .i64 0, .int .i64 1]) ∧ Below w.heap.size w w' := by
  go_enter Try.func30, Try.ntmps30
  go_wp2_with (go_at_call 52; refine (radm_nil _ _ _).mono ?_; rintro e w1 ⟨rfl, rfl⟩)
  go_ret3
  exact ⟨rfl, (Below.refl _ _).alloc (Nat.le_refl _) _⟩
theorem rflush_nil (i : Int) (w : World) :
    Calls Try.prog 37 #[.pointer none, .int .i64 i] w fun e w' => e = .returned (.int .i64 1) ∧ w = w' := by
  go_enter Try.func37, Try.ntmps37
  go_wp2_with (go_at_call 52; refine (radm_nil _ _ _).mono ?_; rintro e w1 ⟨rfl, rfl⟩)
  go_ret
  exact ⟨rfl, rfl⟩
theorem rzone_nil (i z : Int) (w : World) :
    Calls Try.prog 33 #[.pointer none, .int .i64 i, .int .i64 z] w fun e w' => e = .returned (.tuple #[.agg #[.int .i64 0, .int .i64 0], .bool false]) ∧ Below w.heap.size w w' := by
  go_enter Try.func33, Try.ntmps33
  go_wp2_with (go_at_call 53; refine (rhas_nil _ _).mono ?_; rintro e w1 ⟨rfl, rfl⟩)
  refine bodyPost_ret (v := .tuple #[.agg #[.int .i64 0, .int .i64 0], .bool false]) (by simp [results, Try.results33, go_sem]) rfl ⟨rfl, ?_⟩
  exact (Below.refl _ _).alloc (Nat.le_refl _) _
theorem rcut_nil (x : Int) (A : Option Addr) (l cap : Nat) (w : World) :
    Calls Try.prog 29 #[.pointer none, .int .i64 x, .slice A l cap] w fun e w' => e = .returned (.tuple #[]) ∧ w = w' := by
  go_enter Try.func29, Try.ntmps29
  go_wp2
  go_end0
  exact ⟨rfl, rfl⟩
theorem rcrash_nil (A : Option Addr) (l cap : Nat) (w : World) :
    Calls Try.prog 34 #[.pointer none, .slice A l cap] w fun e w' => e = .returned (.tuple #[]) ∧ w = w' := by
  go_enter Try.func34, Try.ntmps34
  go_wp2
  go_end0
  exact ⟨rfl, rfl⟩
theorem ron_nil (w : World) :
    Calls Try.prog 35 #[.pointer none] w fun e w' => e = .returned (.tuple #[]) ∧ w = w' := by
  go_enter Try.func35, Try.ntmps35
  go_wp2
  go_end0
  exact ⟨rfl, rfl⟩
theorem rkill_nil (i : Int) (w : World) :
    Calls Try.prog 36 #[.pointer none, .int .i64 i] w fun e w' => e = .returned (.tuple #[]) ∧ w = w' := by
  go_enter Try.func36, Try.ntmps36
  go_wp2_with (go_at_call 53; refine (rhas_nil _ _).mono ?_; rintro e w1 ⟨rfl, rfl⟩)
  go_end0
  exact ⟨rfl, rfl⟩
theorem roff_nil (w : World) : Calls Try.prog 31 #[.pointer none] w fun e w' => e = .returned (.bool false) ∧ w = w' := by
  go_enter Try.func31, Try.ntmps31
  go_wp2
  go_ret
  exact ⟨rfl, rfl⟩
theorem rcount_nil (w : World) : Calls Try.prog 32 #[.pointer none] w fun e w' => e = .returned (.int .i64 0) ∧ w = w' := by
  go_enter Try.func32, Try.ntmps32
  go_wp2
  go_ret
  exact ⟨rfl, rfl⟩
theorem rdrives_nil (w : World) : Calls Try.prog 39 #[.pointer none] w fun e w' => e = .returned (.int .i64 0) ∧ w = w' := by
  go_enter Try.func39, Try.ntmps39
  go_wp2
  go_ret
  exact ⟨rfl, rfl⟩
theorem rblocks_nil (w : World) : Calls Try.prog 40 #[.pointer none] w fun e w' => e = .returned (.int .i64 0) ∧ w = w' := by
  go_enter Try.func40, Try.ntmps40
  go_wp2
  go_ret
  exact ⟨rfl, rfl⟩
theorem rdead_nil (i : Int) (w : World) :
    Calls Try.prog 38 #[.pointer none, .int .i64 i] w fun e w' => e = .returned (.bool true) ∧ w = w' := by
  go_enter Try.func38, Try.ntmps38
  go_wp2_with (go_at_call 53; refine (rhas_nil _ _).mono ?_; rintro e w1 ⟨rfl, rfl⟩)
  go_ret
  exact ⟨rfl, rfl⟩
end Go.Proofs.Ytncbkegflkjlfaa
