/- What rig's law asks first. -/
import Derived.Test.YtncbkegflkjlfaaRigNew
import Derived.Test.YtncbkegflkjlfaaDrvSpk
import Derived.Test.YtncbkegflkjlfaaZonEq
namespace Go.Proofs.Ytncbkegflkjlfaa
open Go.RowKit Zon Drv

/-- The state of speaks' first drive. -/
def sp8 (s l : Int) (c : List UInt8) : Dr := ⟨⟨⟨s, l⟩ :: List.replicate 4 ⟨0, 0⟩, 4, 1, 1⟩, c :: List.replicate 4 [], List.replicate 5 0, false⟩
theorem sp8_new : newD 5 4 1 1 = sp8 0 0 [] := rfl
theorem sp8_1 (x : List UInt8) (hx : x.length = 64) : doD (sp8 0 0 []) 2 0 0 1 x = (([], 0, 0), sp8 1 1 x) := by
  unfold doD
  rw [if_neg (show ¬ (sp8 0 0 []).dead = true by decide), if_pos (show fits 2 1 x.length = true by rw [hx]; decide)]
  unfold exec
  rw [if_pos (show (doM (sp8 0 0 []).m 2 0 0 1).2.1 = 0 by decide)]
  rfl
theorem sp8_2 (x : List UInt8) : (getM (loseD (sp8 1 1 x) []).m 0).l = 0 := rfl
theorem Rig.grow {w W W' : World} {K : Nat → Prop} {r n : Nat} {d : Nat → Nat} {D : Nat → Dr} {s : Rs} (h : Rig w W K r n d D s) (hb : Below W.heap.size W W') : Rig w W' K r n d D s :=
  h.below hb (fun _ hx => .inl hx) (fun x hx => Nat.lt_of_lt_of_le (h.fam.kb x hx) hb.size) (fun _ _ hx => hx)
/-- A command of speaks' own. -/
theorem sp8_do0 {w W : World} {K : Nat → Prop} {r : Nat} {d : Nat → Nat} {X : ByteArray} (hX : X.size = 64) (h : Rig w W K r 2 d (fun _ => sp8 0 0 []) ⟨4, 0, 2, false, []⟩) (hok : (sp8 0 0 []).Ok) :
    Calls Try.prog 30 #[.pointer (some ⟨r, 0, none⟩), .int .i64 0, .agg #[.int .i64 2, .int .i64 0, .int .i64 0, .int .i64 1], .string X] W fun e w' => e = .returned (.tuple #[.string ⟨#[]⟩, .int .i64 0, .int .i64 0]) ∧ RPost w W K r 2 d (upd (fun _ => sp8 0 0 []) 0 (sp8 1 1 X.data.toList)) ⟨4, 1, 1, false, []⟩ w' := by
  have h1 := adm_ok 0 (h.boxed 2 0 0 1) (by decide) rfl rfl (show (2 : Int) ≠ 1 by decide) (show (2 : Int) ≤ 9223372036854775807 by decide) (show 0 ≤ (0 : Int) ∧ (0 : Int) ≤ 4611686018427387904 by decide)
  have h2 := rdo_reach 0 2 0 0 1 X h.lt (by decide) hok (by decide) (by omega) h1
  rw [sp8_1 X.data.toList hX] at h2
  exact h2
theorem sp8_do1 {w W : World} {K : Nat → Prop} {r : Nat} {d : Nat → Nat} {D : Nat → Dr} {X : ByteArray} (h : Rig w W K r 2 d D ⟨4, 1, 1, false, []⟩) (hok : ∀ i, i < 2 → (D i).Ok) (hd : (D 1).dead = false) :
    Calls Try.prog 30 #[.pointer (some ⟨r, 0, none⟩), .int .i64 1, .agg #[.int .i64 2, .int .i64 0, .int .i64 0, .int .i64 1], .string X] W fun e w' => e = .returned (.tuple #[.string ⟨#[]⟩, .int .i64 0, .int .i64 6]) ∧ RPost w W K r 2 d (lostN D [] 2) ⟨4, 1, 0, true, []⟩ w' := by
  have h1 := adm_cut 1 (h.boxed 2 0 0 1) hok (by decide) rfl hd rfl
  exact rdo_no 1 2 0 0 1 X 6 _ (by decide) (h1.mono fun e w' ⟨a, b, c⟩ => ⟨a, boxed_post b c⟩)
set_option maxRecDepth 100000 in
set_option maxHeartbeats 2000000 in
theorem speaks8 (w : World) : Calls Try.prog 27 #[] w fun e w' => e = .returned (.bool true) ∧ Below w.heap.size w w' := by
  obtain ⟨i0, hi, hz0, hz1, hz2⟩ := info_parts infoU8
  have hmk0 := fun W => run_make_m (P := Try.prog) 68 5 i0 (.int .u8 0) Try.underlying68 hi hz0 .i64 .i64 64 64 (Nat.le_refl _) (by rw [hz2]; omega) (by omega) W
  rw [hz1] at hmk0
  have hmk : ∀ W : World, (Instr.makeSlice 68 (.int .i64 64) (.int .i64 64)).run Try.prog W = .ok (.slice (some ⟨W.heap.size, 0, none⟩) 64 64) (W.alloc (.cells (madeCells #[.int .u8 0] 64) 5)) := hmk0
  clear hi hz0 hz1 hz2 hmk0
  have hcb := fun W => zeros_text W 64
  have hXs : (zeroB 64).size = 64 := zeroB_size 64
  generalize zeroB 64 = X at hcb hXs
  have ok0 : (sp8 0 0 []).Ok := newD_ok (show newOk 5 4 1 1 = true by decide)
  have ok1 : (sp8 1 1 X.data.toList).Ok := by have := doD_ok ok0 2 0 0 1 X.data.toList; rw [sp8_1 _ hXs] at this; exact this
  obtain ⟨D1, hD1⟩ : ∃ D1, D1 = upd (fun _ => sp8 0 0 []) 0 (sp8 1 1 X.data.toList) := ⟨_, rfl⟩
  have hd1 : (D1 1).dead = false := by rw [hD1]; rfl
  have okD : ∀ i, i < 2 → (D1 i).Ok := fun i _ => by
    rw [hD1]
    by_cases e : i = 0
    · subst e; rw [upd_same]; exact ok1
    · rw [upd_ne _ e]; exact ok0
  have hz : (getM (lostN D1 [] 2 0).m 0).l = 0 := by rw [hD1]; rfl
  have h0 := Lib.hid (rnew_any 3 5 4 1 1 2 w (by decide) (by decide) (by decide))
  unfold RNew at h0
  rw [sp8_new] at h0
  have h1 := Lib.hid (fun W K r d (h : Rig w W K r 2 d (fun _ => sp8 0 0 []) ⟨4, 0, 2, false, []⟩) => by have := sp8_do0 hXs h ok0; rw [← hD1] at this; exact this)
  have h2 := Lib.hid (fun W K r d (h : Rig w W K r 2 d D1 ⟨4, 1, 1, false, []⟩) => sp8_do1 (X := X) h okD hd1)
  generalize hD2 : lostN D1 [] 2 = D2 at h2 hz
  clear hD1 hD2 ok0 ok1 okD hd1 hXs
  have hzH := Lib.hid hz
  clear hz
  go_enter Try.func27, Try.ntmps27
  go_wp2_with fail
  refine h0.out.mono ?_
  rintro e w1 ⟨K, r, d, rfl, hR1⟩
  go_wp2_with fail
  refine (rcut_any 2 hR1 none 0 [] (.inl rfl) (fun _ => rfl) (by simp) (by simp)).mono ?_
  rintro e w2 ⟨rfl, K2, _, hR2, _⟩
  clear hR1
  go_wp2_with fail
  refine (h1.out _ K2 r d (hR2.grow ((Below.refl _ _).alloc (Nat.le_refl _) _))).mono ?_
  rintro e w3 ⟨rfl, K3, _, hR3, _⟩
  clear hR2 hmk hcb h1 h0
  go_wp2_with fail
  refine (h2.out _ K3 r d hR3).mono ?_
  rintro e w4 ⟨rfl, K4, _, hR4, _⟩
  clear hR3 h2
  have hzo := Lib.hid (rzone_any 0 0 hR4 (by decide))
  rw [hzH.out] at hzo
  generalize (getM (D2 0).m 0).s = y0 at hzo
  generalize hasB (D2 0).m 0 = y1 at hzo
  go_wp2_with fail
  refine hzo.out.mono ?_
  rintro e w5 ⟨rfl, hb5⟩
  have hR5 := Lib.hid (fun W (hb : Below w5.heap.size w5 W) => (hR4.grow hb5).grow hb)
  clear hR4 hzo hb5
  go_wp2_with fail
  refine fresh_world_C (fun W => Below w5.heap.size w5 W ∧ Zn2 W w5.heap.size y0 0) ⟨(Below.refl _ _).alloc (Nat.le_refl _) _, by constructor <;> go_simp⟩ ?_
  rintro W6 ⟨hB6, z0, z1⟩
  have hR6 := hR5.out _ hB6
  have ha := Lib.hid (roff_any hR6)
  have hb := Lib.hid (rdrives_any hR6)
  have hc := Lib.hid (rcount2_any hR6)
  have hfin := Lib.hid hR6.fam.b
  clear hR6 hB6 hR5 hzH
  refine ha.out.mono ?_
  rintro e w7 ⟨rfl, rfl⟩
  go_wp2_with fail
  refine hb.out.mono ?_
  rintro e w7 ⟨rfl, rfl⟩
  go_wp2_with fail
  refine hc.out.mono ?_
  rintro e w7 ⟨rfl, rfl⟩
  go_wp2_with fail
  go_ret
  exact ⟨rfl, hfin.out⟩
end Go.Proofs.Ytncbkegflkjlfaa
