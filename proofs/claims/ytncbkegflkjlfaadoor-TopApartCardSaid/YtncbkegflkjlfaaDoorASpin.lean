/- What is asked first of the drives of a rig. -/
import Derived.Test.YtncbkegflkjlfaaDoorARn
import Derived.Test.YtncbkegflkjlfaaDoorAGoes
import Derived.Test.YtncbkegflkjlfaaDoorACont
namespace Go.Proofs.YtncbkegflkjlfaaDoor
open Go.RowKit Zon Drv

theorem shape_zero (w : World) : Calls Tryd.prog 5 #[.agg #[.int .i64 0, .int .i64 0, .int .i64 0]] w fun e w' => e = .returned (.agg #[.int .i64 3, .int .i64 6, .int .i64 4, .int .i64 2, .int .i64 4]) ∧ Below w.heap.size w w' := by
  have h7 : bits .and .i64 0 7 = 0 := by decide
  have h31 : bits .and .i64 0 31 = 0 := by decide
  go_enter Tryd.func5, Tryd.ntmps5
  go_wp2
  refine bodyPost_ret (v := .agg #[.int .i64 3, .int .i64 6, .int .i64 4, .int .i64 2, .int .i64 4]) (by simp [results, Tryd.results5, go_sem]) rfl ⟨rfl, ?_⟩
  exact ((Below.refl _ _).alloc (Nat.le_refl _) _).alloc (by simp) _
theorem shape_twelve (w : World) : Calls Tryd.prog 5 #[.agg #[.int .i64 0, .int .i64 0, .int .i64 12]] w fun e w' => e = .returned (.agg #[.int .i64 3, .int .i64 6, .int .i64 16, .int .i64 2, .int .i64 4]) ∧ Below w.heap.size w w' := by
  have h7 : bits .and .i64 0 7 = 0 := by decide
  have h31 : bits .and .i64 12 31 = 12 := by decide
  go_enter Tryd.func5, Tryd.ntmps5
  go_wp2
  refine bodyPost_ret (v := .agg #[.int .i64 3, .int .i64 6, .int .i64 16, .int .i64 2, .int .i64 4]) (by simp [results, Tryd.results5, go_sem]) rfl ⟨rfl, ?_⟩
  exact ((Below.refl _ _).alloc (Nat.le_refl _) _).alloc (by simp) _
theorem spin_do (x : List UInt8) (hx : x.length = 64) : ∃ D', doD (newD 6 4 2 4) 2 2 0 1 x = (([], 0, 0), D') ∧ (getM D'.m 2).l = 1 ∧ hasB D'.m 2 = true := by
  refine ⟨turned (newD 6 4 2 4) 2 2 (doM (newM 6 4 2 4) 2 2 0 1).2.2 x, ?_, by show (getM ((newM 6 4 2 4).with (doM (newM 6 4 2 4) 2 2 0 1).2.2) 2).l = 1; decide, by show hasB ((newM 6 4 2 4).with (doM (newM 6 4 2 4) 2 2 0 1).2.2) 2 = true; decide⟩
  unfold doD
  rw [if_neg (show ¬ (newD 6 4 2 4).dead = true by decide), if_pos (show fits 2 1 x.length = true by rw [hx]; decide)]
  unfold exec
  rw [if_pos (show (doM (newD 6 4 2 4).m 2 2 0 1).2.1 = 0 by decide)]
  rfl
theorem Rig.grow {w W W' : World} {K : Nat → Prop} {r n N : Nat} {d : Nat → Nat} {D : Nat → Dr} {s : Rs} (h : Rig w W K r n N d D s) (hb : Below W.heap.size W W') : Rig w W' K r n N d D s :=
  h.below hb (fun _ hx => .inl hx) (fun x hx => Nat.lt_of_lt_of_le (h.fam.kb x hx) hb.size) (fun _ _ hx => hx)
theorem fresh_world_C {P : Program} {f : FuncId} {args : Array Value} {W : World} {Q : Ending → World → Prop} (R : World → Prop) (hR : R W) (h : ∀ W2, R W2 → Calls P f args W2 Q) : Calls P f args W Q := h W hR
set_option maxRecDepth 100000 in
set_option maxHeartbeats 2000000 in
theorem spins_any (w : World) (hT : Tab w) :
    Calls Tryd.prog 4 #[] w fun e w' => e = .returned (.bool true) ∧ Below w.heap.size w w' := by
  have hTA := Lib.hid (fun W (h : Below w.heap.size w W) => hT.below h)
  have ok0 : (newD 6 4 2 4).Ok := newD_ok (show newOk 6 4 2 4 = true by decide)
  have ok0H := Lib.hid ok0
  have h0 := Lib.hid (fun W => rnew_any 3 6 4 2 4 2 W (by decide) (by decide) (by decide))
  unfold RNew at h0
  have hdo := Lib.hid (fun w0 W K r d (X : ByteArray) (hX : X.size = 64) (h : Rig w0 W K r 2 2 d (fun _ => newD 6 4 2 4) ⟨4, 0, 0, false, []⟩) => by
    have h1 := adm_ok 1 (h.boxed 2 2 0 1) (by decide) rfl rfl (show (0 : Int) ≠ 1 by decide) (show (0 : Int) ≤ 9223372036854775807 by decide) (show 0 ≤ (0 : Int) ∧ (0 : Int) ≤ 4611686018427387904 by decide)
    have h2 := rdo_reach 1 2 2 0 1 X h.lt (by decide) h.nN ok0 (by decide) (by omega) h1
    obtain ⟨D', e1, e2, e3⟩ := spin_do X.data.toList hX
    rw [e1] at h2
    exact (⟨D', e2, e3, h2⟩ : ∃ D', (getM D'.m 2).l = 1 ∧ hasB D'.m 2 = true ∧ Calls Tryd.prog 11 #[.pointer (some ⟨r, 0, none⟩), .int .i64 1, .agg #[.int .i64 2, .int .i64 2, .int .i64 0, .int .i64 1], .string X] W (DoR w0 W K r 2 2 d (fun _ => newD 6 4 2 4) 1 (([], 0, 0), D') ⟨4, 1, 0, false, []⟩)))
  clear ok0 hT
  go_enter Tryd.func4, Tryd.ntmps4
  go_wp2_with fail
  refine (shape_zero _).mono ?_
  rintro e w1 ⟨rfl, hb1⟩
  go_wp2_with fail
  refine (h0.out _).mono ?_
  rintro e w2 ⟨K, r, d, rfl, hR1⟩
  clear h0
  go_wp2_with fail
  refine (content_any 0 0 _).mono ?_
  rintro e w3 ⟨X, hX, rfl, hb3⟩
  obtain ⟨D', e2, e3, hd⟩ := hdo.out w1 w3 K r d X hX (hR1.grow hb3)
  unfold DoR at hd
  have hdH := Lib.hid hd
  have e2H := Lib.hid e2
  have e3H := Lib.hid e3
  have hb1H := Lib.hid hb1
  clear hd e2 e3 hR1 hb3 hdo hX hb1
  go_wp2_with fail
  refine hdH.out.mono ?_
  rintro e w4 ⟨rfl, K4, _, hR4, _⟩
  have hzo := rzone_any 1 2 hR4 (by decide)
  rw [upd_same, e2H.out, e3H.out] at hzo
  generalize (getM D'.m 2).s = y0 at hzo
  have hzoH := Lib.hid hzo
  clear hdH hzo
  go_wp2_with fail
  refine hzoH.out.mono ?_
  rintro e w5 ⟨rfl, hb5⟩
  have hR5 := Lib.hid (fun W (hb : Below w5.heap.size w5 W) => (hR4.grow hb5).grow hb)
  have hbb := Lib.hid (hb1H.out.trans ((hR4.fam.b.trans (hb5.mono hR4.fam.b.size)).mono hb1H.out.size))
  clear hR4 hzoH hb5
  go_wp2_with fail
  refine fresh_world_C (fun W => Below w5.heap.size w5 W ∧ Zn2 W w5.heap.size y0 1) ⟨(Below.refl _ _).alloc (Nat.le_refl _) _, by constructor <;> go_simp⟩ ?_
  rintro W6 ⟨hB6, z0, z1⟩
  have hBW := hbb.out.trans (hB6.mono hbb.out.size)
  have hR6 := Lib.hid (hR5.out _ hB6)
  have hBWH := Lib.hid hBW
  clear hB6 hBW hR5
  refine (goes_any _ (hTA.out _ hBWH.out)).mono ?_
  rintro e w7 ⟨rfl, hb7⟩
  have z0' := (hb7.cell (p := ⟨w5.heap.size, 0, none⟩) (lt_of_cell z0)).trans z0
  have z1' := (hb7.cell (p := ⟨w5.heap.size, 1, none⟩) (lt_of_cell z1)).trans z1
  have hc := Lib.hid (rcount2_any (hR6.out.grow hb7))
  have hfin := Lib.hid (hBWH.out.trans (hb7.mono hBWH.out.size))
  clear z0 z1 hb7
  go_wp2_with fail
  refine hc.out.mono ?_
  rintro e w8 ⟨rfl, rfl⟩
  go_wp2_with fail
  go_ret
  exact ⟨rfl, hfin.out⟩
end Go.Proofs.YtncbkegflkjlfaaDoor
