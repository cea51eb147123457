/- What the law RigKilled does. -/
import Derived.Test.YtncbkegflkjlfaaRigFm
import Derived.Test.YtncbkegflkjlfaaMask
import Derived.Test.YtncbkegflkjlfaaDActs
namespace Go.Proofs.Ytncbkegflkjlfaa
open Go.RowKit Zon Drv

/-- The rig, of which one drive died, behind k commands, q of which were executed. -/
def Rkl (w W : World) (r : Nat) (d : Nat → Nat) (n dead q k : Nat) : Prop :=
  ∃ K D, Rig w W K r n d D ⟨32, (q : Int), 0, false, []⟩ ∧ (∀ j, j < n → j ≠ dead → ∃ l, l ≤ k ∧ Kz 4 32 2 4 (D j) l 0) ∧ D dead = { newD 5 32 2 4 with dead := true }
theorem Rkl.new {w W : World} {K : Nat → Prop} {r n dead : Nat} {d : Nat → Nat} (h : Rig w W K r n d (upd (fun _ => newD 5 32 2 4) dead { newD 5 32 2 4 with dead := true }) ⟨32, 0, 0, false, []⟩) : Rkl w W r d n dead 0 0 :=
  ⟨K, _, h, fun j _ hj => ⟨0, Nat.le_refl _, by rw [upd_ne _ hj]; exact Kz.new (m := 4) (by decide)⟩, upd_same _ _ _⟩
theorem Rkl.grow {w W W' : World} {r n dead q k : Nat} {d : Nat → Nat} (h : Rkl w W r d n dead q k) (hb : Below W.heap.size W W') : Rkl w W' r d n dead q k := by
  obtain ⟨K, D, h1, h2⟩ := h
  exact ⟨K, D, h1.grow hb, h2⟩
theorem Rkl.below {w W : World} {r n dead q k : Nat} {d : Nat → Nat} (h : Rkl w W r d n dead q k) : Below w.heap.size w W := by
  obtain ⟨K, D, h1, h2⟩ := h
  exact h1.fam.b
def RklPost (w : World) (r : Nat) (d : Nat → Nat) (n dead q k : Nat) (er : Int) (e : Ending) (w' : World) : Prop := ∃ (t : ByteArray) (y : Int), e = .returned (.tuple #[.string t, .int .i64 y, .int .i64 er]) ∧ Rkl w w' r d n dead q k
theorem rkl_ok {w W : World} {r n dead q k : Nat} {d : Nat → Nat} {X : ByteArray} (hX : X.size = 64) (h : Rkl w W r d n dead q k) (hk : k < 20) (hq : q ≤ k) (j : Nat) (hj : j < n) (hd : j ≠ dead) :
    Calls Try.prog 30 #[.pointer (some ⟨r, 0, none⟩), .int .i64 (j : Int), .agg #[.int .i64 2, .int .i64 0, .int .i64 0, .int .i64 1], .string X] W (RklPost w r d n dead (q + 1) (k + 1) 0) := by
  obtain ⟨K, D, h, hD, hdd⟩ := h
  obtain ⟨l, hl, hz⟩ := hD j hj hd
  refine (rk_do X j l hX h hz hj (by decide) (by decide) (by omega) rfl (show (0 : Int) ≠ 1 by decide) (show (0 : Int) ≤ 9223372036854775807 by decide) (show 0 ≤ (q : Int) ∧ (q : Int) ≤ 4611686018427387904 by omega)).mono ?_
  rintro e w' ⟨y, K', D', he, hR, hz'⟩
  refine ⟨_, y, he, K', upd D j D', hR, fun i hi hne => ?_, by rw [upd_ne D (Ne.symm hd)]; exact hdd⟩
  by_cases e : i = j
  · subst e; rw [upd_same]; exact ⟨l + 1, by omega, hz'⟩
  · rw [upd_ne D e]
    obtain ⟨l', h1, h2⟩ := hD i hi hne
    exact ⟨l', by omega, h2⟩
theorem rkl_no {w W : World} {r n dead q k : Nat} {d : Nat → Nat} (X : ByteArray) (h : Rkl w W r d n dead q k) (hj : dead < n) :
    Calls Try.prog 30 #[.pointer (some ⟨r, 0, none⟩), .int .i64 (dead : Int), .agg #[.int .i64 2, .int .i64 0, .int .i64 0, .int .i64 1], .string X] W (RklPost w r d n dead q (k + 1) 7) := by
  obtain ⟨K, D, h, hD, hdd⟩ := h
  have ha := adm_dead dead (decide ((2 : Int) ≠ 7)) (h.boxed 2 0 0 1) hj rfl (by rw [hdd])
  refine (rdo_no dead 2 0 0 1 X 7 (fun w' => boxW W 2 0 0 1 = w') (by decide) ha).mono ?_
  rintro e w' ⟨he, rfl⟩
  refine ⟨_, 0, he, boxK W K, D, h.boxed 2 0 0 1, fun i hi hne => ?_, hdd⟩
  obtain ⟨l', h1, h2⟩ := hD i hi hne
  exact ⟨l', by omega, h2⟩
theorem rkl_dead {w W : World} {r n dead q k : Nat} {d : Nat → Nat} (h : Rkl w W r d n dead q k) (j : Nat) (hj : j < n) :
    Calls Try.prog 38 #[.pointer (some ⟨r, 0, none⟩), .int .i64 (j : Int)] W fun e w' => e = .returned (.bool (decide (j = dead))) ∧ W = w' := by
  obtain ⟨K, D, h, hD, hdd⟩ := h
  have h1 := rdead_any (j : Int) h
  rw [if_pos (show 0 ≤ (j : Int) ∧ (j : Int) < n by omega), Int.toNat_natCast] at h1
  by_cases e : j = dead
  · subst e
    rw [hdd] at h1
    rw [decide_eq_true rfl]
    exact h1
  · obtain ⟨l, _, hz⟩ := hD j hj e
    rw [hz.dead] at h1
    rw [decide_eq_false e]
    exact h1
theorem rkl_count {w W : World} {r n dead q k : Nat} {d : Nat → Nat} (h : Rkl w W r d n dead q k) :
    Calls Try.prog 32 #[.pointer (some ⟨r, 0, none⟩)] W fun e w' => e = .returned (.int .i64 (q : Int)) ∧ W = w' := by
  obtain ⟨K, D, h, _⟩ := h
  exact rcount2_any h
theorem rkl_zone {w W : World} {r n dead q k : Nat} {d : Nat → Nat} (h : Rkl w W r d n dead q k) (hj : dead < n) :
    Calls Try.prog 33 #[.pointer (some ⟨r, 0, none⟩), .int .i64 (dead : Int), .int .i64 0] W fun e w' => e = .returned (.tuple #[.agg #[.int .i64 0, .int .i64 0], .bool true]) ∧ Below W.heap.size W w' := by
  obtain ⟨K, D, h, _, hdd⟩ := h
  have h1 := rzone_any dead 0 h hj
  rw [hdd] at h1
  exact h1
theorem rkl_flush {w W : World} {r n dead q k : Nat} {d : Nat → Nat} (h : Rkl w W r d n dead q k) (hj : dead < n) :
    Calls Try.prog 37 #[.pointer (some ⟨r, 0, none⟩), .int .i64 (dead : Int)] W fun e w' => e = .returned (.int .i64 7) ∧ W = w' := by
  obtain ⟨K, D, h, _, hdd⟩ := h
  exact rflush_no dead 7 (fun w' => W = w') (by decide) (adm_dead dead true h hj rfl (by rw [hdd]))
/-- A number brought into 0 .. n - 1. -/
theorem into_mod (x : Int) (n : Nat) (h1 : 1 ≤ n) (h2 : n ≤ 100) : ∃ t : Int, ∃ j : Nat, x.tmod n = t ∧ -(n : Int) < t ∧ t < n ∧ (t + n) % (n : Int) = (j : Int) ∧ (t + n).tmod n = (j : Int) ∧ j < n := by
  have ha : -(n : Int) < x.tmod n ∧ x.tmod n < n := by
    have := Int.tmod_lt_of_pos x (show (0 : Int) < n by omega)
    have := Int.lt_tmod_of_pos x (show (0 : Int) < n by omega)
    omega
  have hb : (x.tmod n + n).tmod n = (x.tmod n + n) % (n : Int) := Int.tmod_eq_emod_of_nonneg (by omega)
  have hc := Int.emod_nonneg (x.tmod n + n) (show (n : Int) ≠ 0 by omega)
  have hd := Int.emod_lt_of_pos (x.tmod n + n) (show (0 : Int) < n by omega)
  refine ⟨_, ((x.tmod n + n) % (n : Int)).toNat, rfl, ha.1, ha.2, by omega, by rw [hb]; omega, by omega⟩

set_option maxRecDepth 100000 in
set_option maxHeartbeats 4000000 in
theorem rigkilled_law (A : Option Addr) (cap : Nat) (cs : List DA) (x z : Int) (w : World) (hI : DActsIn w A cs) (hl : cs.length ≤ maxLen) :
    Calls Try.prog 11 #[.int .i64 x, .int .i64 z, .slice A cs.length cap] w fun e w' => e = .returned (.bool true) ∧ Below w.heap.size w w' := by
  unfold maxLen at hl
  have hIH := Lib.hid hI
  clear hI
  obtain ⟨m, hm, hma0⟩ := mask_nat2 x 2 3 rfl (by omega)
  have hma : bits .and .i64 x 3 = (m : Int) := hma0
  have hm' : m < 4 := hm
  clear hm hma0
  obtain ⟨n, hn⟩ : ∃ n : Nat, n = 2 + m := ⟨_, rfl⟩
  have hnc : (2 : Int) + (m : Int) = (n : Int) := by omega
  have hn1 : 2 ≤ n := by omega
  have hn2 : n ≤ 5 := by omega
  obtain ⟨i0, hi, hz0, hz1, hz2⟩ := info_parts infoU8
  have hmk0 := fun W => run_make_m (P := Try.prog) 68 5 i0 (.int .u8 0) Try.underlying68 hi hz0 .i64 .i64 64 64 (Nat.le_refl _) (by rw [hz2]; omega) (by omega) W
  rw [hz1] at hmk0
  have hmk : ∀ W : World, (Instr.makeSlice 68 (.int .i64 64) (.int .i64 64)).run Try.prog W = .ok (.slice (some ⟨W.heap.size, 0, none⟩) 64 64) (W.alloc (.cells (madeCells #[.int .u8 0] 64) 5)) := hmk0
  clear hi hz0 hz1 hz2 hmk0
  have hcb := fun W => zeros_text W 64
  have hXs : (zeroB 64).size = 64 := zeroB_size 64
  generalize zeroB 64 = X at hcb hXs
  have h0 := Lib.hid (fun W => rnew_any 3 5 32 2 4 n W (by decide) (by omega) (by omega))
  unfold RNew at h0
  have hXH := Lib.hid hXs
  obtain ⟨t, dead, ht1, ht2, ht3, ht4, ht5, hdn⟩ := into_mod z n (by omega) (by omega)
  have hnH := Lib.hid hn
  clear hXs hn
  go_enter Try.func11, Try.ntmps11
  go_wp2_with fail
  refine (speaks8 _).mono ?_
  rintro e w1 ⟨rfl, hB1⟩
  go_wp2_with fail
  refine (h0.out _).mono ?_
  rintro e w2 ⟨K, r, d, rfl, hR1⟩
  clear h0 hma
  go_wp2_with fail
  refine (rkill_any dead hR1 hdn).mono ?_
  rintro e w3 ⟨rfl, hR3, _⟩
  have hO := Rkl.new hR3
  have hBH := Lib.hid hB1
  clear hR1 hR3 hB1 ht1 ht2 ht3 ht4 ht5
  go_wp2_with fail
  go_loopw [9, 10] (fun qn i wr => ∃ (k q : Nat), k ≤ cs.length ∧ k ≤ 20 ∧ i = .int .i64 (k : Int) ∧ qn = .int .i64 (q : Int) ∧ q ≤ k ∧ Rkl w1 wr r d n dead q k) (fun _ i _ => cs.length - (intOf i).toNat)
  case atStart => exact ⟨0, 0, by omega, by omega, rfl, rfl, Nat.le_refl _, hO⟩
  case round =>
    clear hO
    obtain ⟨k, q, hk, hk2, rfl, rfl, hqk, hR⟩ := hrel
    by_cases hrun : k < cs.length ∧ k < 20
    · obtain ⟨hlt, hlt2⟩ := hrun
      obtain ⟨b, off, rfl, hltb, hAt, _⟩ := hIH.out.at_ hlt
      generalize cs[k] = c at hAt
      have hbw : Below w.heap.size w wr := hBH.out.trans (hR.below.mono hBH.out.size)
      obtain ⟨c0, c1, c2, c3, c4, c5, c6⟩ := hAt.below hbw hltb
      obtain ⟨t2, j, hu1, hu2, hu3, hu4, hu5, hjn⟩ := into_mod c.q n (by omega) (by omega)
      have hRH := Lib.hid hR
      clear hR hAt hbw c0 c2 c3 c4 c5 c6
      by_cases hjd : j = dead
      · subst hjd
        have hdo := Lib.hid (fun W (hb : Below wr.heap.size wr W) => rkl_no X (hRH.out.grow hb) hjn)
        unfold RklPost at hdo
        go_wp2_with fail
        refine (hdo.out _ ((Below.refl _ _).alloc (Nat.le_refl _) _)).mono ?_
        rintro e w4 ⟨tx, y, rfl, hR4⟩
        have hde := Lib.hid (rkl_dead hR4 j hjn)
        rw [decide_eq_true rfl] at hde
        clear hdo hRH c1 hu1 hu2 hu3 hu4 hu5 hmk hcb
        go_wp2_with fail
        refine hde.out.mono ?_
        rintro e w5 ⟨rfl, rfl⟩
        clear hde
        go_wp2_with fail
        go_roundw
        case rel => exact ⟨k + 1, q, by omega, by omega, by go_num, rfl, by omega, hR4⟩
        case measure => simp [intOf]; omega
      · have hdo := Lib.hid (fun W (hb : Below wr.heap.size wr W) => rkl_ok hXH.out (hRH.out.grow hb) (by omega) hqk j hjn hjd)
        unfold RklPost at hdo
        have hjd2 : ¬ (j : Int) = (dead : Int) := by omega
        have hjd3 : ((j : Int) == (dead : Int)) = false := by simpa using hjd2
        go_wp2_with fail
        refine (hdo.out _ ((Below.refl _ _).alloc (Nat.le_refl _) _)).mono ?_
        rintro e w4 ⟨tx, y, rfl, hR4⟩
        have hde := Lib.hid (rkl_dead hR4 j hjn)
        rw [decide_eq_false hjd] at hde
        clear hdo hRH c1 hu1 hu2 hu3 hu4 hu5 hmk hcb
        go_wp2_with fail
        refine hde.out.mono ?_
        rintro e w5 ⟨rfl, rfl⟩
        clear hde
        go_wp2_with fail
        go_roundw
        case rel => exact ⟨k + 1, q + 1, by omega, by omega, by go_num, by go_num, by omega, hR4⟩
        case measure => simp [intOf]; omega
    · have hzo := Lib.hid (rkl_zone hR hdn)
      have hRH := Lib.hid hR
      clear hR hmk hcb
      have hor : (k < cs.length ∧ ¬ (k : Int) < 20) ∨ (¬ k < cs.length) := by omega
      rcases hor with ⟨hlt, hlt2⟩ | hlt
      all_goals
        go_wp2_with fail
        refine hzo.out.mono ?_
        rintro e w4 ⟨rfl, hb4⟩
        have hR5 := Lib.hid (fun W (hb : Below w4.heap.size w4 W) => (hRH.out.grow hb4).grow hb)
        clear hzo hb4
        go_wp2_with fail
        refine fresh_world_C (fun W => Below w4.heap.size w4 W ∧ Zn2 W w4.heap.size 0 0) ⟨(Below.refl _ _).alloc (Nat.le_refl _) _, by constructor <;> go_simp⟩ ?_
        rintro W6 ⟨hB6, z0, z1⟩
        have hR6 := hR5.out _ hB6
        have ha := Lib.hid (rkl_count hR6)
        have hb := Lib.hid (rkl_flush hR6 hdn)
        have hfin := Lib.hid hR6.below
        clear hR6 hB6 hR5 hRH
        refine ha.out.mono ?_
        rintro e w7 ⟨rfl, rfl⟩
        go_wp2_with fail
        refine hb.out.mono ?_
        rintro e w7 ⟨rfl, rfl⟩
        go_wp2_with fail
        go_ret
        exact ⟨rfl, hBH.out.trans (hfin.out.mono hBH.out.size)⟩
end Go.Proofs.Ytncbkegflkjlfaa
