/- A rig's calls. -/
import Derived.Test.YtpmhfalhieinjaaGreatDoorMRm
import Derived.Lib.MinMax
namespace Go.Proofs.YtpmhfalhieinjaaGreatDoor
open Go.RowKit Zon Drv
section
variable {w W : World} {K : Nat → Prop} {r n N : Nat} {d : Nat → Nat} {D : Nat → Dr} {s : Rs}
theorem adm_none (i : Int) (b : Bool) (h : Rig w W K r n N d D s) (hi : ¬ (0 ≤ i ∧ i < n)) :
    Calls Tryz.prog 39 #[.pointer (some ⟨r, 0, none⟩), .int .i64 i, .bool b] W fun e w' => e = .returned (.int .i64 1) ∧ W = w' := by
  have hh := Lib.hid (rhas_any i h)
  rw [decide_eq_false hi] at hh
  clear h hi
  go_enter Tryz.func39, Tryz.ntmps39
  go_wp2_with (go_at_call 70; refine hh.out.mono ?_; rintro e w1 ⟨rfl, rfl⟩)
  go_ret
  exact ⟨rfl, rfl⟩
theorem adm_off (i : Nat) (b : Bool) (h : Rig w W K r n N d D s) (hi : i < n) (ho : s.off = true) :
    Calls Tryz.prog 39 #[.pointer (some ⟨r, 0, none⟩), .int .i64 (i : Int), .bool b] W fun e w' => e = .returned (.int .i64 6) ∧ W = w' := by
  have hh := Lib.hid (rhas_any i h)
  rw [decide_eq_true (show 0 ≤ (i : Int) ∧ (i : Int) < n by omega)] at hh
  have c3 := h.c3
  rw [ho] at c3
  clear h ho
  go_enter Tryz.func39, Tryz.ntmps39
  go_wp2_with (go_at_call 70; refine hh.out.mono ?_; rintro e w1 ⟨rfl, rfl⟩)
  go_ret
  exact ⟨rfl, rfl⟩
theorem adm_dead (i : Nat) (b : Bool) (h : Rig w W K r n N d D s) (hi : i < n) (ho : s.off = false) (hd : (D i).dead = true) :
    Calls Tryz.prog 39 #[.pointer (some ⟨r, 0, none⟩), .int .i64 (i : Int), .bool b] W fun e w' => e = .returned (.int .i64 7) ∧ W = w' := by
  have hh := Lib.hid (rhas_any i h)
  rw [decide_eq_true (show 0 ≤ (i : Int) ∧ (i : Int) < n by omega)] at hh
  have c3 := h.c3
  rw [ho] at c3
  obtain ⟨q, q1, _, _, q4⟩ := h.row
  have p1 := q4 i hi
  have hde := Lib.hid (fam_dead W i h.fam (Nat.lt_of_lt_of_le hi h.nN))
  rw [hd] at hde
  have hnb := h.nb
  clear h ho hd q4
  go_enter Tryz.func39, Tryz.ntmps39
  go_wp2_with (first | (go_at_call 70; refine hh.out.mono ?_; rintro e w1 ⟨rfl, rfl⟩) | (go_at_call 71; refine hde.out.mono ?_; rintro e w1 ⟨rfl, rfl⟩))
  go_ret
  exact ⟨rfl, rfl⟩
theorem adm_read (i : Nat) (h : Rig w W K r n N d D s) (hi : i < n) (ho : s.off = false) (hd : (D i).dead = false) :
    Calls Tryz.prog 39 #[.pointer (some ⟨r, 0, none⟩), .int .i64 (i : Int), .bool false] W fun e w' => e = .returned (.int .i64 0) ∧ W = w' := by
  have hh := Lib.hid (rhas_any i h)
  rw [decide_eq_true (show 0 ≤ (i : Int) ∧ (i : Int) < n by omega)] at hh
  have c3 := h.c3
  rw [ho] at c3
  obtain ⟨q, q1, _, _, q4⟩ := h.row
  have p1 := q4 i hi
  have hde := Lib.hid (fam_dead W i h.fam (Nat.lt_of_lt_of_le hi h.nN))
  rw [hd] at hde
  have hnb := h.nb
  clear h ho hd q4
  go_enter Tryz.func39, Tryz.ntmps39
  go_wp2_with (first | (go_at_call 70; refine hh.out.mono ?_; rintro e w1 ⟨rfl, rfl⟩) | (go_at_call 71; refine hde.out.mono ?_; rintro e w1 ⟨rfl, rfl⟩))
  go_ret
  exact ⟨rfl, rfl⟩
theorem adm_cut (i : Nat) (h : Rig w W K r n N d D s) (hok : ∀ i, i < n → (D i).Ok) (hi : i < n) (ho : s.off = false) (hd : (D i).dead = false) (hdu : s.due = 1) :
    Calls Tryz.prog 39 #[.pointer (some ⟨r, 0, none⟩), .int .i64 (i : Int), .bool true] W fun e w' => e = .returned (.int .i64 6) ∧ Rig w w' K r n N d (lostN D s.ks n) { s with off := true, due := 0, ks := [] } ∧ SameK W w' (KR K r) := by
  have hh := Lib.hid (rhas_any i h)
  rw [decide_eq_true (show 0 ≤ (i : Int) ∧ (i : Int) < n by omega)] at hh
  have c3 := h.c3
  rw [ho] at c3
  have c4 := h.c4
  rw [hdu] at c4
  obtain ⟨q, q1, _, _, q4⟩ := h.row
  have p1 := q4 i hi
  have hde := Lib.hid (fam_dead W i h.fam (Nat.lt_of_lt_of_le hi h.nN))
  rw [hd] at hde
  have hnb := h.nb
  obtain ⟨A, cap, a1, a2, a3, a4⟩ := h.c5
  have hfa := Lib.hid (fail_any h hok A cap s.ks a2 (fun h0 b off e => (a3 h0 b off e).1) a4 h.kl.1 h.kl.2)
  generalize s.ks.length = kl at a1 hfa
  clear h ho hd q4 a2 a3 a4 hok hdu
  go_enter Tryz.func39, Tryz.ntmps39
  go_wp2_with (first | (go_at_call 70; refine hh.out.mono ?_; rintro e w1 ⟨rfl, rfl⟩) | (go_at_call 71; refine hde.out.mono ?_; rintro e w1 ⟨rfl, rfl⟩) | (go_at_call 41; refine hfa.out.mono ?_; rintro e w1 ⟨rfl, hR, hk⟩))
  go_ret
  exact ⟨rfl, hR, hk⟩
theorem adm_ok (i : Nat) (h : Rig w W K r n N d D s) (hi : i < n) (ho : s.off = false) (hd : (D i).dead = false) (hdu : s.due ≠ 1) (hdb : s.due ≤ 9223372036854775807) (hcb : 0 ≤ s.cnt ∧ s.cnt ≤ 4611686018427387904) :
    Calls Tryz.prog 39 #[.pointer (some ⟨r, 0, none⟩), .int .i64 (i : Int), .bool true] W fun e w' => e = .returned (.int .i64 0) ∧ Rig w w' K r n N d D { s with due := if 1 < s.due then s.due - 1 else s.due, cnt := s.cnt + 1 } ∧ SameK W w' (KR K r) := by
  have hh := Lib.hid (rhas_any i h)
  rw [decide_eq_true (show 0 ≤ (i : Int) ∧ (i : Int) < n by omega)] at hh
  have c2 := h.c2
  have c3 := h.c3
  rw [ho] at c3
  have c4 := h.c4
  obtain ⟨q, q1, _, _, q4⟩ := h.row
  have p1 := q4 i hi
  have hde := Lib.hid (fam_dead W i h.fam (Nat.lt_of_lt_of_le hi h.nN))
  rw [hd] at hde
  have hnb := h.nb
  have f2 := h.fr 2
  have f4 := h.fr 4
  by_cases h1 : 1 < s.due
  · rw [if_pos h1]
    have hR := Lib.hid ((h.set_due (s.due - 1)).set_cnt (s.cnt + 1))
    have hk := Lib.hid ((SameK.set W K r 4 (.int .i64 (s.due - 1))).trans (SameK.set _ K r 2 (.int .i64 (s.cnt + 1))))
    generalize s.due = du at *
    generalize s.cnt = cn at *
    clear h ho hd q4
    go_enter Tryz.func39, Tryz.ntmps39
    go_wp2_with (first | (go_at_call 70; refine hh.out.mono ?_; rintro e w1 ⟨rfl, rfl⟩) | (go_at_call 71; refine hde.out.mono ?_; rintro e w1 ⟨rfl, rfl⟩))
    go_ret
    exact ⟨rfl, hR.out, hk.out⟩
  · rw [if_neg h1]
    have hR := Lib.hid (h.set_cnt (s.cnt + 1))
    have hk := Lib.hid (SameK.set W K r 2 (.int .i64 (s.cnt + 1)))
    generalize s.due = du at *
    generalize s.cnt = cn at *
    clear h ho hd q4
    go_enter Tryz.func39, Tryz.ntmps39
    go_wp2_with (first | (go_at_call 70; refine hh.out.mono ?_; rintro e w1 ⟨rfl, rfl⟩) | (go_at_call 71; refine hde.out.mono ?_; rintro e w1 ⟨rfl, rfl⟩))
    go_ret
    exact ⟨rfl, hR.out, hk.out⟩
end
end Go.Proofs.YtpmhfalhieinjaaGreatDoor
namespace Go.Proofs.YtpmhfalhieinjaaGreatDoor
open Go.RowKit Zon Drv
section
variable {w W : World} {K : Nat → Prop} {r n N : Nat} {d : Nat → Nat} {D : Nat → Dr} {s : Rs}
/-- What a call leaves: more blocks may stay. -/
def RPost (w W : World) (K : Nat → Prop) (r n N : Nat) (d : Nat → Nat) (D : Nat → Dr) (s : Rs) (w' : World) : Prop := ∃ K', (∀ x, K x → K' x) ∧ Rig w w' K' r n N d D s ∧ SameK W w' (KR K r)
theorem rblocks_any (h : Rig w W K r n N d D s) : Calls Tryz.prog 29 #[.pointer (some ⟨r, 0, none⟩)] W fun e w' => e = .returned (.int .i64 s.bl) ∧ W = w' := by
  have c1 := h.c1
  clear h
  go_enter Tryz.func29, Tryz.ntmps29
  go_wp2
  go_ret
  exact ⟨rfl, rfl⟩
theorem rcrash_any (h : Rig w W K r n N d D s) (hok : ∀ i, i < n → (D i).Ok) (A : Option Addr) (cap : Nat) (ks : List Int) (hI : IntsIn W A ks) (hA : ks ≠ [] → ∀ b off, A = some ⟨b, off, none⟩ → b < w.heap.size ∨ K b) (hc : ks.length ≤ cap) (hl : ks.length ≤ 17592186044416) (hk : ∀ x ∈ ks, Rng x) :
    Calls Tryz.prog 16 #[.pointer (some ⟨r, 0, none⟩), .slice A ks.length cap] W fun e w' => e = .returned (.tuple #[]) ∧ Rig w w' K r n N d (lostN D ks n) { s with off := false, due := 0, ks := [] } ∧ SameK W w' (KR K r) := by
  have hfa := Lib.hid (fail_any h hok A cap ks hI hA hc hl hk)
  generalize ks.length = kl at hfa
  have hon := Lib.hid (fun W' (h : Rig w W' K r n N d (lostN D ks n) { s with off := true, due := 0, ks := [] }) => ron_any h)
  clear h hok hI hA hc hl hk
  go_enter Tryz.func16, Tryz.ntmps16
  go_wp2_with fail
  refine hfa.out.mono ?_
  rintro e w1 ⟨rfl, hR, hk⟩
  go_wp2_with fail
  refine (hon.out _ hR).mono ?_
  rintro e w2 ⟨rfl, hR2, hk2⟩
  go_wp2_with fail
  go_end0
  exact ⟨rfl, hR2, hk.trans hk2⟩
theorem rcut_done (x : Int) (h : Rig w W K r n N d D s) {ks : List Int} (hl : ks.length ≤ 17592186044416) (hk : ∀ x ∈ ks, Rng x) {A' : Option Addr} {cap' : Nat} {w1 : World} (hI : IntsIn w1 A' ks) (hb : Below W.heap.size W w1) (hn : ks ≠ [] → ∀ b off, A' = some ⟨b, off, none⟩ → W.heap.size ≤ b ∧ IntB w1 b) (hc : ks.length ≤ cap') :
    (∃ q, w1.cell? ⟨r, 4, none⟩ = some q) ∧ w1.frozen? ⟨r, 4, none⟩ = false ∧ (∃ q, w1.cell? ⟨r, 5, none⟩ = some q) ∧ w1.frozen? ⟨r, 5, none⟩ = false ∧ RPost w W K r n N d D { s with due := x, ks := ks } ((w1.setCell ⟨r, 4, none⟩ (.int .i64 x)).setCell ⟨r, 5, none⟩ (.slice A' ks.length cap')) := by
  have h1 := h.below (K' := fun x => K x ∨ (W.heap.size ≤ x ∧ x < w1.heap.size)) hb (fun x hx => hx.imp id And.left) (fun x hx => hx.elim (fun k => Nat.lt_of_lt_of_le (h.fam.kb x k) hb.size) And.right) (fun _ _ k => .inl k)
  have h2 := h1.set_due x
  have hr := h.lt
  have h3 := h2.set_keep (A := A') (cap := cap') (hI.turn (F := fun x => x = r) (fun h0 b off e => by have := (hn h0 b off e).1; omega) (Turn.set w1 (F := fun x => x = r) rfl 4 _)) (fun h0 b off e => by
    obtain ⟨e1, e9⟩ := hn h0 b off e
    refine ⟨.inr (.inr ⟨e1, ?_⟩), by omega, e9.set (by omega)⟩
    rcases hI with h4 | ⟨b2, off2, e2, h5, _⟩
    · exact absurd h4 h0
    · rw [e] at e2; injection e2 with e2; injection e2 with e2 _; omega) hc hl hk
  obtain ⟨A0, cap0, a1, _⟩ := h1.c5
  refine ⟨⟨_, h1.c4⟩, h1.fr 4, ⟨_, a1⟩, h1.fr 5, _, fun _ => .inl, h3, ?_⟩
  have s1 : SameK W w1 (KR K r) := ⟨hb.size, fun b hl _ => hb.block b hl⟩
  exact (s1.trans (SameK.set w1 K r 4 _)).trans (SameK.set _ K r 5 _)
set_option maxRecDepth 100000 in
theorem rcut_any (x : Int) (h : Rig w W K r n N d D s) (A : Option Addr) (cap : Nat) (ks : List Int) (hI : IntsIn W A ks) (hN : A = none → cap = 0) (hl : ks.length ≤ 17592186044416) (hk : ∀ x ∈ ks, Rng x) :
    Calls Tryz.prog 22 #[.pointer (some ⟨r, 0, none⟩), .int .i64 x, .slice A ks.length cap] W fun e w' => e = .returned (.tuple #[]) ∧ RPost w W K r n N d D { s with due := max x 1, ks := ks } w' := by
  have hcl := Lib.hid (iclone_any W A cap ks hI hN hl)
  have hd := Lib.hid (fun A' cap' w1 => rcut_done (max x 1) h hl hk (A' := A') (cap' := cap') (w1 := w1))
  clear h hI hN hl hk
  go_enter Tryz.func22, Tryz.ntmps22
  go_wp2_with fail
  refine hcl.out.mono ?_
  rintro e w1 ⟨A', cap', rfl, hI', hb', hn', hc'⟩
  obtain ⟨⟨q4, c4⟩, f4, ⟨q5, c5⟩, f5, hP⟩ := hd.out A' cap' w1 hI' hb' hn' hc'
  have hPH := Lib.hid hP
  clear hP hI' hb' hn' hc' hcl hd
  go_wp2_with fail
  go_end0
  exact ⟨rfl, hPH.out⟩
/-- A flush that does not reach its drive. -/
theorem rflush_no (i er : Int) (P : World → Prop) (her : er ≠ 0) (hadm : Calls Tryz.prog 39 #[.pointer (some ⟨r, 0, none⟩), .int .i64 i, .bool true] W fun e w' => e = .returned (.int .i64 er) ∧ P w') :
    Calls Tryz.prog 15 #[.pointer (some ⟨r, 0, none⟩), .int .i64 i] W fun e w' => e = .returned (.int .i64 er) ∧ P w' := by
  have ha := Lib.hid hadm
  have her' : (er != 0) = true := by simp [her]
  clear hadm
  go_enter Tryz.func15, Tryz.ntmps15
  go_wp2_with fail
  refine ha.out.mono ?_
  rintro e w1 ⟨rfl, hP⟩
  go_wp2_with fail
  go_ret
  exact ⟨rfl, hP⟩
theorem rflush_ok (i : Nat) (h : Rig w W K r n N d D s) (hi : i < n) (hok : (D i).Ok) (ho : s.off = false) (hd : (D i).dead = false) (hdu : s.due ≠ 1) (hdb : s.due ≤ 9223372036854775807) (hcb : 0 ≤ s.cnt ∧ s.cnt ≤ 4611686018427387904) :
    Calls Tryz.prog 15 #[.pointer (some ⟨r, 0, none⟩), .int .i64 (i : Int)] W fun e w' => e = .returned (.int .i64 0) ∧ Rig w w' K r n N d (upd D i (flushD (D i))) { s with due := if 1 < s.due then s.due - 1 else s.due, cnt := s.cnt + 1 } ∧ SameK W w' (KR K r) := by
  have ha := Lib.hid (adm_ok i h hi ho hd hdu hdb hcb)
  generalize ({ s with due := if 1 < s.due then s.due - 1 else s.due, cnt := s.cnt + 1 } : Rs) = s2 at ha ⊢
  have hiN := Nat.lt_of_lt_of_le hi h.nN
  have hfl := Lib.hid (fun W' (h : Fam w W' K N d D) => fam_flush W' i h hiN hok)
  rw [hd] at hfl
  have hnb := h.nb
  clear h hok ho hd hdu hdb hcb
  go_enter Tryz.func15, Tryz.ntmps15
  go_wp2_with fail
  refine ha.out.mono ?_
  rintro e w1 ⟨rfl, hR, hk⟩
  obtain ⟨q, q1, _, _, q4⟩ := hR.row
  have p1 := q4 i hi
  have hf2 := Lib.hid (hfl.out w1 hR.fam)
  have hRH := Lib.hid hR
  clear hR q4 hfl ha
  go_wp2_with fail
  refine hf2.out.mono ?_
  rintro e w2 ⟨rfl, hF, hk2⟩
  have hfin := Lib.hid (hRH.out.drives hF hk2 (fun b hb => (hF.b.block b hb).trans (hRH.out.fam.b.block b hb).symm))
  have hk3 := Lib.hid (hk.trans (hk2.kr r))
  clear hF hk2 hk p1 q1
  go_wp2_with fail
  go_ret
  exact ⟨rfl, hfin.out, hk3.out⟩
end
end Go.Proofs.YtpmhfalhieinjaaGreatDoor
namespace Go.Proofs.YtpmhfalhieinjaaGreatDoor
open Go.RowKit Zon Drv
section
variable {w W : World} {K : Nat → Prop} {r n N : Nat} {d : Nat → Nat} {D : Nat → Dr} {s : Rs}
/-- The world behind a command's box. -/
def boxW (W : World) (k zz a x : Int) : World := W.alloc (.cells #[.int .i64 k, .int .i64 zz, .int .i64 a, .int .i64 x] 116)
def boxK (W : World) (K : Nat → Prop) : Nat → Prop := fun y => K y ∨ y = W.heap.size
theorem Rig.boxed (h : Rig w W K r n N d D s) (k zz a x : Int) : Rig w (boxW W k zz a x) (boxK W K) r n N d D s :=
  h.below ((Below.refl _ _).alloc (Nat.le_refl _) _) (fun y hy => hy.imp id fun e => Nat.le_of_eq e.symm) (fun y hy => by
    unfold boxW
    rcases hy with hy | rfl
    · have := h.fam.kb y hy; simp; omega
    · simp) (fun y _ hy => .inl hy)
theorem boxed_same {w' : World} {k zz a x : Int} (h : SameK (boxW W k zz a x) w' (KR (boxK W K) r)) : SameK W w' (KR K r) := by
  have hb : Below W.heap.size W (boxW W k zz a x) := (Below.refl _ _).alloc (Nat.le_refl _) _
  exact ⟨Nat.le_trans hb.size h.1, fun b hl hk => (h.2 b (Nat.lt_of_lt_of_le hl hb.size) ⟨.inl hk.1, hk.2⟩).trans (hb.block b hl)⟩
theorem boxed_post {w' : World} {k zz a x : Int} {D' : Nat → Dr} {s' : Rs} (h : Rig w w' (boxK W K) r n N d D' s') (hs : SameK (boxW W k zz a x) w' (KR (boxK W K) r)) : RPost w W K r n N d D' s' w' := ⟨boxK W K, fun _ => .inl, h, boxed_same hs⟩
/-- A command that does not reach its drive. -/
theorem rdo_no (i k zz a x : Int) (t : ByteArray) (er : Int) (P : World → Prop) (her : er ≠ 0) (hadm : Calls Tryz.prog 39 #[.pointer (some ⟨r, 0, none⟩), .int .i64 i, .bool (k != 7)] (boxW W k zz a x) fun e w' => e = .returned (.int .i64 er) ∧ P w') :
    Calls Tryz.prog 59 #[.pointer (some ⟨r, 0, none⟩), .int .i64 i, .agg #[.int .i64 k, .int .i64 zz, .int .i64 a, .int .i64 x], .string t] W fun e w' => e = .returned (.tuple #[.string ⟨#[]⟩, .int .i64 0, .int .i64 er]) ∧ P w' := by
  have ha := Lib.hid hadm
  have her' : (er != 0) = true := by simp [her]
  clear hadm
  go_enter Tryz.func59, Tryz.ntmps59
  go_wp2_with fail
  refine ha.out.mono ?_
  rintro e w1 ⟨rfl, hP⟩
  go_wp2_with fail
  go_ret3
  exact ⟨rfl, hP⟩
end
end Go.Proofs.YtpmhfalhieinjaaGreatDoor
namespace Go.Proofs.YtpmhfalhieinjaaGreatDoor
open Go.RowKit Zon Drv
section
variable {w W : World} {K : Nat → Prop} {r n N : Nat} {d : Nat → Nat} {D : Nat → Dr} {s : Rs}
/-- What a command that reached its drive leaves. -/
def DoR (w W : World) (K : Nat → Prop) (r n N : Nat) (d : Nat → Nat) (D : Nat → Dr) (i : Nat) (R : (List UInt8 × Int × Int) × Dr) (s : Rs) (e : Ending) (w' : World) : Prop :=
  e = .returned (.tuple #[.string ⟨R.1.1.toArray⟩, .int .i64 R.1.2.1, .int .i64 R.1.2.2]) ∧ RPost w W K r n N d (upd D i R.2) s w'
theorem rdo_reach (i : Nat) (k zz a x : Int) (t : ByteArray) (hr : r < W.heap.size) (hi : i < n) (hnN : n ≤ N) (hok : (D i).Ok) (ha : a ≤ 9223372036854775807) (hs : t.size ≤ 9223372036854775807)
    (hadm : Calls Tryz.prog 39 #[.pointer (some ⟨r, 0, none⟩), .int .i64 (i : Int), .bool (k != 7)] (boxW W k zz a x) fun e w' => e = .returned (.int .i64 0) ∧ Rig w w' (boxK W K) r n N d D s ∧ SameK (boxW W k zz a x) w' (KR (boxK W K) r)) :
    Calls Tryz.prog 59 #[.pointer (some ⟨r, 0, none⟩), .int .i64 (i : Int), .agg #[.int .i64 k, .int .i64 zz, .int .i64 a, .int .i64 x], .string t] W (DoR w W K r n N d D i (doD (D i) k zz a x t.data.toList) s) := by
  have hA := Lib.hid hadm
  have hX : Bx W (boxW W k zz a x) W.heap.size k zz a x := Bx.new W k zz a x 116
  have hXH := Lib.hid hX
  have hdo := Lib.hid (fun W' (h : Fam w W' (boxK W K) N d D) => fam_do W' i k zz a x t h (Nat.lt_of_lt_of_le hi hnN) hok ha hs)
  clear hadm hX hok ha hs
  generalize doD (D i) k zz a x t.data.toList = R at hdo ⊢
  obtain ⟨⟨out, at', ev⟩, D'⟩ := R
  dsimp only at hdo
  go_enter Tryz.func59, Tryz.ntmps59
  go_wp2_with fail
  refine hA.out.mono ?_
  rintro e w5 ⟨rfl, hR, hk⟩
  go_wp2_with fail
  have hbk : KR (boxK W K) r W.heap.size := ⟨.inr rfl, by omega⟩
  have g0 := hk.cell hXH.out.x0 hbk
  have g1 := hk.cell hXH.out.x1 hbk
  have g2 := hk.cell hXH.out.x2 hbk
  have g3 := hk.cell hXH.out.x3 hbk
  obtain ⟨q, q1, q2, q3, q4⟩ := hR.row
  have p1 := q4 i hi
  have hnb := hR.nb
  have hf := Lib.hid (fun W' (hW : SameK w5 W' (boxK W K)) => (⟨hW.cell q1 hR.kr, hW.cell p1 q2, hW.cell g0 hbk.1, hW.cell g1 hbk.1, hW.cell g2 hbk.1, hW.cell g3 hbk.1⟩ : W'.cell? ⟨r, 0, none⟩ = some (.slice (some ⟨q, 0, none⟩) n n) ∧ W'.cell? ⟨q, i, none⟩ = some (.pointer (some ⟨d i, 0, none⟩)) ∧ W'.cell? ⟨W.heap.size, 0, none⟩ = some (.int .i64 k) ∧ W'.cell? ⟨W.heap.size, 1, none⟩ = some (.int .i64 zz) ∧ W'.cell? ⟨W.heap.size, 2, none⟩ = some (.int .i64 a) ∧ W'.cell? ⟨W.heap.size, 3, none⟩ = some (.int .i64 x)))
  have hS : SameK w5 w5.drew (boxK W K) := ⟨Nat.le_refl _, fun _ _ _ => rfl⟩
  have hF := hR.fam.below ((Below.refl _ w5).drew) (fun x hx => .inl hx) (fun x hx => hR.fam.kb x hx)
  have hex := Lib.hid (hdo.out _ hF)
  have hRH := Lib.hid hR
  have hkH := Lib.hid hk
  clear hR hk g0 g1 g2 g3 q1 q2 q3 q4 p1 hbk hF hdo hXH hA
  refine region_anyC (fun _ => true) (fun W' => SameK w5 W' (boxK W K)) (by kernel_rfl) ?_
  refine anyL_take 0 (v := ?_) rfl (by kernel_rfl) (fun _ _ _ h => h) (Or.inl ⟨by rfl, ?_⟩) hS ?_
  rotate_left
  focus (intro W hW; go_simp; try with_reducible rfl)
  simp only [Act.put, List.setIfInBounds_toArray, List.set_cons_zero, List.set_cons_succ]
  refine anyL_take 1 (v := ?_) rfl (by kernel_rfl) (fun _ _ _ h => h) (Or.inl ⟨by rfl, ?_⟩) hS ?_
  rotate_left
  focus (intro W hW; go_simp; try with_reducible rfl)
  simp only [Act.put, List.setIfInBounds_toArray, List.set_cons_zero, List.set_cons_succ]
  refine anyL_take 2 (v := ?_) rfl (by kernel_rfl) (fun _ _ _ h => h) (Or.inl ⟨by rfl, ?_⟩) hS ?_
  rotate_left
  focus (intro W hW; go_simp; try with_reducible rfl)
  simp only [Act.put, List.setIfInBounds_toArray, List.set_cons_zero, List.set_cons_succ]
  refine anyL_take 3 (v := ?_) rfl (by kernel_rfl) (fun _ _ _ h => h) (Or.inl ⟨by rfl, ?_⟩) hS ?_
  rotate_left
  focus (intro W hW; obtain ⟨f0, f1, f2, f3, f4, f5⟩ := hf.out W hW; go_simp; try with_reducible rfl)
  simp only [Act.put, List.setIfInBounds_toArray, List.set_cons_zero, List.set_cons_succ]
  refine anyL_take 4 (v := ?_) rfl (by kernel_rfl) (fun _ _ _ h => h) (Or.inl ⟨by rfl, ?_⟩) hS ?_
  rotate_left
  focus (intro W hW; go_simp; try with_reducible rfl)
  simp only [Act.put, List.setIfInBounds_toArray, List.set_cons_zero, List.set_cons_succ]
  refine anyL_take 5 (v := ?_) rfl (by kernel_rfl) (fun _ _ _ h => h) (Or.inl ⟨by rfl, ?_⟩) hS ?_
  rotate_left
  focus (intro W hW; go_simp; try with_reducible rfl)
  simp only [Act.put, List.setIfInBounds_toArray, List.set_cons_zero, List.set_cons_succ]
  refine anyL_take 6 (v := ?_) rfl (by kernel_rfl) (fun _ _ _ h => h) (Or.inl ⟨by rfl, ?_⟩) hS ?_
  rotate_left
  focus (intro W hW; obtain ⟨f0, f1, f2, f3, f4, f5⟩ := hf.out W hW; go_simp; try with_reducible rfl)
  simp only [Act.put, List.setIfInBounds_toArray, List.set_cons_zero, List.set_cons_succ]
  refine anyL_take 7 (v := ?_) rfl (by kernel_rfl) (fun _ _ _ h => h) (Or.inl ⟨by rfl, ?_⟩) hS ?_
  rotate_left
  focus (intro W hW; obtain ⟨f0, f1, f2, f3, f4, f5⟩ := hf.out W hW; go_simp; try with_reducible rfl)
  simp only [Act.put, List.setIfInBounds_toArray, List.set_cons_zero, List.set_cons_succ]
  refine anyL_take 8 (v := ?_) rfl (by kernel_rfl) (fun _ _ _ h => h) (Or.inl ⟨by rfl, ?_⟩) hS ?_
  rotate_left
  focus (intro W hW; go_simp; try with_reducible rfl)
  simp only [Act.put, List.setIfInBounds_toArray, List.set_cons_zero, List.set_cons_succ]
  refine anyL_one 9 rfl (by kernel_rfl) (fun K hK => ?_)
  go_simp
  refine (hex.out).mono ?_
  rintro e' w7 ⟨rfl, hD7, ht7⟩
  have ht8 := hS.trans ht7
  dsimp only
  refine hK.out _ _ (fun _ => ht8) ?_
  clear hK K
  try simp only [Act.put, List.setIfInBounds_toArray, List.set_cons_zero, List.set_cons_succ]
  refine anyL_take 10 (v := ?_) rfl (by kernel_rfl) (fun _ _ _ h => h) (Or.inl ⟨by rfl, ?_⟩) ht8 ?_
  rotate_left
  focus (intro W hW; go_simp; try with_reducible rfl)
  simp only [Act.put, List.setIfInBounds_toArray, List.set_cons_zero, List.set_cons_succ]
  refine anyL_take 11 (v := ?_) rfl (by kernel_rfl) (fun _ _ _ h => h) (Or.inl ⟨by rfl, ?_⟩) ht8 ?_
  rotate_left
  focus (intro W hW; go_simp; try with_reducible rfl)
  simp only [Act.put, List.setIfInBounds_toArray, List.set_cons_zero, List.set_cons_succ]
  refine anyL_take 12 (v := ?_) rfl (by kernel_rfl) (fun _ _ _ h => h) (Or.inl ⟨by rfl, ?_⟩) ht8 ?_
  rotate_left
  focus (intro W hW; go_simp; try with_reducible rfl)
  simp only [Act.put, List.setIfInBounds_toArray, List.set_cons_zero, List.set_cons_succ]
  refine anyL_take 13 (v := ?_) rfl (by kernel_rfl) (fun _ _ _ h => h) (Or.inl ⟨by rfl, ?_⟩) ht8 ?_
  rotate_left
  focus (intro W hW; go_simp; try with_reducible rfl)
  simp only [Act.put, List.setIfInBounds_toArray, List.set_cons_zero, List.set_cons_succ]
  refine anyL_take 14 (v := ?_) rfl (by kernel_rfl) (fun _ _ _ h => h) (Or.inl ⟨by rfl, ?_⟩) ht8 ?_
  rotate_left
  focus (intro W hW; go_simp; try with_reducible rfl)
  simp only [Act.put, List.setIfInBounds_toArray, List.set_cons_zero, List.set_cons_succ]
  refine anyL_take 15 (v := ?_) rfl (by kernel_rfl) (fun _ _ _ h => h) (Or.inl ⟨by rfl, ?_⟩) ht8 ?_
  rotate_left
  focus (intro W hW; go_simp; try with_reducible rfl)
  simp only [Act.put, List.setIfInBounds_toArray, List.set_cons_zero, List.set_cons_succ]
  refine anyC_done (by kernel_rfl) ?_ _
  go_wp2
  go_ret3
  refine ⟨rfl, ?_⟩
  exact boxed_post (hRH.out.drives hD7 ht8 (fun b hb => (hD7.b.block b hb).trans (hRH.out.fam.b.block b hb).symm)) (hkH.out.trans (ht8.kr r))
end
end Go.Proofs.YtpmhfalhieinjaaGreatDoor
namespace Go.Proofs.YtpmhfalhieinjaaGreatDoor
open Go.RowKit Zon Drv
section
variable {w W : World} {K : Nat → Prop} {r n N : Nat} {d : Nat → Nat} {D : Nat → Dr} {s : Rs}
theorem rzone_any (i : Nat) (z : Int) (h : Rig w W K r n N d D s) (hi : i < n) :
    Calls Tryz.prog 60 #[.pointer (some ⟨r, 0, none⟩), .int .i64 (i : Int), .int .i64 z] W fun e w' => e = .returned (.tuple #[.agg #[.int .i64 (getM (D i).m z).s, .int .i64 (getM (D i).m z).l], .bool (hasB (D i).m z)]) ∧ Below W.heap.size W w' := by
  have hBa : Below W.heap.size W (W.alloc (.cells #[.int .i64 0, .int .i64 0] 118)) := (Below.refl _ _).alloc (Nat.le_refl _) _
  have h2 : Rig w (W.alloc (.cells #[.int .i64 0, .int .i64 0] 118)) K r n N d D s := h.below hBa (fun x hx => .inl hx) (fun x hx => Nat.lt_of_lt_of_le (h.fam.kb x hx) hBa.size) (fun _ _ hx => hx)
  have hh := Lib.hid (rhas_any (i : Int) h2)
  rw [decide_eq_true (show 0 ≤ (i : Int) ∧ (i : Int) < n by omega)] at hh
  obtain ⟨q, q1, _, _, q4⟩ := h2.row
  have p1 := q4 i hi
  have hg := Lib.hid (fam_zone _ i z h2.fam (Nat.lt_of_lt_of_le hi h2.nN))
  have hnb := h.nb
  have hBH := Lib.hid hBa
  clear h h2 q4 hBa
  generalize getM (D i).m z = y at hg ⊢
  generalize hasB (D i).m z = v at hg ⊢
  go_enter Tryz.func60, Tryz.ntmps60
  go_wp2_with fail
  refine hh.out.mono ?_
  rintro e w1 ⟨rfl, rfl⟩
  go_wp2_with (go_at_call 87; refine hg.out.mono ?_; rintro e w1 ⟨rfl, hb⟩; obtain ⟨hc, hf⟩ := bcell hb)
  refine fresh_endD (fun W' => Zn2 W' W.heap.size y.s y.l ∧ Below W.heap.size W W') ⟨Zn2.set (u := .int .i64 0) (v := .int .i64 0) (by rw [hc _ _ (by simp)]; go_simp) (by rw [hc _ _ (by simp)]; go_simp) _ _, bput (bput (hBH.out.trans (hb.mono (by simp))) (Nat.le_refl _)) (Nat.le_refl _)⟩ ?_
  rintro W9 ⟨⟨d0, d1⟩, hB9⟩
  refine bodyPost_ret (v := .tuple #[.agg #[.int .i64 y.s, .int .i64 y.l], .bool v]) (by simp [results, Tryz.results60, go_sem, d0, d1]) rfl ⟨rfl, ?_⟩
  exact hB9
end
theorem rhas_nil (i : Int) (w : World) :
    Calls Tryz.prog 70 #[.pointer none, .int .i64 i] w fun e w' => e = .returned (.bool false) ∧ w = w' := by
  go_enter Tryz.func70, Tryz.ntmps70
  go_wp2
  go_ret
  exact ⟨rfl, rfl⟩
theorem radm_nil (i : Int) (b : Bool) (w : World) :
    Calls Tryz.prog 39 #[.pointer none, .int .i64 i, .bool b] w fun e w' => e = .returned (.int .i64 1) ∧ w = w' := by
  go_enter Tryz.func39, Tryz.ntmps39
  go_wp2_with (go_at_call 70; refine (rhas_nil _ _).mono ?_; rintro e w1 ⟨rfl, rfl⟩)
  go_ret
  exact ⟨rfl, rfl⟩
theorem rdo_nil (i k zz a x : Int) (t : ByteArray) (w : World) :
    Calls Tryz.prog 59 #[.pointer none, .int .i64 i, .agg #[.int .i64 k, .int .i64 zz, .int .i64 a, .int .i64 x], .string t] w fun e w' => e = .returned (.tuple #[.string ⟨#[]⟩, .int .i64 0, .int .i64 1]) ∧ Below w.heap.size w w' := by
  go_enter Tryz.func59, Tryz.ntmps59
  go_wp2_with (go_at_call 39; refine (radm_nil _ _ _).mono ?_; rintro e w1 ⟨rfl, rfl⟩)
  go_ret3
  exact ⟨rfl, (Below.refl _ _).alloc (Nat.le_refl _) _⟩
theorem rflush_nil (i : Int) (w : World) :
    Calls Tryz.prog 15 #[.pointer none, .int .i64 i] w fun e w' => e = .returned (.int .i64 1) ∧ w = w' := by
  go_enter Tryz.func15, Tryz.ntmps15
  go_wp2_with (go_at_call 39; refine (radm_nil _ _ _).mono ?_; rintro e w1 ⟨rfl, rfl⟩)
  go_ret
  exact ⟨rfl, rfl⟩
theorem rzone_nil (i z : Int) (w : World) :
    Calls Tryz.prog 60 #[.pointer none, .int .i64 i, .int .i64 z] w fun e w' => e = .returned (.tuple #[.agg #[.int .i64 0, .int .i64 0], .bool false]) ∧ Below w.heap.size w w' := by
  go_enter Tryz.func60, Tryz.ntmps60
  go_wp2_with (go_at_call 70; refine (rhas_nil _ _).mono ?_; rintro e w1 ⟨rfl, rfl⟩)
  refine bodyPost_ret (v := .tuple #[.agg #[.int .i64 0, .int .i64 0], .bool false]) (by simp [results, Tryz.results60, go_sem]) rfl ⟨rfl, ?_⟩
  exact (Below.refl _ _).alloc (Nat.le_refl _) _
theorem rcut_nil (x : Int) (A : Option Addr) (l cap : Nat) (w : World) :
    Calls Tryz.prog 22 #[.pointer none, .int .i64 x, .slice A l cap] w fun e w' => e = .returned (.tuple #[]) ∧ w = w' := by
  go_enter Tryz.func22, Tryz.ntmps22
  go_wp2
  go_end0
  exact ⟨rfl, rfl⟩
theorem rcrash_nil (A : Option Addr) (l cap : Nat) (w : World) :
    Calls Tryz.prog 16 #[.pointer none, .slice A l cap] w fun e w' => e = .returned (.tuple #[]) ∧ w = w' := by
  go_enter Tryz.func16, Tryz.ntmps16
  go_wp2
  go_end0
  exact ⟨rfl, rfl⟩
theorem ron_nil (w : World) :
    Calls Tryz.prog 42 #[.pointer none] w fun e w' => e = .returned (.tuple #[]) ∧ w = w' := by
  go_enter Tryz.func42, Tryz.ntmps42
  go_wp2
  go_end0
  exact ⟨rfl, rfl⟩
theorem roff_nil (w : World) : Calls Tryz.prog 23 #[.pointer none] w fun e w' => e = .returned (.bool false) ∧ w = w' := by
  go_enter Tryz.func23, Tryz.ntmps23
  go_wp2
  go_ret
  exact ⟨rfl, rfl⟩
theorem rcount_nil (w : World) : Calls Tryz.prog 78 #[.pointer none] w fun e w' => e = .returned (.int .i64 0) ∧ w = w' := by
  go_enter Tryz.func78, Tryz.ntmps78
  go_wp2
  go_ret
  exact ⟨rfl, rfl⟩
theorem rdrives_nil (w : World) : Calls Tryz.prog 33 #[.pointer none] w fun e w' => e = .returned (.int .i64 0) ∧ w = w' := by
  go_enter Tryz.func33, Tryz.ntmps33
  go_wp2
  go_ret
  exact ⟨rfl, rfl⟩
theorem rblocks_nil (w : World) : Calls Tryz.prog 29 #[.pointer none] w fun e w' => e = .returned (.int .i64 0) ∧ w = w' := by
  go_enter Tryz.func29, Tryz.ntmps29
  go_wp2
  go_ret
  exact ⟨rfl, rfl⟩
end Go.Proofs.YtpmhfalhieinjaaGreatDoor
