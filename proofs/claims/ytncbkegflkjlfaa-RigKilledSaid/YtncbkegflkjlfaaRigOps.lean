/- A rig's calls: whether a command reaches its drive; Do, Flush, Cut, Crash, Kill. -/
import Derived.Test.YtncbkegflkjlfaaRigFail
import Derived.Lib.MinMax
namespace Go.Proofs.Ytncbkegflkjlfaa
open Go.RowKit Zon Drv

section
variable {w W : World} {K : Nat → Prop} {r n : Nat} {d : Nat → Nat} {D : Nat → Dr} {s : Rs}
theorem adm_none (i : Int) (b : Bool) (h : Rig w W K r n d D s) (hi : ¬ (0 ≤ i ∧ i < n)) :
    Calls Try.prog 52 #[.pointer (some ⟨r, 0, none⟩), .int .i64 i, .bool b] W fun e w' => e = .returned (.int .i64 1) ∧ W = w' := by
  have hh := Lib.hid (rhas_any i h)
  rw [decide_eq_false hi] at hh
  clear h hi
  go_enter Try.func52, Try.ntmps52
  go_wp2_with (go_at_call 53; refine hh.out.mono ?_; rintro e w1 ⟨rfl, rfl⟩)
  go_ret
  exact ⟨rfl, rfl⟩
theorem adm_off (i : Nat) (b : Bool) (h : Rig w W K r n d D s) (hi : i < n) (ho : s.off = true) :
    Calls Try.prog 52 #[.pointer (some ⟨r, 0, none⟩), .int .i64 (i : Int), .bool b] W fun e w' => e = .returned (.int .i64 6) ∧ W = w' := by
  have hh := Lib.hid (rhas_any i h)
  rw [decide_eq_true (show 0 ≤ (i : Int) ∧ (i : Int) < n by omega)] at hh
  have c3 := h.c3
  rw [ho] at c3
  clear h ho
  go_enter Try.func52, Try.ntmps52
  go_wp2_with (go_at_call 53; refine hh.out.mono ?_; rintro e w1 ⟨rfl, rfl⟩)
  go_ret
  exact ⟨rfl, rfl⟩
theorem adm_dead (i : Nat) (b : Bool) (h : Rig w W K r n d D s) (hi : i < n) (ho : s.off = false) (hd : (D i).dead = true) :
    Calls Try.prog 52 #[.pointer (some ⟨r, 0, none⟩), .int .i64 (i : Int), .bool b] W fun e w' => e = .returned (.int .i64 7) ∧ W = w' := by
  have hh := Lib.hid (rhas_any i h)
  rw [decide_eq_true (show 0 ≤ (i : Int) ∧ (i : Int) < n by omega)] at hh
  have c3 := h.c3
  rw [ho] at c3
  obtain ⟨q, q1, _, _, q4⟩ := h.row
  have p1 := q4 i hi
  have hde := Lib.hid (fam_dead W i h.fam hi)
  rw [hd] at hde
  have hnb := h.nb
  clear h ho hd q4
  go_enter Try.func52, Try.ntmps52
  go_wp2_with (first | (go_at_call 53; refine hh.out.mono ?_; rintro e w1 ⟨rfl, rfl⟩) | (go_at_call 26; refine hde.out.mono ?_; rintro e w1 ⟨rfl, rfl⟩))
  go_ret
  exact ⟨rfl, rfl⟩
theorem adm_read (i : Nat) (h : Rig w W K r n d D s) (hi : i < n) (ho : s.off = false) (hd : (D i).dead = false) :
    Calls Try.prog 52 #[.pointer (some ⟨r, 0, none⟩), .int .i64 (i : Int), .bool false] W fun e w' => e = .returned (.int .i64 0) ∧ W = w' := by
  have hh := Lib.hid (rhas_any i h)
  rw [decide_eq_true (show 0 ≤ (i : Int) ∧ (i : Int) < n by omega)] at hh
  have c3 := h.c3
  rw [ho] at c3
  obtain ⟨q, q1, _, _, q4⟩ := h.row
  have p1 := q4 i hi
  have hde := Lib.hid (fam_dead W i h.fam hi)
  rw [hd] at hde
  have hnb := h.nb
  clear h ho hd q4
  go_enter Try.func52, Try.ntmps52
  go_wp2_with (first | (go_at_call 53; refine hh.out.mono ?_; rintro e w1 ⟨rfl, rfl⟩) | (go_at_call 26; refine hde.out.mono ?_; rintro e w1 ⟨rfl, rfl⟩))
  go_ret
  exact ⟨rfl, rfl⟩
theorem adm_cut (i : Nat) (h : Rig w W K r n d D s) (hok : ∀ i, i < n → (D i).Ok) (hi : i < n) (ho : s.off = false) (hd : (D i).dead = false) (hdu : s.due = 1) :
    Calls Try.prog 52 #[.pointer (some ⟨r, 0, none⟩), .int .i64 (i : Int), .bool true] W fun e w' => e = .returned (.int .i64 6) ∧ Rig w w' K r n d (lostN D s.ks n) { s with off := true, due := 0, ks := [] } ∧ SameK W w' (KR K r) := by
  have hh := Lib.hid (rhas_any i h)
  rw [decide_eq_true (show 0 ≤ (i : Int) ∧ (i : Int) < n by omega)] at hh
  have c3 := h.c3
  rw [ho] at c3
  have c4 := h.c4
  rw [hdu] at c4
  obtain ⟨q, q1, _, _, q4⟩ := h.row
  have p1 := q4 i hi
  have hde := Lib.hid (fam_dead W i h.fam hi)
  rw [hd] at hde
  have hnb := h.nb
  obtain ⟨A, cap, a1, a2, a3, a4⟩ := h.c5
  have hfa := Lib.hid (fail_any h hok A cap s.ks a2 (fun h0 b off e => (a3 h0 b off e).1) a4 h.kl.1 h.kl.2)
  generalize s.ks.length = kl at a1 hfa
  clear h ho hd q4 a2 a3 a4 hok hdu
  go_enter Try.func52, Try.ntmps52
  go_wp2_with (first | (go_at_call 53; refine hh.out.mono ?_; rintro e w1 ⟨rfl, rfl⟩) | (go_at_call 26; refine hde.out.mono ?_; rintro e w1 ⟨rfl, rfl⟩) | (go_at_call 54; refine hfa.out.mono ?_; rintro e w1 ⟨rfl, hR, hk⟩))
  go_ret
  exact ⟨rfl, hR, hk⟩
theorem adm_ok (i : Nat) (h : Rig w W K r n d D s) (hi : i < n) (ho : s.off = false) (hd : (D i).dead = false) (hdu : s.due ≠ 1) (hdb : s.due ≤ 9223372036854775807) (hcb : 0 ≤ s.cnt ∧ s.cnt ≤ 4611686018427387904) :
    Calls Try.prog 52 #[.pointer (some ⟨r, 0, none⟩), .int .i64 (i : Int), .bool true] W fun e w' => e = .returned (.int .i64 0) ∧ Rig w w' K r n d D { s with due := if 1 < s.due then s.due - 1 else s.due, cnt := s.cnt + 1 } ∧ SameK W w' (KR K r) := by
  have hh := Lib.hid (rhas_any i h)
  rw [decide_eq_true (show 0 ≤ (i : Int) ∧ (i : Int) < n by omega)] at hh
  have c2 := h.c2
  have c3 := h.c3
  rw [ho] at c3
  have c4 := h.c4
  obtain ⟨q, q1, _, _, q4⟩ := h.row
  have p1 := q4 i hi
  have hde := Lib.hid (fam_dead W i h.fam hi)
  rw [hd] at hde
  have hnb := h.nb
  have f2 := h.fr 2
  have f4 := h.fr 4
  by_cases h1 : 1 < s.due
  · rw [if_pos h1]
    have hR := Lib.hid ((h.set_due (s.due - 1)).set_cnt (s.cnt + 1))
    have hk := Lib.hid ((SameK.set W K r 4 (.int .i64 (s.due - 1))).trans (SameK.set _ K r 2 (.int .i64 (s.cnt + 1))))
    generalize s.due = du at *
    generalize s.cnt = cn at *
    clear h ho hd q4
    go_enter Try.func52, Try.ntmps52
    go_wp2_with (first | (go_at_call 53; refine hh.out.mono ?_; rintro e w1 ⟨rfl, rfl⟩) | (go_at_call 26; refine hde.out.mono ?_; rintro e w1 ⟨rfl, rfl⟩))
    go_ret
    exact ⟨rfl, hR.out, hk.out⟩
  · rw [if_neg h1]
    have hR := Lib.hid (h.set_cnt (s.cnt + 1))
    have hk := Lib.hid (SameK.set W K r 2 (.int .i64 (s.cnt + 1)))
    generalize s.due = du at *
    generalize s.cnt = cn at *
    clear h ho hd q4
    go_enter Try.func52, Try.ntmps52
    go_wp2_with (first | (go_at_call 53; refine hh.out.mono ?_; rintro e w1 ⟨rfl, rfl⟩) | (go_at_call 26; refine hde.out.mono ?_; rintro e w1 ⟨rfl, rfl⟩))
    go_ret
    exact ⟨rfl, hR.out, hk.out⟩
end
end Go.Proofs.Ytncbkegflkjlfaa
namespace Go.Proofs.Ytncbkegflkjlfaa
open Go.RowKit Zon Drv

section
variable {w W : World} {K : Nat → Prop} {r n : Nat} {d : Nat → Nat} {D : Nat → Dr} {s : Rs}
/-- What a call leaves: more blocks may stay. -/
def RPost (w W : World) (K : Nat → Prop) (r n : Nat) (d : Nat → Nat) (D : Nat → Dr) (s : Rs) (w' : World) : Prop := ∃ K', (∀ x, K x → K' x) ∧ Rig w w' K' r n d D s ∧ SameK W w' (KR K r)
theorem rblocks_any (h : Rig w W K r n d D s) : Calls Try.prog 40 #[.pointer (some ⟨r, 0, none⟩)] W fun e w' => e = .returned (.int .i64 s.bl) ∧ W = w' := by
  have c1 := h.c1
  clear h
  go_enter Try.func40, Try.ntmps40
  go_wp2
  go_ret
  exact ⟨rfl, rfl⟩
theorem rkill_any (i : Nat) (h : Rig w W K r n d D s) (hi : i < n) :
    Calls Try.prog 36 #[.pointer (some ⟨r, 0, none⟩), .int .i64 (i : Int)] W fun e w' => e = .returned (.tuple #[]) ∧ Rig w w' K r n d (upd D i { D i with dead := true }) s ∧ SameK W w' K := by
  have hh := Lib.hid (rhas_any (i : Int) h)
  rw [decide_eq_true (show 0 ≤ (i : Int) ∧ (i : Int) < n by omega)] at hh
  obtain ⟨q, q1, _, _, q4⟩ := h.row
  have p1 := q4 i hi
  have hde := Lib.hid (fam_die W i h.fam hi)
  have hnb := h.nb
  have hH := Lib.hid h
  clear h q4
  go_enter Try.func36, Try.ntmps36
  go_wp2_with (first | (go_at_call 53; refine hh.out.mono ?_; rintro e w1 ⟨rfl, rfl⟩) | (go_at_call 19; refine hde.out.mono ?_; rintro e w1 ⟨rfl, hF, hk⟩))
  go_end0
  exact ⟨rfl, hH.out.drives hF hk (fun b hb => (hF.b.block b hb).trans (hH.out.fam.b.block b hb).symm), hk⟩
theorem rcrash_any (h : Rig w W K r n d D s) (hok : ∀ i, i < n → (D i).Ok) (A : Option Addr) (cap : Nat) (ks : List Int) (hI : IntsIn W A ks) (hA : ks ≠ [] → ∀ b off, A = some ⟨b, off, none⟩ → b < w.heap.size ∨ K b) (hc : ks.length ≤ cap) (hl : ks.length ≤ 17592186044416) (hk : ∀ x ∈ ks, Rng x) :
    Calls Try.prog 34 #[.pointer (some ⟨r, 0, none⟩), .slice A ks.length cap] W fun e w' => e = .returned (.tuple #[]) ∧ Rig w w' K r n d (lostN D ks n) { s with off := false, due := 0, ks := [] } ∧ SameK W w' (KR K r) := by
  have hfa := Lib.hid (fail_any h hok A cap ks hI hA hc hl hk)
  generalize ks.length = kl at hfa
  have hon := Lib.hid (fun W' (h : Rig w W' K r n d (lostN D ks n) { s with off := true, due := 0, ks := [] }) => ron_any h)
  clear h hok hI hA hc hl hk
  go_enter Try.func34, Try.ntmps34
  go_wp2_with fail
  refine hfa.out.mono ?_
  rintro e w1 ⟨rfl, hR, hk⟩
  go_wp2_with fail
  refine (hon.out _ hR).mono ?_
  rintro e w2 ⟨rfl, hR2, hk2⟩
  go_wp2_with fail
  go_end0
  exact ⟨rfl, hR2, hk.trans hk2⟩
theorem rcut_done (x : Int) (h : Rig w W K r n d D s) {ks : List Int} (hl : ks.length ≤ 17592186044416) (hk : ∀ x ∈ ks, Rng x) {A' : Option Addr} {cap' : Nat} {w1 : World} (hI : IntsIn w1 A' ks) (hb : Below W.heap.size W w1) (hn : ks ≠ [] → ∀ b off, A' = some ⟨b, off, none⟩ → W.heap.size ≤ b) (hc : ks.length ≤ cap') :
    (∃ q, w1.cell? ⟨r, 4, none⟩ = some q) ∧ w1.frozen? ⟨r, 4, none⟩ = false ∧ (∃ q, w1.cell? ⟨r, 5, none⟩ = some q) ∧ w1.frozen? ⟨r, 5, none⟩ = false ∧ RPost w W K r n d D { s with due := x, ks := ks } ((w1.setCell ⟨r, 4, none⟩ (.int .i64 x)).setCell ⟨r, 5, none⟩ (.slice A' ks.length cap')) := by
  have h1 := h.below (K' := fun x => K x ∨ (W.heap.size ≤ x ∧ x < w1.heap.size)) hb (fun x hx => hx.imp id And.left) (fun x hx => hx.elim (fun k => Nat.lt_of_lt_of_le (h.fam.kb x k) hb.size) And.right) (fun _ _ k => .inl k)
  have h2 := h1.set_due x
  have hr := h.lt
  have h3 := h2.set_keep (A := A') (cap := cap') (hI.turn (F := fun x => x = r) (fun h0 b off e => by have := hn h0 b off e; omega) (Turn.set w1 (F := fun x => x = r) rfl 4 _)) (fun h0 b off e => by
    have e1 := hn h0 b off e
    refine ⟨.inr (.inr ⟨e1, ?_⟩), by omega⟩
    rcases hI with h4 | ⟨b2, off2, e2, h5, _⟩
    · exact absurd h4 h0
    · rw [e] at e2; injection e2 with e2; injection e2 with e2 _; omega) hc hl hk
  obtain ⟨A0, cap0, a1, _⟩ := h1.c5
  refine ⟨⟨_, h1.c4⟩, h1.fr 4, ⟨_, a1⟩, h1.fr 5, _, fun _ => .inl, h3, ?_⟩
  have s1 : SameK W w1 (KR K r) := ⟨hb.size, fun b hl _ => hb.block b hl⟩
  exact (s1.trans (SameK.set w1 K r 4 _)).trans (SameK.set _ K r 5 _)
set_option maxRecDepth 100000 in
theorem rcut_any (x : Int) (h : Rig w W K r n d D s) (A : Option Addr) (cap : Nat) (ks : List Int) (hI : IntsIn W A ks) (hN : A = none → cap = 0) (hl : ks.length ≤ 17592186044416) (hk : ∀ x ∈ ks, Rng x) :
    Calls Try.prog 29 #[.pointer (some ⟨r, 0, none⟩), .int .i64 x, .slice A ks.length cap] W fun e w' => e = .returned (.tuple #[]) ∧ RPost w W K r n d D { s with due := max x 1, ks := ks } w' := by
  have hcl := Lib.hid (iclone_any W A cap ks hI hN hl)
  have hd := Lib.hid (fun A' cap' w1 => rcut_done (max x 1) h hl hk (A' := A') (cap' := cap') (w1 := w1))
  clear h hI hN hl hk
  go_enter Try.func29, Try.ntmps29
  go_wp2_with fail
  refine hcl.out.mono ?_
  rintro e w1 ⟨A', cap', rfl, hI', hb', hn', hc'⟩
  obtain ⟨⟨q4, c4⟩, f4, ⟨q5, c5⟩, f5, hP⟩ := hd.out A' cap' w1 hI' hb' hn' hc'
  have hPH := Lib.hid hP
  clear hP hI' hb' hn' hc' hcl hd
  go_wp2_with fail
  go_end0
  exact ⟨rfl, hPH.out⟩
/-- A flush that does not reach its drive. -/
theorem rflush_no (i er : Int) (P : World → Prop) (her : er ≠ 0) (hadm : Calls Try.prog 52 #[.pointer (some ⟨r, 0, none⟩), .int .i64 i, .bool true] W fun e w' => e = .returned (.int .i64 er) ∧ P w') :
    Calls Try.prog 37 #[.pointer (some ⟨r, 0, none⟩), .int .i64 i] W fun e w' => e = .returned (.int .i64 er) ∧ P w' := by
  have ha := Lib.hid hadm
  have her' : (er != 0) = true := by simp [her]
  clear hadm
  go_enter Try.func37, Try.ntmps37
  go_wp2_with fail
  refine ha.out.mono ?_
  rintro e w1 ⟨rfl, hP⟩
  go_wp2_with fail
  go_ret
  exact ⟨rfl, hP⟩
theorem rflush_ok (i : Nat) (h : Rig w W K r n d D s) (hi : i < n) (hok : (D i).Ok) (ho : s.off = false) (hd : (D i).dead = false) (hdu : s.due ≠ 1) (hdb : s.due ≤ 9223372036854775807) (hcb : 0 ≤ s.cnt ∧ s.cnt ≤ 4611686018427387904) :
    Calls Try.prog 37 #[.pointer (some ⟨r, 0, none⟩), .int .i64 (i : Int)] W fun e w' => e = .returned (.int .i64 0) ∧ Rig w w' K r n d (upd D i (flushD (D i))) { s with due := if 1 < s.due then s.due - 1 else s.due, cnt := s.cnt + 1 } ∧ SameK W w' (KR K r) := by
  have ha := Lib.hid (adm_ok i h hi ho hd hdu hdb hcb)
  generalize ({ s with due := if 1 < s.due then s.due - 1 else s.due, cnt := s.cnt + 1 } : Rs) = s2 at ha ⊢
  have hfl := Lib.hid (fun W' (h : Fam w W' K n d D) => fam_flush W' i h hi hok)
  rw [hd] at hfl
  have hnb := h.nb
  clear h hok ho hd hdu hdb hcb
  go_enter Try.func37, Try.ntmps37
  go_wp2_with fail
  refine ha.out.mono ?_
  rintro e w1 ⟨rfl, hR, hk⟩
  obtain ⟨q, q1, _, _, q4⟩ := hR.row
  have p1 := q4 i hi
  have hf2 := Lib.hid (hfl.out w1 hR.fam)
  have hRH := Lib.hid hR
  clear hR q4 hfl ha
  go_wp2_with fail
  refine hf2.out.mono ?_
  rintro e w2 ⟨rfl, hF, hk2⟩
  have hfin := Lib.hid (hRH.out.drives hF hk2 (fun b hb => (hF.b.block b hb).trans (hRH.out.fam.b.block b hb).symm))
  have hk3 := Lib.hid (hk.trans (hk2.kr r))
  clear hF hk2 hk p1 q1
  go_wp2_with fail
  go_ret
  exact ⟨rfl, hfin.out, hk3.out⟩
end
end Go.Proofs.Ytncbkegflkjlfaa
namespace Go.Proofs.Ytncbkegflkjlfaa
open Go.RowKit Zon Drv

section
variable {w W : World} {K : Nat → Prop} {r n : Nat} {d : Nat → Nat} {D : Nat → Dr} {s : Rs}
/-- The world behind a command's box. -/
def boxW (W : World) (k zz a x : Int) : World := W.alloc (.cells #[.int .i64 k, .int .i64 zz, .int .i64 a, .int .i64 x] 46)
def boxK (W : World) (K : Nat → Prop) : Nat → Prop := fun y => K y ∨ y = W.heap.size
theorem Rig.boxed (h : Rig w W K r n d D s) (k zz a x : Int) : Rig w (boxW W k zz a x) (boxK W K) r n d D s :=
  h.below ((Below.refl _ _).alloc (Nat.le_refl _) _) (fun y hy => hy.imp id fun e => Nat.le_of_eq e.symm) (fun y hy => by
    unfold boxW
    rcases hy with hy | rfl
    · have := h.fam.kb y hy; simp; omega
    · simp) (fun y _ hy => .inl hy)
theorem boxed_same {w' : World} {k zz a x : Int} (h : SameK (boxW W k zz a x) w' (KR (boxK W K) r)) : SameK W w' (KR K r) := by
  have hb : Below W.heap.size W (boxW W k zz a x) := (Below.refl _ _).alloc (Nat.le_refl _) _
  exact ⟨Nat.le_trans hb.size h.1, fun b hl hk => (h.2 b (Nat.lt_of_lt_of_le hl hb.size) ⟨.inl hk.1, hk.2⟩).trans (hb.block b hl)⟩
theorem boxed_post {w' : World} {k zz a x : Int} {D' : Nat → Dr} {s' : Rs} (h : Rig w w' (boxK W K) r n d D' s') (hs : SameK (boxW W k zz a x) w' (KR (boxK W K) r)) : RPost w W K r n d D' s' w' := ⟨boxK W K, fun _ => .inl, h, boxed_same hs⟩
/-- A command that does not reach its drive. -/
theorem rdo_no (i k zz a x : Int) (t : ByteArray) (er : Int) (P : World → Prop) (her : er ≠ 0) (hadm : Calls Try.prog 52 #[.pointer (some ⟨r, 0, none⟩), .int .i64 i, .bool (k != 7)] (boxW W k zz a x) fun e w' => e = .returned (.int .i64 er) ∧ P w') :
    Calls Try.prog 30 #[.pointer (some ⟨r, 0, none⟩), .int .i64 i, .agg #[.int .i64 k, .int .i64 zz, .int .i64 a, .int .i64 x], .string t] W fun e w' => e = .returned (.tuple #[.string ⟨#[]⟩, .int .i64 0, .int .i64 er]) ∧ P w' := by
  have ha := Lib.hid hadm
  have her' : (er != 0) = true := by simp [her]
  clear hadm
  go_enter Try.func30, Try.ntmps30
  go_wp2_with fail
  refine ha.out.mono ?_
  rintro e w1 ⟨rfl, hP⟩
  go_wp2_with fail
  go_ret3
  exact ⟨rfl, hP⟩
end
end Go.Proofs.Ytncbkegflkjlfaa
