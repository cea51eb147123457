/- A rig as one thing: what a command of its, or a flush, does; what the log's medium does. -/
import Derived.Test.YtpmhfalhieinjaaGreatDoorMRn
import Derived.Test.YtpmhfalhieinjaaGreatDoorMRo
namespace Go.Proofs.YtpmhfalhieinjaaGreatDoor
open Go.RowKit Zon Drv

/-- A rig: its drives, and what it is beside. -/
structure Rg where
  D : Nat → Dr
  s : Rs
/-- All its drives are as they may be, and live; no count is too great. -/
structure RgOk (n : Nat) (G : Rg) (c : Int) : Prop where
  ok : ∀ i, i < n → (G.D i).Ok
  live : ∀ i, i < n → (G.D i).dead = false
  du : G.s.due ≤ 9223372036854775807
  c0 : 0 ≤ G.s.cnt
  c1 : G.s.cnt ≤ c
/-- May a command come through? -/
def adm (n : Nat) (G : Rg) (md : Bool) : Int × Rg :=
  if G.s.off = true then (6, G)
  else if md = false then (0, G)
  else if G.s.due = 1 then (6, ⟨lostN G.D G.s.ks n, { G.s with off := true, due := 0, ks := [] }⟩)
  else (0, ⟨G.D, { G.s with due := if 1 < G.s.due then G.s.due - 1 else G.s.due, cnt := G.s.cnt + 1 }⟩)
def rgDo (n : Nat) (G : Rg) (i : Nat) (k zz a x : Int) (data : List UInt8) : (List UInt8 × Int × Int) × Rg :=
  if (adm n G (k != 7)).1 = 0 then ((doD (G.D i) k zz a x data).1, ⟨upd G.D i (doD (G.D i) k zz a x data).2, (adm n G (k != 7)).2.s⟩)
  else (([], 0, (adm n G (k != 7)).1), (adm n G (k != 7)).2)
def rgFlush (n : Nat) (G : Rg) (i : Nat) : Int × Rg :=
  if (adm n G true).1 = 0 then (0, ⟨upd G.D i (flushD (G.D i)), (adm n G true).2.s⟩) else (adm n G true)

theorem doD_dead (D : Dr) (k zz a n : Int) (data : List UInt8) : (doD D k zz a n data).2.dead = D.dead := by
  unfold doD
  split
  · rfl
  split
  · unfold exec
    split <;> rfl
  · rfl
theorem flushD_dead (D : Dr) : (flushD D).dead = D.dead := by
  unfold flushD
  split
  · rfl
  · exact (settleTo_m D _).2.2.1
theorem loseD_dead (D : Dr) (ks : List Int) : (loseD D ks).dead = D.dead := (loseTo_m D ks _).2.1
theorem lostN_ok {n : Nat} {D : Nat → Dr} (h : ∀ i, i < n → (D i).Ok) (ks : List Int) : ∀ i, i < n → (lostN D ks n i).Ok := fun i hi => by
  unfold lostN; rw [if_pos hi]; exact loseD_ok (h i hi) _
theorem lostN_live {n : Nat} {D : Nat → Dr} (h : ∀ i, i < n → (D i).dead = false) (ks : List Int) : ∀ i, i < n → (lostN D ks n i).dead = false := fun i hi => by
  unfold lostN; rw [if_pos hi, loseD_dead]; exact h i hi
theorem upd_all {n : Nat} {D : Nat → Dr} {P : Dr → Prop} (h : ∀ i, i < n → P (D i)) (j : Nat) {E : Dr} (hE : P E) : ∀ i, i < n → P (upd D j E i) := fun i hi => by
  unfold upd; split
  · exact hE
  · exact h i hi
theorem RgOk.adm {n : Nat} {G : Rg} {c : Int} (h : RgOk n G c) (md : Bool) : RgOk n (adm n G md).2 (c + 1) := by
  have h1 := h.du
  have h2 := h.c0
  have h3 := h.c1
  unfold Go.Proofs.YtpmhfalhieinjaaGreatDoor.adm
  split
  · exact ⟨h.ok, h.live, h.du, h.c0, by show G.s.cnt ≤ c + 1; omega⟩
  split
  · exact ⟨h.ok, h.live, h.du, h.c0, by show G.s.cnt ≤ c + 1; omega⟩
  split
  · exact ⟨lostN_ok h.ok _, lostN_live h.live _, by show (0 : Int) ≤ _; omega, h2, by show G.s.cnt ≤ c + 1; omega⟩
  · exact ⟨h.ok, h.live, by show (if 1 < G.s.due then G.s.due - 1 else G.s.due) ≤ _; split <;> omega, by show 0 ≤ G.s.cnt + 1; omega, by show G.s.cnt + 1 ≤ c + 1; omega⟩
theorem adm_D {n : Nat} {G : Rg} {md : Bool} (h : (adm n G md).1 = 0) : (adm n G md).2.D = G.D := by
  unfold adm at h ⊢
  split at h
  · cases h
  split at h
  · rename_i h1 h2; rw [if_neg h1, if_pos h2]
  split at h
  · cases h
  · rename_i h1 h2 h3; rw [if_neg h1, if_neg h2, if_neg h3]
theorem RgOk.do_ {n : Nat} {G : Rg} {c : Int} (h : RgOk n G c) {i : Nat} (hi : i < n) (k zz a x : Int) (data : List UInt8) : RgOk n (rgDo n G i k zz a x data).2 (c + 1) := by
  have h1 := h.adm (k != 7)
  unfold rgDo
  split
  · exact ⟨upd_all h.ok i (doD_ok (h.ok i hi) ..), upd_all (P := fun E => E.dead = false) h.live i (by rw [doD_dead]; exact h.live i hi), h1.du, h1.c0, h1.c1⟩
  · exact h1
theorem RgOk.flush {n : Nat} {G : Rg} {c : Int} (h : RgOk n G c) {i : Nat} (hi : i < n) : RgOk n (rgFlush n G i).2 (c + 1) := by
  have h1 := h.adm true
  unfold rgFlush
  split
  · exact ⟨upd_all h.ok i (flushD_ok (h.ok i hi)), upd_all (P := fun E => E.dead = false) h.live i (by rw [flushD_dead]; exact h.live i hi), h1.du, h1.c0, h1.c1⟩
  · exact h1
theorem RgOk.mono {n : Nat} {G : Rg} {c c' : Int} (h : RgOk n G c) (hc : c ≤ c') : RgOk n G c' := ⟨h.ok, h.live, h.du, h.c0, Int.le_trans h.c1 hc⟩

section
variable {w W : World} {K : Nat → Prop} {r n N : Nat} {d : Nat → Nat} {G : Rg} {c : Int}
/-- A rig in memory behind a call: more blocks may stay. -/
def MPost (w W : World) (K : Nat → Prop) (r n N : Nat) (d : Nat → Nat) (G : Rg) (w' : World) : Prop := ∃ K', (∀ x, K x → K' x) ∧ Rig w w' K' r n N d G.D G.s ∧ SameK W w' (KR K r)
theorem madm_any (i : Nat) (md : Bool) (h : Rig w W K r n N d G.D G.s) (hok : RgOk n G c) (hc : c ≤ 4611686018427387904) (hi : i < n) :
    Calls Tryz.prog 39 #[.pointer (some ⟨r, 0, none⟩), .int .i64 (i : Int), .bool md] W fun e w' => e = .returned (.int .i64 (adm n G md).1) ∧ Rig w w' K r n N d (adm n G md).2.D (adm n G md).2.s ∧ SameK W w' (KR K r) := by
  have hc0 := hok.c0
  have hc1 := hok.c1
  unfold adm
  by_cases ho : G.s.off = true
  · simp only [if_pos ho]
    exact (adm_off i md h hi ho).mono fun e w' ⟨h1, h2⟩ => by subst h2; exact ⟨h1, h, SameK.refl _ _⟩
  have ho' : G.s.off = false := by cases hx : G.s.off <;> simp_all
  simp only [if_neg ho]
  cases md with
  | false =>
    simp only [if_true]
    exact (adm_read i h hi ho' (hok.live i hi)).mono fun e w' ⟨h1, h2⟩ => by subst h2; exact ⟨h1, h, SameK.refl _ _⟩
  | true =>
    simp only [Bool.true_eq_false, if_false]
    by_cases hd : G.s.due = 1
    · simp only [if_pos hd]
      exact adm_cut i h hok.ok hi ho' (hok.live i hi) hd
    · simp only [if_neg hd]
      exact adm_ok i h hi ho' (hok.live i hi) hd hok.du ⟨hc0, by omega⟩
theorem mdo_any (i : Nat) (k zz a x : Int) (t : ByteArray) (h : Rig w W K r n N d G.D G.s) (hok : RgOk n G c) (hc : c ≤ 4611686018427387904) (hi : i < n) (ha : a ≤ 9223372036854775807) (hs : t.size ≤ 9223372036854775807) :
    Calls Tryz.prog 59 #[.pointer (some ⟨r, 0, none⟩), .int .i64 (i : Int), .agg #[.int .i64 k, .int .i64 zz, .int .i64 a, .int .i64 x], .string t] W fun e w' =>
      e = .returned (.tuple #[.string ⟨(rgDo n G i k zz a x t.data.toList).1.1.toArray⟩, .int .i64 (rgDo n G i k zz a x t.data.toList).1.2.1, .int .i64 (rgDo n G i k zz a x t.data.toList).1.2.2]) ∧ MPost w W K r n N d (rgDo n G i k zz a x t.data.toList).2 w' := by
  have hb := h.boxed k zz a x
  have h1 := madm_any i (k != 7) hb hok hc hi
  unfold rgDo
  by_cases h0 : (adm n G (k != 7)).1 = 0
  · simp only [if_pos h0]
    rw [h0] at h1
    rw [adm_D h0] at h1
    have h2 := rdo_reach i k zz a x t h.lt hi h.nN (hok.ok i hi) ha hs h1
    exact h2.mono fun e w' h3 => h3
  · simp only [if_neg h0]
    exact (rdo_no (i : Int) k zz a x t _ (fun w' => Rig w w' (boxK W K) r n N d (adm n G (k != 7)).2.D (adm n G (k != 7)).2.s ∧ SameK (boxW W k zz a x) w' (KR (boxK W K) r)) h0 h1).mono fun e w' ⟨h3, h4, h5⟩ => ⟨h3, boxed_post h4 h5⟩
theorem mflush_any (i : Nat) (h : Rig w W K r n N d G.D G.s) (hok : RgOk n G c) (hc : c ≤ 4611686018427387904) (hi : i < n) :
    Calls Tryz.prog 15 #[.pointer (some ⟨r, 0, none⟩), .int .i64 (i : Int)] W fun e w' => e = .returned (.int .i64 (rgFlush n G i).1) ∧ MPost w W K r n N d (rgFlush n G i).2 w' := by
  have hc0 := hok.c0
  have hc1 := hok.c1
  unfold rgFlush
  by_cases h0 : (adm n G true).1 = 0
  · simp only [if_pos h0]
    unfold adm at h0 ⊢
    by_cases ho : G.s.off = true
    · rw [if_pos ho] at h0; cases h0
    have ho' : G.s.off = false := by cases hx : G.s.off <;> simp_all
    simp only [if_neg ho, Bool.true_eq_false, if_false] at h0 ⊢
    by_cases hd : G.s.due = 1
    · rw [if_pos hd] at h0; cases h0
    · simp only [if_neg hd]
      exact (rflush_ok i h hi (hok.ok i hi) ho' (hok.live i hi) hd hok.du ⟨hc0, by omega⟩).mono fun e w' ⟨h3, h4, h5⟩ => ⟨h3, K, fun _ hx => hx, h4, h5⟩
  · simp only [if_neg h0]
    exact (rflush_no (i : Int) _ (fun w' => Rig w w' K r n N d (adm n G true).2.D (adm n G true).2.s ∧ SameK W w' (KR K r)) h0 (madm_any i true h hok hc hi)).mono fun e w' ⟨h3, h4, h5⟩ => ⟨h3, K, fun _ hx => hx, h4, h5⟩
/-- A block that is made stays from then on. -/
theorem Rig.keep {D : Nat → Dr} {s : Rs} (h : Rig w W K r n N d D s) (o : Obj) : Rig w (W.alloc o) (boxK W K) r n N d D s :=
  h.below ((Below.refl _ _).alloc (Nat.le_refl _) _) (fun y hy => hy.imp id fun e => Nat.le_of_eq e.symm) (fun y hy => by
    rcases hy with hy | rfl
    · have := h.fam.kb y hy; simp; omega
    · simp) (fun y _ hy => .inl hy)
theorem keep_same {W W' w' : World} {K : Nat → Prop} {r : Nat} (hb : Below W.heap.size W W') (h : SameK W' w' (KR (boxK W K) r)) : SameK W w' (KR K r) :=
  ⟨Nat.le_trans hb.size h.1, fun b hl hk => (h.2 b (Nat.lt_of_lt_of_le hl hb.size) ⟨.inl hk.1, hk.2⟩).trans (hb.block b hl)⟩
/-- All that was made since stays from then on. -/
def newK (W W' : World) (K : Nat → Prop) : Nat → Prop := fun y => K y ∨ (W.heap.size ≤ y ∧ y < W'.heap.size)
theorem Rig.keepAll {W' : World} {D : Nat → Dr} {s : Rs} (h : Rig w W K r n N d D s) (hb : Below W.heap.size W W') : Rig w W' (newK W W' K) r n N d D s :=
  h.below hb (fun y hy => hy.imp id fun e => e.1) (fun y hy => by
    rcases hy with hy | hy
    · have := h.fam.kb y hy; have := hb.size; omega
    · exact hy.2) (fun y _ hy => .inl hy)
theorem newK_same {W W' w' : World} {K : Nat → Prop} {r : Nat} (hb : Below W.heap.size W W') (h : SameK W' w' (KR (newK W W' K) r)) : SameK W w' (KR K r) :=
  ⟨Nat.le_trans hb.size h.1, fun b hl hk => (h.2 b (Nat.lt_of_lt_of_le hl hb.size) ⟨.inl hk.1, hk.2⟩).trans (hb.block b hl)⟩
theorem MPost.trans {W' : World} {K' : Nat → Prop} {G' : Rg} {w' : World} (hK : ∀ x, K x → K' x) (hs : SameK W W' (KR K r)) (h : MPost w W' K' r n N d G' w') : MPost w W K r n N d G' w' := by
  obtain ⟨K2, h1, h2, h3⟩ := h
  exact ⟨K2, fun x hx => h1 x (hK x hx), h2, hs.trans ⟨h3.1, fun x hx hk => h3.2 x hx ⟨hK x hk.1, hk.2⟩⟩⟩
end
end Go.Proofs.YtpmhfalhieinjaaGreatDoor
