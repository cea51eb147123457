/- A rig in memory; the power fails. -/
import Derived.Test.YtpmhfalhieinjaaGreatDoorMRl
import Derived.Test.YtpmhfalhieinjaaGreatDoorMDd
namespace Go.Proofs.YtpmhfalhieinjaaGreatDoor
open Go.RowKit Zon Drv
/-- What a rig is beside its drives. -/
structure Rs where
  bl : Int
  cnt : Int
  due : Int
  off : Bool
  ks : List Int
/-- A rig in block r, of n drives; the blocks K stay, but for r itself. -/
structure Rig (w W : World) (K : Nat → Prop) (r n N : Nat) (d : Nat → Nat) (D : Nat → Dr) (s : Rs) : Prop where
  fam : Fam w W K N d D
  row : ∃ q, W.cell? ⟨r, 0, none⟩ = some (.slice (some ⟨q, 0, none⟩) n n) ∧ K q ∧ q ≠ r ∧ ∀ i, i < n → W.cell? ⟨q, i, none⟩ = some (.pointer (some ⟨d i, 0, none⟩))
  c1 : W.cell? ⟨r, 1, none⟩ = some (.int .i64 s.bl)
  c2 : W.cell? ⟨r, 2, none⟩ = some (.int .i64 s.cnt)
  c3 : W.cell? ⟨r, 3, none⟩ = some (.bool s.off)
  c4 : W.cell? ⟨r, 4, none⟩ = some (.int .i64 s.due)
  c5 : ∃ A cap, W.cell? ⟨r, 5, none⟩ = some (.slice A s.ks.length cap) ∧ IntsIn W A s.ks ∧ (s.ks ≠ [] → ∀ b off, A = some ⟨b, off, none⟩ → (b < w.heap.size ∨ K b) ∧ b ≠ r ∧ IntB W b) ∧ s.ks.length ≤ cap
  kl : s.ks.length ≤ 17592186044416 ∧ ∀ x ∈ s.ks, Rng x
  fr : ∀ j, W.frozen? ⟨r, j, none⟩ = false
  kr : K r
  rb : w.heap.size ≤ r
  nb : n ≤ 64
  nN : n ≤ N
theorem Rig.lt {w W : World} {K : Nat → Prop} {r n N : Nat} {d : Nat → Nat} {D : Nat → Dr} {s : Rs} (h : Rig w W K r n N d D s) : r < W.heap.size := lt_of_cell h.c1
theorem IntsIn.sameK {w W W' : World} {K : Nat → Prop} {A : Option Addr} {zs : List Int} (h : IntsIn W A zs) (hs : W.heap.size ≤ W'.heap.size) (hb : ∀ b, b < W.heap.size → b < w.heap.size ∨ K b → W'.heap[b]? = W.heap[b]?) (hA : zs ≠ [] → ∀ b off, A = some ⟨b, off, none⟩ → b < w.heap.size ∨ K b) : IntsIn W' A zs := by
  by_cases h0 : zs = []
  · exact .inl h0
  · rcases h with h | ⟨b, off, rfl, hlt, hc⟩
    · exact .inl h
    · have e := hb b hlt (hA h0 b off rfl)
      exact .inr ⟨b, off, rfl, Nat.lt_of_lt_of_le hlt hs, fun i hi => (same_cell e).trans (hc i hi)⟩
/-- Its drives have turned. -/
theorem Rig.drives {w W W' : World} {K : Nat → Prop} {r n N : Nat} {d : Nat → Nat} {D D' : Nat → Dr} {s : Rs} (h : Rig w W K r n N d D s) (hF : Fam w W' K N d D') (hk : SameK W W' K) (hb : ∀ b, b < w.heap.size → W'.heap[b]? = W.heap[b]?) : Rig w W' K r n N d D' s := by
  have hr := hk.2 r h.lt h.kr
  obtain ⟨q, q1, q2, q3, q4⟩ := h.row
  obtain ⟨A, cap, a1, a2, a3, a4⟩ := h.c5
  refine ⟨hF, ⟨q, (same_cell hr).trans q1, q2, q3, fun i hi => hk.cell (q4 i hi) q2⟩, (same_cell hr).trans h.c1, (same_cell hr).trans h.c2, (same_cell hr).trans h.c3, (same_cell hr).trans h.c4,
    ⟨A, cap, (same_cell hr).trans a1, a2.sameK hk.1 (fun b hl hb2 => hb2.elim (hb b) (hk.2 b hl)) (fun h0 b off e => (a3 h0 b off e).1), fun h0 b off e => ⟨(a3 h0 b off e).1, (a3 h0 b off e).2.1, (a3 h0 b off e).2.2.same ((a3 h0 b off e).1.elim (hb b) (hk.2 b (by obtain ⟨_, _, hx⟩ := (a3 h0 b off e).2.2; exact (Array.getElem?_eq_some_iff.1 hx).1)))⟩, a4⟩, h.kl, fun j => (same_frozen hr).trans (h.fr j), h.kr, h.rb, h.nb, h.nN⟩
/-- Memory has grown; other blocks are to stay. -/
theorem Rig.below {w W W' : World} {K K' : Nat → Prop} {r n N : Nat} {d : Nat → Nat} {D : Nat → Dr} {s : Rs} (h : Rig w W K r n N d D s) (hb : Below W.heap.size W W') (hK : ∀ x, K' x → K x ∨ W.heap.size ≤ x) (hl : ∀ x, K' x → x < W'.heap.size) (hK2 : ∀ x, x < W.heap.size → K x → K' x) : Rig w W' K' r n N d D s := by
  have hr := hb.block r h.lt
  obtain ⟨q, q1, q2, q3, q4⟩ := h.row
  obtain ⟨A, cap, a1, a2, a3, a4⟩ := h.c5
  have hql := h.fam.kb q q2
  refine ⟨h.fam.below hb hK hl, ⟨q, (same_cell hr).trans q1, hK2 q hql q2, q3, fun i hi => (hb.cell (p := ⟨q, i, none⟩) hql).trans (q4 i hi)⟩, (same_cell hr).trans h.c1, (same_cell hr).trans h.c2, (same_cell hr).trans h.c3, (same_cell hr).trans h.c4,
    ⟨A, cap, (same_cell hr).trans a1, a2.below hb, fun h0 b off e => ⟨(a3 h0 b off e).1.imp id fun hkb => hK2 b (h.fam.kb b hkb) hkb, (a3 h0 b off e).2.1, (a3 h0 b off e).2.2.same (hb.block b (by obtain ⟨_, _, hx⟩ := (a3 h0 b off e).2.2; exact (Array.getElem?_eq_some_iff.1 hx).1))⟩, a4⟩, h.kl, fun j => (same_frozen hr).trans (h.fr j), hK2 r h.lt h.kr, h.rb, h.nb, h.nN⟩
section
variable {w W : World} {K : Nat → Prop} {r n N : Nat} {d : Nat → Nat} {D : Nat → Dr} {s : Rs}
theorem rhas_any (i : Int) (h : Rig w W K r n N d D s) :
    Calls Tryz.prog 70 #[.pointer (some ⟨r, 0, none⟩), .int .i64 i] W fun e w' => e = .returned (.bool (decide (0 ≤ i ∧ i < n))) ∧ W = w' := by
  obtain ⟨q, q1, _⟩ := h.row
  have hnb := h.nb
  by_cases h0 : 0 ≤ i
  · have e : decide (0 ≤ i ∧ i < (n : Int)) = decide (i < (n : Int)) := by rw [decide_eq_decide]; omega
    rw [e]
    clear e h
    go_enter Tryz.func70, Tryz.ntmps70
    go_wp2
    go_ret
    exact ⟨rfl, rfl⟩
  · have e : decide (0 ≤ i ∧ i < (n : Int)) = false := decide_eq_false (by omega)
    rw [e]
    clear e h
    go_enter Tryz.func70, Tryz.ntmps70
    go_wp2
    go_ret
    exact ⟨rfl, rfl⟩
theorem roff_any (h : Rig w W K r n N d D s) : Calls Tryz.prog 23 #[.pointer (some ⟨r, 0, none⟩)] W fun e w' => e = .returned (.bool s.off) ∧ W = w' := by
  have c3 := h.c3
  clear h
  go_enter Tryz.func23, Tryz.ntmps23
  go_wp2
  go_ret
  exact ⟨rfl, rfl⟩
theorem rcount2_any (h : Rig w W K r n N d D s) : Calls Tryz.prog 78 #[.pointer (some ⟨r, 0, none⟩)] W fun e w' => e = .returned (.int .i64 s.cnt) ∧ W = w' := by
  have c2 := h.c2
  clear h
  go_enter Tryz.func78, Tryz.ntmps78
  go_wp2
  go_ret
  exact ⟨rfl, rfl⟩
theorem rdrives_any (h : Rig w W K r n N d D s) : Calls Tryz.prog 33 #[.pointer (some ⟨r, 0, none⟩)] W fun e w' => e = .returned (.int .i64 (n : Int)) ∧ W = w' := by
  obtain ⟨q, q1, _⟩ := h.row
  clear h
  go_enter Tryz.func33, Tryz.ntmps33
  go_wp2
  go_ret
  exact ⟨rfl, rfl⟩
end
end Go.Proofs.YtpmhfalhieinjaaGreatDoor
namespace Go.Proofs.YtpmhfalhieinjaaGreatDoor
open Go.RowKit Zon Drv
theorem Fam.set {w W : World} {K : Nat → Prop} {n : Nat} {d : Nat → Nat} {D : Nat → Dr} (h : Fam w W K n d D) {r : Nat} (hr : K r) (hb : w.heap.size ≤ r) (o : Nat) (u : Value) : Fam w (W.setCell ⟨r, o, none⟩ u) K n d D := by
  obtain ⟨⟨F, h1, h2, h3⟩, hk, h4⟩ := h
  have ht : Turn W (W.setCell ⟨r, o, none⟩ u) (fun x => x = r) := Turn.set W (F := fun x => x = r) rfl o u
  exact ⟨⟨F, fun i hi => (h1 i hi).turn ht fun b hf e => (h3 i hi b hf).2.2 (e ▸ hr), h2, fun i hi x hx => ⟨(h3 i hi x hx).1, Nat.lt_of_lt_of_le (h3 i hi x hx).2.1 ht.size, (h3 i hi x hx).2.2⟩⟩, fun x hx => Nat.lt_of_lt_of_le (hk x hx) ht.size, h4.trans (ht.below (fun x e => by omega) h4.size)⟩
theorem cell_ne (W : World) (r o o' : Nat) (u : Value) (h : o' ≠ o) : (W.setCell ⟨r, o, none⟩ u).cell? ⟨r, o', none⟩ = W.cell? ⟨r, o', none⟩ := World.cell?_setCell_other _ _ _ _ (by intro e; injection e with _ e; omega)
theorem cell_eq {W : World} {r o : Nat} {v : Value} (h : W.cell? ⟨r, o, none⟩ = some v) (u : Value) : (W.setCell ⟨r, o, none⟩ u).cell? ⟨r, o, none⟩ = some u := World.cell?_setCell_same' _ _ _ (by rw [h]; rfl)
section
variable {w W : World} {K : Nat → Prop} {r n N : Nat} {d : Nat → Nat} {D : Nat → Dr} {s : Rs}
theorem Rig.rest (h : Rig w W K r n N d D s) (o : Nat) (u : Value) (ho : 2 ≤ o) : Fam w (W.setCell ⟨r, o, none⟩ u) K N d D ∧ (∃ q, (W.setCell ⟨r, o, none⟩ u).cell? ⟨r, 0, none⟩ = some (.slice (some ⟨q, 0, none⟩) n n) ∧ K q ∧ q ≠ r ∧ ∀ i, i < n → (W.setCell ⟨r, o, none⟩ u).cell? ⟨q, i, none⟩ = some (.pointer (some ⟨d i, 0, none⟩))) ∧
    (W.setCell ⟨r, o, none⟩ u).cell? ⟨r, 1, none⟩ = some (.int .i64 s.bl) ∧ (∀ j, (W.setCell ⟨r, o, none⟩ u).frozen? ⟨r, j, none⟩ = false) := by
  obtain ⟨q, q1, q2, q3, q4⟩ := h.row
  refine ⟨h.fam.set h.kr h.rb o u, ⟨q, (cell_ne W r o 0 u (by omega)).trans q1, q2, q3, fun i hi => (World.cell?_setCell_other _ _ _ _ (by intro e; injection e with e _; omega)).trans (q4 i hi)⟩, (cell_ne W r o 1 u (by omega)).trans h.c1, fun j => by rw [World.frozen?_setCell]; exact h.fr j⟩
theorem IntB.set {W : World} {b r o : Nat} {u : Value} (h : IntB W b) (hb : b ≠ r) : IntB (W.setCell ⟨r, o, none⟩ u) b := h.same (set_block W ⟨r, o, none⟩ u hb (by obtain ⟨_, _, hx⟩ := h; exact (Array.getElem?_eq_some_iff.1 hx).1))
theorem Rig.keep5 (h : Rig w W K r n N d D s) (o : Nat) (u : Value) (ho : o ≠ 5) : ∃ A cap, (W.setCell ⟨r, o, none⟩ u).cell? ⟨r, 5, none⟩ = some (.slice A s.ks.length cap) ∧ IntsIn (W.setCell ⟨r, o, none⟩ u) A s.ks ∧ (s.ks ≠ [] → ∀ b off, A = some ⟨b, off, none⟩ → (b < w.heap.size ∨ K b) ∧ b ≠ r ∧ IntB (W.setCell ⟨r, o, none⟩ u) b) ∧ s.ks.length ≤ cap := by
  obtain ⟨A, cap, a1, a2, a3, a4⟩ := h.c5
  refine ⟨A, cap, (cell_ne W r o 5 u (Ne.symm ho)).trans a1, ?_, fun h0 b off e => ⟨(a3 h0 b off e).1, (a3 h0 b off e).2.1, (a3 h0 b off e).2.2.set (a3 h0 b off e).2.1⟩, a4⟩
  exact a2.turn (F := fun x => x = r) (fun h0 b off e => (a3 h0 b off e).2.1) (Turn.set W (F := fun x => x = r) rfl o u)
theorem Rig.set_cnt (h : Rig w W K r n N d D s) (x : Int) : Rig w (W.setCell ⟨r, 2, none⟩ (.int .i64 x)) K r n N d D { s with cnt := x } := by
  obtain ⟨f1, f2, f3, f4⟩ := h.rest 2 (.int .i64 x) (by omega)
  exact ⟨f1, f2, f3, cell_eq h.c2 _, (cell_ne W r 2 3 _ (by omega)).trans h.c3, (cell_ne W r 2 4 _ (by omega)).trans h.c4, h.keep5 2 _ (by omega), h.kl, f4, h.kr, h.rb, h.nb, h.nN⟩
theorem Rig.set_off (h : Rig w W K r n N d D s) (x : Bool) : Rig w (W.setCell ⟨r, 3, none⟩ (.bool x)) K r n N d D { s with off := x } := by
  obtain ⟨f1, f2, f3, f4⟩ := h.rest 3 (.bool x) (by omega)
  exact ⟨f1, f2, f3, (cell_ne W r 3 2 _ (by omega)).trans h.c2, cell_eq h.c3 _, (cell_ne W r 3 4 _ (by omega)).trans h.c4, h.keep5 3 _ (by omega), h.kl, f4, h.kr, h.rb, h.nb, h.nN⟩
theorem Rig.set_due (h : Rig w W K r n N d D s) (x : Int) : Rig w (W.setCell ⟨r, 4, none⟩ (.int .i64 x)) K r n N d D { s with due := x } := by
  obtain ⟨f1, f2, f3, f4⟩ := h.rest 4 (.int .i64 x) (by omega)
  exact ⟨f1, f2, f3, (cell_ne W r 4 2 _ (by omega)).trans h.c2, (cell_ne W r 4 3 _ (by omega)).trans h.c3, cell_eq h.c4 _, h.keep5 4 _ (by omega), h.kl, f4, h.kr, h.rb, h.nb, h.nN⟩
theorem Rig.set_keep (h : Rig w W K r n N d D s) {A : Option Addr} {cap : Nat} {ks : List Int} (hI : IntsIn W A ks) (hA : ks ≠ [] → ∀ b off, A = some ⟨b, off, none⟩ → (b < w.heap.size ∨ K b) ∧ b ≠ r ∧ IntB W b) (hc : ks.length ≤ cap) (hl : ks.length ≤ 17592186044416) (hk : ∀ x ∈ ks, Rng x) :
    Rig w (W.setCell ⟨r, 5, none⟩ (.slice A ks.length cap)) K r n N d D { s with ks := ks } := by
  obtain ⟨f1, f2, f3, f4⟩ := h.rest 5 (.slice A ks.length cap) (by omega)
  obtain ⟨A0, cap0, a1, _⟩ := h.c5
  exact ⟨f1, f2, f3, (cell_ne W r 5 2 _ (by omega)).trans h.c2, (cell_ne W r 5 3 _ (by omega)).trans h.c3, (cell_ne W r 5 4 _ (by omega)).trans h.c4, ⟨A, cap, cell_eq a1 _, hI.turn (F := fun x => x = r) (fun h0 b off e => (hA h0 b off e).2.1) (Turn.set W (F := fun x => x = r) rfl 5 _), fun h0 b off e => ⟨(hA h0 b off e).1, (hA h0 b off e).2.1, (hA h0 b off e).2.2.set (hA h0 b off e).2.1⟩, hc⟩, ⟨hl, hk⟩, f4, h.kr, h.rb, h.nb, h.nN⟩
/-- All of K but r. -/
def KR (K : Nat → Prop) (r : Nat) : Nat → Prop := fun x => K x ∧ x ≠ r
theorem SameK.set (W : World) (K : Nat → Prop) (r o : Nat) (u : Value) : SameK W (W.setCell ⟨r, o, none⟩ u) (KR K r) := ⟨heap_set _ _ _, fun _ hx hk => set_block W ⟨r, o, none⟩ u hk.2 hx⟩
theorem SameK.trans {W W' W'' : World} {K : Nat → Prop} (h : SameK W W' K) (k : SameK W' W'' K) : SameK W W'' K := ⟨Nat.le_trans h.1 k.1, fun x hx hk => (k.2 x (Nat.lt_of_lt_of_le hx h.1) hk).trans (h.2 x hx hk)⟩
theorem SameK.kr {W W' : World} {K : Nat → Prop} (h : SameK W W' K) (r : Nat) : SameK W W' (KR K r) := ⟨h.1, fun x hx hk => h.2 x hx hk.1⟩
/-- What drop leaves. -/
theorem rdrop_any (h : Rig w W K r n N d D s) : Calls Tryz.prog 75 #[.pointer (some ⟨r, 0, none⟩)] W fun e w' => e = .returned (.tuple #[]) ∧ Rig w w' K r n N d D { s with due := 0, ks := [] } ∧ SameK W w' (KR K r) := by
  have h1 := h.set_due 0
  have h2 := h1.set_keep (A := none) (cap := 0) (ks := []) (.inl rfl) (fun h => absurd rfl h) (Nat.le_refl _) (by simp) (by simp)
  have hk := ((SameK.set W K r 4 (.int .i64 0)).trans (SameK.set _ K r 5 (.slice none 0 0)))
  have c4 := h.c4
  have f4 := h.fr 4
  have f5 := h.fr 5
  obtain ⟨A0, cap0, a1, _⟩ := h.c5
  have h2H := Lib.hid h2
  have hkH := Lib.hid hk
  clear h h1 h2 hk
  go_enter Tryz.func75, Tryz.ntmps75
  go_wp2
  go_end0
  exact ⟨rfl, h2H.out, hkH.out⟩
theorem ron_any (h : Rig w W K r n N d D s) : Calls Tryz.prog 42 #[.pointer (some ⟨r, 0, none⟩)] W fun e w' => e = .returned (.tuple #[]) ∧ Rig w w' K r n N d D { s with off := false, due := 0, ks := [] } ∧ SameK W w' (KR K r) := by
  have hdr := Lib.hid (rdrop_any (h.set_off false))
  have hkH := Lib.hid (SameK.set W K r 3 (.bool false))
  have c3 := h.c3
  have f3 := h.fr 3
  clear h
  go_enter Tryz.func42, Tryz.ntmps42
  go_wp2_with (go_at_call 75; refine hdr.out.mono ?_; rintro e w1 ⟨rfl, hR, hk⟩)
  go_end0
  exact ⟨rfl, hR, hkH.out.trans hk⟩
end
end Go.Proofs.YtpmhfalhieinjaaGreatDoor
namespace Go.Proofs.YtpmhfalhieinjaaGreatDoor
open Go.RowKit Zon Drv
/-- The drives, the first k of which lost power. -/
def lostN (D : Nat → Dr) (ks : List Int) (k : Nat) : Nat → Dr := fun i => if i < k then loseD (D i) (rotL ks i) else D i
theorem lostN_at (D : Nat → Dr) (ks : List Int) (k : Nat) : lostN D ks k k = D k := if_neg (Nat.lt_irrefl _)
theorem lostN_step (D : Nat → Dr) (ks : List Int) (k : Nat) : upd (lostN D ks k) k (loseD (D k) (rotL ks k)) = lostN D ks (k + 1) := by
  funext j
  unfold upd lostN
  by_cases e : j = k
  · subst e; rw [if_pos rfl, if_pos (by omega)]
  · rw [if_neg e]
    by_cases h : j < k
    · rw [if_pos h, if_pos (by omega)]
    · rw [if_neg h, if_neg (by omega)]
theorem rotL_mem {ks : List Int} {i : Nat} {x : Int} (h : x ∈ rotL ks i) : x ∈ ks := by
  unfold rotL at h
  rcases List.mem_append.1 h with h | h
  · exact List.mem_of_mem_drop h
  · exact List.mem_of_mem_take h
theorem rotL_len (ks : List Int) (i : Nat) : (rotL ks i).length = ks.length := by
  unfold rotL
  rw [List.length_append, List.length_drop, List.length_take]
  by_cases h : ks.length = 0
  · rw [h]; simp
  · have := Nat.mod_lt i (Nat.pos_of_ne_zero h); omega
set_option maxRecDepth 100000 in
set_option maxHeartbeats 2000000 in
theorem fail_any {w W : World} {K : Nat → Prop} {r n N : Nat} {d : Nat → Nat} {D : Nat → Dr} {s : Rs} (h : Rig w W K r n N d D s) (hok : ∀ i, i < n → (D i).Ok) (A : Option Addr) (cap : Nat) (ks : List Int) (hI : IntsIn W A ks)
    (hA : ks ≠ [] → ∀ b off, A = some ⟨b, off, none⟩ → b < w.heap.size ∨ K b) (hc : ks.length ≤ cap) (hl : ks.length ≤ 17592186044416) (hk : ∀ x ∈ ks, Rng x) :
    Calls Tryz.prog 41 #[.pointer (some ⟨r, 0, none⟩), .slice A ks.length cap] W fun e w' => e = .returned (.tuple #[]) ∧ Rig w w' K r n N d (lostN D ks n) { s with off := true, due := 0, ks := [] } ∧ SameK W w' (KR K r) := by
  obtain ⟨q, q1, q2, q3, q4⟩ := h.row
  have hnb := h.nb
  have hrot := Lib.hid (fun (W' : World) (i : Nat) (hi : i ≤ 100) (hI : IntsIn W' A ks) => rotated_any W' A cap i ks hI hc hl hi)
  unfold IPost at hrot
  have hIW := Lib.hid (fun (W' : World) (hs : W.heap.size ≤ W'.heap.size) (hb : ∀ b, b < W.heap.size → b < w.heap.size ∨ K b → W'.heap[b]? = W.heap[b]?) => hI.sameK hs hb hA)
  have h0 : lostN D ks 0 = D := by funext j; exact if_neg (Nat.not_lt_zero j)
  have hH := Lib.hid h
  have hokH := Lib.hid hok
  have q4H := Lib.hid q4
  have h0H := Lib.hid h0
  have hkH := Lib.hid hk
  clear h hok hI hA hc q4 h0 hk
  go_enter Tryz.func41, Tryz.ntmps41
  go_wp2_with fail
  go_loopw [11] (fun i wr => ∃ k : Nat, k ≤ n ∧ i = .int .i64 (k : Int) ∧ Rig w wr K r n N d (lostN D ks k) s ∧ SameK W wr K) (fun i _ => n - (intOf i).toNat)
  case atStart => exact ⟨0, by omega, rfl, by rw [h0H.out]; exact hH.out, SameK.refl _ _⟩
  case round =>
    clear q1
    obtain ⟨k, hkn, rfl, hR, hsk⟩ := hrel
    by_cases hlt : k < n
    · have p1 : wr.cell? ⟨q, k, none⟩ = some (.pointer (some ⟨d k, 0, none⟩)) := hsk.cell (q4H.out k hlt) q2
      have hold : ∀ b, b < w.heap.size → wr.heap[b]? = W.heap[b]? := fun b hb => (hR.fam.b.block b hb).trans (hH.out.fam.b.block b hb).symm
      have hIr : IntsIn wr A ks := hIW.out wr hsk.1 (fun b hb hk => hk.elim (hold b) (hsk.2 b hb))
      have hro := Lib.hid (hrot.out wr k (by omega) hIr)
      have hRH := Lib.hid hR
      have hskH := Lib.hid hsk
      have hqlt := lt_of_cell p1
      clear hR hsk hIr hold
      go_wp2_with fail
      refine hro.out.mono ?_
      rintro e w1 ⟨A1, cap1, rfl, hI1, hb1, hA1, _⟩
      have hF1 : Fam w w1 (fun x => K x ∨ (wr.heap.size ≤ x ∧ x < w1.heap.size)) N d (lostN D ks k) := hRH.out.fam.below hb1 (fun x hx => hx.imp id And.left) (fun x hx => hx.elim (fun hx => Nat.lt_of_lt_of_le (hRH.out.fam.kb x hx) hb1.size) And.right)
      have hlo := fam_lose w1 k A1 cap1 (rotL ks k) hF1 (Nat.lt_of_lt_of_le hlt hRH.out.nN) (by rw [lostN_at]; exact hokH.out k hlt) hI1 (fun h0 b off e => .inr (.inr ⟨(hA1 h0 b off e).1, by
        rcases hI1 with h1 | ⟨b', off', e', hlt', _⟩
        · exact absurd h1 h0
        · rw [e] at e'; injection e' with e'; injection e' with e1 _; omega⟩)) (fun x hx => hkH.out x (rotL_mem hx)) (by rw [rotL_len]; unfold maxLen; omega)
      rw [lostN_at, lostN_step] at hlo
      have hloH := Lib.hid hlo
      have hb1H := Lib.hid hb1
      clear hlo hF1 hI1 hA1 hro hb1
      go_wp2_with fail
      refine hloH.out.mono ?_
      rintro e w2 ⟨rfl, hF2, hk2⟩
      have hk3 : SameK wr w2 K := ⟨Nat.le_trans hb1H.out.size hk2.1, fun x hx hkx => (hk2.2 x (Nat.lt_of_lt_of_le hx hb1H.out.size) (.inl hkx)).trans (hb1H.out.block x hx)⟩
      have hF3 : Fam w w2 K N d (lostN D ks (k + 1)) := hF2.below (Below.refl _ _) (fun x hx => .inl (.inl hx)) (fun x hx => hF2.kb x (.inl hx))
      have hR3 := hRH.out.drives hF3 hk3 (fun b hb => (hF3.b.block b hb).trans (hRH.out.fam.b.block b hb).symm)
      have hR3H := Lib.hid hR3
      clear hF2 hk2 hF3 hR3 hloH
      go_wp2_with fail
      go_roundw
      case rel => exact ⟨k + 1, by omega, by simp, hR3H.out, hskH.out.trans hk3⟩
      case measure =>
        show n - (intOf (Value.int .i64 _)).toNat < n - (intOf (Value.int .i64 _)).toNat
        simp only [intOf]
        omega
    · have e : k = n := by omega
      subst e
      have hdr := Lib.hid (rdrop_any (hR.set_off true))
      have hkx := Lib.hid ((hsk.kr r).trans (SameK.set wr K r 3 (.bool true)))
      have c3 := hR.c3
      have f3 := hR.fr 3
      clear hR hsk
      go_wp2_with fail
      refine hdr.out.mono ?_
      rintro e w3 ⟨rfl, hR3, hk3⟩
      go_wp2_with fail
      go_end0
      exact ⟨rfl, hR3, hkx.out.trans hk3⟩
end Go.Proofs.YtpmhfalhieinjaaGreatDoor
