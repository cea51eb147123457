/- A rig in memory. -/
import Derived.Test.YtncbkegflkjlfaaRigRot
import Derived.Test.YtncbkegflkjlfaaDrvFam
namespace Go.Proofs.Ytncbkegflkjlfaa
open Go.RowKit Zon Drv

/-- What a rig is beside its drives. -/
structure Rs where
  bl : Int
  cnt : Int
  due : Int
  off : Bool
  ks : List Int
/-- A rig in block r, of n drives; the blocks K stay, but for r itself. -/
structure Rig (w W : World) (K : Nat → Prop) (r n : Nat) (d : Nat → Nat) (D : Nat → Dr) (s : Rs) : Prop where
  fam : Fam w W K n d D
  row : ∃ q, W.cell? ⟨r, 0, none⟩ = some (.slice (some ⟨q, 0, none⟩) n n) ∧ K q ∧ q ≠ r ∧ ∀ i, i < n → W.cell? ⟨q, i, none⟩ = some (.pointer (some ⟨d i, 0, none⟩))
  c1 : W.cell? ⟨r, 1, none⟩ = some (.int .i64 s.bl)
  c2 : W.cell? ⟨r, 2, none⟩ = some (.int .i64 s.cnt)
  c3 : W.cell? ⟨r, 3, none⟩ = some (.bool s.off)
  c4 : W.cell? ⟨r, 4, none⟩ = some (.int .i64 s.due)
  c5 : ∃ A cap, W.cell? ⟨r, 5, none⟩ = some (.slice A s.ks.length cap) ∧ IntsIn W A s.ks ∧ (s.ks ≠ [] → ∀ b off, A = some ⟨b, off, none⟩ → (b < w.heap.size ∨ K b) ∧ b ≠ r) ∧ s.ks.length ≤ cap
  kl : s.ks.length ≤ 17592186044416 ∧ ∀ x ∈ s.ks, Rng x
  fr : ∀ j, W.frozen? ⟨r, j, none⟩ = false
  kr : K r
  rb : w.heap.size ≤ r
  nb : n ≤ 64
theorem Rig.lt {w W : World} {K : Nat → Prop} {r n : Nat} {d : Nat → Nat} {D : Nat → Dr} {s : Rs} (h : Rig w W K r n d D s) : r < W.heap.size := lt_of_cell h.c1
theorem IntsIn.sameK {w W W' : World} {K : Nat → Prop} {A : Option Addr} {zs : List Int} (h : IntsIn W A zs) (hs : W.heap.size ≤ W'.heap.size) (hb : ∀ b, b < W.heap.size → b < w.heap.size ∨ K b → W'.heap[b]? = W.heap[b]?) (hA : zs ≠ [] → ∀ b off, A = some ⟨b, off, none⟩ → b < w.heap.size ∨ K b) : IntsIn W' A zs := by
  by_cases h0 : zs = []
  · exact .inl h0
  · rcases h with h | ⟨b, off, rfl, hlt, hc⟩
    · exact .inl h
    · have e := hb b hlt (hA h0 b off rfl)
      exact .inr ⟨b, off, rfl, Nat.lt_of_lt_of_le hlt hs, fun i hi => (same_cell e).trans (hc i hi)⟩
/-- Its drives have turned. -/
theorem Rig.drives {w W W' : World} {K : Nat → Prop} {r n : Nat} {d : Nat → Nat} {D D' : Nat → Dr} {s : Rs} (h : Rig w W K r n d D s) (hF : Fam w W' K n d D') (hk : SameK W W' K) (hb : ∀ b, b < w.heap.size → W'.heap[b]? = W.heap[b]?) : Rig w W' K r n d D' s := by
  have hr := hk.2 r h.lt h.kr
  obtain ⟨q, q1, q2, q3, q4⟩ := h.row
  obtain ⟨A, cap, a1, a2, a3, a4⟩ := h.c5
  refine ⟨hF, ⟨q, (same_cell hr).trans q1, q2, q3, fun i hi => hk.cell (q4 i hi) q2⟩, (same_cell hr).trans h.c1, (same_cell hr).trans h.c2, (same_cell hr).trans h.c3, (same_cell hr).trans h.c4,
    ⟨A, cap, (same_cell hr).trans a1, a2.sameK hk.1 (fun b hl hb2 => hb2.elim (hb b) (hk.2 b hl)) (fun h0 b off e => (a3 h0 b off e).1), a3, a4⟩, h.kl, fun j => (same_frozen hr).trans (h.fr j), h.kr, h.rb, h.nb⟩
/-- Memory has grown; other blocks are to stay. -/
theorem Rig.below {w W W' : World} {K K' : Nat → Prop} {r n : Nat} {d : Nat → Nat} {D : Nat → Dr} {s : Rs} (h : Rig w W K r n d D s) (hb : Below W.heap.size W W') (hK : ∀ x, K' x → K x ∨ W.heap.size ≤ x) (hl : ∀ x, K' x → x < W'.heap.size) (hK2 : ∀ x, x < W.heap.size → K x → K' x) : Rig w W' K' r n d D s := by
  have hr := hb.block r h.lt
  obtain ⟨q, q1, q2, q3, q4⟩ := h.row
  obtain ⟨A, cap, a1, a2, a3, a4⟩ := h.c5
  have hql := h.fam.kb q q2
  refine ⟨h.fam.below hb hK hl, ⟨q, (same_cell hr).trans q1, hK2 q hql q2, q3, fun i hi => (hb.cell (p := ⟨q, i, none⟩) hql).trans (q4 i hi)⟩, (same_cell hr).trans h.c1, (same_cell hr).trans h.c2, (same_cell hr).trans h.c3, (same_cell hr).trans h.c4,
    ⟨A, cap, (same_cell hr).trans a1, a2.below hb, fun h0 b off e => ⟨(a3 h0 b off e).1.imp id fun hkb => hK2 b (h.fam.kb b hkb) hkb, (a3 h0 b off e).2⟩, a4⟩, h.kl, fun j => (same_frozen hr).trans (h.fr j), hK2 r h.lt h.kr, h.rb, h.nb⟩

section
variable {w W : World} {K : Nat → Prop} {r n : Nat} {d : Nat → Nat} {D : Nat → Dr} {s : Rs}
theorem rhas_any (i : Int) (h : Rig w W K r n d D s) :
    Calls Try.prog 53 #[.pointer (some ⟨r, 0, none⟩), .int .i64 i] W fun e w' => e = .returned (.bool (decide (0 ≤ i ∧ i < n))) ∧ W = w' := by
  obtain ⟨q, q1, _⟩ := h.row
  have hnb := h.nb
  by_cases h0 : 0 ≤ i
  · have e : decide (0 ≤ i ∧ i < (n : Int)) = decide (i < (n : Int)) := by rw [decide_eq_decide]; omega
    rw [e]
    clear e h
    go_enter Try.func53, Try.ntmps53
    go_wp2
    go_ret
    exact ⟨rfl, rfl⟩
  · have e : decide (0 ≤ i ∧ i < (n : Int)) = false := decide_eq_false (by omega)
    rw [e]
    clear e h
    go_enter Try.func53, Try.ntmps53
    go_wp2
    go_ret
    exact ⟨rfl, rfl⟩
theorem roff_any (h : Rig w W K r n d D s) : Calls Try.prog 31 #[.pointer (some ⟨r, 0, none⟩)] W fun e w' => e = .returned (.bool s.off) ∧ W = w' := by
  have c3 := h.c3
  clear h
  go_enter Try.func31, Try.ntmps31
  go_wp2
  go_ret
  exact ⟨rfl, rfl⟩
theorem rcount2_any (h : Rig w W K r n d D s) : Calls Try.prog 32 #[.pointer (some ⟨r, 0, none⟩)] W fun e w' => e = .returned (.int .i64 s.cnt) ∧ W = w' := by
  have c2 := h.c2
  clear h
  go_enter Try.func32, Try.ntmps32
  go_wp2
  go_ret
  exact ⟨rfl, rfl⟩
theorem rdrives_any (h : Rig w W K r n d D s) : Calls Try.prog 39 #[.pointer (some ⟨r, 0, none⟩)] W fun e w' => e = .returned (.int .i64 (n : Int)) ∧ W = w' := by
  obtain ⟨q, q1, _⟩ := h.row
  clear h
  go_enter Try.func39, Try.ntmps39
  go_wp2
  go_ret
  exact ⟨rfl, rfl⟩
theorem rdead_any (i : Int) (h : Rig w W K r n d D s) :
    Calls Try.prog 38 #[.pointer (some ⟨r, 0, none⟩), .int .i64 i] W fun e w' => e = .returned (.bool (if 0 ≤ i ∧ i < n then (D i.toNat).dead else true)) ∧ W = w' := by
  have hh := Lib.hid (rhas_any i h)
  by_cases hi : 0 ≤ i ∧ i < (n : Int)
  · rw [decide_eq_true hi] at hh
    rw [if_pos hi]
    obtain ⟨j, rfl⟩ := Int.eq_ofNat_of_zero_le hi.1
    have hj : j < n := by omega
    obtain ⟨q, q1, _, _, q4⟩ := h.row
    have p1 := q4 j hj
    have hd := Lib.hid (fam_dead W j h.fam hj)
    rw [Int.toNat_natCast]
    clear h q4 hi
    generalize (D j).dead = b at hd ⊢
    go_enter Try.func38, Try.ntmps38
    go_wp2_with (first | (go_at_call 53; refine hh.out.mono ?_; rintro e w1 ⟨rfl, rfl⟩) | (go_at_call 26; refine hd.out.mono ?_; rintro e w1 ⟨rfl, rfl⟩))
    go_ret
    exact ⟨rfl, rfl⟩
  · rw [decide_eq_false hi] at hh
    rw [if_neg hi]
    clear h hi
    go_enter Try.func38, Try.ntmps38
    go_wp2_with (go_at_call 53; refine hh.out.mono ?_; rintro e w1 ⟨rfl, rfl⟩)
    go_ret
    exact ⟨rfl, rfl⟩
end
end Go.Proofs.Ytncbkegflkjlfaa
