/- The power fails. -/
import Derived.Test.YtncbkegflkjlfaaRigSet
namespace Go.Proofs.Ytncbkegflkjlfaa
open Go.RowKit Zon Drv

/-- The drives, the first k of which lost power. -/
def lostN (D : Nat → Dr) (ks : List Int) (k : Nat) : Nat → Dr := fun i => if i < k then loseD (D i) (rotL ks i) else D i
theorem lostN_at (D : Nat → Dr) (ks : List Int) (k : Nat) : lostN D ks k k = D k := if_neg (Nat.lt_irrefl _)
theorem lostN_step (D : Nat → Dr) (ks : List Int) (k : Nat) : upd (lostN D ks k) k (loseD (D k) (rotL ks k)) = lostN D ks (k + 1) := by
  funext j
  unfold upd lostN
  by_cases e : j = k
  · subst e; rw [if_pos rfl, if_pos (by omega)]
  · rw [if_neg e]
    by_cases h : j < k
    · rw [if_pos h, if_pos (by omega)]
    · rw [if_neg h, if_neg (by omega)]
theorem rotL_mem {ks : List Int} {i : Nat} {x : Int} (h : x ∈ rotL ks i) : x ∈ ks := by
  unfold rotL at h
  rcases List.mem_append.1 h with h | h
  · exact List.mem_of_mem_drop h
  · exact List.mem_of_mem_take h
theorem rotL_len (ks : List Int) (i : Nat) : (rotL ks i).length = ks.length := by
  unfold rotL
  rw [List.length_append, List.length_drop, List.length_take]
  by_cases h : ks.length = 0
  · rw [h]; simp
  · have := Nat.mod_lt i (Nat.pos_of_ne_zero h); omega
set_option maxRecDepth 100000 in
set_option maxHeartbeats 2000000 in
theorem fail_any {w W : World} {K : Nat → Prop} {r n : Nat} {d : Nat → Nat} {D : Nat → Dr} {s : Rs} (h : Rig w W K r n d D s) (hok : ∀ i, i < n → (D i).Ok) (A : Option Addr) (cap : Nat) (ks : List Int) (hI : IntsIn W A ks)
    (hA : ks ≠ [] → ∀ b off, A = some ⟨b, off, none⟩ → b < w.heap.size ∨ K b) (hc : ks.length ≤ cap) (hl : ks.length ≤ 17592186044416) (hk : ∀ x ∈ ks, Rng x) :
    Calls Try.prog 54 #[.pointer (some ⟨r, 0, none⟩), .slice A ks.length cap] W fun e w' => e = .returned (.tuple #[]) ∧ Rig w w' K r n d (lostN D ks n) { s with off := true, due := 0, ks := [] } ∧ SameK W w' (KR K r) := by
  obtain ⟨q, q1, q2, q3, q4⟩ := h.row
  have hnb := h.nb
  have hrot := Lib.hid (fun (W' : World) (i : Nat) (hi : i ≤ 100) (hI : IntsIn W' A ks) => rotated_any W' A cap i ks hI hc hl hi)
  unfold IPost at hrot
  have hIW := Lib.hid (fun (W' : World) (hs : W.heap.size ≤ W'.heap.size) (hb : ∀ b, b < W.heap.size → b < w.heap.size ∨ K b → W'.heap[b]? = W.heap[b]?) => hI.sameK hs hb hA)
  have h0 : lostN D ks 0 = D := by funext j; exact if_neg (Nat.not_lt_zero j)
  have hH := Lib.hid h
  have hokH := Lib.hid hok
  have q4H := Lib.hid q4
  have h0H := Lib.hid h0
  have hkH := Lib.hid hk
  clear h hok hI hA hc q4 h0 hk
  go_enter Try.func54, Try.ntmps54
  go_wp2_with fail
  go_loopw [11] (fun i wr => ∃ k : Nat, k ≤ n ∧ i = .int .i64 (k : Int) ∧ Rig w wr K r n d (lostN D ks k) s ∧ SameK W wr K) (fun i _ => n - (intOf i).toNat)
  case atStart => exact ⟨0, by omega, rfl, by rw [h0H.out]; exact hH.out, SameK.refl _ _⟩
  case round =>
    clear q1
    obtain ⟨k, hkn, rfl, hR, hsk⟩ := hrel
    by_cases hlt : k < n
    · have p1 : wr.cell? ⟨q, k, none⟩ = some (.pointer (some ⟨d k, 0, none⟩)) := hsk.cell (q4H.out k hlt) q2
      have hold : ∀ b, b < w.heap.size → wr.heap[b]? = W.heap[b]? := fun b hb => (hR.fam.b.block b hb).trans (hH.out.fam.b.block b hb).symm
      have hIr : IntsIn wr A ks := hIW.out wr hsk.1 (fun b hb hk => hk.elim (hold b) (hsk.2 b hb))
      have hro := Lib.hid (hrot.out wr k (by omega) hIr)
      have hRH := Lib.hid hR
      have hskH := Lib.hid hsk
      have hqlt := lt_of_cell p1
      clear hR hsk hIr hold
      go_wp2_with fail
      refine hro.out.mono ?_
      rintro e w1 ⟨A1, cap1, rfl, hI1, hb1, hA1, _⟩
      have hF1 : Fam w w1 (fun x => K x ∨ (wr.heap.size ≤ x ∧ x < w1.heap.size)) n d (lostN D ks k) := hRH.out.fam.below hb1 (fun x hx => hx.imp id And.left) (fun x hx => hx.elim (fun hx => Nat.lt_of_lt_of_le (hRH.out.fam.kb x hx) hb1.size) And.right)
      have hlo := fam_lose w1 k A1 cap1 (rotL ks k) hF1 hlt (by rw [lostN_at]; exact hokH.out k hlt) hI1 (fun h0 b off e => .inr (.inr ⟨hA1 h0 b off e, by
        rcases hI1 with h1 | ⟨b', off', e', hlt', _⟩
        · exact absurd h1 h0
        · rw [e] at e'; injection e' with e'; injection e' with e1 _; omega⟩)) (fun x hx => hkH.out x (rotL_mem hx)) (by rw [rotL_len]; unfold maxLen; omega)
      rw [lostN_at, lostN_step] at hlo
      have hloH := Lib.hid hlo
      have hb1H := Lib.hid hb1
      clear hlo hF1 hI1 hA1 hro hb1
      go_wp2_with fail
      refine hloH.out.mono ?_
      rintro e w2 ⟨rfl, hF2, hk2⟩
      have hk3 : SameK wr w2 K := ⟨Nat.le_trans hb1H.out.size hk2.1, fun x hx hkx => (hk2.2 x (Nat.lt_of_lt_of_le hx hb1H.out.size) (.inl hkx)).trans (hb1H.out.block x hx)⟩
      have hF3 : Fam w w2 K n d (lostN D ks (k + 1)) := hF2.below (Below.refl _ _) (fun x hx => .inl (.inl hx)) (fun x hx => hF2.kb x (.inl hx))
      have hR3 := hRH.out.drives hF3 hk3 (fun b hb => (hF3.b.block b hb).trans (hRH.out.fam.b.block b hb).symm)
      have hR3H := Lib.hid hR3
      clear hF2 hk2 hF3 hR3 hloH
      go_wp2_with fail
      go_roundw
      case rel => exact ⟨k + 1, by omega, by simp, hR3H.out, hskH.out.trans hk3⟩
      case measure =>
        show n - (intOf (Value.int .i64 _)).toNat < n - (intOf (Value.int .i64 _)).toNat
        simp only [intOf]
        omega
    · have e : k = n := by omega
      subst e
      have hdr := Lib.hid (rdrop_any (hR.set_off true))
      have hkx := Lib.hid ((hsk.kr r).trans (SameK.set wr K r 3 (.bool true)))
      have c3 := hR.c3
      have f3 := hR.fr 3
      clear hR hsk
      go_wp2_with fail
      refine hdr.out.mono ?_
      rintro e w3 ⟨rfl, hR3, hk3⟩
      go_wp2_with fail
      go_end0
      exact ⟨rfl, hR3, hkx.out.trans hk3⟩
end Go.Proofs.Ytncbkegflkjlfaa
