/- A row of numbers from one of its places on, and what is ahead of it. -/
import Derived.Test.YtncbkegflkjlfaaRigList
import Derived.Test.YtncbkegflkjlfaaHeldTail
namespace Go.Proofs.Ytncbkegflkjlfaa
open Go.RowKit

/-- Turned round, from a place on. -/
def rotL (zs : List Int) (i : Nat) : List Int := zs.drop (i % zs.length) ++ zs.take (i % zs.length)
theorem rotL_nil (i : Nat) : rotL [] i = [] := by simp [rotL]
theorem IntsIn.drop {w : World} {b off : Nat} {zs : List Int} (h : IntsIn w (some ⟨b, off, none⟩) zs) (k : Nat) : IntsIn w (some ⟨b, off + k, none⟩) (zs.drop k) := by
  rcases h with h | ⟨b', off', e, hlt, hc⟩
  · left; rw [h]; simp
  · injection e with e
    injection e with e1 e2 _
    subst e1
    subst e2
    refine .inr ⟨b, off + k, rfl, hlt, fun i hi => ?_⟩
    have hi' : k + i < zs.length := by rw [List.length_drop] at hi; omega
    rw [Nat.add_assoc, hc (k + i) hi', List.getElem_drop]
theorem IntsIn.take {w : World} {A : Option Addr} {zs : List Int} (h : IntsIn w A zs) (k : Nat) : IntsIn w A (zs.take k) := by
  rcases h with h | ⟨b', off', e, hlt, hc⟩
  · left; rw [h]; simp
  · refine .inr ⟨b', off', e, hlt, fun i hi => ?_⟩
    have hi' : i < zs.length := by rw [List.length_take] at hi; omega
    rw [hc i hi', List.getElem_take]
set_option maxRecDepth 100000 in
set_option maxHeartbeats 2000000 in
theorem rotated_any (w : World) (A : Option Addr) (cap i : Nat) (zs : List Int) (hI : IntsIn w A zs) (hc : zs.length ≤ cap) (hl : zs.length ≤ 17592186044416) (hi : i ≤ 100) :
    Calls Try.prog 66 #[.slice A zs.length cap, .int .i64 (i : Int)] w (IPost w (rotL zs i)) := by

  by_cases h0 : zs = []
  · subst h0
    rw [rotL_nil]
    clear hI
    go_enter Try.func66, Try.ntmps66
    go_wp2
    go_ret
    exact ⟨none, 0, rfl, .inl rfl, Below.refl _ _, fun h => absurd rfl h, Nat.le_refl _⟩
  · have hpos : 0 < zs.length := List.length_pos_iff.2 h0
    obtain ⟨b, off, rfl, hlb, hx0⟩ := hI.at_ hpos
    clear hx0
    have hp : i % zs.length < zs.length := Nat.mod_lt _ hpos
    have hmod : Int.tmod (i : Int) (zs.length : Int) = ((i % zs.length : Nat) : Int) := by
      rw [Int.tmod_eq_emod_of_nonneg (by omega)]; omega
    have hmod2 : ((i : Int) % (zs.length : Int)) = ((i % zs.length : Nat) : Int) := by omega
    have e : rotL zs i = zs.drop (i % zs.length) ++ zs.take (i % zs.length) := rfl
    rw [e]
    clear e
    generalize i % zs.length = p at hp hmod hmod2 ⊢
    have hcon := Lib.hid (fun W B (hB : W.cell? ⟨B, 0, none⟩ = some (.slice (some ⟨b, off + p, none⟩) (zs.length - p) (cap - p))) (hB2 : W.cell? ⟨B, 1, none⟩ = some (.slice (some ⟨b, off, none⟩) p cap)) (hb : Below w.heap.size w W) => by
      have h1 := concat_any W B 2 [⟨some ⟨b, off + p, none⟩, cap - p, zs.drop p⟩, ⟨some ⟨b, off, none⟩, cap, zs.take p⟩] (.inr ⟨B, 0, rfl, lt_of_cell hB, fun j hj => by
        have hj' : j < 2 := hj
        rcases (by omega : j = 0 ∨ j = 1) with rfl | rfl
        · exact ⟨by simpa [List.length_drop] using hB, (hI.drop p).below hb, by simp [List.length_drop]; omega, fun h => (by cases h)⟩
        · refine ⟨?_, (hI.take p).below hb, ?_, fun h => (by cases h)⟩
          · show W.cell? ⟨B, 0 + 1, none⟩ = some (.slice (some ⟨b, off, none⟩) (zs.take p).length cap)
            rw [List.length_take, Nat.min_eq_left (by omega)]
            exact hB2
          · show (zs.take p).length ≤ _
            rw [List.length_take]; omega⟩) (fun r hr => by
        rcases List.mem_cons.1 hr with rfl | hr
        · exact ⟨_, rfl⟩
        · rcases List.mem_cons.1 hr with rfl | hr
          · exact ⟨_, rfl⟩
          · cases hr) (by show 2 ≤ 1000; omega) (by
        show (zs.drop p ++ (zs.take p ++ [])).length ≤ _
        rw [List.append_nil, List.length_append, List.length_drop, List.length_take]
        omega)
      have e : flat [⟨some ⟨b, off + p, none⟩, cap - p, zs.drop p⟩, ⟨some ⟨b, off, none⟩, cap, zs.take p⟩] = zs.drop p ++ zs.take p := by
        show zs.drop p ++ (zs.take p ++ []) = _
        rw [List.append_nil]
      have e2 : ([⟨some ⟨b, off + p, none⟩, cap - p, zs.drop p⟩, ⟨some ⟨b, off, none⟩, cap, zs.take p⟩] : List IRow).length = 2 := rfl
      rw [e, e2] at h1
      exact h1)
    unfold IPost at hcon
    have hcap1 : ¬ cap = p := by omega
    have hcap2 : p ≤ cap := by omega
    have hcap3 : p ≤ zs.length := by omega
    have hlen0 : ¬ (zs.length : Int) = 0 := by omega
    have hlen1 : ¬ zs.length = 0 := by omega
    clear hI
    generalize hZ : zs.drop p ++ zs.take p = Z at hcon ⊢
    clear h0 hZ
    generalize zs.length = n at *
    go_enter Try.func66, Try.ntmps66
    go_wp2_with fail
    refine region_anyC (fun _ => true) (fun W => Below w.heap.size w W) (by kernel_rfl) ?_
    have hS : Below w.heap.size w w.drew := (Below.refl _ _).drew
    refine anyL_take 0 (v := ?_) rfl (by kernel_rfl) (fun _ _ _ h => h) (Or.inl ⟨by rfl, ?_⟩) hS ?_
    rotate_left
    focus (intro W hW; go_simp; try with_reducible rfl)
    simp only [Act.put, List.setIfInBounds_toArray, List.set_cons_zero, List.set_cons_succ]
    refine anyL_take 1 (v := ?_) rfl (by kernel_rfl) (fun _ _ _ h => h) (Or.inl ⟨by rfl, ?_⟩) hS ?_
    rotate_left
    focus (intro W hW; go_simp; try with_reducible rfl)
    simp only [Act.put, List.setIfInBounds_toArray, List.set_cons_zero, List.set_cons_succ]
    refine anyL_take 2 (v := ?_) rfl (by kernel_rfl) (fun _ _ _ h => h) (Or.inl ⟨by rfl, ?_⟩) hS ?_
    rotate_left
    focus (intro W hW; go_simp; try with_reducible rfl)
    simp only [Act.put, List.setIfInBounds_toArray, List.set_cons_zero, List.set_cons_succ]
    refine anyL_take 3 (v := ?_) rfl (by kernel_rfl) (fun _ _ _ h => h) (Or.inl ⟨by rfl, ?_⟩) hS ?_
    rotate_left
    focus (intro W hW; go_simp; try with_reducible rfl)
    simp only [Act.put, List.setIfInBounds_toArray, List.set_cons_zero, List.set_cons_succ]
    refine anyL_take 4 (v := ?_) rfl (by kernel_rfl) (fun _ _ _ h => h) (Or.inl ⟨by rfl, ?_⟩) hS ?_
    rotate_left
    focus (intro W hW; go_simp; try with_reducible rfl)
    simp only [Act.put, List.setIfInBounds_toArray, List.set_cons_zero, List.set_cons_succ]
    refine anyL_take 5 (v := ?_) rfl (by kernel_rfl) (fun _ _ _ h => h) (Or.inl ⟨by rfl, ?_⟩) hS ?_
    rotate_left
    focus (intro W hW; go_simp; try with_reducible rfl)
    simp only [Act.put, List.setIfInBounds_toArray, List.set_cons_zero, List.set_cons_succ]
    refine anyL_one 6 rfl (by kernel_rfl) (fun K hK => ?_)
    have hB7 : Below w.heap.size w (w.drew.alloc (.cells #[.slice (some ⟨b, off + p, none⟩) (n - p) (cap - p), .slice (some ⟨b, off, none⟩) p cap] 31)) := hS.alloc (Nat.le_refl _) _
    go_simp
    refine hK.out _ _ (fun _ => hB7) ?_
    clear hK K
    try simp only [Act.put, List.setIfInBounds_toArray, List.set_cons_zero, List.set_cons_succ]
    refine anyL_one 7 rfl (by kernel_rfl) (fun K hK => ?_)
    go_simp
    refine (hcon.out _ _ (by go_simp) (by go_simp) hB7).mono ?_
    rintro e' w8 ⟨A', cap', rfl, hI', hb', hA', hc'⟩
    have hS8 := hB7.trans (hb'.mono (by simp))
    dsimp only
    refine hK.out _ _ (fun _ => hS8) ?_
    clear hK K
    try simp only [Act.put, List.setIfInBounds_toArray, List.set_cons_zero, List.set_cons_succ]
    refine anyL_take 8 (v := ?_) rfl (by kernel_rfl) (fun _ _ _ h => h) (Or.inl ⟨by rfl, ?_⟩) hS8 ?_
    rotate_left
    focus (intro W hW; go_simp; try with_reducible rfl)
    simp only [Act.put, List.setIfInBounds_toArray, List.set_cons_zero, List.set_cons_succ]
    refine anyC_done (by kernel_rfl) ?_ _
    go_wp2
    go_ret
    exact ⟨A', cap', rfl, hI', hS8, fun h b off e => Nat.le_trans (by simp) (hA' h b off e), hc'⟩
end Go.Proofs.Ytncbkegflkjlfaa
