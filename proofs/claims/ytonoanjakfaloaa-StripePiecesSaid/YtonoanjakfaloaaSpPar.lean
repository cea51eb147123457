/- What Parity of stripe does. -/
import Derived.Test.YtonoanjakfaloaaSpBlk
import Derived.OwnWalk
namespace Go.Proofs.Ytonoanjakfaloaa
open Go.RowKit Sp Xor

theorem fresh_anyC {P : Program} {md : Region.Mode} {ops : Array Oper} {Q : Exit → Act → World → Prop} {c : Nat → Bool} {S : World → Prop} {fuel : Nat} {listed : Array Bool} {a : Act} {W : World} (R : World → Prop) (hR : R W)
    (h : ∀ W2, R W2 → anyC P md ops Q c S fuel listed a W2) : anyC P md ops Q c S fuel listed a W := h W hR
/-- The parity of a row. -/
def parS (L : List ByteArray) : ByteArray := foldS [textOf (fun _ => 0) 64, foldS L]
theorem zero64 : zeroS 64 = textOf (fun _ => 0) 64 := by decide +kernel
theorem size_zero64 : (textOf (fun _ => 0) 64).size = 64 := size_textOf _ _
set_option maxHeartbeats 1000000 in
theorem parity_anyS (L : List ByteArray) (n : Int) (w : World) (h : L.length ≤ 15) (h64 : ∀ p ∈ L, p.size = 64) :
    Calls Try.prog 18 #[rowV L n] w fun e w' => e = .returned (.string (parS L)) ∧ Below w.heap.size w w' := by
  obtain ⟨y0, y1, y2, y3, y4, y5, y6, y7, y8, y9, y10, y11, y12, y13, y14, y15, y16, e, -⟩ := opened (n := n) h
  have hA : SrAt (w.alloc (.cells (cellsL L n).toArray 27)) w.heap.size L n ∧ Below w.heap.size w (w.alloc (.cells (cellsL L n).toArray 27)) := ⟨SrAt.new w h, (Below.refl _ _).alloc (Nat.le_refl _) _⟩
  rw [e] at hA
  have hAH := Lib.hid hA
  clear hA
  rw [rowV_agg e]
  have hlo : longest L ≤ 64 := longest_le fun p hp => by rw [h64 p hp]; exact Nat.le_refl _
  have c0 := fun W => zero_any 64 W
  rw [zero64] at c0
  have c0H := Lib.hid c0
  have c5H := Lib.hid (fun W (hS : StrsIn W (some ⟨w.heap.size, 0, none⟩) L) => fold_any _ 15 L W (by omega) (by omega) hS)
  have c6H := Lib.hid (fun W => xadd_any (textOf (fun _ => 0) 64) (foldS L) W (by rw [size_zero64]; omega) (by rw [size_foldS]; omega))
  have hl : (L.length : Int) ≤ 15 := by omega
  clear c0 hlo h64
  unfold parS
  go_enter Try.func18, Try.ntmps18
  go_upto_region 1 with fail
  refine fresh_world (fun W => SrAt W w.heap.size L n ∧ Below w.heap.size w W) hAH.out ?_
  clear hAH e
  rintro W0 hW0
  refine region_anyC (fun _ => true) (fun W => SrAt W w.heap.size L n ∧ Below w.heap.size w W) (by kernel_rfl) ?_
  refine fresh_anyC (fun W => SrAt W w.heap.size L n ∧ Below w.heap.size w W) ⟨hW0.1.below (Below.refl _ _).drew, hW0.2.drew⟩ ?_
  clear hW0
  rintro W1 hW0
  refine anyL_take 1 (v := ?_) rfl (by kernel_rfl) (fun _ _ _ h => h) (Or.inl ⟨by rfl, ?_⟩) hW0 ?_
  rotate_left
  focus (intro W hW; go_simp; try with_reducible rfl)
  simp only [Act.put, List.setIfInBounds_toArray, List.set_cons_zero, List.set_cons_succ]
  refine anyL_take 2 (v := ?_) rfl (by kernel_rfl) (fun _ _ _ h => h) (Or.inl ⟨by rfl, ?_⟩) hW0 ?_
  rotate_left
  focus (intro W hW; go_simp; try with_reducible rfl)
  simp only [Act.put, List.setIfInBounds_toArray, List.set_cons_zero, List.set_cons_succ]
  refine anyL_take 3 (v := ?_) rfl (by kernel_rfl) (fun _ _ _ h => h) (Or.inl ⟨by rfl, ?_⟩) hW0 ?_
  rotate_left
  focus (intro W hW; have x1 := hW.1.cnt; go_simp; try with_reducible rfl)
  simp only [Act.put, List.setIfInBounds_toArray, List.set_cons_zero, List.set_cons_succ]
  refine anyL_take 4 (v := ?_) rfl (by kernel_rfl) (fun _ _ _ h => h) (Or.inl ⟨by rfl, ?_⟩) hW0 ?_
  rotate_left
  focus (intro W hW; go_simp; try with_reducible rfl)
  simp only [Act.put, List.setIfInBounds_toArray, List.set_cons_zero, List.set_cons_succ]
  refine anyL_one 0 rfl (by kernel_rfl) (fun K hK => ?_)
  go_simp
  refine (c0H.out _).mono ?_
  rintro e' v1 ⟨rfl, hp1⟩
  have hn1 : (fun W => SrAt W w.heap.size L n ∧ Below w.heap.size w W) v1 := ⟨hW0.1.below hp1, hW0.2.trans (hp1.mono hW0.2.size)⟩
  refine hK.out _ _ (fun _ => hn1) ?_
  clear hK K
  try simp only [Act.put, List.setIfInBounds_toArray, List.set_cons_zero, List.set_cons_succ]
  refine fresh_anyC (fun W => SrAt W w.heap.size L n ∧ Below w.heap.size w W) hn1 ?_
  clear hn1 hp1
  rintro U1 hU1
  refine anyL_one 5 rfl (by kernel_rfl) (fun K hK => ?_)
  go_simp
  refine (c5H.out _ hU1.1.strs).mono ?_
  rintro e' v2 ⟨rfl, hp2⟩
  have hn2 : (fun W => SrAt W w.heap.size L n ∧ Below w.heap.size w W) v2 := ⟨hU1.1.below hp2, hU1.2.trans (hp2.mono hU1.2.size)⟩
  refine hK.out _ _ (fun _ => hn2) ?_
  clear hK K
  try simp only [Act.put, List.setIfInBounds_toArray, List.set_cons_zero, List.set_cons_succ]
  refine fresh_anyC (fun W => SrAt W w.heap.size L n ∧ Below w.heap.size w W) hn2 ?_
  clear hn2 hp2
  rintro U2 hU2
  refine anyL_one 6 rfl (by kernel_rfl) (fun K hK => ?_)
  go_simp
  refine (c6H.out _).mono ?_
  rintro e' v9 ⟨rfl, hp9⟩
  have hn9 : (fun W => SrAt W w.heap.size L n ∧ Below w.heap.size w W) v9 := ⟨hU2.1.below hp9, hU2.2.trans (hp9.mono hU2.2.size)⟩
  refine hK.out _ _ (fun _ => hn9) ?_
  clear hK K
  try simp only [Act.put, List.setIfInBounds_toArray, List.set_cons_zero, List.set_cons_succ]
  refine fresh_anyC (fun W => SrAt W w.heap.size L n ∧ Below w.heap.size w W) hn9 ?_
  clear hn9 hp9
  rintro U9 hU9
  refine anyL_one 7 rfl (by kernel_rfl) (fun K hK => ?_)
  go_simp
  refine hK.out _ _ (fun _ => hU9) ?_
  clear hK K
  try simp only [Act.put, List.setIfInBounds_toArray, List.set_cons_zero, List.set_cons_succ]
  refine anyC_done (by kernel_rfl) ?_ _
  go_wp2
  go_ret
  exact ⟨rfl, hU9.2⟩
end Go.Proofs.Ytonoanjakfaloaa
