/- What the document's Flush of a drive does. -/
import Derived.Test.YtncbkegflkjlfaaRfMem
import Derived.Test.YtncbkegflkjlfaaDrvFlush
namespace Go.Proofs.Ytncbkegflkjlfaa
open Go.RowKit Zon Drv

/-- A zone's blocks as a slice. -/
theorem RLies.form {w : World} {d : Nat} {B : Blk} {D : Dr} (h : RLies w d B D) {i : Nat} (hi : i < D.cs.length) : ∃ A cap, B.v i = .slice A ((D.c i).length / 64) cap ∧ (D.c i).length / 64 ≤ cap ∧ ((A = none ∧ (D.c i).length / 64 = 0) ∨ ∃ g, A = some ⟨g, 0, none⟩ ∧ g < w.heap.size) := by
  have ho := h.own i hi
  rw [bks_len] at ho
  rcases ho.2 with ⟨e, e2⟩ | ⟨g, cap, cur, e, _, hg, hle, _⟩
  · exact ⟨none, 0, by rw [e, e2], by omega, .inl ⟨rfl, e2⟩⟩
  · exact ⟨_, cap, e, hle, .inr ⟨g, rfl, (Array.getElem?_eq_some_iff.1 hg).1⟩⟩
set_option maxRecDepth 100000 in
set_option maxHeartbeats 1000000 in
theorem rdflush_any (w : World) (F : Nat → Prop) (d : Nat) (D : Dr) (h : RAt w F d D) (hll : D.ls.length = D.cs.length) (hs : D.cs.length ≤ 64) :
    Calls Try.prog 16 #[.pointer (some ⟨d, 0, none⟩)] w fun e w' => e = .returned (.int .i64 (if D.dead = true then 7 else 0)) ∧ RAt w' F d (flushD D) ∧ Turn w w' F := by
  obtain ⟨B, h, hF⟩ := h
  have c3 := h.c3
  unfold flushD
  cases hd : D.dead with
  | true =>
    rw [hd] at c3
    have hH := Lib.hid h
    clear h
    go_enter Try.func16, Try.ntmps16
    go_wp2
    go_ret
    exact ⟨rfl, ⟨B, hH.out, hF⟩, Turn.refl _ _⟩
  | false =>
    rw [hd] at c3
    have hH := Lib.hid h
    have hFl := hF.l
    have hFH := Lib.hid hF
    clear h hF hd
    go_enter Try.func16, Try.ntmps16
    go_wp2_with fail
    go_loopw [3] (fun i wr => ∃ k : Nat, k ≤ D.cs.length ∧ i = .int .i64 (k : Int) ∧ RLies wr d B (settleTo D k) ∧ Turn w wr (fun b => b = B.l)) (fun i _ => D.cs.length - (intOf i).toNat)
    case atStart => exact ⟨0, by omega, rfl, hH.out, Turn.refl _ _⟩
    case round =>
      clear c3
      obtain ⟨k, hk, rfl, hM, ho⟩ := hrel
      have hcl : (settleTo D k).cs.length = D.cs.length := by rw [(settleTo_m D k).2.1]
      have hlsl : (settleTo D k).ls.length = D.cs.length := by rw [(settleTo_m D k).2.2.2]; exact hll
      have c1 := hM.c1
      rw [hcl] at c1
      by_cases hlt : k < D.cs.length
      · have hk1 : k < (settleTo D k).cs.length := by rw [hcl]; exact hlt
        have hk2 : k < (settleTo D k).ls.length := by rw [hlsl]; exact hlt
        obtain ⟨A, cap, hv, _, _⟩ := hM.form hk1
        rw [settled_n] at hv
        have hput := fun W (h : RLies W d B (settleTo D k)) => h.put_l (i := k) hk2 ((D.c k).length / 64)
        have hstep : ({ settleTo D k with ls := (settleTo D k).ls.set k ((D.c k).length / 64) } : Dr) = settleTo D (k + 1) := by
          show _ = Drv.settle (settleTo D k) k
          unfold Drv.settle
          rw [settled_n]
        rw [hstep] at hput
        have hputH := Lib.hid hput
        have hf := Lib.hid (fun W (h : RLies W d B (settleTo D k)) => by
          have q1 := h.c1
          have q2 := h.c2
          have q3 := (h.row k hk1).1
          rw [hcl] at q1
          rw [hlsl] at q2
          rw [hv] at q3
          exact (⟨q1, q2, q3, (h.lrow k hk2).1, (h.lrow k hk2).2⟩ : W.cell? ⟨d, 1, none⟩ = some (.slice (some ⟨B.c, 0, none⟩) D.cs.length D.cs.length) ∧ W.cell? ⟨d, 2, none⟩ = some (.slice (some ⟨B.l, 0, none⟩) D.cs.length D.cs.length) ∧ W.cell? ⟨B.c, k, none⟩ = some (.slice A ((D.c k).length / 64) cap) ∧ W.cell? ⟨B.l, k, none⟩ = some (.int .i64 ((settleTo D k).l k : Int)) ∧ W.frozen? ⟨B.l, k, none⟩ = false))
        have hS0 := Lib.hid hM
        have hoH := Lib.hid ho
        clear hput hstep hM hv hcl hlsl ho
        generalize (settleTo D k).l k = lk at hf
        go_wp2_with fail
        refine region_anyC (fun i => i != 15) (fun W => RLies W d B (settleTo D k) ∧ Below wr.heap.size wr W) (by kernel_rfl) ?_
        have hS : RLies wr.drew d B (settleTo D k) ∧ Below wr.heap.size wr wr.drew := ⟨hS0.out.below (Below.refl _ _).drew, (Below.refl _ _).drew⟩
        clear c1
        refine anyL_take 0 (v := ?_) rfl (by kernel_rfl) (fun _ _ _ h => h) (Or.inl ⟨by rfl, ?_⟩) hS ?_
        rotate_left
        focus (intro W hW; go_simp; try with_reducible rfl)
        simp only [Act.put, List.setIfInBounds_toArray, List.set_cons_zero, List.set_cons_succ]
        refine anyL_take 1 (v := ?_) rfl (by kernel_rfl) (fun _ _ _ h => h) (Or.inl ⟨by rfl, ?_⟩) hS ?_
        rotate_left
        focus (intro W hW; go_simp; try with_reducible rfl)
        simp only [Act.put, List.setIfInBounds_toArray, List.set_cons_zero, List.set_cons_succ]
        refine anyL_take 2 (v := ?_) rfl (by kernel_rfl) (fun _ _ _ h => h) (Or.inl ⟨by rfl, ?_⟩) hS ?_
        rotate_left
        focus (intro W hW; go_simp; try with_reducible rfl)
        simp only [Act.put, List.setIfInBounds_toArray, List.set_cons_zero, List.set_cons_succ]
        refine anyL_take 3 (v := ?_) rfl (by kernel_rfl) (fun _ _ _ h => h) (Or.inl ⟨by rfl, ?_⟩) hS ?_
        rotate_left
        focus (intro W hW; obtain ⟨f0, f1, f2, f3, f4⟩ := hf.out W hW.1; go_simp; try with_reducible rfl)
        simp only [Act.put, List.setIfInBounds_toArray, List.set_cons_zero, List.set_cons_succ]
        refine anyL_take 4 (v := ?_) rfl (by kernel_rfl) (fun _ _ _ h => h) (Or.inl ⟨by rfl, ?_⟩) hS ?_
        rotate_left
        focus (intro W hW; go_simp; try with_reducible rfl)
        simp only [Act.put, List.setIfInBounds_toArray, List.set_cons_zero, List.set_cons_succ]
        refine anyL_take 5 (v := ?_) rfl (by kernel_rfl) (fun _ _ _ h => h) (Or.inl ⟨by rfl, ?_⟩) hS ?_
        rotate_left
        focus (intro W hW; go_simp; try with_reducible rfl)
        simp only [Act.put, List.setIfInBounds_toArray, List.set_cons_zero, List.set_cons_succ]
        refine anyL_take 6 (v := ?_) rfl (by kernel_rfl) (fun _ _ _ h => h) (Or.inl ⟨by rfl, ?_⟩) hS ?_
        rotate_left
        focus (intro W hW; go_simp; try with_reducible rfl)
        simp only [Act.put, List.setIfInBounds_toArray, List.set_cons_zero, List.set_cons_succ]
        refine anyL_take 7 (v := ?_) rfl (by kernel_rfl) (fun _ _ _ h => h) (Or.inl ⟨by rfl, ?_⟩) hS ?_
        rotate_left
        focus (intro W hW; go_simp; try with_reducible rfl)
        simp only [Act.put, List.setIfInBounds_toArray, List.set_cons_zero, List.set_cons_succ]
        refine anyL_take 8 (v := ?_) rfl (by kernel_rfl) (fun _ _ _ h => h) (Or.inl ⟨by rfl, ?_⟩) hS ?_
        rotate_left
        focus (intro W hW; obtain ⟨f0, f1, f2, f3, f4⟩ := hf.out W hW.1; go_simp; try with_reducible rfl)
        simp only [Act.put, List.setIfInBounds_toArray, List.set_cons_zero, List.set_cons_succ]
        refine anyL_take 9 (v := ?_) rfl (by kernel_rfl) (fun _ _ _ h => h) (Or.inl ⟨by rfl, ?_⟩) hS ?_
        rotate_left
        focus (intro W hW; go_simp; try with_reducible rfl)
        simp only [Act.put, List.setIfInBounds_toArray, List.set_cons_zero, List.set_cons_succ]
        refine anyL_take 10 (v := ?_) rfl (by kernel_rfl) (fun _ _ _ h => h) (Or.inl ⟨by rfl, ?_⟩) hS ?_
        rotate_left
        focus (intro W hW; go_simp; try with_reducible rfl)
        simp only [Act.put, List.setIfInBounds_toArray, List.set_cons_zero, List.set_cons_succ]
        refine anyL_take 11 (v := ?_) rfl (by kernel_rfl) (fun _ _ _ h => h) (Or.inl ⟨by rfl, ?_⟩) hS ?_
        rotate_left
        focus (intro W hW; go_simp; try with_reducible rfl)
        simp only [Act.put, List.setIfInBounds_toArray, List.set_cons_zero, List.set_cons_succ]
        refine anyL_take 12 (v := ?_) rfl (by kernel_rfl) (fun _ _ _ h => h) (Or.inl ⟨by rfl, ?_⟩) hS ?_
        rotate_left
        focus (intro W hW; obtain ⟨f0, f1, f2, f3, f4⟩ := hf.out W hW.1; go_simp; try with_reducible rfl)
        simp only [Act.put, List.setIfInBounds_toArray, List.set_cons_zero, List.set_cons_succ]
        refine anyL_take 13 (v := ?_) rfl (by kernel_rfl) (fun _ _ _ h => h) (Or.inl ⟨by rfl, ?_⟩) hS ?_
        rotate_left
        focus (intro W hW; go_simp; try with_reducible rfl)
        simp only [Act.put, List.setIfInBounds_toArray, List.set_cons_zero, List.set_cons_succ]
        refine anyL_take 14 (v := ?_) rfl (by kernel_rfl) (fun _ _ _ h => h) (Or.inl ⟨by rfl, ?_⟩) hS ?_
        rotate_left
        focus (intro W hW; go_simp; try with_reducible rfl)
        simp only [Act.put, List.setIfInBounds_toArray, List.set_cons_zero, List.set_cons_succ]
        refine anyL_one 15 rfl (by kernel_rfl) (fun K hK => ?_)
        obtain ⟨f0, f1, f2, f3, f4⟩ := hf.out _ hS.1
        go_simp
        refine hK.out _ _ (fun h => absurd h (by decide)) ?_
        clear hK K
        try simp only [Act.put, List.setIfInBounds_toArray, List.set_cons_zero, List.set_cons_succ]
        refine anyC_done (by kernel_rfl) ?_ _
        go_wp2
        go_roundw
        case rel => exact ⟨k + 1, by omega, by simp, hputH.out _ hS.1, hoH.out.trans ((Turn.of_below hS.2 _).trans (Turn.set wr.drew (F := fun b => b = B.l) rfl k _))⟩
        case measure =>
          show D.cs.length - (intOf (Value.int .i64 _)).toNat < D.cs.length - (intOf (Value.int .i64 _)).toNat
          simp only [intOf]
          omega
      · have e : k = D.cs.length := by omega
        subst e
        clear hk
        go_wp2_with fail
        go_ret
        refine ⟨rfl, ⟨B, hM, ?_⟩, ho.one hFl⟩
        show RLies.In F d B (settleTo D D.cs.length).cs.length
        rw [(settleTo_m D _).2.1]
        exact hFH.out
end Go.Proofs.Ytncbkegflkjlfaa
