/- What Flush of a drive's does. -/
import Derived.Test.YtncbkegflkjlfaaDrvWalks
import Derived.Test.YtncbkegflkjlfaaHeldTail
namespace Go.Proofs.Ytncbkegflkjlfaa
open Go.RowKit Zon Drv

set_option maxRecDepth 100000 in
set_option maxHeartbeats 1000000 in
theorem settle_any (w : World) (d : Nat) (B : Blk) (D : Dr) (i : Nat) (h : Lies w d B D) (hi : i < D.cs.length) (hll : D.ls.length = D.cs.length) (hn : (D.c i).length ≤ 262144) :
    Calls Try.prog 57 #[.pointer (some ⟨d, 0, none⟩), .int .i64 (i : Int)] w fun e w' => e = .returned (.tuple #[]) ∧ Lies w' d B (Drv.settle D i) ∧ Turn w w' (fun b => b = B.l) := by
  have hwr := Lib.hid (fun W (h : Lies W d B D) => written_any W d B D i h hi hn)
  have hput := fun W (h : Lies W d B D) => h.put_l (i := i) (by omega) ((D.c i).length / 64)
  rw [show (((D.c i).length / 64 : Nat) : Int) = ((D.c i).length : Int) / 64 by omega] at hput
  have hputH := Lib.hid hput
  clear hput
  have hf := Lib.hid (fun W (h : Lies W d B D) => (⟨h.c2, (h.lrow i (by omega)).1, (h.lrow i (by omega)).2⟩ : W.cell? ⟨d, 2, none⟩ = some (.slice (some ⟨B.l, 0, none⟩) D.ls.length D.ls.length) ∧ W.cell? ⟨B.l, i, none⟩ = some (.int .i64 (D.l i : Int)) ∧ W.frozen? ⟨B.l, i, none⟩ = false))
  have hS0 := Lib.hid h
  have hi2 : i < D.ls.length := by omega
  clear h
  go_enter Try.func57, Try.ntmps57
  refine region_anyC (fun i => i != 9) (fun W => Lies W d B D ∧ Below w.heap.size w W) (by kernel_rfl) ?_
  have hS : Lies w.drew d B D ∧ Below w.heap.size w w.drew := ⟨hS0.out.below (Below.refl _ _).drew, (Below.refl _ _).drew⟩
  refine anyL_take 0 (v := ?_) rfl (by kernel_rfl) (fun _ _ _ h => h) (Or.inl ⟨by rfl, ?_⟩) hS ?_
  rotate_left
  focus (intro W hW; go_simp; try with_reducible rfl)
  simp only [Act.put, List.setIfInBounds_toArray, List.set_cons_zero, List.set_cons_succ]
  refine anyL_take 1 (v := ?_) rfl (by kernel_rfl) (fun _ _ _ h => h) (Or.inl ⟨by rfl, ?_⟩) hS ?_
  rotate_left
  focus (intro W hW; go_simp; try with_reducible rfl)
  simp only [Act.put, List.setIfInBounds_toArray, List.set_cons_zero, List.set_cons_succ]
  refine anyL_take 2 (v := ?_) rfl (by kernel_rfl) (fun _ _ _ h => h) (Or.inl ⟨by rfl, ?_⟩) hS ?_
  rotate_left
  focus (intro W hW; go_simp; try with_reducible rfl)
  simp only [Act.put, List.setIfInBounds_toArray, List.set_cons_zero, List.set_cons_succ]
  refine anyL_take 3 (v := ?_) rfl (by kernel_rfl) (fun _ _ _ h => h) (Or.inl ⟨by rfl, ?_⟩) hS ?_
  rotate_left
  focus (intro W hW; obtain ⟨f0, f1, f2⟩ := hf.out W hW.1; go_simp; try with_reducible rfl)
  simp only [Act.put, List.setIfInBounds_toArray, List.set_cons_zero, List.set_cons_succ]
  refine anyL_take 4 (v := ?_) rfl (by kernel_rfl) (fun _ _ _ h => h) (Or.inl ⟨by rfl, ?_⟩) hS ?_
  rotate_left
  focus (intro W hW; go_simp; try with_reducible rfl)
  simp only [Act.put, List.setIfInBounds_toArray, List.set_cons_zero, List.set_cons_succ]
  refine anyL_take 5 (v := ?_) rfl (by kernel_rfl) (fun _ _ _ h => h) (Or.inl ⟨by rfl, ?_⟩) hS ?_
  rotate_left
  focus (intro W hW; go_simp; try with_reducible rfl)
  simp only [Act.put, List.setIfInBounds_toArray, List.set_cons_zero, List.set_cons_succ]
  refine anyL_take 6 (v := ?_) rfl (by kernel_rfl) (fun _ _ _ h => h) (Or.inl ⟨by rfl, ?_⟩) hS ?_
  rotate_left
  focus (intro W hW; go_simp; try with_reducible rfl)
  simp only [Act.put, List.setIfInBounds_toArray, List.set_cons_zero, List.set_cons_succ]
  refine anyL_one 7 rfl (by kernel_rfl) (fun K hK => ?_)
  go_simp
  refine (hwr.out _ hS.1).mono ?_
  rintro e' w6 ⟨rfl, rfl⟩
  dsimp only
  refine hK.out _ _ (fun _ => hS) ?_
  clear hK K
  try simp only [Act.put, List.setIfInBounds_toArray, List.set_cons_zero, List.set_cons_succ]
  refine anyL_take 8 (v := ?_) rfl (by kernel_rfl) (fun _ _ _ h => h) (Or.inl ⟨by rfl, ?_⟩) hS ?_
  rotate_left
  focus (intro W hW; go_simp; try with_reducible rfl)
  simp only [Act.put, List.setIfInBounds_toArray, List.set_cons_zero, List.set_cons_succ]
  refine anyL_one 9 rfl (by kernel_rfl) (fun K hK => ?_)
  obtain ⟨f0, f1, f2⟩ := hf.out _ hS.1
  go_simp
  refine hK.out _ _ (fun h => absurd h (by decide)) ?_
  clear hK K
  try simp only [Act.put, List.setIfInBounds_toArray, List.set_cons_zero, List.set_cons_succ]
  refine anyC_done (by kernel_rfl) ?_ _
  go_wp2
  go_end0
  exact ⟨rfl, hputH.out w.drew hS.1, (Turn.of_below hS.2 (fun b => b = B.l)).trans (Turn.set w.drew (F := fun b => b = B.l) rfl i _)⟩

theorem settled_n (D : Dr) (k i : Nat) : (settleTo D k).c i = D.c i := by unfold Dr.c; rw [(settleTo_m D k).2.1]
set_option maxHeartbeats 1000000 in
theorem settleAll_any (w : World) (d : Nat) (B : Blk) (D : Dr) (h : Lies w d B D) (hll : D.ls.length = D.cs.length) (hn : ∀ i, (D.c i).length ≤ 262144) (hs : D.cs.length ≤ 64) :
    Calls Try.prog 43 #[.pointer (some ⟨d, 0, none⟩)] w fun e w' => e = .returned (.tuple #[]) ∧ Lies w' d B (settleTo D D.cs.length) ∧ Turn w w' (fun b => b = B.l) := by
  have hse := Lib.hid (fun W k (hk : k < D.cs.length) (h : Lies W d B (settleTo D k)) => settle_any W d B (settleTo D k) k h (by rw [(settleTo_m D k).2.1]; exact hk) (by rw [(settleTo_m D k).2.2.2, (settleTo_m D k).2.1]; exact hll) (by rw [settled_n]; exact hn k))
  have c1 := h.c1
  have hH := Lib.hid h
  clear h hn hll
  go_enter Try.func43, Try.ntmps43
  go_wp2
  go_loopw [8] (fun i wr => ∃ k : Nat, k ≤ D.cs.length ∧ i = .int .i64 (k : Int) ∧ Lies wr d B (settleTo D k) ∧ Turn w wr (fun b => b = B.l)) (fun i _ => D.cs.length - (intOf i).toNat)
  case atStart => exact ⟨0, by omega, rfl, hH.out, Turn.refl _ _⟩
  case round =>
    obtain ⟨k, hk, rfl, hM, ho⟩ := hrel
    by_cases hlt : k < D.cs.length
    · have hh := Lib.hid (hse.out wr k hlt hM)
      clear hM
      go_wp2_with fail
      refine hh.out.mono ?_
      rintro e w1 ⟨rfl, hM1, ho1⟩
      go_wp2_with fail
      go_roundw
      · exact ⟨k + 1, by omega, by simp, hM1, ho.trans ho1⟩
      · show D.cs.length - (intOf (Value.int .i64 _)).toNat < D.cs.length - (intOf (Value.int .i64 _)).toNat
        simp only [intOf]
        omega
    · have e : k = D.cs.length := by omega
      subst e
      clear hk
      go_wp2_with fail
      go_end0
      exact ⟨rfl, hM, ho⟩

theorem Turn.one {w w' : World} {x : Nat} (h : Turn w w' (fun b => b = x)) {F : Nat → Prop} (hF : F x) : Turn w w' F := h.mono fun i _ hi => by rw [hi]; exact hF
theorem flushD_ls (D : Dr) : (flushD D).cs = D.cs ∧ (flushD D).m = D.m := by
  unfold flushD
  split
  · exact ⟨rfl, rfl⟩
  · exact ⟨(settleTo_m D _).2.1, (settleTo_m D _).1⟩
theorem dflush_any (w : World) (F : Nat → Prop) (d : Nat) (D : Dr) (h : DAt w F d D) (hll : D.ls.length = D.cs.length) (hn : ∀ i, (D.c i).length ≤ 262144) (hs : D.cs.length ≤ 64) :
    Calls Try.prog 15 #[.pointer (some ⟨d, 0, none⟩)] w fun e w' => e = .returned (.int .i64 (if D.dead = true then 7 else 0)) ∧ DAt w' F d (flushD D) ∧ Turn w w' F := by
  obtain ⟨B, h, hF⟩ := h
  have c3 := h.c3
  unfold flushD
  cases hd : D.dead with
  | true =>
    rw [hd] at c3
    have hH := Lib.hid h
    clear h
    go_enter Try.func15, Try.ntmps15
    go_wp2
    go_ret
    exact ⟨rfl, ⟨B, hH.out, hF⟩, Turn.refl _ _⟩
  | false =>
    rw [hd] at c3
    have hsa := Lib.hid (settleAll_any w d B D h hll hn hs)
    clear h hn
    go_enter Try.func15, Try.ntmps15
    go_wp2_with (go_at_call 43; refine hsa.out.mono ?_; rintro e w1 ⟨rfl, hM1, ho1⟩)
    go_ret
    refine ⟨rfl, ⟨B, hM1, ?_⟩, ho1.one hF.l⟩
    show Lies.In F d B (settleTo D D.cs.length).cs.length
    rw [(settleTo_m D _).2.1]
    exact hF
theorem dflush_nil (w : World) :
    Calls Try.prog 15 #[.pointer none] w fun e w' => e = .returned (.int .i64 1) ∧ w = w' := by
  go_enter Try.func15, Try.ntmps15
  go_wp2
  go_ret
  exact ⟨rfl, rfl⟩
end Go.Proofs.Ytncbkegflkjlfaa
