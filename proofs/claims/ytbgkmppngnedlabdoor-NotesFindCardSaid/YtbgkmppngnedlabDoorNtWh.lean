/- What Encode does with any record, and what whole does. -/
import Derived.Test.YtbgkmppngnedlabDoorOEnc
import Derived.Test.YtbgkmppngnedlabDoorOBase
import Derived.Test.YtbgkmppngnedlabDoorOEmp
namespace Go.Proofs.YtbgkmppngnedlabDoor
open Go.RowKit Rec Crc Num

theorem encode_any (r : Rc) (w : World) (hT : Tab w) :
    Calls Tryd.prog 18 #[.agg #[.int .i64 r.k, .int .i64 r.s, .int .i64 r.a, .int .i64 r.b, .int .i64 r.c, .int .i64 r.d, .string r.body]] w fun e w' => e = .returned (.tuple #[.string (encS r), .int .i64 (if good r = true then 0 else 1)]) ∧ Below w.heap.size w w' := by
  by_cases hg : Rec.Good r
  · rw [encS_good hg, if_pos (good_iff.2 hg)]; exact encode_good r w hg hT
  · rw [encS_bad hg, if_neg (by rw [good_iff]; exact hg)]; exact encode_bad r w hg

/-- A record with a body of the right length, if it must have one. -/
def padS (b : ByteArray) : ByteArray := (b ++ ⟨(List.replicate 64 0).toArray⟩).extract 0 64
def wholeR (r : Rc) : Rc := if r.k = 4 ∧ r.body ≠ ⟨#[]⟩ then { r with body := padS r.body } else r
theorem padS_size (b : ByteArray) : (padS b).size = 64 := by
  unfold padS
  rw [ByteArray.size_extract, ByteArray.size_append]
  have : (⟨(List.replicate 64 0).toArray⟩ : ByteArray).size = 64 := by rw [ofList_size, List.length_replicate]
  omega

set_option maxRecDepth 100000 in
set_option maxHeartbeats 2000000 in
theorem whole_any (r : Rc) (w : World) (hb : r.body.size ≤ 281474976710656) :
    Calls Tryd.prog 6 #[.agg #[.int .i64 r.k, .int .i64 r.s, .int .i64 r.a, .int .i64 r.b, .int .i64 r.c, .int .i64 r.d, .string r.body]] w fun e w' => e = .returned (.agg #[.int .i64 (wholeR r).k, .int .i64 (wholeR r).s, .int .i64 (wholeR r).a, .int .i64 (wholeR r).b, .int .i64 (wholeR r).c, .int .i64 (wholeR r).d, .string (wholeR r).body]) ∧ Below w.heap.size w w' := by
  unfold wholeR
  by_cases h4 : r.k = 4
  case neg =>
    rw [if_neg (fun h => h4 h.1)]
    have h4' : (r.k == 4) = false := by simp [h4]
    clear h4
    have hB : Below w.heap.size w ((w.alloc (.cells #[.int .i64 r.k, .int .i64 r.s, .int .i64 r.a, .int .i64 r.b, .int .i64 r.c, .int .i64 r.d, .string r.body] 27)).alloc (.cells #[.int .i64 r.k, .int .i64 r.s, .int .i64 r.a, .int .i64 r.b, .int .i64 r.c, .int .i64 r.d, .string r.body] 27)) := ((Below.refl _ _).alloc (Nat.le_refl _) _).alloc (by simp) _
    have hBH := Lib.hid hB
    clear hB
    go_enter Tryd.func6, Tryd.ntmps6
    go_wp2_with fail
    refine bodyPost_ret (v := .agg #[.int .i64 r.k, .int .i64 r.s, .int .i64 r.a, .int .i64 r.b, .int .i64 r.c, .int .i64 r.d, .string r.body]) (by simp [results, Tryd.results6, go_sem]) rfl ⟨rfl, ?_⟩
    exact hBH.out
  by_cases he : r.body = ⟨#[]⟩
  case pos =>
    rw [if_neg (fun h => h.2 he)]
    rw [h4, he]
    clear h4 he
    have hB : Below w.heap.size w ((w.alloc (.cells #[.int .i64 4, .int .i64 r.s, .int .i64 r.a, .int .i64 r.b, .int .i64 r.c, .int .i64 r.d, .string ⟨#[]⟩] 27)).alloc (.cells #[.int .i64 4, .int .i64 r.s, .int .i64 r.a, .int .i64 r.b, .int .i64 r.c, .int .i64 r.d, .string ⟨#[]⟩] 27)) := ((Below.refl _ _).alloc (Nat.le_refl _) _).alloc (by simp) _
    have hBH := Lib.hid hB
    clear hB
    go_enter Tryd.func6, Tryd.ntmps6
    go_wp2_with fail
    refine bodyPost_ret (v := .agg #[.int .i64 4, .int .i64 r.s, .int .i64 r.a, .int .i64 r.b, .int .i64 r.c, .int .i64 r.d, .string ⟨#[]⟩]) (by simp [results, Tryd.results6, go_sem]) rfl ⟨rfl, ?_⟩
    exact hBH.out
  rw [if_pos ⟨h4, he⟩]
  dsimp only
  unfold padS
  rw [h4]
  clear h4
  obtain ⟨i0, hi, hz0, hz1, hz2⟩ := info_parts infoB
  have hmk : ∀ W : World, (Instr.makeSlice 43 (.int .i64 64) (.int .i64 64)).run Tryd.prog W = .ok (.slice (some ⟨W.heap.size, 0, none⟩) 64 64) (W.alloc (.cells (madeCells #[.int .u8 0] 64) 5)) := fun W => by
    have h := run_make_m (P := Tryd.prog) 43 5 i0 (.int .u8 0) Tryd.underlying43 hi hz0 .i64 .i64 64 64 (Nat.le_refl _) (by rw [hz2]; omega) (by omega) W
    rw [hz1] at h
    exact h
  have hcb : ∀ W : World, (convert 43 9 (.slice (some ⟨W.heap.size, 0, none⟩) 64 64)).run Tryd.prog (W.alloc (.cells (madeCells #[.int .u8 0] 64) 5)).drew = .ok (.string ⟨(List.replicate 64 0).toArray⟩) (W.alloc (.cells (madeCells #[.int .u8 0] 64) 5)).drew := fun W => by
    have hB : BytesAt (W.alloc (.cells (madeCells #[.int .u8 0] 64) 5)).drew W.heap.size (List.replicate 64 0) := fun j hj => by
      have h := made_noughts W 5 (.int .u8 0) 64 j (by simpa using hj)
      rw [List.getElem_replicate]; exact h
    exact back hB (List.length_replicate ..) Tryd.underlying43 Tryd.underlying5 Tryd.underlying9
  clear hi hz0 hz1 hz2
  obtain ⟨z, hz⟩ : ∃ z : ByteArray, z = ⟨(List.replicate 64 0).toArray⟩ := ⟨_, rfl⟩
  rw [← hz] at hcb ⊢
  have hzs : z.size = 64 := by rw [hz]; rfl
  have hq1 : ¬ 9223372036854775807 < r.body.size + z.size := by omega
  have hq2 : 64 ≤ r.body.size + z.size := by omega
  have hq3 : ¬ r.body.size + z.size < 64 := by omega
  have hq4 : (64 : Int) ≤ (r.body.size : Int) + (z.size : Int) := by omega
  clear hz hzs hb
  obtain ⟨he1, he2⟩ := not_empty_of (full_of he)
  clear he
  go_enter Tryd.func6, Tryd.ntmps6
  go_wp2_with fail
  have hl6 : ((w.alloc (.cells #[.int .i64 4, .int .i64 r.s, .int .i64 r.a, .int .i64 r.b, .int .i64 r.c, .int .i64 r.d, .string r.body] 27)).alloc (.cells #[.int .i64 0, .int .i64 0, .int .i64 0, .int .i64 0, .int .i64 0, .int .i64 0, .string ⟨#[]⟩] 27)).cell? ⟨w.heap.size, 6, none⟩ = some (.string r.body) := by go_simp
  have hfz : ((w.alloc (.cells #[.int .i64 4, .int .i64 r.s, .int .i64 r.a, .int .i64 r.b, .int .i64 r.c, .int .i64 r.d, .string r.body] 27)).alloc (.cells #[.int .i64 0, .int .i64 0, .int .i64 0, .int .i64 0, .int .i64 0, .int .i64 0, .string ⟨#[]⟩] 27)).frozen? ⟨w.heap.size, 6, none⟩ = false := by go_simp
  obtain ⟨W0, hW0⟩ : ∃ W0, W0 = ((w.alloc (.cells #[.int .i64 4, .int .i64 r.s, .int .i64 r.a, .int .i64 r.b, .int .i64 r.c, .int .i64 r.d, .string r.body] 27)).alloc (.cells #[.int .i64 0, .int .i64 0, .int .i64 0, .int .i64 0, .int .i64 0, .int .i64 0, .string ⟨#[]⟩] 27)) := ⟨_, rfl⟩
  rw [← hW0] at hl6 hfz ⊢
  have hs2 : w.heap.size < W0.heap.size := by rw [hW0]; simp; omega
  have hW0H := Lib.hid hW0
  clear hW0
  refine region_anyC (fun j => decide (j < 7)) (fun W => Below W0.heap.size W0 W) (by kernel_rfl) ?_
  have hS5 : Below W0.heap.size W0 W0.drew := (Below.refl _ _).drew
  have hS6 : Below W0.heap.size W0 (W0.drew.alloc (.cells (madeCells #[.int .u8 0] 64) 5)) := hS5.alloc hS5.size _
  refine anyL_take 0 (v := ?_) rfl (by kernel_rfl) (fun _ _ _ h => h) (Or.inl ⟨by rfl, ?_⟩) hS5 ?_
  rotate_left
  focus (intro W hW; go_simp; try with_reducible rfl)
  simp only [Act.put, List.setIfInBounds_toArray, List.set_cons_zero, List.set_cons_succ]
  refine anyL_take 1 (v := ?_) rfl (by kernel_rfl) (fun _ _ _ h => h) (Or.inl ⟨by rfl, ?_⟩) hS5 ?_
  rotate_left
  focus (intro W hW; have k0 := (hW.cell (p := ⟨w.heap.size, 6, none⟩) hs2).trans hl6; go_simp; try with_reducible rfl)
  simp only [Act.put, List.setIfInBounds_toArray, List.set_cons_zero, List.set_cons_succ]
  refine anyL_one 2 rfl (by kernel_rfl) (fun K hK => ?_)
  go_simp
  refine hK.out _ _ (fun _ => hS6) ?_
  clear hK K
  try simp only [Act.put, List.setIfInBounds_toArray, List.set_cons_zero, List.set_cons_succ]
  refine anyL_one 3 rfl (by kernel_rfl) (fun K hK => ?_)
  go_simp
  refine hK.out _ _ (fun _ => hS6) ?_
  clear hK K
  try simp only [Act.put, List.setIfInBounds_toArray, List.set_cons_zero, List.set_cons_succ]
  refine anyL_one 4 rfl (by kernel_rfl) (fun K hK => ?_)
  go_simp
  refine hK.out _ _ (fun _ => hS6) ?_
  clear hK K
  try simp only [Act.put, List.setIfInBounds_toArray, List.set_cons_zero, List.set_cons_succ]
  refine anyL_one 5 rfl (by kernel_rfl) (fun K hK => ?_)
  go_simp
  refine hK.out _ _ (fun _ => hS6) ?_
  clear hK K
  try simp only [Act.put, List.setIfInBounds_toArray, List.set_cons_zero, List.set_cons_succ]
  refine anyL_one 6 rfl (by kernel_rfl) (fun K hK => ?_)
  go_simp
  refine hK.out _ _ (fun _ => hS6) ?_
  clear hK K
  try simp only [Act.put, List.setIfInBounds_toArray, List.set_cons_zero, List.set_cons_succ]
  refine anyL_one 7 rfl (by kernel_rfl) (fun K hK => ?_)
  go_simp
  refine hK.out _ _ (fun h => absurd h (by decide)) ?_
  clear hK K
  try simp only [Act.put, List.setIfInBounds_toArray, List.set_cons_zero, List.set_cons_succ]
  refine anyC_done (by kernel_rfl) ?_ _
  simp only [Exit.then]
  rw [hW0H.out]
  clear hS6 hS5 hs2 hfz hl6 hW0H W0
  go_wp2_with fail
  refine bodyPost_ret (v := .agg #[.int .i64 4, .int .i64 r.s, .int .i64 r.a, .int .i64 r.b, .int .i64 r.c, .int .i64 r.d, .string ((r.body ++ z).extract 0 64)]) (by simp [results, Tryd.results6, go_sem]) rfl ⟨rfl, ?_⟩
  repeat' (first | exact Below.refl _ _ | refine Below.drew ?_ | refine Below.alloc ?_ (by simp; try omega) _ | refine Below.setCell ?_ (by simp) _)
end Go.Proofs.YtbgkmppngnedlabDoor
