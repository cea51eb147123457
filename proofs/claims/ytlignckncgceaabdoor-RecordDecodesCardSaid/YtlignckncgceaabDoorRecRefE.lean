/- What the reference's Encode does. -/
import Derived.Test.YtlignckncgceaabDoorRecGood
import Derived.Test.YtlignckncgceaabDoorRecEncode
import Derived.Test.YtlignckncgceaabDoorNumRefC
import Derived.Test.YtlignckncgceaabDoorCrcRef
namespace Go.Proofs.YtlignckncgceaabDoor
open Go.RowKit Rec Crc Num

theorem refput_field (v : Int) (k : Nat) (M : Int) (hv : 0 ≤ v ∧ v ≤ M) (h1 : 1 ≤ k) (h7 : k ≤ 7) (hM : M < ((256 ^ k : Nat) : Int)) (hM2 : M ≤ 9223372036854775807) (W : World) :
    Calls Tryd.prog 29 #[.int .i64 v, .int .i64 (k : Int)] W fun e w' => ∃ t, e = .returned (.string t) ∧ TextOf t (putL v.toNat k) ∧ Below W.heap.size W w' := by
  have h := refput_any v k W (by omega)
  have e : putS v k = ⟨(putL v.toNat k).toArray⟩ := by
    unfold putS
    rw [if_pos ⟨by omega, by omega, hv.1, by rw [Int.toNat_natCast]; omega⟩, Int.toNat_natCast]
  rw [e] at h
  exact h.mono fun e w' ⟨h1, h2⟩ => ⟨_, h1, rfl, h2⟩
def szOf : Value → Nat | .string s => s.size | _ => 0

set_option maxRecDepth 100000 in
set_option maxHeartbeats 8000000 in
theorem refencode_any (r : Rc) (w : World) :
    Calls Tryd.prog 12 #[.agg #[.int .i64 r.k, .int .i64 r.s, .int .i64 r.a, .int .i64 r.b, .int .i64 r.c, .int .i64 r.d, .string r.body]] w fun e w' => e = .returned (.string (encS r)) ∧ Below w.heap.size w w' := by
  have hgd := Lib.hid (fun W => refgood_any r W)
  have hX := RcAt.new w r 31
  have hB1 : Below w.heap.size w (w.alloc (.cells #[.int .i64 r.k, .int .i64 r.s, .int .i64 r.a, .int .i64 r.b, .int .i64 r.c, .int .i64 r.d, .string r.body] 31)) := (Below.refl _ _).alloc (Nat.le_refl _) _
  have hXH := Lib.hid hX
  have hBH := Lib.hid hB1
  clear hX hB1
  by_cases hg : Rec.Good r
  case neg =>
    rw [encS_bad hg]
    rw [show good r = false from decide_eq_false hg] at hgd
    clear hg
    go_enter Tryd.func12, Tryd.ntmps12
    go_wp2_with (go_at_call 28; refine (hgd.out _).mono ?_; rintro e w1 ⟨rfl, hb⟩)
    go_ret
    exact ⟨rfl, hBH.out.trans (hb.mono (by simp))⟩
  rw [encS_good hg]
  rw [show good r = true from decide_eq_true hg] at hgd
  have hnb := nBlocks_pos hg.1
  have hbs0 := hg.2
  obtain ⟨n0, n1, n2, n3, n4, n5⟩ := hg.1
  have f0 := Lib.hid (fun W => refput_field r.k 1 6 (by omega) (by omega) (by omega) (by decide) (by decide) W)
  have f1 := Lib.hid (fun W => refput_field r.s 6 1099511627776 (by omega) (by omega) (by omega) (by decide) (by decide) W)
  have f2 := Lib.hid (fun W => refput_field r.a 2 65535 (by omega) (by omega) (by omega) (by decide) (by decide) W)
  have f3 := Lib.hid (fun W => refput_field r.b 2 65535 (by omega) (by omega) (by omega) (by decide) (by decide) W)
  have f4 := Lib.hid (fun W => refput_field r.c 6 1099511627776 (by omega) (by omega) (by omega) (by decide) (by decide) W)
  have f5 := Lib.hid (fun W => refput_field r.d 2 65535 (by omega) (by omega) (by omega) (by decide) (by decide) W)
  clear n0 n1 n2 n3 n4 n5 hg
  have hbs := Lib.hid (show r.body.size ≤ 64 by rw [hbs0]; omega)
  clear hbs0 hnb
  go_enter Tryd.func12, Tryd.ntmps12
  go_wp2_with (go_at_call 28; refine (hgd.out _).mono ?_; rintro e w1 ⟨rfl, hb⟩)
  have hX1 := hXH.out.below hb
  have hB1 := hBH.out.trans (hb.mono (by simp))
  have hs1 := hX1.lt
  refine fresh_world (fun W => RcAt W w.heap.size r ∧ Below w.heap.size w W) ⟨hX1, hB1⟩ ?_
  rintro W5 ⟨hX5, hB5⟩
  have hfacts := Lib.hid (fun W (hW : Below W5.heap.size W5 W) => hX5.below hW)
  have hX5H := Lib.hid hX5
  have hB5H := Lib.hid hB5
  have hlt5 := hX5.lt
  clear hX5 hXH hBH hB5 hX1 hB1 hs1 hb hgd
  generalize hXe : w.heap.size = X at hfacts hlt5 hX5H
  have hXeH := Lib.hid hXe
  clear hXe
  refine region_anyC (fun _ => true) (fun W => Below W5.heap.size W5 W) (by kernel_rfl) ?_
  have hS5 : Below W5.heap.size W5 W5.drew := (Below.refl _ _).drew
  refine anyL_take 0 (v := ?_) rfl (by kernel_rfl) (fun _ _ _ h => h) (Or.inl ⟨by rfl, ?_⟩) hS5 ?_
  rotate_left
  focus (intro W hW; go_simp; try with_reducible rfl)
  simp only [Act.put, List.setIfInBounds_toArray, List.set_cons_zero, List.set_cons_succ]
  refine anyL_take 1 (v := ?_) rfl (by kernel_rfl) (fun _ _ _ h => h) (Or.inl ⟨by rfl, ?_⟩) hS5 ?_
  rotate_left
  focus (intro W hW; obtain ⟨k0, k1, k2, k3, k4, k5, k6⟩ := hfacts.out W hW; go_simp; try with_reducible rfl)
  simp only [Act.put, List.setIfInBounds_toArray, List.set_cons_zero, List.set_cons_succ]
  refine anyL_take 4 (v := ?_) rfl (by kernel_rfl) (fun _ _ _ h => h) (Or.inl ⟨by rfl, ?_⟩) hS5 ?_
  rotate_left
  focus (intro W hW; go_simp; try with_reducible rfl)
  simp only [Act.put, List.setIfInBounds_toArray, List.set_cons_zero, List.set_cons_succ]
  refine anyL_take 5 (v := ?_) rfl (by kernel_rfl) (fun _ _ _ h => h) (Or.inl ⟨by rfl, ?_⟩) hS5 ?_
  rotate_left
  focus (intro W hW; obtain ⟨k0, k1, k2, k3, k4, k5, k6⟩ := hfacts.out W hW; go_simp; try with_reducible rfl)
  simp only [Act.put, List.setIfInBounds_toArray, List.set_cons_zero, List.set_cons_succ]
  refine anyL_take 8 (v := ?_) rfl (by kernel_rfl) (fun _ _ _ h => h) (Or.inl ⟨by rfl, ?_⟩) hS5 ?_
  rotate_left
  focus (intro W hW; go_simp; try with_reducible rfl)
  simp only [Act.put, List.setIfInBounds_toArray, List.set_cons_zero, List.set_cons_succ]
  refine anyL_take 9 (v := ?_) rfl (by kernel_rfl) (fun _ _ _ h => h) (Or.inl ⟨by rfl, ?_⟩) hS5 ?_
  rotate_left
  focus (intro W hW; obtain ⟨k0, k1, k2, k3, k4, k5, k6⟩ := hfacts.out W hW; go_simp; try with_reducible rfl)
  simp only [Act.put, List.setIfInBounds_toArray, List.set_cons_zero, List.set_cons_succ]
  refine anyL_take 12 (v := ?_) rfl (by kernel_rfl) (fun _ _ _ h => h) (Or.inl ⟨by rfl, ?_⟩) hS5 ?_
  rotate_left
  focus (intro W hW; go_simp; try with_reducible rfl)
  simp only [Act.put, List.setIfInBounds_toArray, List.set_cons_zero, List.set_cons_succ]
  refine anyL_take 13 (v := ?_) rfl (by kernel_rfl) (fun _ _ _ h => h) (Or.inl ⟨by rfl, ?_⟩) hS5 ?_
  rotate_left
  focus (intro W hW; obtain ⟨k0, k1, k2, k3, k4, k5, k6⟩ := hfacts.out W hW; go_simp; try with_reducible rfl)
  simp only [Act.put, List.setIfInBounds_toArray, List.set_cons_zero, List.set_cons_succ]
  refine anyL_take 16 (v := ?_) rfl (by kernel_rfl) (fun _ _ _ h => h) (Or.inl ⟨by rfl, ?_⟩) hS5 ?_
  rotate_left
  focus (intro W hW; go_simp; try with_reducible rfl)
  simp only [Act.put, List.setIfInBounds_toArray, List.set_cons_zero, List.set_cons_succ]
  refine anyL_take 17 (v := ?_) rfl (by kernel_rfl) (fun _ _ _ h => h) (Or.inl ⟨by rfl, ?_⟩) hS5 ?_
  rotate_left
  focus (intro W hW; obtain ⟨k0, k1, k2, k3, k4, k5, k6⟩ := hfacts.out W hW; go_simp; try with_reducible rfl)
  simp only [Act.put, List.setIfInBounds_toArray, List.set_cons_zero, List.set_cons_succ]
  refine anyL_take 20 (v := ?_) rfl (by kernel_rfl) (fun _ _ _ h => h) (Or.inl ⟨by rfl, ?_⟩) hS5 ?_
  rotate_left
  focus (intro W hW; go_simp; try with_reducible rfl)
  simp only [Act.put, List.setIfInBounds_toArray, List.set_cons_zero, List.set_cons_succ]
  refine anyL_take 21 (v := ?_) rfl (by kernel_rfl) (fun _ _ _ h => h) (Or.inl ⟨by rfl, ?_⟩) hS5 ?_
  rotate_left
  focus (intro W hW; obtain ⟨k0, k1, k2, k3, k4, k5, k6⟩ := hfacts.out W hW; go_simp; try with_reducible rfl)
  simp only [Act.put, List.setIfInBounds_toArray, List.set_cons_zero, List.set_cons_succ]
  refine anyL_one 2 rfl (by kernel_rfl) (fun K hK => ?_)
  go_simp
  refine (f0.out _).mono ?_
  rintro e' wp0 ⟨tx0, rfl, htx, hbp⟩
  have hb0 := hS5.trans (hbp.mono (by simp))
  have hz0 := Lib.hid htx.size
  rw [putL_length] at hz0
  have ht0 := Lib.hid htx
  clear htx hbp
  have q0 : ¬ 9223372036854775807 < 2 + tx0.size := by have := hz0.out; omega
  dsimp only
  refine hK.out _ _ (fun _ => hb0) ?_
  clear hK K
  try simp only [Act.put, List.setIfInBounds_toArray, List.set_cons_zero, List.set_cons_succ]
  refine anyL_take 3 (v := ?_) rfl (by kernel_rfl) (fun _ _ _ h => h) (Or.inl ⟨by rfl, ?_⟩) hb0 ?_
  rotate_left
  focus (intro W hW; go_simp; try with_reducible rfl)
  simp only [Act.put, List.setIfInBounds_toArray, List.set_cons_zero, List.set_cons_succ]
  refine anyL_one 6 rfl (by kernel_rfl) (fun K hK => ?_)
  go_simp
  refine (f1.out _).mono ?_
  rintro e' wp1 ⟨tx1, rfl, htx, hbp⟩
  have hb1 := hb0.trans (hbp.mono hb0.size)
  have hz1 := Lib.hid htx.size
  rw [putL_length] at hz1
  have ht1 := Lib.hid htx
  clear htx hbp
  have q1 : ¬ 9223372036854775807 < 2 + tx0.size + tx1.size := by have := hz0.out; have := hz1.out; omega
  dsimp only
  refine hK.out _ _ (fun _ => hb1) ?_
  clear hK K
  try simp only [Act.put, List.setIfInBounds_toArray, List.set_cons_zero, List.set_cons_succ]
  refine anyL_take 7 (v := ?_) rfl (by kernel_rfl) (fun _ _ _ h => h) (Or.inl ⟨by rfl, ?_⟩) hb1 ?_
  rotate_left
  focus (intro W hW; go_simp; try with_reducible rfl)
  simp only [Act.put, List.setIfInBounds_toArray, List.set_cons_zero, List.set_cons_succ]
  refine anyL_one 10 rfl (by kernel_rfl) (fun K hK => ?_)
  go_simp
  refine (f2.out _).mono ?_
  rintro e' wp2 ⟨tx2, rfl, htx, hbp⟩
  have hb2 := hb1.trans (hbp.mono hb1.size)
  have hz2 := Lib.hid htx.size
  rw [putL_length] at hz2
  have ht2 := Lib.hid htx
  clear htx hbp
  have q2 : ¬ 9223372036854775807 < 2 + tx0.size + tx1.size + tx2.size := by have := hz0.out; have := hz1.out; have := hz2.out; omega
  dsimp only
  refine hK.out _ _ (fun _ => hb2) ?_
  clear hK K
  try simp only [Act.put, List.setIfInBounds_toArray, List.set_cons_zero, List.set_cons_succ]
  refine anyL_take 11 (v := ?_) rfl (by kernel_rfl) (fun _ _ _ h => h) (Or.inl ⟨by rfl, ?_⟩) hb2 ?_
  rotate_left
  focus (intro W hW; go_simp; try with_reducible rfl)
  simp only [Act.put, List.setIfInBounds_toArray, List.set_cons_zero, List.set_cons_succ]
  refine anyL_one 14 rfl (by kernel_rfl) (fun K hK => ?_)
  go_simp
  refine (f3.out _).mono ?_
  rintro e' wp3 ⟨tx3, rfl, htx, hbp⟩
  have hb3 := hb2.trans (hbp.mono hb2.size)
  have hz3 := Lib.hid htx.size
  rw [putL_length] at hz3
  have ht3 := Lib.hid htx
  clear htx hbp
  have q3 : ¬ 9223372036854775807 < 2 + tx0.size + tx1.size + tx2.size + tx3.size := by have := hz0.out; have := hz1.out; have := hz2.out; have := hz3.out; omega
  dsimp only
  refine hK.out _ _ (fun _ => hb3) ?_
  clear hK K
  try simp only [Act.put, List.setIfInBounds_toArray, List.set_cons_zero, List.set_cons_succ]
  refine anyL_take 15 (v := ?_) rfl (by kernel_rfl) (fun _ _ _ h => h) (Or.inl ⟨by rfl, ?_⟩) hb3 ?_
  rotate_left
  focus (intro W hW; go_simp; try with_reducible rfl)
  simp only [Act.put, List.setIfInBounds_toArray, List.set_cons_zero, List.set_cons_succ]
  refine anyL_one 18 rfl (by kernel_rfl) (fun K hK => ?_)
  go_simp
  refine (f4.out _).mono ?_
  rintro e' wp4 ⟨tx4, rfl, htx, hbp⟩
  have hb4 := hb3.trans (hbp.mono hb3.size)
  have hz4 := Lib.hid htx.size
  rw [putL_length] at hz4
  have ht4 := Lib.hid htx
  clear htx hbp
  have q4 : ¬ 9223372036854775807 < 2 + tx0.size + tx1.size + tx2.size + tx3.size + tx4.size := by have := hz0.out; have := hz1.out; have := hz2.out; have := hz3.out; have := hz4.out; omega
  dsimp only
  refine hK.out _ _ (fun _ => hb4) ?_
  clear hK K
  try simp only [Act.put, List.setIfInBounds_toArray, List.set_cons_zero, List.set_cons_succ]
  refine anyL_take 19 (v := ?_) rfl (by kernel_rfl) (fun _ _ _ h => h) (Or.inl ⟨by rfl, ?_⟩) hb4 ?_
  rotate_left
  focus (intro W hW; go_simp; try with_reducible rfl)
  simp only [Act.put, List.setIfInBounds_toArray, List.set_cons_zero, List.set_cons_succ]
  refine anyL_one 22 rfl (by kernel_rfl) (fun K hK => ?_)
  go_simp
  refine (f5.out _).mono ?_
  rintro e' wp5 ⟨tx5, rfl, htx, hbp⟩
  have hb5 := hb4.trans (hbp.mono hb4.size)
  have hz5 := Lib.hid htx.size
  rw [putL_length] at hz5
  have ht5 := Lib.hid htx
  clear htx hbp
  have q5 : ¬ 9223372036854775807 < 2 + tx0.size + tx1.size + tx2.size + tx3.size + tx4.size + tx5.size := by have := hz0.out; have := hz1.out; have := hz2.out; have := hz3.out; have := hz4.out; have := hz5.out; omega
  dsimp only
  refine hK.out _ _ (fun _ => hb5) ?_
  clear hK K
  try simp only [Act.put, List.setIfInBounds_toArray, List.set_cons_zero, List.set_cons_succ]
  refine anyL_take 23 (v := ?_) rfl (by kernel_rfl) (fun _ _ _ h => h) (Or.inl ⟨by rfl, ?_⟩) hb5 ?_
  rotate_left
  focus (intro W hW; go_simp; try with_reducible rfl)
  simp only [Act.put, List.setIfInBounds_toArray, List.set_cons_zero, List.set_cons_succ]
  refine anyL_take 24 (v := ?_) rfl (by kernel_rfl) (fun _ _ _ h => h) (Or.inl ⟨by rfl, ?_⟩) hb5 ?_
  rotate_left
  focus (intro W hW; go_simp; try with_reducible rfl)
  simp only [Act.put, List.setIfInBounds_toArray, List.set_cons_zero, List.set_cons_succ]
  refine anyC_done (by kernel_rfl) ?_ _
  simp only [Exit.then]
  have hX6 := hX5H.out.below hb5
  have hB6 : Below w.heap.size w wp5 := by exact hB5H.out.trans (hb5.mono hB5H.out.size)
  obtain ⟨h, hh⟩ : ∃ h : ByteArray, h = ⟨#[67, 66]⟩ ++ tx0 ++ tx1 ++ tx2 ++ tx3 ++ tx4 ++ tx5 := ⟨_, rfl⟩
  rw [← hh]
  have hth : Hid (TextOf h (headL r)) := Lib.hid (by
    rw [hh]
    have h0 : TextOf ⟨#[67, 66]⟩ [67, 66] := rfl
    exact (((((h0.append ht0.out).append ht1.out).append ht2.out).append ht3.out).append ht4.out).append ht5.out)
  clear hh ht0 ht1 ht2 ht3 ht4 ht5 hfacts hX5H hB5H hlt5 hS5 hb5 hb4 hb3 hb2 hb1 hb0 q0 q1 q2 q3 q4 q5 f0 f1 f2 f3 f4 f5
  clear hz0 hz1 hz2 hz3 hz4 hz5
  have hhs := Lib.hid (show h.size = 21 by rw [hth.out.size, headL_len])
  have q1 : ¬ 9223372036854775807 < h.size + r.body.size := by have := hhs.out; have := hbs.out; omega
  have hsum := Lib.hid (fun W => ref_any (h ++ r.body) W (by unfold maxLen; rw [ByteArray.size_append]; have := hhs.out; have := hbs.out; omega))
  have hlt := (sumW (headL r ++ r.body.data.toList)).isLt
  have hhd : (h ++ r.body).data.toList = headL r ++ r.body.data.toList := by
    have h1 : TextOf r.body r.body.data.toList := rfl
    exact hth.out.append h1
  rw [hhd] at hsum
  clear hhd
  have hput := Lib.hid (fun W => refput_field ((sumW (headL r ++ r.body.data.toList)).toNat : Int) 4 4294967295 (by omega) (by omega) (by omega) (by decide) (by decide) W)
  rw [Int.toNat_natCast] at hput
  have hcs : putL (sumW (headL r ++ r.body.data.toList)).toNat 4 = sumB (headL r ++ r.body.data.toList) := rfl
  rw [hcs] at hput
  unfold sumI at hsum
  clear hcs
  generalize (sumW (headL r ++ r.body.data.toList)).toNat = n at hsum hput hlt
  have hX7 := hX6.c6
  go_wp2_with (first | (go_at_call 30; refine (hsum.out _).mono ?_; rintro e w7 ⟨rfl, rfl⟩) | (go_at_call 29; refine (hput.out _).mono ?_; rintro e w8 ⟨ct, rfl, hct, hb8⟩; have hctH := Lib.hid hct; have hcz := Lib.hid hct.size; rw [sumB_len] at hcz; clear hct; have q2 : ¬ 9223372036854775807 < h.size + ct.size := by (have := hhs.out; have := hcz.out; omega)))
  have hX8 := hX6.below hb8
  have hB8 := hB6.trans (hb8.mono hB6.size)
  have hth2 : Hid (TextOf (h ++ ct) (headL r ++ sumB (headL r ++ r.body.data.toList) ++ List.replicate 0 0)) := Lib.hid (by rw [List.replicate_zero, List.append_nil]; exact hth.out.append hctH.out)
  have hle : Hid ((headL r ++ sumB (headL r ++ r.body.data.toList)).length = 25) := Lib.hid (by rw [List.length_append, headL_len, sumB_len])
  clear hX6 hB6 hX7 hb8 hput hsum hlt q1 q2 hth hhs hctH hcz
  go_loopw [3] (fun st wr => ∃ (k : Nat) (t : ByteArray), k ≤ 39 ∧ st = .string t ∧ Hid (TextOf t (headL r ++ sumB (headL r ++ r.body.data.toList) ++ List.replicate k 0)) ∧ RcAt wr X r ∧ Below w.heap.size w wr) (fun st _ => 64 - szOf st)
  case atStart => exact ⟨0, _, by omega, rfl, hth2, hX8, hB8⟩
  case round =>
    clear hX8 hB8 hth2
    obtain ⟨k, t, hk, rfl, htt, hX, hB⟩ := hrel
    have hts := Lib.hid htt.out.size
    rw [List.length_append, hle.out, List.length_replicate] at hts
    have hXH := Lib.hid hX
    have hX6 := hX.c6
    clear hX
    by_cases h39 : k < 39
    · have h64 : (t.size : Int) < 64 := by have := hts.out; omega
      have hq : ¬ 9223372036854775807 < t.size + 1 := by omega
      have hnx : Hid (TextOf (t ++ ⟨#[0]⟩) (headL r ++ sumB (headL r ++ r.body.data.toList) ++ List.replicate (k + 1) 0)) := Lib.hid (by
        have h0 : TextOf ⟨#[0]⟩ [0] := rfl
        rw [List.replicate_succ', ← List.append_assoc]
        exact htt.out.append h0)
      have hms := Lib.hid (show 64 - (t ++ ⟨#[0]⟩).size < 64 - t.size by rw [ByteArray.size_append]; show 64 - (t.size + 1) < _; omega)
      go_wp2_with fail
      go_roundw
      case rel => exact ⟨k + 1, _, by omega, rfl, hnx, hXH.out, hB⟩
      case measure => exact hms.out
    · have h64 : ¬ (t.size : Int) < 64 := by have := hts.out; omega
      have hq : ¬ 9223372036854775807 < t.size + r.body.size := by have := hts.out; have := hbs.out; omega
      have hfin : t ++ r.body = ⟨(encL r).toArray⟩ := by
        have h1 : TextOf r.body r.body.data.toList := rfl
        have h2 := htt.out.append h1
        rw [show k = 39 by omega] at h2
        exact h2.eq
      have hfinH := Lib.hid hfin
      clear hfin
      go_wp2_with fail
      go_ret
      exact ⟨by rw [← hfinH.out]; rfl, hB⟩
end Go.Proofs.YtlignckncgceaabDoor
