/- What the record's checksum and Encode do. -/
import Derived.Test.YtlignckncgceaabDoorRecWalks
import Derived.Test.YtlignckncgceaabDoorXorZero
import Derived.Test.YtlignckncgceaabDoorHeldTail
import Derived.Test.YtlignckncgceaabDoorModIn
namespace Go.Proofs.YtlignckncgceaabDoor
open Go.RowKit Rec Crc Num

/-- A text whose bytes are known. -/
def TextOf (s : ByteArray) (l : List UInt8) : Prop := s.data.toList = l
theorem TextOf.size {s : ByteArray} {l : List UInt8} (h : TextOf s l) : s.size = l.length := by rw [← h]; exact Array.length_toList.symm
theorem TextOf.eq {s : ByteArray} {l : List UInt8} (h : TextOf s l) : s = ⟨l.toArray⟩ := by rw [← h]
theorem TextOf.mk (l : List UInt8) : TextOf ⟨l.toArray⟩ l := rfl
theorem TextOf.append {s t : ByteArray} {l m : List UInt8} (h : TextOf s l) (k : TextOf t m) : TextOf (s ++ t) (l ++ m) := by
  unfold TextOf at *
  rw [← h, ← k]; simp

set_option maxHeartbeats 1000000 in
theorem checksum_any (h b : ByteArray) (w : World) (hT : Tab w) (hh : h.size ≤ 4096) (hb : b.size ≤ 4096) :
    Calls Tryd.prog 27 #[.string h, .string b] w fun e w' => e = .returned (.string ⟨(sumB (h.data.toList ++ b.data.toList)).toArray⟩) ∧ Below w.heap.size w w' := by
  have hBa : Below w.heap.size w (w.alloc (.cells #[.string h, .string b] 9)) := (Below.refl _ _).alloc (Nat.le_refl _) _
  have hs := sum_any [h, b] w.heap.size 0 2 (w.alloc (.cells #[.string h, .string b] 9)) (hT.below hBa) (by simp) (by
    intro s hs
    simp only [List.mem_cons, List.not_mem_nil, or_false] at hs
    unfold maxLen
    rcases hs with rfl | rfl <;> omega) (by
    intro i hi
    match i, hi with
    | 0, _ => go_simp
    | 1, _ => go_simp)
  have e1 : flat [h, b] = h.data.toList ++ b.data.toList := by simp [flat]
  rw [e1] at hs
  have hsH := Lib.hid hs
  have hlt := (sumW (h.data.toList ++ b.data.toList)).isLt
  have hput := Lib.hid (fun W => put_ok (sumW (h.data.toList ++ b.data.toList)).toNat 4 W (by omega) (by omega) (by omega))
  unfold sumB
  unfold sumI at hsH
  generalize (sumW (h.data.toList ++ b.data.toList)).toNat = n at hsH hput hlt
  clear hs e1
  go_enter Tryd.func27, Tryd.ntmps27
  go_wp2_with (first | (go_at_call 42; refine hsH.out.mono ?_; rintro e w1 ⟨rfl, rfl⟩) | (go_at_call 25; refine (hput.out _).mono ?_; rintro e w2 ⟨rfl, hb2⟩))
  go_ret
  exact ⟨rfl, hBa.trans (hb2.mono (by simp))⟩

/-- The first bytes of a record's block. -/
def headTo (r : Rc) : Nat → List UInt8
  | 0 => [67, 66]
  | 1 => [67, 66] ++ putL r.k.toNat 1
  | 2 => [67, 66] ++ putL r.k.toNat 1 ++ putL r.s.toNat 6
  | 3 => [67, 66] ++ putL r.k.toNat 1 ++ putL r.s.toNat 6 ++ putL r.a.toNat 2
  | 4 => [67, 66] ++ putL r.k.toNat 1 ++ putL r.s.toNat 6 ++ putL r.a.toNat 2 ++ putL r.b.toNat 2
  | 5 => [67, 66] ++ putL r.k.toNat 1 ++ putL r.s.toNat 6 ++ putL r.a.toNat 2 ++ putL r.b.toNat 2 ++ putL r.c.toNat 6
  | 6 => [67, 66] ++ putL r.k.toNat 1 ++ putL r.s.toNat 6 ++ putL r.a.toNat 2 ++ putL r.b.toNat 2 ++ putL r.c.toNat 6 ++ putL r.d.toNat 2
  | _ => []
theorem headTo_all (r : Rc) : headTo r 6 = headL r := rfl
theorem put_field (v : Int) (k : Nat) (M : Int) (hv : 0 ≤ v ∧ v ≤ M) (h1 : 1 ≤ k) (h7 : k ≤ 7) (hM : M < ((256 ^ k : Nat) : Int)) (W : World) :
    Calls Tryd.prog 25 #[.int .i64 v, .int .i64 (k : Int)] W fun e w' => ∃ t, e = .returned (.string t) ∧ TextOf t (putL v.toNat k) ∧ Below W.heap.size W w' := by
  have h := put_ok v.toNat k W h1 h7 (by omega)
  rw [Int.toNat_of_nonneg hv.1] at h
  exact h.mono fun e w' ⟨h1, h2⟩ => ⟨_, h1, rfl, h2⟩

set_option maxRecDepth 100000 in
set_option maxHeartbeats 4000000 in
theorem encode_bad (r : Rc) (w : World) (hg : ¬ Rec.Good r) :
    Calls Tryd.prog 11 #[.agg #[.int .i64 r.k, .int .i64 r.s, .int .i64 r.a, .int .i64 r.b, .int .i64 r.c, .int .i64 r.d, .string r.body]] w fun e w' => e = .returned (.tuple #[.string ⟨#[]⟩, .int .i64 1]) ∧ Below w.heap.size w w' := by
  have hpos := Lib.hid (fun W => possible_any' r W)
  have hX := RcAt.new w r 29
  have hB1 : Below w.heap.size w (w.alloc (.cells #[.int .i64 r.k, .int .i64 r.s, .int .i64 r.a, .int .i64 r.b, .int .i64 r.c, .int .i64 r.d, .string r.body] 29)) := (Below.refl _ _).alloc (Nat.le_refl _) _
  have hXH := Lib.hid hX
  have hBH := Lib.hid hB1
  clear hX hB1
  cases hq : numOk r with
  | false =>
    rw [hq] at hpos
    clear hq hg
    go_enter Tryd.func11, Tryd.ntmps11
    go_wp2_with fail
    refine fresh_world (fun W => RcAt W w.heap.size r ∧ Below w.heap.size w W) ⟨hXH.out, hBH.out⟩ ?_
    rintro W5 ⟨hX5, hB5⟩
    have hfacts := Lib.hid (fun W (hW : Below W5.heap.size W5 W) => hX5.below hW)
    have hB5H := Lib.hid hB5
    have hlt5 := hX5.lt
    clear hX5 hXH hBH hB5
    generalize hXe : w.heap.size = X at hfacts hlt5
    have hXeH := Lib.hid hXe
    clear hXe
    refine region_anyC (fun _ => true) (fun W => Below W5.heap.size W5 W) (by kernel_rfl) ?_
    have hS5 : Below W5.heap.size W5 W5.drew := (Below.refl _ _).drew
    refine anyL_take 0 (v := ?_) rfl (by kernel_rfl) (fun _ _ _ h => h) (Or.inl ⟨by rfl, ?_⟩) hS5 ?_
    rotate_left
    focus (intro W hW; obtain ⟨k0, k1, k2, k3, k4, k5, k6⟩ := hfacts.out W hW; go_simp; try with_reducible rfl)
    simp only [Act.put, List.setIfInBounds_toArray, List.set_cons_zero, List.set_cons_succ]
    refine anyL_one 1 rfl (by kernel_rfl) (fun K hK => ?_)
    go_simp
    refine (hpos.out _).mono ?_
    rintro e' w6 ⟨rfl, hb6⟩
    have hb2 := hS5.trans (hb6.mono (by simp))
    dsimp only
    refine hK.out _ _ (fun _ => hb2) ?_
    clear hK K
    try simp only [Act.put, List.setIfInBounds_toArray, List.set_cons_zero, List.set_cons_succ]
    refine anyL_take 2 (v := ?_) rfl (by kernel_rfl) (fun _ _ _ h => h) (Or.inl ⟨by rfl, ?_⟩) hb2 ?_
    rotate_left
    focus (intro W hW; go_simp; try with_reducible rfl)
    simp only [Act.put, List.setIfInBounds_toArray, List.set_cons_zero, List.set_cons_succ]
    refine anyL_take 3 (v := ?_) rfl (by kernel_rfl) (fun _ _ _ h => h) (Or.inl ⟨by rfl, ?_⟩) hb2 ?_
    rotate_left
    focus (intro W hW; go_simp; try with_reducible rfl)
    simp only [Act.put, List.setIfInBounds_toArray, List.set_cons_zero, List.set_cons_succ]
    refine anyL_take 4 (v := undef) rfl (by kernel_rfl) (fun _ _ _ h => h) (Or.inr ⟨by rfl, rfl⟩) hb2 ?_
    simp only [Act.put, List.setIfInBounds_toArray, List.set_cons_zero, List.set_cons_succ]
    refine anyL_take 5 (v := undef) rfl (by kernel_rfl) (fun _ _ _ h => h) (Or.inr ⟨by rfl, rfl⟩) hb2 ?_
    simp only [Act.put, List.setIfInBounds_toArray, List.set_cons_zero, List.set_cons_succ]
    refine anyL_take 6 (v := undef) rfl (by kernel_rfl) (fun _ _ _ h => h) (Or.inr ⟨by rfl, rfl⟩) hb2 ?_
    simp only [Act.put, List.setIfInBounds_toArray, List.set_cons_zero, List.set_cons_succ]
    refine anyL_take 7 (v := undef) rfl (by kernel_rfl) (fun _ _ _ h => h) (Or.inr ⟨by rfl, rfl⟩) hb2 ?_
    simp only [Act.put, List.setIfInBounds_toArray, List.set_cons_zero, List.set_cons_succ]
    refine anyL_take 8 (v := undef) rfl (by kernel_rfl) (fun _ _ _ h => h) (Or.inr ⟨by rfl, rfl⟩) hb2 ?_
    simp only [Act.put, List.setIfInBounds_toArray, List.set_cons_zero, List.set_cons_succ]
    refine anyL_take 9 (v := undef) rfl (by kernel_rfl) (fun _ _ _ h => h) (Or.inr ⟨by rfl, rfl⟩) hb2 ?_
    simp only [Act.put, List.setIfInBounds_toArray, List.set_cons_zero, List.set_cons_succ]
    refine anyL_take 10 (v := undef) rfl (by kernel_rfl) (fun _ _ _ h => h) (Or.inr ⟨by rfl, rfl⟩) hb2 ?_
    simp only [Act.put, List.setIfInBounds_toArray, List.set_cons_zero, List.set_cons_succ]
    refine anyL_take 11 (v := undef) rfl (by kernel_rfl) (fun _ _ _ h => h) (Or.inr ⟨by rfl, rfl⟩) hb2 ?_
    simp only [Act.put, List.setIfInBounds_toArray, List.set_cons_zero, List.set_cons_succ]
    refine anyL_take 12 (v := undef) rfl (by kernel_rfl) (fun _ _ _ h => h) (Or.inr ⟨by rfl, rfl⟩) hb2 ?_
    simp only [Act.put, List.setIfInBounds_toArray, List.set_cons_zero, List.set_cons_succ]
    refine anyL_take 13 (v := ?_) rfl (by kernel_rfl) (fun _ _ _ h => h) (Or.inl ⟨by rfl, ?_⟩) hb2 ?_
    rotate_left
    focus (intro W hW; go_simp; try with_reducible rfl)
    simp only [Act.put, List.setIfInBounds_toArray, List.set_cons_zero, List.set_cons_succ]
    refine anyC_done (by kernel_rfl) ?_ _
    go_wp2_with fail
    go_ret2
    exact ⟨rfl, hB5H.out.trans (hb2.mono hB5H.out.size)⟩
  | true =>
    have hsz : ¬ r.body.size = (nBlocks r.k - 1) * 64 := fun h => hg ⟨numOk_iff.1 hq, h⟩
    have hnb := nBlocks_pos (numOk_iff.1 hq)
    rw [hq] at hpos
    have hbl := Lib.hid (fun W => blocks_any r.k W)
    generalize nBlocks r.k = nb at hbl hsz hnb
    have hne : ((r.body.size : Int) != IntKind.i64.wrap (IntKind.i64.wrap ((nb : Int) - 1) * 64)) = true := by
      rw [wrap_in (show -9223372036854775808 ≤ (nb : Int) - 1 ∧ (nb : Int) - 1 ≤ 9223372036854775807 by omega), wrap_in (by omega)]
      simp; omega
    clear hq hg hsz
    go_enter Tryd.func11, Tryd.ntmps11
    go_wp2_with fail
    refine fresh_world (fun W => RcAt W w.heap.size r ∧ Below w.heap.size w W) ⟨hXH.out, hBH.out⟩ ?_
    rintro W5 ⟨hX5, hB5⟩
    have hfacts := Lib.hid (fun W (hW : Below W5.heap.size W5 W) => hX5.below hW)
    have hB5H := Lib.hid hB5
    have hlt5 := hX5.lt
    clear hX5 hXH hBH hB5
    generalize hXe : w.heap.size = X at hfacts hlt5
    have hXeH := Lib.hid hXe
    clear hXe
    refine region_anyC (fun _ => true) (fun W => Below W5.heap.size W5 W) (by kernel_rfl) ?_
    have hS5 : Below W5.heap.size W5 W5.drew := (Below.refl _ _).drew
    refine anyL_take 0 (v := ?_) rfl (by kernel_rfl) (fun _ _ _ h => h) (Or.inl ⟨by rfl, ?_⟩) hS5 ?_
    rotate_left
    focus (intro W hW; obtain ⟨k0, k1, k2, k3, k4, k5, k6⟩ := hfacts.out W hW; go_simp; try with_reducible rfl)
    simp only [Act.put, List.setIfInBounds_toArray, List.set_cons_zero, List.set_cons_succ]
    refine anyL_one 1 rfl (by kernel_rfl) (fun K hK => ?_)
    go_simp
    refine (hpos.out _).mono ?_
    rintro e' w6 ⟨rfl, hb6⟩
    have hb2 := hS5.trans (hb6.mono (by simp))
    dsimp only
    refine hK.out _ _ (fun _ => hb2) ?_
    clear hK K
    try simp only [Act.put, List.setIfInBounds_toArray, List.set_cons_zero, List.set_cons_succ]
    refine anyL_take 2 (v := ?_) rfl (by kernel_rfl) (fun _ _ _ h => h) (Or.inl ⟨by rfl, ?_⟩) hb2 ?_
    rotate_left
    focus (intro W hW; go_simp; try with_reducible rfl)
    simp only [Act.put, List.setIfInBounds_toArray, List.set_cons_zero, List.set_cons_succ]
    refine anyL_take 3 (v := ?_) rfl (by kernel_rfl) (fun _ _ _ h => h) (Or.inl ⟨by rfl, ?_⟩) hb2 ?_
    rotate_left
    focus (intro W hW; go_simp; try with_reducible rfl)
    simp only [Act.put, List.setIfInBounds_toArray, List.set_cons_zero, List.set_cons_succ]
    refine anyL_take 4 (v := ?_) rfl (by kernel_rfl) (fun _ _ _ h => h) (Or.inl ⟨by rfl, ?_⟩) hb2 ?_
    rotate_left
    focus (intro W hW; go_simp; try with_reducible rfl)
    simp only [Act.put, List.setIfInBounds_toArray, List.set_cons_zero, List.set_cons_succ]
    refine anyL_take 5 (v := ?_) rfl (by kernel_rfl) (fun _ _ _ h => h) (Or.inl ⟨by rfl, ?_⟩) hb2 ?_
    rotate_left
    focus (intro W hW; obtain ⟨k0, k1, k2, k3, k4, k5, k6⟩ := hfacts.out W hW; go_simp; try with_reducible rfl)
    simp only [Act.put, List.setIfInBounds_toArray, List.set_cons_zero, List.set_cons_succ]
    refine anyL_take 6 (v := ?_) rfl (by kernel_rfl) (fun _ _ _ h => h) (Or.inl ⟨by rfl, ?_⟩) hb2 ?_
    rotate_left
    focus (intro W hW; go_simp; try with_reducible rfl)
    simp only [Act.put, List.setIfInBounds_toArray, List.set_cons_zero, List.set_cons_succ]
    refine anyL_take 7 (v := ?_) rfl (by kernel_rfl) (fun _ _ _ h => h) (Or.inl ⟨by rfl, ?_⟩) hb2 ?_
    rotate_left
    focus (intro W hW; go_simp; try with_reducible rfl)
    simp only [Act.put, List.setIfInBounds_toArray, List.set_cons_zero, List.set_cons_succ]
    refine anyL_take 8 (v := ?_) rfl (by kernel_rfl) (fun _ _ _ h => h) (Or.inl ⟨by rfl, ?_⟩) hb2 ?_
    rotate_left
    focus (intro W hW; obtain ⟨k0, k1, k2, k3, k4, k5, k6⟩ := hfacts.out W hW; go_simp; try with_reducible rfl)
    simp only [Act.put, List.setIfInBounds_toArray, List.set_cons_zero, List.set_cons_succ]
    refine anyL_one 9 rfl (by kernel_rfl) (fun K hK => ?_)
    go_simp
    refine (hbl.out _).mono ?_
    rintro e' w7 ⟨rfl, rfl⟩
    dsimp only
    refine hK.out _ _ (fun _ => hb2) ?_
    clear hK K
    try simp only [Act.put, List.setIfInBounds_toArray, List.set_cons_zero, List.set_cons_succ]
    refine anyL_take 10 (v := ?_) rfl (by kernel_rfl) (fun _ _ _ h => h) (Or.inl ⟨by rfl, ?_⟩) hb2 ?_
    rotate_left
    focus (intro W hW; go_simp; try with_reducible rfl)
    simp only [Act.put, List.setIfInBounds_toArray, List.set_cons_zero, List.set_cons_succ]
    refine anyL_take 11 (v := ?_) rfl (by kernel_rfl) (fun _ _ _ h => h) (Or.inl ⟨by rfl, ?_⟩) hb2 ?_
    rotate_left
    focus (intro W hW; go_simp; try with_reducible rfl)
    simp only [Act.put, List.setIfInBounds_toArray, List.set_cons_zero, List.set_cons_succ]
    refine anyL_take 12 (v := ?_) rfl (by kernel_rfl) (fun _ _ _ h => h) (Or.inl ⟨by rfl, ?_⟩) hb2 ?_
    rotate_left
    focus (intro W hW; go_simp; try with_reducible rfl)
    simp only [Act.put, List.setIfInBounds_toArray, List.set_cons_zero, List.set_cons_succ]
    refine anyL_take 13 (v := ?_) rfl (by kernel_rfl) (fun _ _ _ h => h) (Or.inl ⟨by rfl, ?_⟩) hb2 ?_
    rotate_left
    focus (intro W hW; go_simp; try with_reducible rfl)
    simp only [Act.put, List.setIfInBounds_toArray, List.set_cons_zero, List.set_cons_succ]
    refine anyC_done (by kernel_rfl) ?_ _
    go_wp2_with fail
    go_ret2
    exact ⟨rfl, hB5H.out.trans (hb2.mono hB5H.out.size)⟩
end Go.Proofs.YtlignckncgceaabDoor
