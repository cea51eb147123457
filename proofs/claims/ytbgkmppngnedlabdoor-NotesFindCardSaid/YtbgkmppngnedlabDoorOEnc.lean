/- What Encode of a record does. -/
import Derived.Test.YtbgkmppngnedlabDoorORec
import Derived.Test.YtbgkmppngnedlabDoorOXor
import Derived.Test.YtbgkmppngnedlabDoorOBase
namespace Go.Proofs.YtbgkmppngnedlabDoor
open Go.RowKit Rec Crc Num
/-- A text whose bytes are known. -/
def TextOf (s : ByteArray) (l : List UInt8) : Prop := s.data.toList = l
theorem TextOf.size {s : ByteArray} {l : List UInt8} (h : TextOf s l) : s.size = l.length := by rw [← h]; exact Array.length_toList.symm
theorem TextOf.eq {s : ByteArray} {l : List UInt8} (h : TextOf s l) : s = ⟨l.toArray⟩ := by rw [← h]
theorem TextOf.mk (l : List UInt8) : TextOf ⟨l.toArray⟩ l := rfl
theorem TextOf.append {s t : ByteArray} {l m : List UInt8} (h : TextOf s l) (k : TextOf t m) : TextOf (s ++ t) (l ++ m) := by
  unfold TextOf at *
  rw [← h, ← k]; simp
set_option maxHeartbeats 1000000 in
theorem checksum_any (h b : ByteArray) (w : World) (hT : Tab w) (hh : h.size ≤ 4096) (hb : b.size ≤ 4096) :
    Calls Tryd.prog 28 #[.string h, .string b] w fun e w' => e = .returned (.string ⟨(sumB (h.data.toList ++ b.data.toList)).toArray⟩) ∧ Below w.heap.size w w' := by
  have hBa : Below w.heap.size w (w.alloc (.cells #[.string h, .string b] 9)) := (Below.refl _ _).alloc (Nat.le_refl _) _
  have hs := sum_any [h, b] w.heap.size 0 2 (w.alloc (.cells #[.string h, .string b] 9)) (hT.below hBa) (by simp) (by
    intro s hs
    simp only [List.mem_cons, List.not_mem_nil, or_false] at hs
    unfold maxLen
    rcases hs with rfl | rfl <;> omega) (by
    intro i hi
    match i, hi with
    | 0, _ => go_simp
    | 1, _ => go_simp)
  have e1 : flat [h, b] = h.data.toList ++ b.data.toList := by simp [flat]
  rw [e1] at hs
  have hsH := Lib.hid hs
  have hlt := (sumW (h.data.toList ++ b.data.toList)).isLt
  have hput := Lib.hid (fun W => put_ok (sumW (h.data.toList ++ b.data.toList)).toNat 4 W (by omega) (by omega) (by omega))
  unfold sumB
  unfold sumI at hsH
  generalize (sumW (h.data.toList ++ b.data.toList)).toNat = n at hsH hput hlt
  clear hs e1
  go_enter Tryd.func28, Tryd.ntmps28
  go_wp2_with (first | (go_at_call 38; refine hsH.out.mono ?_; rintro e w1 ⟨rfl, rfl⟩) | (go_at_call 26; refine (hput.out _).mono ?_; rintro e w2 ⟨rfl, hb2⟩))
  go_ret
  exact ⟨rfl, hBa.trans (hb2.mono (by simp))⟩
/-- The first bytes of a record's block. -/
def headTo (r : Rc) : Nat → List UInt8
  | 0 => [67, 66]
  | 1 => [67, 66] ++ putL r.k.toNat 1
  | 2 => [67, 66] ++ putL r.k.toNat 1 ++ putL r.s.toNat 6
  | 3 => [67, 66] ++ putL r.k.toNat 1 ++ putL r.s.toNat 6 ++ putL r.a.toNat 2
  | 4 => [67, 66] ++ putL r.k.toNat 1 ++ putL r.s.toNat 6 ++ putL r.a.toNat 2 ++ putL r.b.toNat 2
  | 5 => [67, 66] ++ putL r.k.toNat 1 ++ putL r.s.toNat 6 ++ putL r.a.toNat 2 ++ putL r.b.toNat 2 ++ putL r.c.toNat 6
  | 6 => [67, 66] ++ putL r.k.toNat 1 ++ putL r.s.toNat 6 ++ putL r.a.toNat 2 ++ putL r.b.toNat 2 ++ putL r.c.toNat 6 ++ putL r.d.toNat 2
  | _ => []
theorem headTo_all (r : Rc) : headTo r 6 = headL r := rfl
theorem put_field (v : Int) (k : Nat) (M : Int) (hv : 0 ≤ v ∧ v ≤ M) (h1 : 1 ≤ k) (h7 : k ≤ 7) (hM : M < ((256 ^ k : Nat) : Int)) (W : World) :
    Calls Tryd.prog 26 #[.int .i64 v, .int .i64 (k : Int)] W fun e w' => ∃ t, e = .returned (.string t) ∧ TextOf t (putL v.toNat k) ∧ Below W.heap.size W w' := by
  have h := put_ok v.toNat k W h1 h7 (by omega)
  rw [Int.toNat_of_nonneg hv.1] at h
  exact h.mono fun e w' ⟨h1, h2⟩ => ⟨_, h1, rfl, h2⟩
set_option maxRecDepth 100000 in
set_option maxHeartbeats 4000000 in
theorem encode_bad (r : Rc) (w : World) (hg : ¬ Rec.Good r) :
    Calls Tryd.prog 18 #[.agg #[.int .i64 r.k, .int .i64 r.s, .int .i64 r.a, .int .i64 r.b, .int .i64 r.c, .int .i64 r.d, .string r.body]] w fun e w' => e = .returned (.tuple #[.string ⟨#[]⟩, .int .i64 1]) ∧ Below w.heap.size w w' := by
  have hpos := Lib.hid (fun W => possible_any' r W)
  have hX := RcAt.new w r 29
  have hB1 : Below w.heap.size w (w.alloc (.cells #[.int .i64 r.k, .int .i64 r.s, .int .i64 r.a, .int .i64 r.b, .int .i64 r.c, .int .i64 r.d, .string r.body] 29)) := (Below.refl _ _).alloc (Nat.le_refl _) _
  have hXH := Lib.hid hX
  have hBH := Lib.hid hB1
  clear hX hB1
  cases hq : numOk r with
  | false =>
    rw [hq] at hpos
    clear hq hg
    go_enter Tryd.func18, Tryd.ntmps18
    go_wp2_with fail
    refine fresh_world (fun W => RcAt W w.heap.size r ∧ Below w.heap.size w W) ⟨hXH.out, hBH.out⟩ ?_
    rintro W5 ⟨hX5, hB5⟩
    have hfacts := Lib.hid (fun W (hW : Below W5.heap.size W5 W) => hX5.below hW)
    have hB5H := Lib.hid hB5
    have hlt5 := hX5.lt
    clear hX5 hXH hBH hB5
    generalize hXe : w.heap.size = X at hfacts hlt5
    have hXeH := Lib.hid hXe
    clear hXe
    refine region_anyC (fun _ => true) (fun W => Below W5.heap.size W5 W) (by kernel_rfl) ?_
    have hS5 : Below W5.heap.size W5 W5.drew := (Below.refl _ _).drew
    refine anyL_take 0 (v := ?_) rfl (by kernel_rfl) (fun _ _ _ h => h) (Or.inl ⟨by rfl, ?_⟩) hS5 ?_
    rotate_left
    focus (intro W hW; obtain ⟨k0, k1, k2, k3, k4, k5, k6⟩ := hfacts.out W hW; go_simp; try with_reducible rfl)
    simp only [Act.put, List.setIfInBounds_toArray, List.set_cons_zero, List.set_cons_succ]
    refine anyL_one 1 rfl (by kernel_rfl) (fun K hK => ?_)
    go_simp
    refine (hpos.out _).mono ?_
    rintro e' w6 ⟨rfl, hb6⟩
    have hb2 := hS5.trans (hb6.mono (by simp))
    dsimp only
    refine hK.out _ _ (fun _ => hb2) ?_
    clear hK K
    try simp only [Act.put, List.setIfInBounds_toArray, List.set_cons_zero, List.set_cons_succ]
    refine anyL_take 2 (v := ?_) rfl (by kernel_rfl) (fun _ _ _ h => h) (Or.inl ⟨by rfl, ?_⟩) hb2 ?_
    rotate_left
    focus (intro W hW; go_simp; try with_reducible rfl)
    simp only [Act.put, List.setIfInBounds_toArray, List.set_cons_zero, List.set_cons_succ]
    refine anyL_take 3 (v := ?_) rfl (by kernel_rfl) (fun _ _ _ h => h) (Or.inl ⟨by rfl, ?_⟩) hb2 ?_
    rotate_left
    focus (intro W hW; go_simp; try with_reducible rfl)
    simp only [Act.put, List.setIfInBounds_toArray, List.set_cons_zero, List.set_cons_succ]
    refine anyL_take 4 (v := undef) rfl (by kernel_rfl) (fun _ _ _ h => h) (Or.inr ⟨by rfl, rfl⟩) hb2 ?_
    simp only [Act.put, List.setIfInBounds_toArray, List.set_cons_zero, List.set_cons_succ]
    refine anyL_take 5 (v := undef) rfl (by kernel_rfl) (fun _ _ _ h => h) (Or.inr ⟨by rfl, rfl⟩) hb2 ?_
    simp only [Act.put, List.setIfInBounds_toArray, List.set_cons_zero, List.set_cons_succ]
    refine anyL_take 6 (v := undef) rfl (by kernel_rfl) (fun _ _ _ h => h) (Or.inr ⟨by rfl, rfl⟩) hb2 ?_
    simp only [Act.put, List.setIfInBounds_toArray, List.set_cons_zero, List.set_cons_succ]
    refine anyL_take 7 (v := undef) rfl (by kernel_rfl) (fun _ _ _ h => h) (Or.inr ⟨by rfl, rfl⟩) hb2 ?_
    simp only [Act.put, List.setIfInBounds_toArray, List.set_cons_zero, List.set_cons_succ]
    refine anyL_take 8 (v := undef) rfl (by kernel_rfl) (fun _ _ _ h => h) (Or.inr ⟨by rfl, rfl⟩) hb2 ?_
    simp only [Act.put, List.setIfInBounds_toArray, List.set_cons_zero, List.set_cons_succ]
    refine anyL_take 9 (v := undef) rfl (by kernel_rfl) (fun _ _ _ h => h) (Or.inr ⟨by rfl, rfl⟩) hb2 ?_
    simp only [Act.put, List.setIfInBounds_toArray, List.set_cons_zero, List.set_cons_succ]
    refine anyL_take 10 (v := undef) rfl (by kernel_rfl) (fun _ _ _ h => h) (Or.inr ⟨by rfl, rfl⟩) hb2 ?_
    simp only [Act.put, List.setIfInBounds_toArray, List.set_cons_zero, List.set_cons_succ]
    refine anyL_take 11 (v := undef) rfl (by kernel_rfl) (fun _ _ _ h => h) (Or.inr ⟨by rfl, rfl⟩) hb2 ?_
    simp only [Act.put, List.setIfInBounds_toArray, List.set_cons_zero, List.set_cons_succ]
    refine anyL_take 12 (v := undef) rfl (by kernel_rfl) (fun _ _ _ h => h) (Or.inr ⟨by rfl, rfl⟩) hb2 ?_
    simp only [Act.put, List.setIfInBounds_toArray, List.set_cons_zero, List.set_cons_succ]
    refine anyL_take 13 (v := ?_) rfl (by kernel_rfl) (fun _ _ _ h => h) (Or.inl ⟨by rfl, ?_⟩) hb2 ?_
    rotate_left
    focus (intro W hW; go_simp; try with_reducible rfl)
    simp only [Act.put, List.setIfInBounds_toArray, List.set_cons_zero, List.set_cons_succ]
    refine anyC_done (by kernel_rfl) ?_ _
    go_wp2_with fail
    go_ret2
    exact ⟨rfl, hB5H.out.trans (hb2.mono hB5H.out.size)⟩
  | true =>
    have hsz : ¬ r.body.size = (nBlocks r.k - 1) * 64 := fun h => hg ⟨numOk_iff.1 hq, h⟩
    have hnb := nBlocks_pos (numOk_iff.1 hq)
    rw [hq] at hpos
    have hbl := Lib.hid (fun W => blocks_any r.k W)
    generalize nBlocks r.k = nb at hbl hsz hnb
    have hne : ((r.body.size : Int) != IntKind.i64.wrap (IntKind.i64.wrap ((nb : Int) - 1) * 64)) = true := by
      rw [wrap_in (show -9223372036854775808 ≤ (nb : Int) - 1 ∧ (nb : Int) - 1 ≤ 9223372036854775807 by omega), wrap_in (by omega)]
      simp; omega
    clear hq hg hsz
    go_enter Tryd.func18, Tryd.ntmps18
    go_wp2_with fail
    refine fresh_world (fun W => RcAt W w.heap.size r ∧ Below w.heap.size w W) ⟨hXH.out, hBH.out⟩ ?_
    rintro W5 ⟨hX5, hB5⟩
    have hfacts := Lib.hid (fun W (hW : Below W5.heap.size W5 W) => hX5.below hW)
    have hB5H := Lib.hid hB5
    have hlt5 := hX5.lt
    clear hX5 hXH hBH hB5
    generalize hXe : w.heap.size = X at hfacts hlt5
    have hXeH := Lib.hid hXe
    clear hXe
    refine region_anyC (fun _ => true) (fun W => Below W5.heap.size W5 W) (by kernel_rfl) ?_
    have hS5 : Below W5.heap.size W5 W5.drew := (Below.refl _ _).drew
    refine anyL_take 0 (v := ?_) rfl (by kernel_rfl) (fun _ _ _ h => h) (Or.inl ⟨by rfl, ?_⟩) hS5 ?_
    rotate_left
    focus (intro W hW; obtain ⟨k0, k1, k2, k3, k4, k5, k6⟩ := hfacts.out W hW; go_simp; try with_reducible rfl)
    simp only [Act.put, List.setIfInBounds_toArray, List.set_cons_zero, List.set_cons_succ]
    refine anyL_one 1 rfl (by kernel_rfl) (fun K hK => ?_)
    go_simp
    refine (hpos.out _).mono ?_
    rintro e' w6 ⟨rfl, hb6⟩
    have hb2 := hS5.trans (hb6.mono (by simp))
    dsimp only
    refine hK.out _ _ (fun _ => hb2) ?_
    clear hK K
    try simp only [Act.put, List.setIfInBounds_toArray, List.set_cons_zero, List.set_cons_succ]
    refine anyL_take 2 (v := ?_) rfl (by kernel_rfl) (fun _ _ _ h => h) (Or.inl ⟨by rfl, ?_⟩) hb2 ?_
    rotate_left
    focus (intro W hW; go_simp; try with_reducible rfl)
    simp only [Act.put, List.setIfInBounds_toArray, List.set_cons_zero, List.set_cons_succ]
    refine anyL_take 3 (v := ?_) rfl (by kernel_rfl) (fun _ _ _ h => h) (Or.inl ⟨by rfl, ?_⟩) hb2 ?_
    rotate_left
    focus (intro W hW; go_simp; try with_reducible rfl)
    simp only [Act.put, List.setIfInBounds_toArray, List.set_cons_zero, List.set_cons_succ]
    refine anyL_take 4 (v := ?_) rfl (by kernel_rfl) (fun _ _ _ h => h) (Or.inl ⟨by rfl, ?_⟩) hb2 ?_
    rotate_left
    focus (intro W hW; go_simp; try with_reducible rfl)
    simp only [Act.put, List.setIfInBounds_toArray, List.set_cons_zero, List.set_cons_succ]
    refine anyL_take 5 (v := ?_) rfl (by kernel_rfl) (fun _ _ _ h => h) (Or.inl ⟨by rfl, ?_⟩) hb2 ?_
    rotate_left
    focus (intro W hW; obtain ⟨k0, k1, k2, k3, k4, k5, k6⟩ := hfacts.out W hW; go_simp; try with_reducible rfl)
    simp only [Act.put, List.setIfInBounds_toArray, List.set_cons_zero, List.set_cons_succ]
    refine anyL_take 6 (v := ?_) rfl (by kernel_rfl) (fun _ _ _ h => h) (Or.inl ⟨by rfl, ?_⟩) hb2 ?_
    rotate_left
    focus (intro W hW; go_simp; try with_reducible rfl)
    simp only [Act.put, List.setIfInBounds_toArray, List.set_cons_zero, List.set_cons_succ]
    refine anyL_take 7 (v := ?_) rfl (by kernel_rfl) (fun _ _ _ h => h) (Or.inl ⟨by rfl, ?_⟩) hb2 ?_
    rotate_left
    focus (intro W hW; go_simp; try with_reducible rfl)
    simp only [Act.put, List.setIfInBounds_toArray, List.set_cons_zero, List.set_cons_succ]
    refine anyL_take 8 (v := ?_) rfl (by kernel_rfl) (fun _ _ _ h => h) (Or.inl ⟨by rfl, ?_⟩) hb2 ?_
    rotate_left
    focus (intro W hW; obtain ⟨k0, k1, k2, k3, k4, k5, k6⟩ := hfacts.out W hW; go_simp; try with_reducible rfl)
    simp only [Act.put, List.setIfInBounds_toArray, List.set_cons_zero, List.set_cons_succ]
    refine anyL_one 9 rfl (by kernel_rfl) (fun K hK => ?_)
    go_simp
    refine (hbl.out _).mono ?_
    rintro e' w7 ⟨rfl, rfl⟩
    dsimp only
    refine hK.out _ _ (fun _ => hb2) ?_
    clear hK K
    try simp only [Act.put, List.setIfInBounds_toArray, List.set_cons_zero, List.set_cons_succ]
    refine anyL_take 10 (v := ?_) rfl (by kernel_rfl) (fun _ _ _ h => h) (Or.inl ⟨by rfl, ?_⟩) hb2 ?_
    rotate_left
    focus (intro W hW; go_simp; try with_reducible rfl)
    simp only [Act.put, List.setIfInBounds_toArray, List.set_cons_zero, List.set_cons_succ]
    refine anyL_take 11 (v := ?_) rfl (by kernel_rfl) (fun _ _ _ h => h) (Or.inl ⟨by rfl, ?_⟩) hb2 ?_
    rotate_left
    focus (intro W hW; go_simp; try with_reducible rfl)
    simp only [Act.put, List.setIfInBounds_toArray, List.set_cons_zero, List.set_cons_succ]
    refine anyL_take 12 (v := ?_) rfl (by kernel_rfl) (fun _ _ _ h => h) (Or.inl ⟨by rfl, ?_⟩) hb2 ?_
    rotate_left
    focus (intro W hW; go_simp; try with_reducible rfl)
    simp only [Act.put, List.setIfInBounds_toArray, List.set_cons_zero, List.set_cons_succ]
    refine anyL_take 13 (v := ?_) rfl (by kernel_rfl) (fun _ _ _ h => h) (Or.inl ⟨by rfl, ?_⟩) hb2 ?_
    rotate_left
    focus (intro W hW; go_simp; try with_reducible rfl)
    simp only [Act.put, List.setIfInBounds_toArray, List.set_cons_zero, List.set_cons_succ]
    refine anyC_done (by kernel_rfl) ?_ _
    go_wp2_with fail
    go_ret2
    exact ⟨rfl, hB5H.out.trans (hb2.mono hB5H.out.size)⟩
end Go.Proofs.YtbgkmppngnedlabDoor
namespace Go.Proofs.YtbgkmppngnedlabDoor
open Go.RowKit Rec Crc Num
theorem headTo_size (r : Rc) : ∀ k, k ≤ 6 → (headTo r k).length ≤ 21 := fun k hk => by
  rcases (by omega : k = 0 ∨ k = 1 ∨ k = 2 ∨ k = 3 ∨ k = 4 ∨ k = 5 ∨ k = 6) with rfl | rfl | rfl | rfl | rfl | rfl | rfl <;> simp [headTo, putL_length]
theorem noughts_39 : zeroS 39 = ⟨(List.replicate 39 0).toArray⟩ := by decide +kernel
set_option maxRecDepth 100000 in
set_option maxHeartbeats 8000000 in
theorem encode_good (r : Rc) (w : World) (hg : Rec.Good r) (hT : Tab w) :
    Calls Tryd.prog 18 #[.agg #[.int .i64 r.k, .int .i64 r.s, .int .i64 r.a, .int .i64 r.b, .int .i64 r.c, .int .i64 r.d, .string r.body]] w fun e w' => e = .returned (.tuple #[.string ⟨(encL r).toArray⟩, .int .i64 0]) ∧ Below w.heap.size w w' := by
  have hpos := fun W => possible_any' r W
  rw [numOk_iff.2 hg.1] at hpos
  have hposH := Lib.hid hpos
  clear hpos
  have hX := RcAt.new w r 29
  have hB1 : Below w.heap.size w (w.alloc (.cells #[.int .i64 r.k, .int .i64 r.s, .int .i64 r.a, .int .i64 r.b, .int .i64 r.c, .int .i64 r.d, .string r.body] 29)) := (Below.refl _ _).alloc (Nat.le_refl _) _
  have hXH := Lib.hid hX
  have hBH := Lib.hid hB1
  have hTA := Lib.hid (fun W (h : Below w.heap.size w W) => hT.below h)
  clear hX hB1 hT
  have hnb := nBlocks_pos hg.1
  have hsz := hg.2
  have hbl := Lib.hid (fun W => blocks_any r.k W)
  obtain ⟨n0, n1, n2, n3, n4, n5⟩ := hg.1
  have f0 := Lib.hid (fun W => put_field r.k 1 6 (by omega) (by omega) (by omega) (by decide) W)
  have f1 := Lib.hid (fun W => put_field r.s 6 1099511627776 (by omega) (by omega) (by omega) (by decide) W)
  have f2 := Lib.hid (fun W => put_field r.a 2 65535 (by omega) (by omega) (by omega) (by decide) W)
  have f3 := Lib.hid (fun W => put_field r.b 2 65535 (by omega) (by omega) (by omega) (by decide) W)
  have f4 := Lib.hid (fun W => put_field r.c 6 1099511627776 (by omega) (by omega) (by omega) (by decide) W)
  have f5 := Lib.hid (fun W => put_field r.d 2 65535 (by omega) (by omega) (by omega) (by decide) W)
  clear n0 n1 n2 n3 n4 n5
  generalize nBlocks r.k = nb at hbl hsz hnb
  have hne : ((r.body.size : Int) != IntKind.i64.wrap (IntKind.i64.wrap ((nb : Int) - 1) * 64)) = false := by
    rw [wrap_in (show -9223372036854775808 ≤ (nb : Int) - 1 ∧ (nb : Int) - 1 ≤ 9223372036854775807 by omega), wrap_in (by omega)]
    simp; omega
  have hbs : r.body.size ≤ 64 := by omega
  have hpos := hposH
  clear hsz hg hposH
  go_enter Tryd.func18, Tryd.ntmps18
  go_wp2_with fail
  refine fresh_world (fun W => RcAt W w.heap.size r ∧ Below w.heap.size w W) ⟨hXH.out, hBH.out⟩ ?_
  rintro W5 ⟨hX5, hB5⟩
  have hfacts := Lib.hid (fun W (hW : Below W5.heap.size W5 W) => hX5.below hW)
  have hX5H := Lib.hid hX5
  have hB5H := Lib.hid hB5
  have hlt5 := hX5.lt
  clear hX5 hXH hBH hB5
  generalize hXe : w.heap.size = X at hfacts hlt5 hX5H
  have hXeH := Lib.hid hXe
  clear hXe
  refine region_anyC (fun _ => true) (fun W => Below W5.heap.size W5 W) (by kernel_rfl) ?_
  have hS5 : Below W5.heap.size W5 W5.drew := (Below.refl _ _).drew
  refine anyL_take 0 (v := ?_) rfl (by kernel_rfl) (fun _ _ _ h => h) (Or.inl ⟨by rfl, ?_⟩) hS5 ?_
  rotate_left
  focus (intro W hW; obtain ⟨k0, k1, k2, k3, k4, k5, k6⟩ := hfacts.out W hW; go_simp; try with_reducible rfl)
  simp only [Act.put, List.setIfInBounds_toArray, List.set_cons_zero, List.set_cons_succ]
  refine anyL_one 1 rfl (by kernel_rfl) (fun K hK => ?_)
  go_simp
  refine (hpos.out _).mono ?_
  rintro e' w6 ⟨rfl, hb6⟩
  have hb2 := hS5.trans (hb6.mono (by simp))
  dsimp only
  refine hK.out _ _ (fun _ => hb2) ?_
  clear hK K
  try simp only [Act.put, List.setIfInBounds_toArray, List.set_cons_zero, List.set_cons_succ]
  refine anyL_take 2 (v := ?_) rfl (by kernel_rfl) (fun _ _ _ h => h) (Or.inl ⟨by rfl, ?_⟩) hb2 ?_
  rotate_left
  focus (intro W hW; go_simp; try with_reducible rfl)
  simp only [Act.put, List.setIfInBounds_toArray, List.set_cons_zero, List.set_cons_succ]
  refine anyL_take 3 (v := ?_) rfl (by kernel_rfl) (fun _ _ _ h => h) (Or.inl ⟨by rfl, ?_⟩) hb2 ?_
  rotate_left
  focus (intro W hW; go_simp; try with_reducible rfl)
  simp only [Act.put, List.setIfInBounds_toArray, List.set_cons_zero, List.set_cons_succ]
  refine anyL_take 4 (v := ?_) rfl (by kernel_rfl) (fun _ _ _ h => h) (Or.inl ⟨by rfl, ?_⟩) hb2 ?_
  rotate_left
  focus (intro W hW; go_simp; try with_reducible rfl)
  simp only [Act.put, List.setIfInBounds_toArray, List.set_cons_zero, List.set_cons_succ]
  refine anyL_take 5 (v := ?_) rfl (by kernel_rfl) (fun _ _ _ h => h) (Or.inl ⟨by rfl, ?_⟩) hb2 ?_
  rotate_left
  focus (intro W hW; obtain ⟨k0, k1, k2, k3, k4, k5, k6⟩ := hfacts.out W hW; go_simp; try with_reducible rfl)
  simp only [Act.put, List.setIfInBounds_toArray, List.set_cons_zero, List.set_cons_succ]
  refine anyL_take 6 (v := ?_) rfl (by kernel_rfl) (fun _ _ _ h => h) (Or.inl ⟨by rfl, ?_⟩) hb2 ?_
  rotate_left
  focus (intro W hW; go_simp; try with_reducible rfl)
  simp only [Act.put, List.setIfInBounds_toArray, List.set_cons_zero, List.set_cons_succ]
  refine anyL_take 7 (v := ?_) rfl (by kernel_rfl) (fun _ _ _ h => h) (Or.inl ⟨by rfl, ?_⟩) hb2 ?_
  rotate_left
  focus (intro W hW; go_simp; try with_reducible rfl)
  simp only [Act.put, List.setIfInBounds_toArray, List.set_cons_zero, List.set_cons_succ]
  refine anyL_take 8 (v := ?_) rfl (by kernel_rfl) (fun _ _ _ h => h) (Or.inl ⟨by rfl, ?_⟩) hb2 ?_
  rotate_left
  focus (intro W hW; obtain ⟨k0, k1, k2, k3, k4, k5, k6⟩ := hfacts.out W hW; go_simp; try with_reducible rfl)
  simp only [Act.put, List.setIfInBounds_toArray, List.set_cons_zero, List.set_cons_succ]
  refine anyL_one 9 rfl (by kernel_rfl) (fun K hK => ?_)
  go_simp
  refine (hbl.out _).mono ?_
  rintro e' w7 ⟨rfl, rfl⟩
  dsimp only
  refine hK.out _ _ (fun _ => hb2) ?_
  clear hK K
  try simp only [Act.put, List.setIfInBounds_toArray, List.set_cons_zero, List.set_cons_succ]
  refine anyL_take 10 (v := ?_) rfl (by kernel_rfl) (fun _ _ _ h => h) (Or.inl ⟨by rfl, ?_⟩) hb2 ?_
  rotate_left
  focus (intro W hW; go_simp; try with_reducible rfl)
  simp only [Act.put, List.setIfInBounds_toArray, List.set_cons_zero, List.set_cons_succ]
  refine anyL_take 11 (v := ?_) rfl (by kernel_rfl) (fun _ _ _ h => h) (Or.inl ⟨by rfl, ?_⟩) hb2 ?_
  rotate_left
  focus (intro W hW; go_simp; try with_reducible rfl)
  simp only [Act.put, List.setIfInBounds_toArray, List.set_cons_zero, List.set_cons_succ]
  refine anyL_take 12 (v := ?_) rfl (by kernel_rfl) (fun _ _ _ h => h) (Or.inl ⟨by rfl, ?_⟩) hb2 ?_
  rotate_left
  focus (intro W hW; go_simp; try with_reducible rfl)
  simp only [Act.put, List.setIfInBounds_toArray, List.set_cons_zero, List.set_cons_succ]
  refine anyL_take 13 (v := ?_) rfl (by kernel_rfl) (fun _ _ _ h => h) (Or.inl ⟨by rfl, ?_⟩) hb2 ?_
  rotate_left
  focus (intro W hW; go_simp; try with_reducible rfl)
  simp only [Act.put, List.setIfInBounds_toArray, List.set_cons_zero, List.set_cons_succ]
  refine anyC_done (by kernel_rfl) ?_ _
  have hX6 := hX5H.out.below hb2
  have hB6 : Below X w w6 := by rw [← hXeH.out]; exact hB5H.out.trans (hb2.mono hB5H.out.size)
  have hs6 := hX6.lt
  clear hfacts hX5H hB5H hlt5 hS5 hb6 hb2 hne hpos hbl
  go_wp2_with (go_at_call 25; refine (numbers_any _).mono ?_; rintro e w7 ⟨rfl, hb⟩)
  have hX7 := hX6.below hb
  have hB7 := hB6.trans (hb.mono (by omega))
  clear hX6 hB6 hs6 hb
  go_loopw [4, 23] (fun st i wr => ∃ (k : Nat) (h : ByteArray), k ≤ 6 ∧ i = .int .i64 (k : Int) ∧ st = .string h ∧ Hid (TextOf h (headTo r k)) ∧ RcAt wr X r ∧ Below X w wr) (fun _ i _ => 6 - (intOf i).toNat)
  case atStart => exact ⟨0, _, by omega, rfl, rfl, Lib.hid rfl, hX7, hB7⟩
  case round =>
    clear hX7 hB7
    obtain ⟨k, h, hk, rfl, rfl, hth, hX, hB⟩ := hrel
    have hhs : h.size ≤ 21 := by rw [hth.out.size]; exact headTo_size r k hk
    have hXH := Lib.hid hX
    have hlt := hX.lt
    have hws := Nat.le_of_lt hlt
    clear hX
    rcases (by omega : k = 0 ∨ k = 1 ∨ k = 2 ∨ k = 3 ∨ k = 4 ∨ k = 5 ∨ k = 6) with rfl | rfl | rfl | rfl | rfl | rfl | rfl
    · have hix := num_at0
      have hW : Below wr.heap.size wr (wr.alloc (.cells #[.int .i64 1, .int .i64 6, .func (Fn.func 32) #[] #[]] 69)) := (Below.refl _ _).alloc (Nat.le_refl _) _
      go_wp2_with fail
      refine fresh_world (fun W => (W.cell? ⟨wr.heap.size, 0, none⟩ = some (.int .i64 1) ∧ W.cell? ⟨wr.heap.size, 2, none⟩ = some (.func (Fn.func 32) #[] #[])) ∧ Below wr.heap.size wr W ∧ wr.heap.size < W.heap.size) ⟨⟨by go_simp, by go_simp⟩, hW, by simp⟩ ?_
      rintro W5 ⟨⟨b0, b2⟩, hW5, hs5⟩
      have hfacts := Lib.hid (fun W (hw : Below W5.heap.size W5 W) => (⟨(hw.cell (p := ⟨wr.heap.size, 0, none⟩) hs5).trans b0, (hw.cell (p := ⟨wr.heap.size, 2, none⟩) hs5).trans b2, ((hXH.out.below hW5).below hw).c0⟩ : W.cell? ⟨wr.heap.size, 0, none⟩ = some (.int .i64 1) ∧ W.cell? ⟨wr.heap.size, 2, none⟩ = some (.func (Fn.func 32) #[] #[]) ∧ W.cell? ⟨X, 0, none⟩ = some (.int .i64 r.k)))
      clear b0 b2 hix hW
      refine region_anyC (fun _ => true) (fun W => Below W5.heap.size W5 W) (by kernel_rfl) ?_
      have hS5 : Below W5.heap.size W5 W5.drew := (Below.refl _ _).drew
      refine anyL_take 0 (v := ?_) rfl (by kernel_rfl) (fun _ _ _ h => h) (Or.inl ⟨by rfl, ?_⟩) hS5 ?_
      rotate_left
      focus (intro W hW; go_simp; try with_reducible rfl)
      simp only [Act.put, List.setIfInBounds_toArray, List.set_cons_zero, List.set_cons_succ]
      refine anyL_take 1 (v := ?_) rfl (by kernel_rfl) (fun _ _ _ h => h) (Or.inl ⟨by rfl, ?_⟩) hS5 ?_
      rotate_left
      focus (intro W hW; go_simp; try with_reducible rfl)
      simp only [Act.put, List.setIfInBounds_toArray, List.set_cons_zero, List.set_cons_succ]
      refine anyL_take 2 (v := ?_) rfl (by kernel_rfl) (fun _ _ _ h => h) (Or.inl ⟨by rfl, ?_⟩) hS5 ?_
      rotate_left
      focus (intro W hW; obtain ⟨g0, g1, g2⟩ := hfacts.out W hW; go_simp; try with_reducible rfl)
      simp only [Act.put, List.setIfInBounds_toArray, List.set_cons_zero, List.set_cons_succ]
      refine anyL_take 6 (v := ?_) rfl (by kernel_rfl) (fun _ _ _ h => h) (Or.inl ⟨by rfl, ?_⟩) hS5 ?_
      rotate_left
      focus (intro W hW; go_simp; try with_reducible rfl)
      simp only [Act.put, List.setIfInBounds_toArray, List.set_cons_zero, List.set_cons_succ]
      refine anyL_take 7 (v := ?_) rfl (by kernel_rfl) (fun _ _ _ h => h) (Or.inl ⟨by rfl, ?_⟩) hS5 ?_
      rotate_left
      focus (intro W hW; obtain ⟨g0, g1, g2⟩ := hfacts.out W hW; go_simp; try with_reducible rfl)
      simp only [Act.put, List.setIfInBounds_toArray, List.set_cons_zero, List.set_cons_succ]
      refine anyL_one 3 rfl (by kernel_rfl) (fun K hK => ?_)
      go_simp
      refine (of_0 X _).mono ?_
      rintro e' wq ⟨rfl, rfl⟩
      dsimp only
      refine hK.out _ _ (fun _ => hS5) ?_
      clear hK K
      try simp only [Act.put, List.setIfInBounds_toArray, List.set_cons_zero, List.set_cons_succ]
      refine anyL_take 4 (v := ?_) rfl (by kernel_rfl) (fun _ _ _ h => h) (Or.inl ⟨by rfl, ?_⟩) hS5 ?_
      rotate_left
      focus (intro W hW; go_simp; try with_reducible rfl)
      simp only [Act.put, List.setIfInBounds_toArray, List.set_cons_zero, List.set_cons_succ]
      refine anyL_take 5 (v := ?_) rfl (by kernel_rfl) (fun _ _ _ h => h) (Or.inl ⟨by rfl, ?_⟩) hS5 ?_
      rotate_left
      focus (intro W hW; obtain ⟨g0, g1, g2⟩ := hfacts.out W hW; go_simp; try with_reducible rfl)
      simp only [Act.put, List.setIfInBounds_toArray, List.set_cons_zero, List.set_cons_succ]
      refine anyL_one 8 rfl (by kernel_rfl) (fun K hK => ?_)
      go_simp
      refine (f0.out _).mono ?_
      rintro e' wp ⟨tx, rfl, htx, hbp⟩
      have hb2 := hS5.trans (hbp.mono (by simp))
      have hts : ¬ 9223372036854775807 < h.size + tx.size := by have hq := htx.size; rw [putL_length] at hq; omega
      dsimp only
      refine hK.out _ _ (fun _ => hb2) ?_
      clear hK K
      try simp only [Act.put, List.setIfInBounds_toArray, List.set_cons_zero, List.set_cons_succ]
      refine anyL_take 9 (v := ?_) rfl (by kernel_rfl) (fun _ _ _ h => h) (Or.inl ⟨by rfl, ?_⟩) hb2 ?_
      rotate_left
      focus (intro W hW; go_simp; try with_reducible rfl)
      simp only [Act.put, List.setIfInBounds_toArray, List.set_cons_zero, List.set_cons_succ]
      refine anyL_take 10 (v := ?_) rfl (by kernel_rfl) (fun _ _ _ h => h) (Or.inl ⟨by rfl, ?_⟩) hb2 ?_
      rotate_left
      focus (intro W hW; go_simp; try with_reducible rfl)
      simp only [Act.put, List.setIfInBounds_toArray, List.set_cons_zero, List.set_cons_succ]
      refine anyC_done (by kernel_rfl) ?_ _
      have hbw : Below wr.heap.size wr wp := hW5.trans (hb2.mono (by omega))
      have hnt := Lib.hid (show TextOf (h ++ tx) (headTo r 1) from hth.out.append htx)
      clear hfacts hS5 hbp htx hts hb2
      go_wp2_with fail
      go_roundw
      case rel => exact ⟨1, h ++ tx, by omega, rfl, rfl, hnt, hXH.out.below hbw, hB.trans (hbw.mono hws)⟩
      case measure => simp [intOf]
    · have hix := num_at1
      have hW : Below wr.heap.size wr (wr.alloc (.cells #[.int .i64 6, .int .i64 1099511627776, .func (Fn.func 33) #[] #[]] 69)) := (Below.refl _ _).alloc (Nat.le_refl _) _
      go_wp2_with fail
      refine fresh_world (fun W => (W.cell? ⟨wr.heap.size, 0, none⟩ = some (.int .i64 6) ∧ W.cell? ⟨wr.heap.size, 2, none⟩ = some (.func (Fn.func 33) #[] #[])) ∧ Below wr.heap.size wr W ∧ wr.heap.size < W.heap.size) ⟨⟨by go_simp, by go_simp⟩, hW, by simp⟩ ?_
      rintro W5 ⟨⟨b0, b2⟩, hW5, hs5⟩
      have hfacts := Lib.hid (fun W (hw : Below W5.heap.size W5 W) => (⟨(hw.cell (p := ⟨wr.heap.size, 0, none⟩) hs5).trans b0, (hw.cell (p := ⟨wr.heap.size, 2, none⟩) hs5).trans b2, ((hXH.out.below hW5).below hw).c1⟩ : W.cell? ⟨wr.heap.size, 0, none⟩ = some (.int .i64 6) ∧ W.cell? ⟨wr.heap.size, 2, none⟩ = some (.func (Fn.func 33) #[] #[]) ∧ W.cell? ⟨X, 1, none⟩ = some (.int .i64 r.s)))
      clear b0 b2 hix hW
      refine region_anyC (fun _ => true) (fun W => Below W5.heap.size W5 W) (by kernel_rfl) ?_
      have hS5 : Below W5.heap.size W5 W5.drew := (Below.refl _ _).drew
      refine anyL_take 0 (v := ?_) rfl (by kernel_rfl) (fun _ _ _ h => h) (Or.inl ⟨by rfl, ?_⟩) hS5 ?_
      rotate_left
      focus (intro W hW; go_simp; try with_reducible rfl)
      simp only [Act.put, List.setIfInBounds_toArray, List.set_cons_zero, List.set_cons_succ]
      refine anyL_take 1 (v := ?_) rfl (by kernel_rfl) (fun _ _ _ h => h) (Or.inl ⟨by rfl, ?_⟩) hS5 ?_
      rotate_left
      focus (intro W hW; go_simp; try with_reducible rfl)
      simp only [Act.put, List.setIfInBounds_toArray, List.set_cons_zero, List.set_cons_succ]
      refine anyL_take 2 (v := ?_) rfl (by kernel_rfl) (fun _ _ _ h => h) (Or.inl ⟨by rfl, ?_⟩) hS5 ?_
      rotate_left
      focus (intro W hW; obtain ⟨g0, g1, g2⟩ := hfacts.out W hW; go_simp; try with_reducible rfl)
      simp only [Act.put, List.setIfInBounds_toArray, List.set_cons_zero, List.set_cons_succ]
      refine anyL_take 6 (v := ?_) rfl (by kernel_rfl) (fun _ _ _ h => h) (Or.inl ⟨by rfl, ?_⟩) hS5 ?_
      rotate_left
      focus (intro W hW; go_simp; try with_reducible rfl)
      simp only [Act.put, List.setIfInBounds_toArray, List.set_cons_zero, List.set_cons_succ]
      refine anyL_take 7 (v := ?_) rfl (by kernel_rfl) (fun _ _ _ h => h) (Or.inl ⟨by rfl, ?_⟩) hS5 ?_
      rotate_left
      focus (intro W hW; obtain ⟨g0, g1, g2⟩ := hfacts.out W hW; go_simp; try with_reducible rfl)
      simp only [Act.put, List.setIfInBounds_toArray, List.set_cons_zero, List.set_cons_succ]
      refine anyL_one 3 rfl (by kernel_rfl) (fun K hK => ?_)
      go_simp
      refine (of_1 X _).mono ?_
      rintro e' wq ⟨rfl, rfl⟩
      dsimp only
      refine hK.out _ _ (fun _ => hS5) ?_
      clear hK K
      try simp only [Act.put, List.setIfInBounds_toArray, List.set_cons_zero, List.set_cons_succ]
      refine anyL_take 4 (v := ?_) rfl (by kernel_rfl) (fun _ _ _ h => h) (Or.inl ⟨by rfl, ?_⟩) hS5 ?_
      rotate_left
      focus (intro W hW; go_simp; try with_reducible rfl)
      simp only [Act.put, List.setIfInBounds_toArray, List.set_cons_zero, List.set_cons_succ]
      refine anyL_take 5 (v := ?_) rfl (by kernel_rfl) (fun _ _ _ h => h) (Or.inl ⟨by rfl, ?_⟩) hS5 ?_
      rotate_left
      focus (intro W hW; obtain ⟨g0, g1, g2⟩ := hfacts.out W hW; go_simp; try with_reducible rfl)
      simp only [Act.put, List.setIfInBounds_toArray, List.set_cons_zero, List.set_cons_succ]
      refine anyL_one 8 rfl (by kernel_rfl) (fun K hK => ?_)
      go_simp
      refine (f1.out _).mono ?_
      rintro e' wp ⟨tx, rfl, htx, hbp⟩
      have hb2 := hS5.trans (hbp.mono (by simp))
      have hts : ¬ 9223372036854775807 < h.size + tx.size := by have hq := htx.size; rw [putL_length] at hq; omega
      dsimp only
      refine hK.out _ _ (fun _ => hb2) ?_
      clear hK K
      try simp only [Act.put, List.setIfInBounds_toArray, List.set_cons_zero, List.set_cons_succ]
      refine anyL_take 9 (v := ?_) rfl (by kernel_rfl) (fun _ _ _ h => h) (Or.inl ⟨by rfl, ?_⟩) hb2 ?_
      rotate_left
      focus (intro W hW; go_simp; try with_reducible rfl)
      simp only [Act.put, List.setIfInBounds_toArray, List.set_cons_zero, List.set_cons_succ]
      refine anyL_take 10 (v := ?_) rfl (by kernel_rfl) (fun _ _ _ h => h) (Or.inl ⟨by rfl, ?_⟩) hb2 ?_
      rotate_left
      focus (intro W hW; go_simp; try with_reducible rfl)
      simp only [Act.put, List.setIfInBounds_toArray, List.set_cons_zero, List.set_cons_succ]
      refine anyC_done (by kernel_rfl) ?_ _
      have hbw : Below wr.heap.size wr wp := hW5.trans (hb2.mono (by omega))
      have hnt := Lib.hid (show TextOf (h ++ tx) (headTo r 2) from hth.out.append htx)
      clear hfacts hS5 hbp htx hts hb2
      go_wp2_with fail
      go_roundw
      case rel => exact ⟨2, h ++ tx, by omega, rfl, rfl, hnt, hXH.out.below hbw, hB.trans (hbw.mono hws)⟩
      case measure => simp [intOf]
    · have hix := num_at2
      have hW : Below wr.heap.size wr (wr.alloc (.cells #[.int .i64 2, .int .i64 65535, .func (Fn.func 34) #[] #[]] 69)) := (Below.refl _ _).alloc (Nat.le_refl _) _
      go_wp2_with fail
      refine fresh_world (fun W => (W.cell? ⟨wr.heap.size, 0, none⟩ = some (.int .i64 2) ∧ W.cell? ⟨wr.heap.size, 2, none⟩ = some (.func (Fn.func 34) #[] #[])) ∧ Below wr.heap.size wr W ∧ wr.heap.size < W.heap.size) ⟨⟨by go_simp, by go_simp⟩, hW, by simp⟩ ?_
      rintro W5 ⟨⟨b0, b2⟩, hW5, hs5⟩
      have hfacts := Lib.hid (fun W (hw : Below W5.heap.size W5 W) => (⟨(hw.cell (p := ⟨wr.heap.size, 0, none⟩) hs5).trans b0, (hw.cell (p := ⟨wr.heap.size, 2, none⟩) hs5).trans b2, ((hXH.out.below hW5).below hw).c2⟩ : W.cell? ⟨wr.heap.size, 0, none⟩ = some (.int .i64 2) ∧ W.cell? ⟨wr.heap.size, 2, none⟩ = some (.func (Fn.func 34) #[] #[]) ∧ W.cell? ⟨X, 2, none⟩ = some (.int .i64 r.a)))
      clear b0 b2 hix hW
      refine region_anyC (fun _ => true) (fun W => Below W5.heap.size W5 W) (by kernel_rfl) ?_
      have hS5 : Below W5.heap.size W5 W5.drew := (Below.refl _ _).drew
      refine anyL_take 0 (v := ?_) rfl (by kernel_rfl) (fun _ _ _ h => h) (Or.inl ⟨by rfl, ?_⟩) hS5 ?_
      rotate_left
      focus (intro W hW; go_simp; try with_reducible rfl)
      simp only [Act.put, List.setIfInBounds_toArray, List.set_cons_zero, List.set_cons_succ]
      refine anyL_take 1 (v := ?_) rfl (by kernel_rfl) (fun _ _ _ h => h) (Or.inl ⟨by rfl, ?_⟩) hS5 ?_
      rotate_left
      focus (intro W hW; go_simp; try with_reducible rfl)
      simp only [Act.put, List.setIfInBounds_toArray, List.set_cons_zero, List.set_cons_succ]
      refine anyL_take 2 (v := ?_) rfl (by kernel_rfl) (fun _ _ _ h => h) (Or.inl ⟨by rfl, ?_⟩) hS5 ?_
      rotate_left
      focus (intro W hW; obtain ⟨g0, g1, g2⟩ := hfacts.out W hW; go_simp; try with_reducible rfl)
      simp only [Act.put, List.setIfInBounds_toArray, List.set_cons_zero, List.set_cons_succ]
      refine anyL_take 6 (v := ?_) rfl (by kernel_rfl) (fun _ _ _ h => h) (Or.inl ⟨by rfl, ?_⟩) hS5 ?_
      rotate_left
      focus (intro W hW; go_simp; try with_reducible rfl)
      simp only [Act.put, List.setIfInBounds_toArray, List.set_cons_zero, List.set_cons_succ]
      refine anyL_take 7 (v := ?_) rfl (by kernel_rfl) (fun _ _ _ h => h) (Or.inl ⟨by rfl, ?_⟩) hS5 ?_
      rotate_left
      focus (intro W hW; obtain ⟨g0, g1, g2⟩ := hfacts.out W hW; go_simp; try with_reducible rfl)
      simp only [Act.put, List.setIfInBounds_toArray, List.set_cons_zero, List.set_cons_succ]
      refine anyL_one 3 rfl (by kernel_rfl) (fun K hK => ?_)
      go_simp
      refine (of_2 X _).mono ?_
      rintro e' wq ⟨rfl, rfl⟩
      dsimp only
      refine hK.out _ _ (fun _ => hS5) ?_
      clear hK K
      try simp only [Act.put, List.setIfInBounds_toArray, List.set_cons_zero, List.set_cons_succ]
      refine anyL_take 4 (v := ?_) rfl (by kernel_rfl) (fun _ _ _ h => h) (Or.inl ⟨by rfl, ?_⟩) hS5 ?_
      rotate_left
      focus (intro W hW; go_simp; try with_reducible rfl)
      simp only [Act.put, List.setIfInBounds_toArray, List.set_cons_zero, List.set_cons_succ]
      refine anyL_take 5 (v := ?_) rfl (by kernel_rfl) (fun _ _ _ h => h) (Or.inl ⟨by rfl, ?_⟩) hS5 ?_
      rotate_left
      focus (intro W hW; obtain ⟨g0, g1, g2⟩ := hfacts.out W hW; go_simp; try with_reducible rfl)
      simp only [Act.put, List.setIfInBounds_toArray, List.set_cons_zero, List.set_cons_succ]
      refine anyL_one 8 rfl (by kernel_rfl) (fun K hK => ?_)
      go_simp
      refine (f2.out _).mono ?_
      rintro e' wp ⟨tx, rfl, htx, hbp⟩
      have hb2 := hS5.trans (hbp.mono (by simp))
      have hts : ¬ 9223372036854775807 < h.size + tx.size := by have hq := htx.size; rw [putL_length] at hq; omega
      dsimp only
      refine hK.out _ _ (fun _ => hb2) ?_
      clear hK K
      try simp only [Act.put, List.setIfInBounds_toArray, List.set_cons_zero, List.set_cons_succ]
      refine anyL_take 9 (v := ?_) rfl (by kernel_rfl) (fun _ _ _ h => h) (Or.inl ⟨by rfl, ?_⟩) hb2 ?_
      rotate_left
      focus (intro W hW; go_simp; try with_reducible rfl)
      simp only [Act.put, List.setIfInBounds_toArray, List.set_cons_zero, List.set_cons_succ]
      refine anyL_take 10 (v := ?_) rfl (by kernel_rfl) (fun _ _ _ h => h) (Or.inl ⟨by rfl, ?_⟩) hb2 ?_
      rotate_left
      focus (intro W hW; go_simp; try with_reducible rfl)
      simp only [Act.put, List.setIfInBounds_toArray, List.set_cons_zero, List.set_cons_succ]
      refine anyC_done (by kernel_rfl) ?_ _
      have hbw : Below wr.heap.size wr wp := hW5.trans (hb2.mono (by omega))
      have hnt := Lib.hid (show TextOf (h ++ tx) (headTo r 3) from hth.out.append htx)
      clear hfacts hS5 hbp htx hts hb2
      go_wp2_with fail
      go_roundw
      case rel => exact ⟨3, h ++ tx, by omega, rfl, rfl, hnt, hXH.out.below hbw, hB.trans (hbw.mono hws)⟩
      case measure => simp [intOf]
    · have hix := num_at3
      have hW : Below wr.heap.size wr (wr.alloc (.cells #[.int .i64 2, .int .i64 65535, .func (Fn.func 35) #[] #[]] 69)) := (Below.refl _ _).alloc (Nat.le_refl _) _
      go_wp2_with fail
      refine fresh_world (fun W => (W.cell? ⟨wr.heap.size, 0, none⟩ = some (.int .i64 2) ∧ W.cell? ⟨wr.heap.size, 2, none⟩ = some (.func (Fn.func 35) #[] #[])) ∧ Below wr.heap.size wr W ∧ wr.heap.size < W.heap.size) ⟨⟨by go_simp, by go_simp⟩, hW, by simp⟩ ?_
      rintro W5 ⟨⟨b0, b2⟩, hW5, hs5⟩
      have hfacts := Lib.hid (fun W (hw : Below W5.heap.size W5 W) => (⟨(hw.cell (p := ⟨wr.heap.size, 0, none⟩) hs5).trans b0, (hw.cell (p := ⟨wr.heap.size, 2, none⟩) hs5).trans b2, ((hXH.out.below hW5).below hw).c3⟩ : W.cell? ⟨wr.heap.size, 0, none⟩ = some (.int .i64 2) ∧ W.cell? ⟨wr.heap.size, 2, none⟩ = some (.func (Fn.func 35) #[] #[]) ∧ W.cell? ⟨X, 3, none⟩ = some (.int .i64 r.b)))
      clear b0 b2 hix hW
      refine region_anyC (fun _ => true) (fun W => Below W5.heap.size W5 W) (by kernel_rfl) ?_
      have hS5 : Below W5.heap.size W5 W5.drew := (Below.refl _ _).drew
      refine anyL_take 0 (v := ?_) rfl (by kernel_rfl) (fun _ _ _ h => h) (Or.inl ⟨by rfl, ?_⟩) hS5 ?_
      rotate_left
      focus (intro W hW; go_simp; try with_reducible rfl)
      simp only [Act.put, List.setIfInBounds_toArray, List.set_cons_zero, List.set_cons_succ]
      refine anyL_take 1 (v := ?_) rfl (by kernel_rfl) (fun _ _ _ h => h) (Or.inl ⟨by rfl, ?_⟩) hS5 ?_
      rotate_left
      focus (intro W hW; go_simp; try with_reducible rfl)
      simp only [Act.put, List.setIfInBounds_toArray, List.set_cons_zero, List.set_cons_succ]
      refine anyL_take 2 (v := ?_) rfl (by kernel_rfl) (fun _ _ _ h => h) (Or.inl ⟨by rfl, ?_⟩) hS5 ?_
      rotate_left
      focus (intro W hW; obtain ⟨g0, g1, g2⟩ := hfacts.out W hW; go_simp; try with_reducible rfl)
      simp only [Act.put, List.setIfInBounds_toArray, List.set_cons_zero, List.set_cons_succ]
      refine anyL_take 6 (v := ?_) rfl (by kernel_rfl) (fun _ _ _ h => h) (Or.inl ⟨by rfl, ?_⟩) hS5 ?_
      rotate_left
      focus (intro W hW; go_simp; try with_reducible rfl)
      simp only [Act.put, List.setIfInBounds_toArray, List.set_cons_zero, List.set_cons_succ]
      refine anyL_take 7 (v := ?_) rfl (by kernel_rfl) (fun _ _ _ h => h) (Or.inl ⟨by rfl, ?_⟩) hS5 ?_
      rotate_left
      focus (intro W hW; obtain ⟨g0, g1, g2⟩ := hfacts.out W hW; go_simp; try with_reducible rfl)
      simp only [Act.put, List.setIfInBounds_toArray, List.set_cons_zero, List.set_cons_succ]
      refine anyL_one 3 rfl (by kernel_rfl) (fun K hK => ?_)
      go_simp
      refine (of_3 X _).mono ?_
      rintro e' wq ⟨rfl, rfl⟩
      dsimp only
      refine hK.out _ _ (fun _ => hS5) ?_
      clear hK K
      try simp only [Act.put, List.setIfInBounds_toArray, List.set_cons_zero, List.set_cons_succ]
      refine anyL_take 4 (v := ?_) rfl (by kernel_rfl) (fun _ _ _ h => h) (Or.inl ⟨by rfl, ?_⟩) hS5 ?_
      rotate_left
      focus (intro W hW; go_simp; try with_reducible rfl)
      simp only [Act.put, List.setIfInBounds_toArray, List.set_cons_zero, List.set_cons_succ]
      refine anyL_take 5 (v := ?_) rfl (by kernel_rfl) (fun _ _ _ h => h) (Or.inl ⟨by rfl, ?_⟩) hS5 ?_
      rotate_left
      focus (intro W hW; obtain ⟨g0, g1, g2⟩ := hfacts.out W hW; go_simp; try with_reducible rfl)
      simp only [Act.put, List.setIfInBounds_toArray, List.set_cons_zero, List.set_cons_succ]
      refine anyL_one 8 rfl (by kernel_rfl) (fun K hK => ?_)
      go_simp
      refine (f3.out _).mono ?_
      rintro e' wp ⟨tx, rfl, htx, hbp⟩
      have hb2 := hS5.trans (hbp.mono (by simp))
      have hts : ¬ 9223372036854775807 < h.size + tx.size := by have hq := htx.size; rw [putL_length] at hq; omega
      dsimp only
      refine hK.out _ _ (fun _ => hb2) ?_
      clear hK K
      try simp only [Act.put, List.setIfInBounds_toArray, List.set_cons_zero, List.set_cons_succ]
      refine anyL_take 9 (v := ?_) rfl (by kernel_rfl) (fun _ _ _ h => h) (Or.inl ⟨by rfl, ?_⟩) hb2 ?_
      rotate_left
      focus (intro W hW; go_simp; try with_reducible rfl)
      simp only [Act.put, List.setIfInBounds_toArray, List.set_cons_zero, List.set_cons_succ]
      refine anyL_take 10 (v := ?_) rfl (by kernel_rfl) (fun _ _ _ h => h) (Or.inl ⟨by rfl, ?_⟩) hb2 ?_
      rotate_left
      focus (intro W hW; go_simp; try with_reducible rfl)
      simp only [Act.put, List.setIfInBounds_toArray, List.set_cons_zero, List.set_cons_succ]
      refine anyC_done (by kernel_rfl) ?_ _
      have hbw : Below wr.heap.size wr wp := hW5.trans (hb2.mono (by omega))
      have hnt := Lib.hid (show TextOf (h ++ tx) (headTo r 4) from hth.out.append htx)
      clear hfacts hS5 hbp htx hts hb2
      go_wp2_with fail
      go_roundw
      case rel => exact ⟨4, h ++ tx, by omega, rfl, rfl, hnt, hXH.out.below hbw, hB.trans (hbw.mono hws)⟩
      case measure => simp [intOf]
    · have hix := num_at4
      have hW : Below wr.heap.size wr (wr.alloc (.cells #[.int .i64 6, .int .i64 1099511627776, .func (Fn.func 36) #[] #[]] 69)) := (Below.refl _ _).alloc (Nat.le_refl _) _
      go_wp2_with fail
      refine fresh_world (fun W => (W.cell? ⟨wr.heap.size, 0, none⟩ = some (.int .i64 6) ∧ W.cell? ⟨wr.heap.size, 2, none⟩ = some (.func (Fn.func 36) #[] #[])) ∧ Below wr.heap.size wr W ∧ wr.heap.size < W.heap.size) ⟨⟨by go_simp, by go_simp⟩, hW, by simp⟩ ?_
      rintro W5 ⟨⟨b0, b2⟩, hW5, hs5⟩
      have hfacts := Lib.hid (fun W (hw : Below W5.heap.size W5 W) => (⟨(hw.cell (p := ⟨wr.heap.size, 0, none⟩) hs5).trans b0, (hw.cell (p := ⟨wr.heap.size, 2, none⟩) hs5).trans b2, ((hXH.out.below hW5).below hw).c4⟩ : W.cell? ⟨wr.heap.size, 0, none⟩ = some (.int .i64 6) ∧ W.cell? ⟨wr.heap.size, 2, none⟩ = some (.func (Fn.func 36) #[] #[]) ∧ W.cell? ⟨X, 4, none⟩ = some (.int .i64 r.c)))
      clear b0 b2 hix hW
      refine region_anyC (fun _ => true) (fun W => Below W5.heap.size W5 W) (by kernel_rfl) ?_
      have hS5 : Below W5.heap.size W5 W5.drew := (Below.refl _ _).drew
      refine anyL_take 0 (v := ?_) rfl (by kernel_rfl) (fun _ _ _ h => h) (Or.inl ⟨by rfl, ?_⟩) hS5 ?_
      rotate_left
      focus (intro W hW; go_simp; try with_reducible rfl)
      simp only [Act.put, List.setIfInBounds_toArray, List.set_cons_zero, List.set_cons_succ]
      refine anyL_take 1 (v := ?_) rfl (by kernel_rfl) (fun _ _ _ h => h) (Or.inl ⟨by rfl, ?_⟩) hS5 ?_
      rotate_left
      focus (intro W hW; go_simp; try with_reducible rfl)
      simp only [Act.put, List.setIfInBounds_toArray, List.set_cons_zero, List.set_cons_succ]
      refine anyL_take 2 (v := ?_) rfl (by kernel_rfl) (fun _ _ _ h => h) (Or.inl ⟨by rfl, ?_⟩) hS5 ?_
      rotate_left
      focus (intro W hW; obtain ⟨g0, g1, g2⟩ := hfacts.out W hW; go_simp; try with_reducible rfl)
      simp only [Act.put, List.setIfInBounds_toArray, List.set_cons_zero, List.set_cons_succ]
      refine anyL_take 6 (v := ?_) rfl (by kernel_rfl) (fun _ _ _ h => h) (Or.inl ⟨by rfl, ?_⟩) hS5 ?_
      rotate_left
      focus (intro W hW; go_simp; try with_reducible rfl)
      simp only [Act.put, List.setIfInBounds_toArray, List.set_cons_zero, List.set_cons_succ]
      refine anyL_take 7 (v := ?_) rfl (by kernel_rfl) (fun _ _ _ h => h) (Or.inl ⟨by rfl, ?_⟩) hS5 ?_
      rotate_left
      focus (intro W hW; obtain ⟨g0, g1, g2⟩ := hfacts.out W hW; go_simp; try with_reducible rfl)
      simp only [Act.put, List.setIfInBounds_toArray, List.set_cons_zero, List.set_cons_succ]
      refine anyL_one 3 rfl (by kernel_rfl) (fun K hK => ?_)
      go_simp
      refine (of_4 X _).mono ?_
      rintro e' wq ⟨rfl, rfl⟩
      dsimp only
      refine hK.out _ _ (fun _ => hS5) ?_
      clear hK K
      try simp only [Act.put, List.setIfInBounds_toArray, List.set_cons_zero, List.set_cons_succ]
      refine anyL_take 4 (v := ?_) rfl (by kernel_rfl) (fun _ _ _ h => h) (Or.inl ⟨by rfl, ?_⟩) hS5 ?_
      rotate_left
      focus (intro W hW; go_simp; try with_reducible rfl)
      simp only [Act.put, List.setIfInBounds_toArray, List.set_cons_zero, List.set_cons_succ]
      refine anyL_take 5 (v := ?_) rfl (by kernel_rfl) (fun _ _ _ h => h) (Or.inl ⟨by rfl, ?_⟩) hS5 ?_
      rotate_left
      focus (intro W hW; obtain ⟨g0, g1, g2⟩ := hfacts.out W hW; go_simp; try with_reducible rfl)
      simp only [Act.put, List.setIfInBounds_toArray, List.set_cons_zero, List.set_cons_succ]
      refine anyL_one 8 rfl (by kernel_rfl) (fun K hK => ?_)
      go_simp
      refine (f4.out _).mono ?_
      rintro e' wp ⟨tx, rfl, htx, hbp⟩
      have hb2 := hS5.trans (hbp.mono (by simp))
      have hts : ¬ 9223372036854775807 < h.size + tx.size := by have hq := htx.size; rw [putL_length] at hq; omega
      dsimp only
      refine hK.out _ _ (fun _ => hb2) ?_
      clear hK K
      try simp only [Act.put, List.setIfInBounds_toArray, List.set_cons_zero, List.set_cons_succ]
      refine anyL_take 9 (v := ?_) rfl (by kernel_rfl) (fun _ _ _ h => h) (Or.inl ⟨by rfl, ?_⟩) hb2 ?_
      rotate_left
      focus (intro W hW; go_simp; try with_reducible rfl)
      simp only [Act.put, List.setIfInBounds_toArray, List.set_cons_zero, List.set_cons_succ]
      refine anyL_take 10 (v := ?_) rfl (by kernel_rfl) (fun _ _ _ h => h) (Or.inl ⟨by rfl, ?_⟩) hb2 ?_
      rotate_left
      focus (intro W hW; go_simp; try with_reducible rfl)
      simp only [Act.put, List.setIfInBounds_toArray, List.set_cons_zero, List.set_cons_succ]
      refine anyC_done (by kernel_rfl) ?_ _
      have hbw : Below wr.heap.size wr wp := hW5.trans (hb2.mono (by omega))
      have hnt := Lib.hid (show TextOf (h ++ tx) (headTo r 5) from hth.out.append htx)
      clear hfacts hS5 hbp htx hts hb2
      go_wp2_with fail
      go_roundw
      case rel => exact ⟨5, h ++ tx, by omega, rfl, rfl, hnt, hXH.out.below hbw, hB.trans (hbw.mono hws)⟩
      case measure => simp [intOf]
    · have hix := num_at5
      have hW : Below wr.heap.size wr (wr.alloc (.cells #[.int .i64 2, .int .i64 65535, .func (Fn.func 37) #[] #[]] 69)) := (Below.refl _ _).alloc (Nat.le_refl _) _
      go_wp2_with fail
      refine fresh_world (fun W => (W.cell? ⟨wr.heap.size, 0, none⟩ = some (.int .i64 2) ∧ W.cell? ⟨wr.heap.size, 2, none⟩ = some (.func (Fn.func 37) #[] #[])) ∧ Below wr.heap.size wr W ∧ wr.heap.size < W.heap.size) ⟨⟨by go_simp, by go_simp⟩, hW, by simp⟩ ?_
      rintro W5 ⟨⟨b0, b2⟩, hW5, hs5⟩
      have hfacts := Lib.hid (fun W (hw : Below W5.heap.size W5 W) => (⟨(hw.cell (p := ⟨wr.heap.size, 0, none⟩) hs5).trans b0, (hw.cell (p := ⟨wr.heap.size, 2, none⟩) hs5).trans b2, ((hXH.out.below hW5).below hw).c5⟩ : W.cell? ⟨wr.heap.size, 0, none⟩ = some (.int .i64 2) ∧ W.cell? ⟨wr.heap.size, 2, none⟩ = some (.func (Fn.func 37) #[] #[]) ∧ W.cell? ⟨X, 5, none⟩ = some (.int .i64 r.d)))
      clear b0 b2 hix hW
      refine region_anyC (fun _ => true) (fun W => Below W5.heap.size W5 W) (by kernel_rfl) ?_
      have hS5 : Below W5.heap.size W5 W5.drew := (Below.refl _ _).drew
      refine anyL_take 0 (v := ?_) rfl (by kernel_rfl) (fun _ _ _ h => h) (Or.inl ⟨by rfl, ?_⟩) hS5 ?_
      rotate_left
      focus (intro W hW; go_simp; try with_reducible rfl)
      simp only [Act.put, List.setIfInBounds_toArray, List.set_cons_zero, List.set_cons_succ]
      refine anyL_take 1 (v := ?_) rfl (by kernel_rfl) (fun _ _ _ h => h) (Or.inl ⟨by rfl, ?_⟩) hS5 ?_
      rotate_left
      focus (intro W hW; go_simp; try with_reducible rfl)
      simp only [Act.put, List.setIfInBounds_toArray, List.set_cons_zero, List.set_cons_succ]
      refine anyL_take 2 (v := ?_) rfl (by kernel_rfl) (fun _ _ _ h => h) (Or.inl ⟨by rfl, ?_⟩) hS5 ?_
      rotate_left
      focus (intro W hW; obtain ⟨g0, g1, g2⟩ := hfacts.out W hW; go_simp; try with_reducible rfl)
      simp only [Act.put, List.setIfInBounds_toArray, List.set_cons_zero, List.set_cons_succ]
      refine anyL_take 6 (v := ?_) rfl (by kernel_rfl) (fun _ _ _ h => h) (Or.inl ⟨by rfl, ?_⟩) hS5 ?_
      rotate_left
      focus (intro W hW; go_simp; try with_reducible rfl)
      simp only [Act.put, List.setIfInBounds_toArray, List.set_cons_zero, List.set_cons_succ]
      refine anyL_take 7 (v := ?_) rfl (by kernel_rfl) (fun _ _ _ h => h) (Or.inl ⟨by rfl, ?_⟩) hS5 ?_
      rotate_left
      focus (intro W hW; obtain ⟨g0, g1, g2⟩ := hfacts.out W hW; go_simp; try with_reducible rfl)
      simp only [Act.put, List.setIfInBounds_toArray, List.set_cons_zero, List.set_cons_succ]
      refine anyL_one 3 rfl (by kernel_rfl) (fun K hK => ?_)
      go_simp
      refine (of_5 X _).mono ?_
      rintro e' wq ⟨rfl, rfl⟩
      dsimp only
      refine hK.out _ _ (fun _ => hS5) ?_
      clear hK K
      try simp only [Act.put, List.setIfInBounds_toArray, List.set_cons_zero, List.set_cons_succ]
      refine anyL_take 4 (v := ?_) rfl (by kernel_rfl) (fun _ _ _ h => h) (Or.inl ⟨by rfl, ?_⟩) hS5 ?_
      rotate_left
      focus (intro W hW; go_simp; try with_reducible rfl)
      simp only [Act.put, List.setIfInBounds_toArray, List.set_cons_zero, List.set_cons_succ]
      refine anyL_take 5 (v := ?_) rfl (by kernel_rfl) (fun _ _ _ h => h) (Or.inl ⟨by rfl, ?_⟩) hS5 ?_
      rotate_left
      focus (intro W hW; obtain ⟨g0, g1, g2⟩ := hfacts.out W hW; go_simp; try with_reducible rfl)
      simp only [Act.put, List.setIfInBounds_toArray, List.set_cons_zero, List.set_cons_succ]
      refine anyL_one 8 rfl (by kernel_rfl) (fun K hK => ?_)
      go_simp
      refine (f5.out _).mono ?_
      rintro e' wp ⟨tx, rfl, htx, hbp⟩
      have hb2 := hS5.trans (hbp.mono (by simp))
      have hts : ¬ 9223372036854775807 < h.size + tx.size := by have hq := htx.size; rw [putL_length] at hq; omega
      dsimp only
      refine hK.out _ _ (fun _ => hb2) ?_
      clear hK K
      try simp only [Act.put, List.setIfInBounds_toArray, List.set_cons_zero, List.set_cons_succ]
      refine anyL_take 9 (v := ?_) rfl (by kernel_rfl) (fun _ _ _ h => h) (Or.inl ⟨by rfl, ?_⟩) hb2 ?_
      rotate_left
      focus (intro W hW; go_simp; try with_reducible rfl)
      simp only [Act.put, List.setIfInBounds_toArray, List.set_cons_zero, List.set_cons_succ]
      refine anyL_take 10 (v := ?_) rfl (by kernel_rfl) (fun _ _ _ h => h) (Or.inl ⟨by rfl, ?_⟩) hb2 ?_
      rotate_left
      focus (intro W hW; go_simp; try with_reducible rfl)
      simp only [Act.put, List.setIfInBounds_toArray, List.set_cons_zero, List.set_cons_succ]
      refine anyC_done (by kernel_rfl) ?_ _
      have hbw : Below wr.heap.size wr wp := hW5.trans (hb2.mono (by omega))
      have hnt := Lib.hid (show TextOf (h ++ tx) (headTo r 6) from hth.out.append htx)
      clear hfacts hS5 hbp htx hts hb2
      go_wp2_with fail
      go_roundw
      case rel => exact ⟨6, h ++ tx, by omega, rfl, rfl, hnt, hXH.out.below hbw, hB.trans (hbw.mono hws)⟩
      case measure => simp [intOf]
    · have hBw : Below w.heap.size w wr := by rw [hXeH.out]; exact hB
      have hck := Lib.hid (fun W (hb : Below wr.heap.size wr W) => checksum_any h r.body W (hTA.out W (hBw.trans (hb.mono hBw.size))) (by omega) (by omega))
      have hze := fun W => zero_any 39 W
      rw [noughts_39] at hze
      have hzeH := Lib.hid hze
      obtain ⟨zt, hzt⟩ : ∃ zt : ByteArray, zt = ⟨(List.replicate 39 0).toArray⟩ := ⟨_, rfl⟩
      rw [← hzt] at hzeH
      have hz39 := Lib.hid (show zt.size = 39 by rw [hzt]; rfl)
      have hztH : Hid (TextOf zt (List.replicate 39 0)) := Lib.hid (by rw [hzt]; rfl)
      clear hze hzt
      go_wp2_with (go_at_call 27; refine (hzeH.out _).mono ?_; rintro e w8 ⟨rfl, hb8⟩)
      have hfacts := Lib.hid (fun W (hw : Below w8.heap.size w8 W) => ((hXH.out.below hb8).below hw).c6)
      refine region_anyC (fun _ => true) (fun W => Below w8.heap.size w8 W) (by kernel_rfl) ?_
      have hS5 : Below w8.heap.size w8 w8.drew := (Below.refl _ _).drew
      refine anyL_take 0 (v := ?_) rfl (by kernel_rfl) (fun _ _ _ h => h) (Or.inl ⟨by rfl, ?_⟩) hS5 ?_
      rotate_left
      focus (intro W hW; go_simp; try with_reducible rfl)
      simp only [Act.put, List.setIfInBounds_toArray, List.set_cons_zero, List.set_cons_succ]
      refine anyL_take 1 (v := ?_) rfl (by kernel_rfl) (fun _ _ _ h => h) (Or.inl ⟨by rfl, ?_⟩) hS5 ?_
      rotate_left
      focus (intro W hW; go_simp; try with_reducible rfl)
      simp only [Act.put, List.setIfInBounds_toArray, List.set_cons_zero, List.set_cons_succ]
      refine anyL_take 2 (v := ?_) rfl (by kernel_rfl) (fun _ _ _ h => h) (Or.inl ⟨by rfl, ?_⟩) hS5 ?_
      rotate_left
      focus (intro W hW; go_simp; try with_reducible rfl)
      simp only [Act.put, List.setIfInBounds_toArray, List.set_cons_zero, List.set_cons_succ]
      refine anyL_take 3 (v := ?_) rfl (by kernel_rfl) (fun _ _ _ h => h) (Or.inl ⟨by rfl, ?_⟩) hS5 ?_
      rotate_left
      focus (intro W hW; have g0 := hfacts.out W hW; go_simp; try with_reducible rfl)
      simp only [Act.put, List.setIfInBounds_toArray, List.set_cons_zero, List.set_cons_succ]
      refine anyL_take 6 (v := ?_) rfl (by kernel_rfl) (fun _ _ _ h => h) (Or.inl ⟨by rfl, ?_⟩) hS5 ?_
      rotate_left
      focus (intro W hW; go_simp; try with_reducible rfl)
      simp only [Act.put, List.setIfInBounds_toArray, List.set_cons_zero, List.set_cons_succ]
      refine anyL_take 8 (v := ?_) rfl (by kernel_rfl) (fun _ _ _ h => h) (Or.inl ⟨by rfl, ?_⟩) hS5 ?_
      rotate_left
      focus (intro W hW; go_simp; try with_reducible rfl)
      simp only [Act.put, List.setIfInBounds_toArray, List.set_cons_zero, List.set_cons_succ]
      refine anyL_take 9 (v := ?_) rfl (by kernel_rfl) (fun _ _ _ h => h) (Or.inl ⟨by rfl, ?_⟩) hS5 ?_
      rotate_left
      focus (intro W hW; have g0 := hfacts.out W hW; go_simp; try with_reducible rfl)
      simp only [Act.put, List.setIfInBounds_toArray, List.set_cons_zero, List.set_cons_succ]
      refine anyL_one 4 rfl (by kernel_rfl) (fun K hK => ?_)
      go_simp
      refine (hck.out _ (hb8.trans (hS5.mono hb8.size))).mono ?_
      rintro e' wp ⟨rfl, hbp⟩
      have hb2 := hS5.trans (hbp.mono (by simp))
      have hcs := Lib.hid (show (⟨(sumB (h.data.toList ++ r.body.data.toList)).toArray⟩ : ByteArray).size = 4 by rw [(TextOf.mk _).size, sumB_len])
      obtain ⟨ct, hct⟩ : ∃ ct : ByteArray, ct = ⟨(sumB (h.data.toList ++ r.body.data.toList)).toArray⟩ := ⟨_, rfl⟩
      rw [← hct] at hcs ⊢
      have hctH : Hid (TextOf ct (sumB (h.data.toList ++ r.body.data.toList))) := Lib.hid (by rw [hct]; rfl)
      clear hct
      have q1 : ¬ 9223372036854775807 < h.size + ct.size := by have := hcs.out; omega
      have q2 : ¬ 9223372036854775807 < h.size + ct.size + zt.size := by have := hcs.out; have := hz39.out; omega
      have q3 : ¬ 9223372036854775807 < h.size + ct.size + zt.size + r.body.size := by have := hcs.out; have := hz39.out; omega
      dsimp only
      refine hK.out _ _ (fun _ => hb2) ?_
      clear hK K
      try simp only [Act.put, List.setIfInBounds_toArray, List.set_cons_zero, List.set_cons_succ]
      refine anyL_take 5 (v := ?_) rfl (by kernel_rfl) (fun _ _ _ h => h) (Or.inl ⟨by rfl, ?_⟩) hb2 ?_
      rotate_left
      focus (intro W hW; go_simp; try with_reducible rfl)
      simp only [Act.put, List.setIfInBounds_toArray, List.set_cons_zero, List.set_cons_succ]
      refine anyL_take 7 (v := ?_) rfl (by kernel_rfl) (fun _ _ _ h => h) (Or.inl ⟨by rfl, ?_⟩) hb2 ?_
      rotate_left
      focus (intro W hW; go_simp; try with_reducible rfl)
      simp only [Act.put, List.setIfInBounds_toArray, List.set_cons_zero, List.set_cons_succ]
      refine anyL_take 10 (v := ?_) rfl (by kernel_rfl) (fun _ _ _ h => h) (Or.inl ⟨by rfl, ?_⟩) hb2 ?_
      rotate_left
      focus (intro W hW; go_simp; try with_reducible rfl)
      simp only [Act.put, List.setIfInBounds_toArray, List.set_cons_zero, List.set_cons_succ]
      refine anyL_take 11 (v := ?_) rfl (by kernel_rfl) (fun _ _ _ h => h) (Or.inl ⟨by rfl, ?_⟩) hb2 ?_
      rotate_left
      focus (intro W hW; go_simp; try with_reducible rfl)
      simp only [Act.put, List.setIfInBounds_toArray, List.set_cons_zero, List.set_cons_succ]
      refine anyL_take 12 (v := ?_) rfl (by kernel_rfl) (fun _ _ _ h => h) (Or.inl ⟨by rfl, ?_⟩) hb2 ?_
      rotate_left
      focus (intro W hW; go_simp; try with_reducible rfl)
      simp only [Act.put, List.setIfInBounds_toArray, List.set_cons_zero, List.set_cons_succ]
      refine anyC_done (by kernel_rfl) ?_ _
      have hfin : ((h ++ ct) ++ zt) ++ r.body = ⟨(encL r).toArray⟩ := by
        have h1 : TextOf (((h ++ ct) ++ zt) ++ r.body) (((headL r ++ sumB (headL r ++ r.body.data.toList)) ++ List.replicate 39 0) ++ r.body.data.toList) := by
          have h2 := hctH.out
          rw [show h.data.toList = headL r from hth.out] at h2
          exact ((TextOf.append hth.out h2).append hztH.out).append rfl
        exact h1.eq
      have hfinH := Lib.hid hfin
      clear hfin hfacts hS5
      go_wp2_with fail
      go_ret2
      exact ⟨by rw [← hfinH.out]; rfl, hBw.trans ((hb8.trans (hb2.mono hb8.size)).mono hBw.size)⟩
end Go.Proofs.YtbgkmppngnedlabDoor
