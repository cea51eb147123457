/- What a record's numbers are. -/
import Derived.Test.YtbgkmppngnedlabDoorOCrc
import Derived.Test.YtbgkmppngnedlabDoorOMath
import Derived.Test.YtbgkmppngnedlabDoorORcD
import Derived.Laws.EntriesVeiled
namespace Go.Proofs.YtbgkmppngnedlabDoor.Rec
open Crc Num
def nBlocks (k : Int) : Nat := if k < 1 ∨ 6 < k then 0 else if k = 4 then 2 else 1
def NumOk (r : Rc) : Prop := (1 ≤ r.k ∧ r.k ≤ 6) ∧ (0 ≤ r.s ∧ r.s ≤ 1099511627776) ∧ (0 ≤ r.a ∧ r.a ≤ 65535) ∧ (0 ≤ r.b ∧ r.b ≤ 65535) ∧ (0 ≤ r.c ∧ r.c ≤ 1099511627776) ∧ (0 ≤ r.d ∧ r.d ≤ 65535)
instance (r : Rc) : Decidable (NumOk r) := by unfold NumOk; infer_instance
def numOk (r : Rc) : Bool := decide (NumOk r)
def Good (r : Rc) : Prop := NumOk r ∧ r.body.size = (nBlocks r.k - 1) * 64
instance (r : Rc) : Decidable (Good r) := by unfold Good; infer_instance
def good (r : Rc) : Bool := decide (Good r)
theorem numOk_iff {r : Rc} : numOk r = true ↔ NumOk r := decide_eq_true_iff
theorem good_iff {r : Rc} : good r = true ↔ Good r := decide_eq_true_iff
def headL (r : Rc) : List UInt8 := [67, 66] ++ putL r.k.toNat 1 ++ putL r.s.toNat 6 ++ putL r.a.toNat 2 ++ putL r.b.toNat 2 ++ putL r.c.toNat 6 ++ putL r.d.toNat 2
def sumB (l : List UInt8) : List UInt8 := putL (sumW l).toNat 4
def encL (r : Rc) : List UInt8 := headL r ++ sumB (headL r ++ r.body.data.toList) ++ List.replicate 39 0 ++ r.body.data.toList
theorem headL_len (r : Rc) : (headL r).length = 21 := by unfold headL; simp [putL_length]
theorem sumB_len (l : List UInt8) : (sumB l).length = 4 := putL_length _ _
theorem nBlocks_pos {r : Rc} (h : NumOk r) : 1 ≤ nBlocks r.k ∧ nBlocks r.k ≤ 2 := by
  unfold nBlocks
  rw [if_neg (by have := h.1; omega)]
  split <;> omega
theorem body_len (b : ByteArray) : b.data.toList.length = b.size := Array.length_toList
theorem encL_len {r : Rc} (h : Good r) : (encL r).length = 64 * nBlocks r.k := by
  have := nBlocks_pos h.1
  unfold encL
  rw [List.length_append, List.length_append, List.length_append, headL_len, sumB_len, List.length_replicate, body_len, h.2]
  omega
def encS (r : Rc) : ByteArray := if good r = true then ⟨(encL r).toArray⟩ else ByteArray.empty
theorem encS_good {r : Rc} (h : Good r) : encS r = ⟨(encL r).toArray⟩ := if_pos (good_iff.2 h)
theorem encS_bad {r : Rc} (h : ¬ Good r) : encS r = ByteArray.empty := if_neg (by rw [good_iff]; exact h)
theorem encS_size {r : Rc} (h : Good r) : (encS r).size = 64 * nBlocks r.k := by
  rw [encS_good h]
  show (encL r).toArray.size = _
  rw [List.size_toArray]; exact encL_len h
theorem encS_ne {r : Rc} (h : Good r) : encS r ≠ ByteArray.empty := fun e => by
  have h1 := encS_size h
  have := nBlocks_pos h.1
  rw [e] at h1
  simp at h1
  omega
end Go.Proofs.YtbgkmppngnedlabDoor.Rec
namespace Go.Proofs.YtbgkmppngnedlabDoor
open Go.RowKit Rec Crc Num
theorem blocks_any (k : Int) (w : World) :
    Calls Tryd.prog 24 #[.int .i64 k] w fun e w' => e = .returned (.int .i64 (nBlocks k : Int)) ∧ w = w' := by
  unfold nBlocks
  by_cases h1 : k < 1
  · rw [if_pos (.inl h1)]
    go_enter Tryd.func24, Tryd.ntmps24
    go_wp2
    go_ret
    exact ⟨rfl, rfl⟩
  by_cases h2 : 6 < k
  · rw [if_pos (.inr h2)]
    go_enter Tryd.func24, Tryd.ntmps24
    go_wp2
    go_ret
    exact ⟨rfl, rfl⟩
  rw [if_neg (by omega)]
  by_cases h3 : k = 4
  · subst h3
    rw [if_pos rfl]
    clear h1 h2
    go_enter Tryd.func24, Tryd.ntmps24
    go_wp2
    go_ret
    exact ⟨rfl, rfl⟩
  · rw [if_neg h3]
    have h3' : (k == 4) = false := by simp [h3]
    clear h3
    go_enter Tryd.func24, Tryd.ntmps24
    go_wp2
    go_ret
    exact ⟨rfl, rfl⟩
/-- The numbers of a record: widths, limits, and where a record has them. -/
def numsV : Value := .agg #[.int .i64 1, .int .i64 6, .func (Fn.func 32) #[] #[], .int .i64 6, .int .i64 1099511627776, .func (Fn.func 33) #[] #[], .int .i64 2, .int .i64 65535, .func (Fn.func 34) #[] #[], .int .i64 2, .int .i64 65535, .func (Fn.func 35) #[] #[], .int .i64 6, .int .i64 1099511627776, .func (Fn.func 36) #[] #[], .int .i64 2, .int .i64 65535, .func (Fn.func 37) #[] #[]]
theorem numbers_any (w : World) :
    Calls Tryd.prog 25 #[] w fun e w' => e = .returned numsV ∧ Below w.heap.size w w' := by
  go_enter Tryd.func25, Tryd.ntmps25
  go_wp2
  refine bodyPost_ret (v := numsV) (results_cell_row Tryd.results25 _ _ w.heap.size 70 _ (0, 0) _ rfl (heap_alloc_new w _) Tryd.underlying70 rfl (by kernel_rfl)) rfl ⟨rfl, ?_⟩
  exact (Below.refl _ _).alloc (Nat.le_refl _) _
end Go.Proofs.YtbgkmppngnedlabDoor
namespace Go.Proofs.YtbgkmppngnedlabDoor
open Go.RowKit Rec Crc Num
theorem num_at0 (w : World) : (Instr.index 70 numsV (.int .i64 0)).run Tryd.prog w = .ok (.agg #[.int .i64 1, .int .i64 6, .func (Fn.func 32) #[] #[]]) w := by kernel_rfl
theorem of_0 (B : Nat) (w : World) : Calls Tryd.prog 32 #[.pointer (some ⟨B, 0, none⟩)] w fun e w' => e = .returned (.pointer (some ⟨B, 0, none⟩)) ∧ w = w' := by
  go_enter Tryd.func32, Tryd.ntmps32
  go_wp2
  go_ret
  exact ⟨rfl, rfl⟩
theorem num_at1 (w : World) : (Instr.index 70 numsV (.int .i64 1)).run Tryd.prog w = .ok (.agg #[.int .i64 6, .int .i64 1099511627776, .func (Fn.func 33) #[] #[]]) w := by kernel_rfl
theorem of_1 (B : Nat) (w : World) : Calls Tryd.prog 33 #[.pointer (some ⟨B, 0, none⟩)] w fun e w' => e = .returned (.pointer (some ⟨B, 1, none⟩)) ∧ w = w' := by
  go_enter Tryd.func33, Tryd.ntmps33
  go_wp2
  go_ret
  exact ⟨rfl, rfl⟩
theorem num_at2 (w : World) : (Instr.index 70 numsV (.int .i64 2)).run Tryd.prog w = .ok (.agg #[.int .i64 2, .int .i64 65535, .func (Fn.func 34) #[] #[]]) w := by kernel_rfl
theorem of_2 (B : Nat) (w : World) : Calls Tryd.prog 34 #[.pointer (some ⟨B, 0, none⟩)] w fun e w' => e = .returned (.pointer (some ⟨B, 2, none⟩)) ∧ w = w' := by
  go_enter Tryd.func34, Tryd.ntmps34
  go_wp2
  go_ret
  exact ⟨rfl, rfl⟩
theorem num_at3 (w : World) : (Instr.index 70 numsV (.int .i64 3)).run Tryd.prog w = .ok (.agg #[.int .i64 2, .int .i64 65535, .func (Fn.func 35) #[] #[]]) w := by kernel_rfl
theorem of_3 (B : Nat) (w : World) : Calls Tryd.prog 35 #[.pointer (some ⟨B, 0, none⟩)] w fun e w' => e = .returned (.pointer (some ⟨B, 3, none⟩)) ∧ w = w' := by
  go_enter Tryd.func35, Tryd.ntmps35
  go_wp2
  go_ret
  exact ⟨rfl, rfl⟩
theorem num_at4 (w : World) : (Instr.index 70 numsV (.int .i64 4)).run Tryd.prog w = .ok (.agg #[.int .i64 6, .int .i64 1099511627776, .func (Fn.func 36) #[] #[]]) w := by kernel_rfl
theorem of_4 (B : Nat) (w : World) : Calls Tryd.prog 36 #[.pointer (some ⟨B, 0, none⟩)] w fun e w' => e = .returned (.pointer (some ⟨B, 4, none⟩)) ∧ w = w' := by
  go_enter Tryd.func36, Tryd.ntmps36
  go_wp2
  go_ret
  exact ⟨rfl, rfl⟩
theorem num_at5 (w : World) : (Instr.index 70 numsV (.int .i64 5)).run Tryd.prog w = .ok (.agg #[.int .i64 2, .int .i64 65535, .func (Fn.func 37) #[] #[]]) w := by kernel_rfl
theorem of_5 (B : Nat) (w : World) : Calls Tryd.prog 37 #[.pointer (some ⟨B, 0, none⟩)] w fun e w' => e = .returned (.pointer (some ⟨B, 5, none⟩)) ∧ w = w' := by
  go_enter Tryd.func37, Tryd.ntmps37
  go_wp2
  go_ret
  exact ⟨rfl, rfl⟩
/-- The first numbers are as they may be. -/
def okTo (r : Rc) : Nat → Prop
  | 0 => True
  | 1 => (0 ≤ r.k ∧ r.k ≤ 6) ∧ True
  | 2 => (0 ≤ r.k ∧ r.k ≤ 6) ∧ (0 ≤ r.s ∧ r.s ≤ 1099511627776) ∧ True
  | 3 => (0 ≤ r.k ∧ r.k ≤ 6) ∧ (0 ≤ r.s ∧ r.s ≤ 1099511627776) ∧ (0 ≤ r.a ∧ r.a ≤ 65535) ∧ True
  | 4 => (0 ≤ r.k ∧ r.k ≤ 6) ∧ (0 ≤ r.s ∧ r.s ≤ 1099511627776) ∧ (0 ≤ r.a ∧ r.a ≤ 65535) ∧ (0 ≤ r.b ∧ r.b ≤ 65535) ∧ True
  | 5 => (0 ≤ r.k ∧ r.k ≤ 6) ∧ (0 ≤ r.s ∧ r.s ≤ 1099511627776) ∧ (0 ≤ r.a ∧ r.a ≤ 65535) ∧ (0 ≤ r.b ∧ r.b ≤ 65535) ∧ (0 ≤ r.c ∧ r.c ≤ 1099511627776) ∧ True
  | 6 => (0 ≤ r.k ∧ r.k ≤ 6) ∧ (0 ≤ r.s ∧ r.s ≤ 1099511627776) ∧ (0 ≤ r.a ∧ r.a ≤ 65535) ∧ (0 ≤ r.b ∧ r.b ≤ 65535) ∧ (0 ≤ r.c ∧ r.c ≤ 1099511627776) ∧ (0 ≤ r.d ∧ r.d ≤ 65535) ∧ True
  | _ => True
set_option maxHeartbeats 4000000 in
theorem possible_any' (r : Rc) (w : World) :
    Calls Tryd.prog 23 #[.agg #[.int .i64 r.k, .int .i64 r.s, .int .i64 r.a, .int .i64 r.b, .int .i64 r.c, .int .i64 r.d, .string r.body]] w fun e w' => e = .returned (.bool (numOk r)) ∧ Below w.heap.size w w' := by
  have hX := Lib.hid (RcAt.new w r 29)
  obtain ⟨q, hq⟩ : ∃ q, numOk r = q := ⟨_, rfl⟩
  rw [hq]
  have hbad : ¬ NumOk r → q = false := fun h => by rw [← hq]; exact decide_eq_false h
  have hgood : NumOk r → q = true := fun h => by rw [← hq]; exact decide_eq_true h
  have hbadH := Lib.hid hbad
  have hgoodH := Lib.hid hgood
  clear hq hbad hgood
  go_enter Tryd.func23, Tryd.ntmps23
  have hB1 : Below w.heap.size w (w.alloc (.cells #[.int .i64 r.k, .int .i64 r.s, .int .i64 r.a, .int .i64 r.b, .int .i64 r.c, .int .i64 r.d, .string r.body] 29)) := (Below.refl _ _).alloc (Nat.le_refl _) _
  go_wp2_with (go_at_call 25; refine (numbers_any _).mono ?_; rintro e w1 ⟨rfl, hb⟩)
  have hB2 := hB1.trans (hb.mono (by simp))
  have hX2 := hX.out.below hb
  clear hB1 hb hX
  generalize hXe : w.heap.size = X at hX2 hB2
  have hXeH := Lib.hid hXe
  clear hXe
  go_loopw [7] (fun i wr => ∃ k : Nat, k ≤ 6 ∧ i = .int .i64 (k : Int) ∧ okTo r k ∧ RcAt wr X r ∧ Below X w wr ∧ X ≤ wr.heap.size) (fun i _ => 6 - (intOf i).toNat)
  case atStart => exact ⟨0, by omega, rfl, trivial, hX2, hB2, Nat.le_of_lt hX2.lt⟩
  case round =>
    clear hX2 hB2
    obtain ⟨k, hk, rfl, hto, hX, hB, hs⟩ := hrel
    have htoH := Lib.hid hto
    have hXH := Lib.hid hX
    have hlt := hX.lt
    clear hto
    obtain ⟨c0, c1, c2, c3, c4, c5, c6⟩ := hX
    rcases (by omega : k = 0 ∨ k = 1 ∨ k = 2 ∨ k = 3 ∨ k = 4 ∨ k = 5 ∨ k = 6) with rfl | rfl | rfl | rfl | rfl | rfl | rfl
    · have hix := num_at0
      have hW : Below wr.heap.size wr (wr.alloc (.cells #[.int .i64 1, .int .i64 6, .func (Fn.func 32) #[] #[]] 69)) := (Below.refl _ _).alloc (Nat.le_refl _) _
      by_cases h1 : r.k < 0
      · have he := Lib.hid (hbadH.out (fun h => by unfold NumOk at h; omega))
        go_wp2_with (go_at_call 32; refine (of_0 X _).mono ?_; rintro e w2 ⟨rfl, rfl⟩)
        go_ret
        exact ⟨by rw [he.out]; rfl, by rw [hXeH.out]; exact hB.trans (hW.mono hs)⟩
      by_cases h2 : 6 < r.k
      · have he := Lib.hid (hbadH.out (fun h => by unfold NumOk at h; omega))
        go_wp2_with (go_at_call 32; refine (of_0 X _).mono ?_; rintro e w2 ⟨rfl, rfl⟩)
        go_ret
        exact ⟨by rw [he.out]; rfl, by rw [hXeH.out]; exact hB.trans (hW.mono hs)⟩
      · have hn := Lib.hid (show okTo r 1 by unfold okTo; simp only [and_true]; omega)
        go_wp2_with (go_at_call 32; refine (of_0 X _).mono ?_; rintro e w2 ⟨rfl, rfl⟩)
        go_roundw
        case rel => exact ⟨1, by omega, rfl, hn.out, hXH.out.below hW, hB.trans (hW.mono hs), by simp; omega⟩
        case measure => simp [intOf]
    · have hix := num_at1
      have hW : Below wr.heap.size wr (wr.alloc (.cells #[.int .i64 6, .int .i64 1099511627776, .func (Fn.func 33) #[] #[]] 69)) := (Below.refl _ _).alloc (Nat.le_refl _) _
      by_cases h1 : r.s < 0
      · have he := Lib.hid (hbadH.out (fun h => by unfold NumOk at h; omega))
        go_wp2_with (go_at_call 33; refine (of_1 X _).mono ?_; rintro e w2 ⟨rfl, rfl⟩)
        go_ret
        exact ⟨by rw [he.out]; rfl, by rw [hXeH.out]; exact hB.trans (hW.mono hs)⟩
      by_cases h2 : 1099511627776 < r.s
      · have he := Lib.hid (hbadH.out (fun h => by unfold NumOk at h; omega))
        go_wp2_with (go_at_call 33; refine (of_1 X _).mono ?_; rintro e w2 ⟨rfl, rfl⟩)
        go_ret
        exact ⟨by rw [he.out]; rfl, by rw [hXeH.out]; exact hB.trans (hW.mono hs)⟩
      · have hn := Lib.hid (show okTo r 2 by have h0 := htoH.out; unfold okTo at h0 ⊢; simp only [and_true] at h0; simp only [and_true]; omega)
        go_wp2_with (go_at_call 33; refine (of_1 X _).mono ?_; rintro e w2 ⟨rfl, rfl⟩)
        go_roundw
        case rel => exact ⟨2, by omega, rfl, hn.out, hXH.out.below hW, hB.trans (hW.mono hs), by simp; omega⟩
        case measure => simp [intOf]
    · have hix := num_at2
      have hW : Below wr.heap.size wr (wr.alloc (.cells #[.int .i64 2, .int .i64 65535, .func (Fn.func 34) #[] #[]] 69)) := (Below.refl _ _).alloc (Nat.le_refl _) _
      by_cases h1 : r.a < 0
      · have he := Lib.hid (hbadH.out (fun h => by unfold NumOk at h; omega))
        go_wp2_with (go_at_call 34; refine (of_2 X _).mono ?_; rintro e w2 ⟨rfl, rfl⟩)
        go_ret
        exact ⟨by rw [he.out]; rfl, by rw [hXeH.out]; exact hB.trans (hW.mono hs)⟩
      by_cases h2 : 65535 < r.a
      · have he := Lib.hid (hbadH.out (fun h => by unfold NumOk at h; omega))
        go_wp2_with (go_at_call 34; refine (of_2 X _).mono ?_; rintro e w2 ⟨rfl, rfl⟩)
        go_ret
        exact ⟨by rw [he.out]; rfl, by rw [hXeH.out]; exact hB.trans (hW.mono hs)⟩
      · have hn := Lib.hid (show okTo r 3 by have h0 := htoH.out; unfold okTo at h0 ⊢; simp only [and_true] at h0; simp only [and_true]; omega)
        go_wp2_with (go_at_call 34; refine (of_2 X _).mono ?_; rintro e w2 ⟨rfl, rfl⟩)
        go_roundw
        case rel => exact ⟨3, by omega, rfl, hn.out, hXH.out.below hW, hB.trans (hW.mono hs), by simp; omega⟩
        case measure => simp [intOf]
    · have hix := num_at3
      have hW : Below wr.heap.size wr (wr.alloc (.cells #[.int .i64 2, .int .i64 65535, .func (Fn.func 35) #[] #[]] 69)) := (Below.refl _ _).alloc (Nat.le_refl _) _
      by_cases h1 : r.b < 0
      · have he := Lib.hid (hbadH.out (fun h => by unfold NumOk at h; omega))
        go_wp2_with (go_at_call 35; refine (of_3 X _).mono ?_; rintro e w2 ⟨rfl, rfl⟩)
        go_ret
        exact ⟨by rw [he.out]; rfl, by rw [hXeH.out]; exact hB.trans (hW.mono hs)⟩
      by_cases h2 : 65535 < r.b
      · have he := Lib.hid (hbadH.out (fun h => by unfold NumOk at h; omega))
        go_wp2_with (go_at_call 35; refine (of_3 X _).mono ?_; rintro e w2 ⟨rfl, rfl⟩)
        go_ret
        exact ⟨by rw [he.out]; rfl, by rw [hXeH.out]; exact hB.trans (hW.mono hs)⟩
      · have hn := Lib.hid (show okTo r 4 by have h0 := htoH.out; unfold okTo at h0 ⊢; simp only [and_true] at h0; simp only [and_true]; omega)
        go_wp2_with (go_at_call 35; refine (of_3 X _).mono ?_; rintro e w2 ⟨rfl, rfl⟩)
        go_roundw
        case rel => exact ⟨4, by omega, rfl, hn.out, hXH.out.below hW, hB.trans (hW.mono hs), by simp; omega⟩
        case measure => simp [intOf]
    · have hix := num_at4
      have hW : Below wr.heap.size wr (wr.alloc (.cells #[.int .i64 6, .int .i64 1099511627776, .func (Fn.func 36) #[] #[]] 69)) := (Below.refl _ _).alloc (Nat.le_refl _) _
      by_cases h1 : r.c < 0
      · have he := Lib.hid (hbadH.out (fun h => by unfold NumOk at h; omega))
        go_wp2_with (go_at_call 36; refine (of_4 X _).mono ?_; rintro e w2 ⟨rfl, rfl⟩)
        go_ret
        exact ⟨by rw [he.out]; rfl, by rw [hXeH.out]; exact hB.trans (hW.mono hs)⟩
      by_cases h2 : 1099511627776 < r.c
      · have he := Lib.hid (hbadH.out (fun h => by unfold NumOk at h; omega))
        go_wp2_with (go_at_call 36; refine (of_4 X _).mono ?_; rintro e w2 ⟨rfl, rfl⟩)
        go_ret
        exact ⟨by rw [he.out]; rfl, by rw [hXeH.out]; exact hB.trans (hW.mono hs)⟩
      · have hn := Lib.hid (show okTo r 5 by have h0 := htoH.out; unfold okTo at h0 ⊢; simp only [and_true] at h0; simp only [and_true]; omega)
        go_wp2_with (go_at_call 36; refine (of_4 X _).mono ?_; rintro e w2 ⟨rfl, rfl⟩)
        go_roundw
        case rel => exact ⟨5, by omega, rfl, hn.out, hXH.out.below hW, hB.trans (hW.mono hs), by simp; omega⟩
        case measure => simp [intOf]
    · have hix := num_at5
      have hW : Below wr.heap.size wr (wr.alloc (.cells #[.int .i64 2, .int .i64 65535, .func (Fn.func 37) #[] #[]] 69)) := (Below.refl _ _).alloc (Nat.le_refl _) _
      by_cases h1 : r.d < 0
      · have he := Lib.hid (hbadH.out (fun h => by unfold NumOk at h; omega))
        go_wp2_with (go_at_call 37; refine (of_5 X _).mono ?_; rintro e w2 ⟨rfl, rfl⟩)
        go_ret
        exact ⟨by rw [he.out]; rfl, by rw [hXeH.out]; exact hB.trans (hW.mono hs)⟩
      by_cases h2 : 65535 < r.d
      · have he := Lib.hid (hbadH.out (fun h => by unfold NumOk at h; omega))
        go_wp2_with (go_at_call 37; refine (of_5 X _).mono ?_; rintro e w2 ⟨rfl, rfl⟩)
        go_ret
        exact ⟨by rw [he.out]; rfl, by rw [hXeH.out]; exact hB.trans (hW.mono hs)⟩
      · have hn := Lib.hid (show okTo r 6 by have h0 := htoH.out; unfold okTo at h0 ⊢; simp only [and_true] at h0; simp only [and_true]; omega)
        go_wp2_with (go_at_call 37; refine (of_5 X _).mono ?_; rintro e w2 ⟨rfl, rfl⟩)
        go_roundw
        case rel => exact ⟨6, by omega, rfl, hn.out, hXH.out.below hW, hB.trans (hW.mono hs), by simp; omega⟩
        case measure => simp [intOf]
    · have hz : q = decide (0 < (nBlocks r.k : Int)) := by
        obtain ⟨e0, e1, e2, e3, e4, e5, _⟩ := htoH.out
        by_cases h0 : 1 ≤ r.k
        · rw [hgoodH.out ⟨⟨h0, e0.2⟩, e1, e2, e3, e4, e5⟩]
          symm
          apply decide_eq_true
          unfold nBlocks
          rw [if_neg (by omega)]
          split <;> omega
        · rw [hbadH.out (fun h => by unfold NumOk at h; omega)]
          symm
          apply decide_eq_false
          unfold nBlocks
          rw [if_pos (by omega)]
          omega
      have hzH := Lib.hid hz
      have hbl := Lib.hid (fun W => blocks_any r.k W)
      clear hz
      generalize nBlocks r.k = nb at hzH hbl
      go_wp2_with (go_at_call 24; refine (hbl.out _).mono ?_; rintro e w2 ⟨rfl, rfl⟩)
      go_ret
      exact ⟨by rw [hzH.out]; simp, by rw [hXeH.out]; exact hB⟩
end Go.Proofs.YtbgkmppngnedlabDoor
