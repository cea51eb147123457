/- What Decode of a record does: the parts. -/
import Derived.Test.YtpmhfalhieinjaaGreatDoorMRec
import Derived.Test.YtpmhfalhieinjaaGreatDoorMEmp
import Derived.Test.YtpmhfalhieinjaaGreatDoorMCrc
import Derived.Test.YtpmhfalhieinjaaGreatDoorMXor
import Derived.Test.YtpmhfalhieinjaaGreatDoorMBase
import Derived.Test.YtpmhfalhieinjaaGreatDoorMEnc
namespace Go.Proofs.YtpmhfalhieinjaaGreatDoor
open Go.RowKit Rec Crc Num
/-- The record whose first numbers a block begins with. -/
def numsR (s : ByteArray) : Nat → Rc
  | 0 => ⟨0, 0, 0, 0, 0, 0, ⟨#[]⟩⟩
  | 1 => ⟨getN (s.extract 2 3), 0, 0, 0, 0, 0, ⟨#[]⟩⟩
  | 2 => ⟨getN (s.extract 2 3), getN (s.extract 3 9), 0, 0, 0, 0, ⟨#[]⟩⟩
  | 3 => ⟨getN (s.extract 2 3), getN (s.extract 3 9), getN (s.extract 9 11), 0, 0, 0, ⟨#[]⟩⟩
  | 4 => ⟨getN (s.extract 2 3), getN (s.extract 3 9), getN (s.extract 9 11), getN (s.extract 11 13), 0, 0, ⟨#[]⟩⟩
  | 5 => ⟨getN (s.extract 2 3), getN (s.extract 3 9), getN (s.extract 9 11), getN (s.extract 11 13), getN (s.extract 13 19), 0, ⟨#[]⟩⟩
  | _ => ⟨getN (s.extract 2 3), getN (s.extract 3 9), getN (s.extract 9 11), getN (s.extract 11 13), getN (s.extract 13 19), getN (s.extract 19 21), ⟨#[]⟩⟩
/-- A block has the form of a record's first. -/
def formOk (s : ByteArray) : Bool := decide (64 ≤ s.size) && decide (s.extract 0 2 = ⟨#[67, 66]⟩) && emptyB (s.extract 25 64)
def parsed (s : ByteArray) : Rc := if formOk s = true then numsR s 6 else zeroR
def parseOk (s : ByteArray) : Bool := formOk s && numOk (numsR s 6)
end Go.Proofs.YtpmhfalhieinjaaGreatDoor
namespace Go.Proofs.YtpmhfalhieinjaaGreatDoor
open Go.RowKit Rec Crc Num Xor
/-- Where the numbers begin. -/
def atK : Nat → Int | 0 => 2 | 1 => 3 | 2 => 9 | 3 => 11 | 4 => 13 | 5 => 19 | _ => 21
set_option maxRecDepth 100000 in
set_option maxHeartbeats 4000000 in
theorem parse_bad (s : ByteArray) (w : World) (hf : formOk s = false) :
    Calls Tryz.prog 107 #[.string s] w fun e w' => e = .returned (.tuple #[.agg #[.int .i64 0, .int .i64 0, .int .i64 0, .int .i64 0, .int .i64 0, .int .i64 0, .string ⟨#[]⟩], .bool false]) ∧ Below w.heap.size w w' := by
  have hB : Below w.heap.size w (w.alloc (.cells #[.int .i64 0, .int .i64 0, .int .i64 0, .int .i64 0, .int .i64 0, .int .i64 0, .string ⟨#[]⟩] 38)) := (Below.refl _ _).alloc (Nat.le_refl _) _
  have hBH := Lib.hid hB
  clear hB
  unfold formOk at hf
  by_cases h1 : s.size < 64
  · have h1' : (s.size : Int) < 64 := by omega
    clear hf
    go_enter Tryz.func107, Tryz.ntmps107
    go_wp2_with fail
    refine bodyPost_ret (v := .tuple #[.agg #[.int .i64 0, .int .i64 0, .int .i64 0, .int .i64 0, .int .i64 0, .int .i64 0, .string ⟨#[]⟩], .bool false]) (by simp [results, Tryz.results107, go_sem]) rfl ⟨rfl, ?_⟩
    exact hBH.out
  have h1' : ¬ (s.size : Int) < 64 := by omega
  have h2 : 2 ≤ s.size := by omega
  have h3 : 64 ≤ s.size := by omega
  by_cases h4 : s.extract 0 2 = ⟨#[67, 66]⟩
  · have he : emptyB (s.extract 25 64) = false := by
      have : decide (64 ≤ s.size) = true := decide_eq_true h3
      rw [this, decide_eq_true h4] at hf
      simpa using hf
    have hem := Lib.hid (fun W => empty_any (s.extract 25 64) W (by unfold maxLen; rw [ByteArray.size_extract]; omega))
    rw [he] at hem
    have h5 : (s.extract 0 2).toList = [67, 66] := by rw [h4, ByteArray.toList_eq]
    clear hf he h4
    go_enter Tryz.func107, Tryz.ntmps107
    go_wp2_with (go_at_call 127; refine (hem.out _).mono ?_; rintro e w1 ⟨rfl, rfl⟩)
    refine bodyPost_ret (v := .tuple #[.agg #[.int .i64 0, .int .i64 0, .int .i64 0, .int .i64 0, .int .i64 0, .int .i64 0, .string ⟨#[]⟩], .bool false]) (by simp [results, Tryz.results107, go_sem]) rfl ⟨rfl, ?_⟩
    exact hBH.out
  · have h5 : ¬ (s.extract 0 2).toList = [67, 66] := fun e => h4 (by
      rw [ByteArray.toList_eq] at e
      exact ByteArray.ext (Array.ext' e))
    clear hf h4
    go_enter Tryz.func107, Tryz.ntmps107
    go_wp2_with fail
    refine bodyPost_ret (v := .tuple #[.agg #[.int .i64 0, .int .i64 0, .int .i64 0, .int .i64 0, .int .i64 0, .int .i64 0, .string ⟨#[]⟩], .bool false]) (by simp [results, Tryz.results107, go_sem]) rfl ⟨rfl, ?_⟩
    exact hBH.out
set_option maxRecDepth 100000 in
set_option maxHeartbeats 8000000 in
theorem parse_good (s : ByteArray) (w : World) (hs : s.size ≤ maxLen) (hf : formOk s = true) :
    Calls Tryz.prog 107 #[.string s] w fun e w' => e = .returned (.tuple #[.agg #[.int .i64 (numsR s 6).k, .int .i64 (numsR s 6).s, .int .i64 (numsR s 6).a, .int .i64 (numsR s 6).b, .int .i64 (numsR s 6).c, .int .i64 (numsR s 6).d, .string (numsR s 6).body], .bool (numOk (numsR s 6))]) ∧ Below w.heap.size w w' := by
  unfold formOk at hf
  simp only [Bool.and_eq_true, decide_eq_true_eq] at hf
  obtain ⟨⟨h3, h4⟩, he⟩ := hf
  have h1' : ¬ (s.size : Int) < 64 := by omega
  have h2 : 2 ≤ s.size := by omega
  have hem := Lib.hid (fun W => empty_any (s.extract 25 64) W (by unfold maxLen; rw [ByteArray.size_extract]; omega))
  rw [he] at hem
  have hpos := Lib.hid (fun W => possible_any' (numsR s 6) W)
  clear he
  have h5 : (s.extract 0 2).toList = [67, 66] := by rw [h4, ByteArray.toList_eq]
  clear h4
  have hPH : Hid (RcW ((w.alloc (.cells #[.int .i64 0, .int .i64 0, .int .i64 0, .int .i64 0, .int .i64 0, .int .i64 0, .string ⟨#[]⟩] 38)).alloc (.cells #[.int .i64 0, .int .i64 0, .int .i64 0, .int .i64 0, .int .i64 0, .int .i64 0, .string ⟨#[]⟩] 38)) w.heap.size zeroR) := Lib.hid ((show RcW (w.alloc (.cells #[.int .i64 0, .int .i64 0, .int .i64 0, .int .i64 0, .int .i64 0, .int .i64 0, .string ⟨#[]⟩] 38)) w.heap.size zeroR from RcW.new w zeroR 38).below ((Below.refl _ _).alloc (Nat.le_refl _) _))
  have hQH : Hid (RcW ((w.alloc (.cells #[.int .i64 0, .int .i64 0, .int .i64 0, .int .i64 0, .int .i64 0, .int .i64 0, .string ⟨#[]⟩] 38)).alloc (.cells #[.int .i64 0, .int .i64 0, .int .i64 0, .int .i64 0, .int .i64 0, .int .i64 0, .string ⟨#[]⟩] 38)) (w.heap.size + 1) zeroR) := Lib.hid (by
    have h := RcW.new (w.alloc (.cells #[.int .i64 0, .int .i64 0, .int .i64 0, .int .i64 0, .int .i64 0, .int .i64 0, .string ⟨#[]⟩] 38)) zeroR 38
    rw [World.size_alloc] at h
    exact h)
  have hPQ := Lib.hid (show Below w.heap.size w ((w.alloc (.cells #[.int .i64 0, .int .i64 0, .int .i64 0, .int .i64 0, .int .i64 0, .int .i64 0, .string ⟨#[]⟩] 38)).alloc (.cells #[.int .i64 0, .int .i64 0, .int .i64 0, .int .i64 0, .int .i64 0, .int .i64 0, .string ⟨#[]⟩] 38)) from ((Below.refl _ _).alloc (Nat.le_refl _) _).alloc (by simp) _)
  go_enter Tryz.func107, Tryz.ntmps107
  go_wp2_with (first | (go_at_call 127; refine (hem.out _).mono ?_; rintro e w1 ⟨rfl, rfl⟩) | (go_at_call 93; refine (numbers_any _).mono ?_; rintro e w7 ⟨rfl, hb⟩))
  have hP7 := hPH.out.below hb
  have hQ7 := hQH.out.below hb
  have hB7 := hPQ.out.trans (hb.mono (by simp; omega))
  clear hPH hQH hPQ hb h5 hem h2
  generalize hXe : w.heap.size = X at hP7 hQ7 hB7
  have hXeH := Lib.hid hXe
  clear hXe
  go_loopw [5, 24] (fun a i wr => ∃ (k : Nat), k ≤ 6 ∧ a = .int .i64 (atK k) ∧ i = .int .i64 (k : Int) ∧ RcW wr (X + 1) (numsR s k) ∧ RcW wr X zeroR ∧ Below X w wr) (fun _ i _ => 6 - (intOf i).toNat)
  case atStart => exact ⟨0, by omega, rfl, rfl, hQ7, hP7, hB7⟩
  case round =>
    clear hP7 hQ7 hB7
    obtain ⟨k, hk, rfl, rfl, hQ, hP, hB⟩ := hrel
    have hQH := Lib.hid hQ
    have hPH := Lib.hid hP
    have hlt := hQ.lt
    have hws : X ≤ wr.heap.size := by omega
    clear hQ hP
    rcases (by omega : k = 0 ∨ k = 1 ∨ k = 2 ∨ k = 3 ∨ k = 4 ∨ k = 5 ∨ k = 6) with rfl | rfl | rfl | rfl | rfl | rfl | rfl
    · have hix := num_at0
      have hW : Below wr.heap.size wr (wr.alloc (.cells #[.int .i64 1, .int .i64 6, .func (Fn.func 108) #[] #[]] 169)) := (Below.refl _ _).alloc (Nat.le_refl _) _
      dsimp only [atK]
      go_wp2_with fail
      refine fresh_world (fun W => (W.cell? ⟨wr.heap.size, 0, none⟩ = some (.int .i64 1) ∧ W.cell? ⟨wr.heap.size, 2, none⟩ = some (.func (Fn.func 108) #[] #[])) ∧ Below wr.heap.size wr W ∧ wr.heap.size < W.heap.size) ⟨⟨by go_simp, by go_simp⟩, hW, by simp⟩ ?_
      rintro W5 ⟨⟨b0, b2⟩, hW5, hs5⟩
      have hfacts := Lib.hid (fun W (hw : Below W5.heap.size W5 W) => (⟨(hw.cell (p := ⟨wr.heap.size, 0, none⟩) hs5).trans b0, (hw.cell (p := ⟨wr.heap.size, 2, none⟩) hs5).trans b2⟩ : W.cell? ⟨wr.heap.size, 0, none⟩ = some (.int .i64 1) ∧ W.cell? ⟨wr.heap.size, 2, none⟩ = some (.func (Fn.func 108) #[] #[])))
      have hQ5 := Lib.hid (hQH.out.below hW5)
      have hP5 := Lib.hid (hPH.out.below hW5)
      have hcq := hQ5.out.at_.c0
      have hfq := hQ5.out.fr 0
      have g1 : 3 ≤ s.size := by omega
      have g2 : (3 : Int) ≤ (s.size : Int) := by omega
      have g3 : ¬ s.size < 3 := by omega
      have g4 : IntKind.i64.wrap 3 = 3 := by decide +kernel
      have hget := Lib.hid (fun W => nget_any (s.extract 2 3) W (by rw [ByteArray.size_extract]; omega))
      clear b0 b2 hix hW
      have hD5 : Below W5.heap.size W5 W5.drew := (Below.refl _ _).drew
      have hS5 := hfacts.out _ hD5
      have hSe := fun v => (⟨(World.cell?_setCell_other W5.drew ⟨X + 1, 0, none⟩ ⟨wr.heap.size, 0, none⟩ v (by intro e; injection e with e1; omega)).trans hS5.1, (World.cell?_setCell_other W5.drew ⟨X + 1, 0, none⟩ ⟨wr.heap.size, 2, none⟩ v (by intro e; injection e with e1; omega)).trans hS5.2⟩ : (W5.drew.setCell ⟨X + 1, 0, none⟩ v).cell? ⟨wr.heap.size, 0, none⟩ = some (.int .i64 1) ∧ (W5.drew.setCell ⟨X + 1, 0, none⟩ v).cell? ⟨wr.heap.size, 2, none⟩ = some (.func (Fn.func 108) #[] #[]))
      have hSeH := Lib.hid hSe
      have hS5H := Lib.hid hS5
      clear hSe hS5
      refine region_anyC (fun _ => true) (fun W => W.cell? ⟨wr.heap.size, 0, none⟩ = some (.int .i64 1) ∧ W.cell? ⟨wr.heap.size, 2, none⟩ = some (.func (Fn.func 108) #[] #[])) (by kernel_rfl) ?_
      refine anyL_take 0 (v := ?_) rfl (by kernel_rfl) (fun _ _ _ h => h) (Or.inl ⟨by rfl, ?_⟩) hS5H.out ?_
      rotate_left
      focus (intro W hW; go_simp; try with_reducible rfl)
      simp only [Act.put, List.setIfInBounds_toArray, List.set_cons_zero, List.set_cons_succ]
      refine anyL_take 1 (v := ?_) rfl (by kernel_rfl) (fun _ _ _ h => h) (Or.inl ⟨by rfl, ?_⟩) hS5H.out ?_
      rotate_left
      focus (intro W hW; obtain ⟨k0, k1⟩ := hW; go_simp; try with_reducible rfl)
      simp only [Act.put, List.setIfInBounds_toArray, List.set_cons_zero, List.set_cons_succ]
      refine anyL_take 3 (v := ?_) rfl (by kernel_rfl) (fun _ _ _ h => h) (Or.inl ⟨by rfl, ?_⟩) hS5H.out ?_
      rotate_left
      focus (intro W hW; go_simp; try with_reducible rfl)
      simp only [Act.put, List.setIfInBounds_toArray, List.set_cons_zero, List.set_cons_succ]
      refine anyL_take 4 (v := ?_) rfl (by kernel_rfl) (fun _ _ _ h => h) (Or.inl ⟨by rfl, ?_⟩) hS5H.out ?_
      rotate_left
      focus (intro W hW; go_simp; try with_reducible rfl)
      simp only [Act.put, List.setIfInBounds_toArray, List.set_cons_zero, List.set_cons_succ]
      refine anyL_take 5 (v := ?_) rfl (by kernel_rfl) (fun _ _ _ h => h) (Or.inl ⟨by rfl, ?_⟩) hS5H.out ?_
      rotate_left
      focus (intro W hW; go_simp; try with_reducible rfl)
      simp only [Act.put, List.setIfInBounds_toArray, List.set_cons_zero, List.set_cons_succ]
      refine anyL_take 6 (v := ?_) rfl (by kernel_rfl) (fun _ _ _ h => h) (Or.inl ⟨by rfl, ?_⟩) hS5H.out ?_
      rotate_left
      focus (intro W hW; go_simp; try with_reducible rfl)
      simp only [Act.put, List.setIfInBounds_toArray, List.set_cons_zero, List.set_cons_succ]
      refine anyL_take 7 (v := ?_) rfl (by kernel_rfl) (fun _ _ _ h => h) (Or.inl ⟨by rfl, ?_⟩) hS5H.out ?_
      rotate_left
      focus (intro W hW; obtain ⟨k0, k1⟩ := hW; go_simp; try with_reducible rfl)
      simp only [Act.put, List.setIfInBounds_toArray, List.set_cons_zero, List.set_cons_succ]
      refine anyL_take 8 (v := ?_) rfl (by kernel_rfl) (fun _ _ _ h => h) (Or.inl ⟨by rfl, ?_⟩) hS5H.out ?_
      rotate_left
      focus (intro W hW; go_simp; try with_reducible rfl)
      simp only [Act.put, List.setIfInBounds_toArray, List.set_cons_zero, List.set_cons_succ]
      refine anyL_take 9 (v := ?_) rfl (by kernel_rfl) (fun _ _ _ h => h) (Or.inl ⟨by rfl, ?_⟩) hS5H.out ?_
      rotate_left
      focus (intro W hW; go_simp; try with_reducible rfl)
      simp only [Act.put, List.setIfInBounds_toArray, List.set_cons_zero, List.set_cons_succ]
      refine anyL_one 2 rfl (by kernel_rfl) (fun K hK => ?_)
      go_simp
      refine (of_0 (X + 1) _).mono ?_
      rintro e' wq ⟨rfl, rfl⟩
      dsimp only
      refine hK.out _ _ (fun _ => hS5H.out) ?_
      clear hK K
      try simp only [Act.put, List.setIfInBounds_toArray, List.set_cons_zero, List.set_cons_succ]
      refine anyL_one 10 rfl (by kernel_rfl) (fun K hK => ?_)
      go_simp
      refine (hget.out _).mono ?_
      rintro e' wp ⟨rfl, rfl⟩
      dsimp only
      refine hK.out _ _ (fun _ => hS5H.out) ?_
      clear hK K
      try simp only [Act.put, List.setIfInBounds_toArray, List.set_cons_zero, List.set_cons_succ]
      refine anyL_take 11 (v := ?_) rfl (by kernel_rfl) (fun _ _ _ h => h) (Or.inl ⟨by rfl, ?_⟩) hS5H.out ?_
      rotate_left
      focus (intro W hW; go_simp; try with_reducible rfl)
      simp only [Act.put, List.setIfInBounds_toArray, List.set_cons_zero, List.set_cons_succ]
      refine anyL_take 12 (v := ?_) rfl (by kernel_rfl) (fun _ _ _ h => h) (Or.inl ⟨by rfl, ?_⟩) hS5H.out ?_
      rotate_left
      focus (intro W hW; go_simp; try with_reducible rfl)
      simp only [Act.put, List.setIfInBounds_toArray, List.set_cons_zero, List.set_cons_succ]
      refine anyL_take 13 (v := ?_) rfl (by kernel_rfl) (fun _ _ _ h => h) (Or.inl ⟨by rfl, ?_⟩) hS5H.out ?_
      rotate_left
      focus (intro W hW; go_simp; try with_reducible rfl)
      simp only [Act.put, List.setIfInBounds_toArray, List.set_cons_zero, List.set_cons_succ]
      refine anyL_take 14 (v := ?_) rfl (by kernel_rfl) (fun _ _ _ h => h) (Or.inl ⟨by rfl, ?_⟩) hS5H.out ?_
      rotate_left
      focus (intro W hW; go_simp; try with_reducible rfl)
      simp only [Act.put, List.setIfInBounds_toArray, List.set_cons_zero, List.set_cons_succ]
      refine anyL_one 15 rfl (by kernel_rfl) (fun K hK => ?_)
      go_simp
      refine hK.out _ _ (fun _ => hSeH.out _) ?_
      clear hK K
      try simp only [Act.put, List.setIfInBounds_toArray, List.set_cons_zero, List.set_cons_succ]
      refine anyC_done (by kernel_rfl) ?_ _
      refine fresh_K (fun W => (RcW W (X + 1) (numsR s 1) ∧ RcW W X zeroR) ∧ W.cell? ⟨wr.heap.size, 0, none⟩ = some (.int .i64 1) ∧ Below X w W) ⟨⟨(hQ5.out.below hD5).put0 _, (hP5.out.below hD5).far (by omega) 0 _⟩, (World.cell?_setCell_other _ _ _ _ (by intro e; injection e with e1; omega)).trans (hfacts.out _ hD5).1, (hB.trans ((hW5.trans (hD5.mono (by omega))).mono hws)).setCell (by simp) _⟩ ?_
      rintro W6 ⟨⟨hQ6, hP6⟩, hn0, hB6⟩
      have hQ6H := Lib.hid hQ6
      have hP6H := Lib.hid hP6
      clear hQ6 hP6 hQ5 hP5 hcq hfq g1 g2 g3 g4 hget hfacts hD5 hW5 hs5 hSeH hS5H
      go_wp2_with fail
      go_roundw
      case rel => exact ⟨1, by omega, rfl, rfl, hQ6H.out, hP6H.out, hB6⟩
      case measure => simp [intOf]
    · have hix := num_at1
      have hW : Below wr.heap.size wr (wr.alloc (.cells #[.int .i64 6, .int .i64 1099511627776, .func (Fn.func 109) #[] #[]] 169)) := (Below.refl _ _).alloc (Nat.le_refl _) _
      dsimp only [atK]
      go_wp2_with fail
      refine fresh_world (fun W => (W.cell? ⟨wr.heap.size, 0, none⟩ = some (.int .i64 6) ∧ W.cell? ⟨wr.heap.size, 2, none⟩ = some (.func (Fn.func 109) #[] #[])) ∧ Below wr.heap.size wr W ∧ wr.heap.size < W.heap.size) ⟨⟨by go_simp, by go_simp⟩, hW, by simp⟩ ?_
      rintro W5 ⟨⟨b0, b2⟩, hW5, hs5⟩
      have hfacts := Lib.hid (fun W (hw : Below W5.heap.size W5 W) => (⟨(hw.cell (p := ⟨wr.heap.size, 0, none⟩) hs5).trans b0, (hw.cell (p := ⟨wr.heap.size, 2, none⟩) hs5).trans b2⟩ : W.cell? ⟨wr.heap.size, 0, none⟩ = some (.int .i64 6) ∧ W.cell? ⟨wr.heap.size, 2, none⟩ = some (.func (Fn.func 109) #[] #[])))
      have hQ5 := Lib.hid (hQH.out.below hW5)
      have hP5 := Lib.hid (hPH.out.below hW5)
      have hcq := hQ5.out.at_.c1
      have hfq := hQ5.out.fr 1
      have g1 : 9 ≤ s.size := by omega
      have g2 : (9 : Int) ≤ (s.size : Int) := by omega
      have g3 : ¬ s.size < 9 := by omega
      have g4 : IntKind.i64.wrap 9 = 9 := by decide +kernel
      have hget := Lib.hid (fun W => nget_any (s.extract 3 9) W (by rw [ByteArray.size_extract]; omega))
      clear b0 b2 hix hW
      have hD5 : Below W5.heap.size W5 W5.drew := (Below.refl _ _).drew
      have hS5 := hfacts.out _ hD5
      have hSe := fun v => (⟨(World.cell?_setCell_other W5.drew ⟨X + 1, 1, none⟩ ⟨wr.heap.size, 0, none⟩ v (by intro e; injection e with e1; omega)).trans hS5.1, (World.cell?_setCell_other W5.drew ⟨X + 1, 1, none⟩ ⟨wr.heap.size, 2, none⟩ v (by intro e; injection e with e1; omega)).trans hS5.2⟩ : (W5.drew.setCell ⟨X + 1, 1, none⟩ v).cell? ⟨wr.heap.size, 0, none⟩ = some (.int .i64 6) ∧ (W5.drew.setCell ⟨X + 1, 1, none⟩ v).cell? ⟨wr.heap.size, 2, none⟩ = some (.func (Fn.func 109) #[] #[]))
      have hSeH := Lib.hid hSe
      have hS5H := Lib.hid hS5
      clear hSe hS5
      refine region_anyC (fun _ => true) (fun W => W.cell? ⟨wr.heap.size, 0, none⟩ = some (.int .i64 6) ∧ W.cell? ⟨wr.heap.size, 2, none⟩ = some (.func (Fn.func 109) #[] #[])) (by kernel_rfl) ?_
      refine anyL_take 0 (v := ?_) rfl (by kernel_rfl) (fun _ _ _ h => h) (Or.inl ⟨by rfl, ?_⟩) hS5H.out ?_
      rotate_left
      focus (intro W hW; go_simp; try with_reducible rfl)
      simp only [Act.put, List.setIfInBounds_toArray, List.set_cons_zero, List.set_cons_succ]
      refine anyL_take 1 (v := ?_) rfl (by kernel_rfl) (fun _ _ _ h => h) (Or.inl ⟨by rfl, ?_⟩) hS5H.out ?_
      rotate_left
      focus (intro W hW; obtain ⟨k0, k1⟩ := hW; go_simp; try with_reducible rfl)
      simp only [Act.put, List.setIfInBounds_toArray, List.set_cons_zero, List.set_cons_succ]
      refine anyL_take 3 (v := ?_) rfl (by kernel_rfl) (fun _ _ _ h => h) (Or.inl ⟨by rfl, ?_⟩) hS5H.out ?_
      rotate_left
      focus (intro W hW; go_simp; try with_reducible rfl)
      simp only [Act.put, List.setIfInBounds_toArray, List.set_cons_zero, List.set_cons_succ]
      refine anyL_take 4 (v := ?_) rfl (by kernel_rfl) (fun _ _ _ h => h) (Or.inl ⟨by rfl, ?_⟩) hS5H.out ?_
      rotate_left
      focus (intro W hW; go_simp; try with_reducible rfl)
      simp only [Act.put, List.setIfInBounds_toArray, List.set_cons_zero, List.set_cons_succ]
      refine anyL_take 5 (v := ?_) rfl (by kernel_rfl) (fun _ _ _ h => h) (Or.inl ⟨by rfl, ?_⟩) hS5H.out ?_
      rotate_left
      focus (intro W hW; go_simp; try with_reducible rfl)
      simp only [Act.put, List.setIfInBounds_toArray, List.set_cons_zero, List.set_cons_succ]
      refine anyL_take 6 (v := ?_) rfl (by kernel_rfl) (fun _ _ _ h => h) (Or.inl ⟨by rfl, ?_⟩) hS5H.out ?_
      rotate_left
      focus (intro W hW; go_simp; try with_reducible rfl)
      simp only [Act.put, List.setIfInBounds_toArray, List.set_cons_zero, List.set_cons_succ]
      refine anyL_take 7 (v := ?_) rfl (by kernel_rfl) (fun _ _ _ h => h) (Or.inl ⟨by rfl, ?_⟩) hS5H.out ?_
      rotate_left
      focus (intro W hW; obtain ⟨k0, k1⟩ := hW; go_simp; try with_reducible rfl)
      simp only [Act.put, List.setIfInBounds_toArray, List.set_cons_zero, List.set_cons_succ]
      refine anyL_take 8 (v := ?_) rfl (by kernel_rfl) (fun _ _ _ h => h) (Or.inl ⟨by rfl, ?_⟩) hS5H.out ?_
      rotate_left
      focus (intro W hW; go_simp; try with_reducible rfl)
      simp only [Act.put, List.setIfInBounds_toArray, List.set_cons_zero, List.set_cons_succ]
      refine anyL_take 9 (v := ?_) rfl (by kernel_rfl) (fun _ _ _ h => h) (Or.inl ⟨by rfl, ?_⟩) hS5H.out ?_
      rotate_left
      focus (intro W hW; go_simp; try with_reducible rfl)
      simp only [Act.put, List.setIfInBounds_toArray, List.set_cons_zero, List.set_cons_succ]
      refine anyL_one 2 rfl (by kernel_rfl) (fun K hK => ?_)
      go_simp
      refine (of_1 (X + 1) _).mono ?_
      rintro e' wq ⟨rfl, rfl⟩
      dsimp only
      refine hK.out _ _ (fun _ => hS5H.out) ?_
      clear hK K
      try simp only [Act.put, List.setIfInBounds_toArray, List.set_cons_zero, List.set_cons_succ]
      refine anyL_one 10 rfl (by kernel_rfl) (fun K hK => ?_)
      go_simp
      refine (hget.out _).mono ?_
      rintro e' wp ⟨rfl, rfl⟩
      dsimp only
      refine hK.out _ _ (fun _ => hS5H.out) ?_
      clear hK K
      try simp only [Act.put, List.setIfInBounds_toArray, List.set_cons_zero, List.set_cons_succ]
      refine anyL_take 11 (v := ?_) rfl (by kernel_rfl) (fun _ _ _ h => h) (Or.inl ⟨by rfl, ?_⟩) hS5H.out ?_
      rotate_left
      focus (intro W hW; go_simp; try with_reducible rfl)
      simp only [Act.put, List.setIfInBounds_toArray, List.set_cons_zero, List.set_cons_succ]
      refine anyL_take 12 (v := ?_) rfl (by kernel_rfl) (fun _ _ _ h => h) (Or.inl ⟨by rfl, ?_⟩) hS5H.out ?_
      rotate_left
      focus (intro W hW; go_simp; try with_reducible rfl)
      simp only [Act.put, List.setIfInBounds_toArray, List.set_cons_zero, List.set_cons_succ]
      refine anyL_take 13 (v := ?_) rfl (by kernel_rfl) (fun _ _ _ h => h) (Or.inl ⟨by rfl, ?_⟩) hS5H.out ?_
      rotate_left
      focus (intro W hW; go_simp; try with_reducible rfl)
      simp only [Act.put, List.setIfInBounds_toArray, List.set_cons_zero, List.set_cons_succ]
      refine anyL_take 14 (v := ?_) rfl (by kernel_rfl) (fun _ _ _ h => h) (Or.inl ⟨by rfl, ?_⟩) hS5H.out ?_
      rotate_left
      focus (intro W hW; go_simp; try with_reducible rfl)
      simp only [Act.put, List.setIfInBounds_toArray, List.set_cons_zero, List.set_cons_succ]
      refine anyL_one 15 rfl (by kernel_rfl) (fun K hK => ?_)
      go_simp
      refine hK.out _ _ (fun _ => hSeH.out _) ?_
      clear hK K
      try simp only [Act.put, List.setIfInBounds_toArray, List.set_cons_zero, List.set_cons_succ]
      refine anyC_done (by kernel_rfl) ?_ _
      refine fresh_K (fun W => (RcW W (X + 1) (numsR s 2) ∧ RcW W X zeroR) ∧ W.cell? ⟨wr.heap.size, 0, none⟩ = some (.int .i64 6) ∧ Below X w W) ⟨⟨(hQ5.out.below hD5).put1 _, (hP5.out.below hD5).far (by omega) 1 _⟩, (World.cell?_setCell_other _ _ _ _ (by intro e; injection e with e1; omega)).trans (hfacts.out _ hD5).1, (hB.trans ((hW5.trans (hD5.mono (by omega))).mono hws)).setCell (by simp) _⟩ ?_
      rintro W6 ⟨⟨hQ6, hP6⟩, hn0, hB6⟩
      have hQ6H := Lib.hid hQ6
      have hP6H := Lib.hid hP6
      clear hQ6 hP6 hQ5 hP5 hcq hfq g1 g2 g3 g4 hget hfacts hD5 hW5 hs5 hSeH hS5H
      go_wp2_with fail
      go_roundw
      case rel => exact ⟨2, by omega, rfl, rfl, hQ6H.out, hP6H.out, hB6⟩
      case measure => simp [intOf]
    · have hix := num_at2
      have hW : Below wr.heap.size wr (wr.alloc (.cells #[.int .i64 2, .int .i64 65535, .func (Fn.func 110) #[] #[]] 169)) := (Below.refl _ _).alloc (Nat.le_refl _) _
      dsimp only [atK]
      go_wp2_with fail
      refine fresh_world (fun W => (W.cell? ⟨wr.heap.size, 0, none⟩ = some (.int .i64 2) ∧ W.cell? ⟨wr.heap.size, 2, none⟩ = some (.func (Fn.func 110) #[] #[])) ∧ Below wr.heap.size wr W ∧ wr.heap.size < W.heap.size) ⟨⟨by go_simp, by go_simp⟩, hW, by simp⟩ ?_
      rintro W5 ⟨⟨b0, b2⟩, hW5, hs5⟩
      have hfacts := Lib.hid (fun W (hw : Below W5.heap.size W5 W) => (⟨(hw.cell (p := ⟨wr.heap.size, 0, none⟩) hs5).trans b0, (hw.cell (p := ⟨wr.heap.size, 2, none⟩) hs5).trans b2⟩ : W.cell? ⟨wr.heap.size, 0, none⟩ = some (.int .i64 2) ∧ W.cell? ⟨wr.heap.size, 2, none⟩ = some (.func (Fn.func 110) #[] #[])))
      have hQ5 := Lib.hid (hQH.out.below hW5)
      have hP5 := Lib.hid (hPH.out.below hW5)
      have hcq := hQ5.out.at_.c2
      have hfq := hQ5.out.fr 2
      have g1 : 11 ≤ s.size := by omega
      have g2 : (11 : Int) ≤ (s.size : Int) := by omega
      have g3 : ¬ s.size < 11 := by omega
      have g4 : IntKind.i64.wrap 11 = 11 := by decide +kernel
      have hget := Lib.hid (fun W => nget_any (s.extract 9 11) W (by rw [ByteArray.size_extract]; omega))
      clear b0 b2 hix hW
      have hD5 : Below W5.heap.size W5 W5.drew := (Below.refl _ _).drew
      have hS5 := hfacts.out _ hD5
      have hSe := fun v => (⟨(World.cell?_setCell_other W5.drew ⟨X + 1, 2, none⟩ ⟨wr.heap.size, 0, none⟩ v (by intro e; injection e with e1; omega)).trans hS5.1, (World.cell?_setCell_other W5.drew ⟨X + 1, 2, none⟩ ⟨wr.heap.size, 2, none⟩ v (by intro e; injection e with e1; omega)).trans hS5.2⟩ : (W5.drew.setCell ⟨X + 1, 2, none⟩ v).cell? ⟨wr.heap.size, 0, none⟩ = some (.int .i64 2) ∧ (W5.drew.setCell ⟨X + 1, 2, none⟩ v).cell? ⟨wr.heap.size, 2, none⟩ = some (.func (Fn.func 110) #[] #[]))
      have hSeH := Lib.hid hSe
      have hS5H := Lib.hid hS5
      clear hSe hS5
      refine region_anyC (fun _ => true) (fun W => W.cell? ⟨wr.heap.size, 0, none⟩ = some (.int .i64 2) ∧ W.cell? ⟨wr.heap.size, 2, none⟩ = some (.func (Fn.func 110) #[] #[])) (by kernel_rfl) ?_
      refine anyL_take 0 (v := ?_) rfl (by kernel_rfl) (fun _ _ _ h => h) (Or.inl ⟨by rfl, ?_⟩) hS5H.out ?_
      rotate_left
      focus (intro W hW; go_simp; try with_reducible rfl)
      simp only [Act.put, List.setIfInBounds_toArray, List.set_cons_zero, List.set_cons_succ]
      refine anyL_take 1 (v := ?_) rfl (by kernel_rfl) (fun _ _ _ h => h) (Or.inl ⟨by rfl, ?_⟩) hS5H.out ?_
      rotate_left
      focus (intro W hW; obtain ⟨k0, k1⟩ := hW; go_simp; try with_reducible rfl)
      simp only [Act.put, List.setIfInBounds_toArray, List.set_cons_zero, List.set_cons_succ]
      refine anyL_take 3 (v := ?_) rfl (by kernel_rfl) (fun _ _ _ h => h) (Or.inl ⟨by rfl, ?_⟩) hS5H.out ?_
      rotate_left
      focus (intro W hW; go_simp; try with_reducible rfl)
      simp only [Act.put, List.setIfInBounds_toArray, List.set_cons_zero, List.set_cons_succ]
      refine anyL_take 4 (v := ?_) rfl (by kernel_rfl) (fun _ _ _ h => h) (Or.inl ⟨by rfl, ?_⟩) hS5H.out ?_
      rotate_left
      focus (intro W hW; go_simp; try with_reducible rfl)
      simp only [Act.put, List.setIfInBounds_toArray, List.set_cons_zero, List.set_cons_succ]
      refine anyL_take 5 (v := ?_) rfl (by kernel_rfl) (fun _ _ _ h => h) (Or.inl ⟨by rfl, ?_⟩) hS5H.out ?_
      rotate_left
      focus (intro W hW; go_simp; try with_reducible rfl)
      simp only [Act.put, List.setIfInBounds_toArray, List.set_cons_zero, List.set_cons_succ]
      refine anyL_take 6 (v := ?_) rfl (by kernel_rfl) (fun _ _ _ h => h) (Or.inl ⟨by rfl, ?_⟩) hS5H.out ?_
      rotate_left
      focus (intro W hW; go_simp; try with_reducible rfl)
      simp only [Act.put, List.setIfInBounds_toArray, List.set_cons_zero, List.set_cons_succ]
      refine anyL_take 7 (v := ?_) rfl (by kernel_rfl) (fun _ _ _ h => h) (Or.inl ⟨by rfl, ?_⟩) hS5H.out ?_
      rotate_left
      focus (intro W hW; obtain ⟨k0, k1⟩ := hW; go_simp; try with_reducible rfl)
      simp only [Act.put, List.setIfInBounds_toArray, List.set_cons_zero, List.set_cons_succ]
      refine anyL_take 8 (v := ?_) rfl (by kernel_rfl) (fun _ _ _ h => h) (Or.inl ⟨by rfl, ?_⟩) hS5H.out ?_
      rotate_left
      focus (intro W hW; go_simp; try with_reducible rfl)
      simp only [Act.put, List.setIfInBounds_toArray, List.set_cons_zero, List.set_cons_succ]
      refine anyL_take 9 (v := ?_) rfl (by kernel_rfl) (fun _ _ _ h => h) (Or.inl ⟨by rfl, ?_⟩) hS5H.out ?_
      rotate_left
      focus (intro W hW; go_simp; try with_reducible rfl)
      simp only [Act.put, List.setIfInBounds_toArray, List.set_cons_zero, List.set_cons_succ]
      refine anyL_one 2 rfl (by kernel_rfl) (fun K hK => ?_)
      go_simp
      refine (of_2 (X + 1) _).mono ?_
      rintro e' wq ⟨rfl, rfl⟩
      dsimp only
      refine hK.out _ _ (fun _ => hS5H.out) ?_
      clear hK K
      try simp only [Act.put, List.setIfInBounds_toArray, List.set_cons_zero, List.set_cons_succ]
      refine anyL_one 10 rfl (by kernel_rfl) (fun K hK => ?_)
      go_simp
      refine (hget.out _).mono ?_
      rintro e' wp ⟨rfl, rfl⟩
      dsimp only
      refine hK.out _ _ (fun _ => hS5H.out) ?_
      clear hK K
      try simp only [Act.put, List.setIfInBounds_toArray, List.set_cons_zero, List.set_cons_succ]
      refine anyL_take 11 (v := ?_) rfl (by kernel_rfl) (fun _ _ _ h => h) (Or.inl ⟨by rfl, ?_⟩) hS5H.out ?_
      rotate_left
      focus (intro W hW; go_simp; try with_reducible rfl)
      simp only [Act.put, List.setIfInBounds_toArray, List.set_cons_zero, List.set_cons_succ]
      refine anyL_take 12 (v := ?_) rfl (by kernel_rfl) (fun _ _ _ h => h) (Or.inl ⟨by rfl, ?_⟩) hS5H.out ?_
      rotate_left
      focus (intro W hW; go_simp; try with_reducible rfl)
      simp only [Act.put, List.setIfInBounds_toArray, List.set_cons_zero, List.set_cons_succ]
      refine anyL_take 13 (v := ?_) rfl (by kernel_rfl) (fun _ _ _ h => h) (Or.inl ⟨by rfl, ?_⟩) hS5H.out ?_
      rotate_left
      focus (intro W hW; go_simp; try with_reducible rfl)
      simp only [Act.put, List.setIfInBounds_toArray, List.set_cons_zero, List.set_cons_succ]
      refine anyL_take 14 (v := ?_) rfl (by kernel_rfl) (fun _ _ _ h => h) (Or.inl ⟨by rfl, ?_⟩) hS5H.out ?_
      rotate_left
      focus (intro W hW; go_simp; try with_reducible rfl)
      simp only [Act.put, List.setIfInBounds_toArray, List.set_cons_zero, List.set_cons_succ]
      refine anyL_one 15 rfl (by kernel_rfl) (fun K hK => ?_)
      go_simp
      refine hK.out _ _ (fun _ => hSeH.out _) ?_
      clear hK K
      try simp only [Act.put, List.setIfInBounds_toArray, List.set_cons_zero, List.set_cons_succ]
      refine anyC_done (by kernel_rfl) ?_ _
      refine fresh_K (fun W => (RcW W (X + 1) (numsR s 3) ∧ RcW W X zeroR) ∧ W.cell? ⟨wr.heap.size, 0, none⟩ = some (.int .i64 2) ∧ Below X w W) ⟨⟨(hQ5.out.below hD5).put2 _, (hP5.out.below hD5).far (by omega) 2 _⟩, (World.cell?_setCell_other _ _ _ _ (by intro e; injection e with e1; omega)).trans (hfacts.out _ hD5).1, (hB.trans ((hW5.trans (hD5.mono (by omega))).mono hws)).setCell (by simp) _⟩ ?_
      rintro W6 ⟨⟨hQ6, hP6⟩, hn0, hB6⟩
      have hQ6H := Lib.hid hQ6
      have hP6H := Lib.hid hP6
      clear hQ6 hP6 hQ5 hP5 hcq hfq g1 g2 g3 g4 hget hfacts hD5 hW5 hs5 hSeH hS5H
      go_wp2_with fail
      go_roundw
      case rel => exact ⟨3, by omega, rfl, rfl, hQ6H.out, hP6H.out, hB6⟩
      case measure => simp [intOf]
    · have hix := num_at3
      have hW : Below wr.heap.size wr (wr.alloc (.cells #[.int .i64 2, .int .i64 65535, .func (Fn.func 111) #[] #[]] 169)) := (Below.refl _ _).alloc (Nat.le_refl _) _
      dsimp only [atK]
      go_wp2_with fail
      refine fresh_world (fun W => (W.cell? ⟨wr.heap.size, 0, none⟩ = some (.int .i64 2) ∧ W.cell? ⟨wr.heap.size, 2, none⟩ = some (.func (Fn.func 111) #[] #[])) ∧ Below wr.heap.size wr W ∧ wr.heap.size < W.heap.size) ⟨⟨by go_simp, by go_simp⟩, hW, by simp⟩ ?_
      rintro W5 ⟨⟨b0, b2⟩, hW5, hs5⟩
      have hfacts := Lib.hid (fun W (hw : Below W5.heap.size W5 W) => (⟨(hw.cell (p := ⟨wr.heap.size, 0, none⟩) hs5).trans b0, (hw.cell (p := ⟨wr.heap.size, 2, none⟩) hs5).trans b2⟩ : W.cell? ⟨wr.heap.size, 0, none⟩ = some (.int .i64 2) ∧ W.cell? ⟨wr.heap.size, 2, none⟩ = some (.func (Fn.func 111) #[] #[])))
      have hQ5 := Lib.hid (hQH.out.below hW5)
      have hP5 := Lib.hid (hPH.out.below hW5)
      have hcq := hQ5.out.at_.c3
      have hfq := hQ5.out.fr 3
      have g1 : 13 ≤ s.size := by omega
      have g2 : (13 : Int) ≤ (s.size : Int) := by omega
      have g3 : ¬ s.size < 13 := by omega
      have g4 : IntKind.i64.wrap 13 = 13 := by decide +kernel
      have hget := Lib.hid (fun W => nget_any (s.extract 11 13) W (by rw [ByteArray.size_extract]; omega))
      clear b0 b2 hix hW
      have hD5 : Below W5.heap.size W5 W5.drew := (Below.refl _ _).drew
      have hS5 := hfacts.out _ hD5
      have hSe := fun v => (⟨(World.cell?_setCell_other W5.drew ⟨X + 1, 3, none⟩ ⟨wr.heap.size, 0, none⟩ v (by intro e; injection e with e1; omega)).trans hS5.1, (World.cell?_setCell_other W5.drew ⟨X + 1, 3, none⟩ ⟨wr.heap.size, 2, none⟩ v (by intro e; injection e with e1; omega)).trans hS5.2⟩ : (W5.drew.setCell ⟨X + 1, 3, none⟩ v).cell? ⟨wr.heap.size, 0, none⟩ = some (.int .i64 2) ∧ (W5.drew.setCell ⟨X + 1, 3, none⟩ v).cell? ⟨wr.heap.size, 2, none⟩ = some (.func (Fn.func 111) #[] #[]))
      have hSeH := Lib.hid hSe
      have hS5H := Lib.hid hS5
      clear hSe hS5
      refine region_anyC (fun _ => true) (fun W => W.cell? ⟨wr.heap.size, 0, none⟩ = some (.int .i64 2) ∧ W.cell? ⟨wr.heap.size, 2, none⟩ = some (.func (Fn.func 111) #[] #[])) (by kernel_rfl) ?_
      refine anyL_take 0 (v := ?_) rfl (by kernel_rfl) (fun _ _ _ h => h) (Or.inl ⟨by rfl, ?_⟩) hS5H.out ?_
      rotate_left
      focus (intro W hW; go_simp; try with_reducible rfl)
      simp only [Act.put, List.setIfInBounds_toArray, List.set_cons_zero, List.set_cons_succ]
      refine anyL_take 1 (v := ?_) rfl (by kernel_rfl) (fun _ _ _ h => h) (Or.inl ⟨by rfl, ?_⟩) hS5H.out ?_
      rotate_left
      focus (intro W hW; obtain ⟨k0, k1⟩ := hW; go_simp; try with_reducible rfl)
      simp only [Act.put, List.setIfInBounds_toArray, List.set_cons_zero, List.set_cons_succ]
      refine anyL_take 3 (v := ?_) rfl (by kernel_rfl) (fun _ _ _ h => h) (Or.inl ⟨by rfl, ?_⟩) hS5H.out ?_
      rotate_left
      focus (intro W hW; go_simp; try with_reducible rfl)
      simp only [Act.put, List.setIfInBounds_toArray, List.set_cons_zero, List.set_cons_succ]
      refine anyL_take 4 (v := ?_) rfl (by kernel_rfl) (fun _ _ _ h => h) (Or.inl ⟨by rfl, ?_⟩) hS5H.out ?_
      rotate_left
      focus (intro W hW; go_simp; try with_reducible rfl)
      simp only [Act.put, List.setIfInBounds_toArray, List.set_cons_zero, List.set_cons_succ]
      refine anyL_take 5 (v := ?_) rfl (by kernel_rfl) (fun _ _ _ h => h) (Or.inl ⟨by rfl, ?_⟩) hS5H.out ?_
      rotate_left
      focus (intro W hW; go_simp; try with_reducible rfl)
      simp only [Act.put, List.setIfInBounds_toArray, List.set_cons_zero, List.set_cons_succ]
      refine anyL_take 6 (v := ?_) rfl (by kernel_rfl) (fun _ _ _ h => h) (Or.inl ⟨by rfl, ?_⟩) hS5H.out ?_
      rotate_left
      focus (intro W hW; go_simp; try with_reducible rfl)
      simp only [Act.put, List.setIfInBounds_toArray, List.set_cons_zero, List.set_cons_succ]
      refine anyL_take 7 (v := ?_) rfl (by kernel_rfl) (fun _ _ _ h => h) (Or.inl ⟨by rfl, ?_⟩) hS5H.out ?_
      rotate_left
      focus (intro W hW; obtain ⟨k0, k1⟩ := hW; go_simp; try with_reducible rfl)
      simp only [Act.put, List.setIfInBounds_toArray, List.set_cons_zero, List.set_cons_succ]
      refine anyL_take 8 (v := ?_) rfl (by kernel_rfl) (fun _ _ _ h => h) (Or.inl ⟨by rfl, ?_⟩) hS5H.out ?_
      rotate_left
      focus (intro W hW; go_simp; try with_reducible rfl)
      simp only [Act.put, List.setIfInBounds_toArray, List.set_cons_zero, List.set_cons_succ]
      refine anyL_take 9 (v := ?_) rfl (by kernel_rfl) (fun _ _ _ h => h) (Or.inl ⟨by rfl, ?_⟩) hS5H.out ?_
      rotate_left
      focus (intro W hW; go_simp; try with_reducible rfl)
      simp only [Act.put, List.setIfInBounds_toArray, List.set_cons_zero, List.set_cons_succ]
      refine anyL_one 2 rfl (by kernel_rfl) (fun K hK => ?_)
      go_simp
      refine (of_3 (X + 1) _).mono ?_
      rintro e' wq ⟨rfl, rfl⟩
      dsimp only
      refine hK.out _ _ (fun _ => hS5H.out) ?_
      clear hK K
      try simp only [Act.put, List.setIfInBounds_toArray, List.set_cons_zero, List.set_cons_succ]
      refine anyL_one 10 rfl (by kernel_rfl) (fun K hK => ?_)
      go_simp
      refine (hget.out _).mono ?_
      rintro e' wp ⟨rfl, rfl⟩
      dsimp only
      refine hK.out _ _ (fun _ => hS5H.out) ?_
      clear hK K
      try simp only [Act.put, List.setIfInBounds_toArray, List.set_cons_zero, List.set_cons_succ]
      refine anyL_take 11 (v := ?_) rfl (by kernel_rfl) (fun _ _ _ h => h) (Or.inl ⟨by rfl, ?_⟩) hS5H.out ?_
      rotate_left
      focus (intro W hW; go_simp; try with_reducible rfl)
      simp only [Act.put, List.setIfInBounds_toArray, List.set_cons_zero, List.set_cons_succ]
      refine anyL_take 12 (v := ?_) rfl (by kernel_rfl) (fun _ _ _ h => h) (Or.inl ⟨by rfl, ?_⟩) hS5H.out ?_
      rotate_left
      focus (intro W hW; go_simp; try with_reducible rfl)
      simp only [Act.put, List.setIfInBounds_toArray, List.set_cons_zero, List.set_cons_succ]
      refine anyL_take 13 (v := ?_) rfl (by kernel_rfl) (fun _ _ _ h => h) (Or.inl ⟨by rfl, ?_⟩) hS5H.out ?_
      rotate_left
      focus (intro W hW; go_simp; try with_reducible rfl)
      simp only [Act.put, List.setIfInBounds_toArray, List.set_cons_zero, List.set_cons_succ]
      refine anyL_take 14 (v := ?_) rfl (by kernel_rfl) (fun _ _ _ h => h) (Or.inl ⟨by rfl, ?_⟩) hS5H.out ?_
      rotate_left
      focus (intro W hW; go_simp; try with_reducible rfl)
      simp only [Act.put, List.setIfInBounds_toArray, List.set_cons_zero, List.set_cons_succ]
      refine anyL_one 15 rfl (by kernel_rfl) (fun K hK => ?_)
      go_simp
      refine hK.out _ _ (fun _ => hSeH.out _) ?_
      clear hK K
      try simp only [Act.put, List.setIfInBounds_toArray, List.set_cons_zero, List.set_cons_succ]
      refine anyC_done (by kernel_rfl) ?_ _
      refine fresh_K (fun W => (RcW W (X + 1) (numsR s 4) ∧ RcW W X zeroR) ∧ W.cell? ⟨wr.heap.size, 0, none⟩ = some (.int .i64 2) ∧ Below X w W) ⟨⟨(hQ5.out.below hD5).put3 _, (hP5.out.below hD5).far (by omega) 3 _⟩, (World.cell?_setCell_other _ _ _ _ (by intro e; injection e with e1; omega)).trans (hfacts.out _ hD5).1, (hB.trans ((hW5.trans (hD5.mono (by omega))).mono hws)).setCell (by simp) _⟩ ?_
      rintro W6 ⟨⟨hQ6, hP6⟩, hn0, hB6⟩
      have hQ6H := Lib.hid hQ6
      have hP6H := Lib.hid hP6
      clear hQ6 hP6 hQ5 hP5 hcq hfq g1 g2 g3 g4 hget hfacts hD5 hW5 hs5 hSeH hS5H
      go_wp2_with fail
      go_roundw
      case rel => exact ⟨4, by omega, rfl, rfl, hQ6H.out, hP6H.out, hB6⟩
      case measure => simp [intOf]
    · have hix := num_at4
      have hW : Below wr.heap.size wr (wr.alloc (.cells #[.int .i64 6, .int .i64 1099511627776, .func (Fn.func 112) #[] #[]] 169)) := (Below.refl _ _).alloc (Nat.le_refl _) _
      dsimp only [atK]
      go_wp2_with fail
      refine fresh_world (fun W => (W.cell? ⟨wr.heap.size, 0, none⟩ = some (.int .i64 6) ∧ W.cell? ⟨wr.heap.size, 2, none⟩ = some (.func (Fn.func 112) #[] #[])) ∧ Below wr.heap.size wr W ∧ wr.heap.size < W.heap.size) ⟨⟨by go_simp, by go_simp⟩, hW, by simp⟩ ?_
      rintro W5 ⟨⟨b0, b2⟩, hW5, hs5⟩
      have hfacts := Lib.hid (fun W (hw : Below W5.heap.size W5 W) => (⟨(hw.cell (p := ⟨wr.heap.size, 0, none⟩) hs5).trans b0, (hw.cell (p := ⟨wr.heap.size, 2, none⟩) hs5).trans b2⟩ : W.cell? ⟨wr.heap.size, 0, none⟩ = some (.int .i64 6) ∧ W.cell? ⟨wr.heap.size, 2, none⟩ = some (.func (Fn.func 112) #[] #[])))
      have hQ5 := Lib.hid (hQH.out.below hW5)
      have hP5 := Lib.hid (hPH.out.below hW5)
      have hcq := hQ5.out.at_.c4
      have hfq := hQ5.out.fr 4
      have g1 : 19 ≤ s.size := by omega
      have g2 : (19 : Int) ≤ (s.size : Int) := by omega
      have g3 : ¬ s.size < 19 := by omega
      have g4 : IntKind.i64.wrap 19 = 19 := by decide +kernel
      have hget := Lib.hid (fun W => nget_any (s.extract 13 19) W (by rw [ByteArray.size_extract]; omega))
      clear b0 b2 hix hW
      have hD5 : Below W5.heap.size W5 W5.drew := (Below.refl _ _).drew
      have hS5 := hfacts.out _ hD5
      have hSe := fun v => (⟨(World.cell?_setCell_other W5.drew ⟨X + 1, 4, none⟩ ⟨wr.heap.size, 0, none⟩ v (by intro e; injection e with e1; omega)).trans hS5.1, (World.cell?_setCell_other W5.drew ⟨X + 1, 4, none⟩ ⟨wr.heap.size, 2, none⟩ v (by intro e; injection e with e1; omega)).trans hS5.2⟩ : (W5.drew.setCell ⟨X + 1, 4, none⟩ v).cell? ⟨wr.heap.size, 0, none⟩ = some (.int .i64 6) ∧ (W5.drew.setCell ⟨X + 1, 4, none⟩ v).cell? ⟨wr.heap.size, 2, none⟩ = some (.func (Fn.func 112) #[] #[]))
      have hSeH := Lib.hid hSe
      have hS5H := Lib.hid hS5
      clear hSe hS5
      refine region_anyC (fun _ => true) (fun W => W.cell? ⟨wr.heap.size, 0, none⟩ = some (.int .i64 6) ∧ W.cell? ⟨wr.heap.size, 2, none⟩ = some (.func (Fn.func 112) #[] #[])) (by kernel_rfl) ?_
      refine anyL_take 0 (v := ?_) rfl (by kernel_rfl) (fun _ _ _ h => h) (Or.inl ⟨by rfl, ?_⟩) hS5H.out ?_
      rotate_left
      focus (intro W hW; go_simp; try with_reducible rfl)
      simp only [Act.put, List.setIfInBounds_toArray, List.set_cons_zero, List.set_cons_succ]
      refine anyL_take 1 (v := ?_) rfl (by kernel_rfl) (fun _ _ _ h => h) (Or.inl ⟨by rfl, ?_⟩) hS5H.out ?_
      rotate_left
      focus (intro W hW; obtain ⟨k0, k1⟩ := hW; go_simp; try with_reducible rfl)
      simp only [Act.put, List.setIfInBounds_toArray, List.set_cons_zero, List.set_cons_succ]
      refine anyL_take 3 (v := ?_) rfl (by kernel_rfl) (fun _ _ _ h => h) (Or.inl ⟨by rfl, ?_⟩) hS5H.out ?_
      rotate_left
      focus (intro W hW; go_simp; try with_reducible rfl)
      simp only [Act.put, List.setIfInBounds_toArray, List.set_cons_zero, List.set_cons_succ]
      refine anyL_take 4 (v := ?_) rfl (by kernel_rfl) (fun _ _ _ h => h) (Or.inl ⟨by rfl, ?_⟩) hS5H.out ?_
      rotate_left
      focus (intro W hW; go_simp; try with_reducible rfl)
      simp only [Act.put, List.setIfInBounds_toArray, List.set_cons_zero, List.set_cons_succ]
      refine anyL_take 5 (v := ?_) rfl (by kernel_rfl) (fun _ _ _ h => h) (Or.inl ⟨by rfl, ?_⟩) hS5H.out ?_
      rotate_left
      focus (intro W hW; go_simp; try with_reducible rfl)
      simp only [Act.put, List.setIfInBounds_toArray, List.set_cons_zero, List.set_cons_succ]
      refine anyL_take 6 (v := ?_) rfl (by kernel_rfl) (fun _ _ _ h => h) (Or.inl ⟨by rfl, ?_⟩) hS5H.out ?_
      rotate_left
      focus (intro W hW; go_simp; try with_reducible rfl)
      simp only [Act.put, List.setIfInBounds_toArray, List.set_cons_zero, List.set_cons_succ]
      refine anyL_take 7 (v := ?_) rfl (by kernel_rfl) (fun _ _ _ h => h) (Or.inl ⟨by rfl, ?_⟩) hS5H.out ?_
      rotate_left
      focus (intro W hW; obtain ⟨k0, k1⟩ := hW; go_simp; try with_reducible rfl)
      simp only [Act.put, List.setIfInBounds_toArray, List.set_cons_zero, List.set_cons_succ]
      refine anyL_take 8 (v := ?_) rfl (by kernel_rfl) (fun _ _ _ h => h) (Or.inl ⟨by rfl, ?_⟩) hS5H.out ?_
      rotate_left
      focus (intro W hW; go_simp; try with_reducible rfl)
      simp only [Act.put, List.setIfInBounds_toArray, List.set_cons_zero, List.set_cons_succ]
      refine anyL_take 9 (v := ?_) rfl (by kernel_rfl) (fun _ _ _ h => h) (Or.inl ⟨by rfl, ?_⟩) hS5H.out ?_
      rotate_left
      focus (intro W hW; go_simp; try with_reducible rfl)
      simp only [Act.put, List.setIfInBounds_toArray, List.set_cons_zero, List.set_cons_succ]
      refine anyL_one 2 rfl (by kernel_rfl) (fun K hK => ?_)
      go_simp
      refine (of_4 (X + 1) _).mono ?_
      rintro e' wq ⟨rfl, rfl⟩
      dsimp only
      refine hK.out _ _ (fun _ => hS5H.out) ?_
      clear hK K
      try simp only [Act.put, List.setIfInBounds_toArray, List.set_cons_zero, List.set_cons_succ]
      refine anyL_one 10 rfl (by kernel_rfl) (fun K hK => ?_)
      go_simp
      refine (hget.out _).mono ?_
      rintro e' wp ⟨rfl, rfl⟩
      dsimp only
      refine hK.out _ _ (fun _ => hS5H.out) ?_
      clear hK K
      try simp only [Act.put, List.setIfInBounds_toArray, List.set_cons_zero, List.set_cons_succ]
      refine anyL_take 11 (v := ?_) rfl (by kernel_rfl) (fun _ _ _ h => h) (Or.inl ⟨by rfl, ?_⟩) hS5H.out ?_
      rotate_left
      focus (intro W hW; go_simp; try with_reducible rfl)
      simp only [Act.put, List.setIfInBounds_toArray, List.set_cons_zero, List.set_cons_succ]
      refine anyL_take 12 (v := ?_) rfl (by kernel_rfl) (fun _ _ _ h => h) (Or.inl ⟨by rfl, ?_⟩) hS5H.out ?_
      rotate_left
      focus (intro W hW; go_simp; try with_reducible rfl)
      simp only [Act.put, List.setIfInBounds_toArray, List.set_cons_zero, List.set_cons_succ]
      refine anyL_take 13 (v := ?_) rfl (by kernel_rfl) (fun _ _ _ h => h) (Or.inl ⟨by rfl, ?_⟩) hS5H.out ?_
      rotate_left
      focus (intro W hW; go_simp; try with_reducible rfl)
      simp only [Act.put, List.setIfInBounds_toArray, List.set_cons_zero, List.set_cons_succ]
      refine anyL_take 14 (v := ?_) rfl (by kernel_rfl) (fun _ _ _ h => h) (Or.inl ⟨by rfl, ?_⟩) hS5H.out ?_
      rotate_left
      focus (intro W hW; go_simp; try with_reducible rfl)
      simp only [Act.put, List.setIfInBounds_toArray, List.set_cons_zero, List.set_cons_succ]
      refine anyL_one 15 rfl (by kernel_rfl) (fun K hK => ?_)
      go_simp
      refine hK.out _ _ (fun _ => hSeH.out _) ?_
      clear hK K
      try simp only [Act.put, List.setIfInBounds_toArray, List.set_cons_zero, List.set_cons_succ]
      refine anyC_done (by kernel_rfl) ?_ _
      refine fresh_K (fun W => (RcW W (X + 1) (numsR s 5) ∧ RcW W X zeroR) ∧ W.cell? ⟨wr.heap.size, 0, none⟩ = some (.int .i64 6) ∧ Below X w W) ⟨⟨(hQ5.out.below hD5).put4 _, (hP5.out.below hD5).far (by omega) 4 _⟩, (World.cell?_setCell_other _ _ _ _ (by intro e; injection e with e1; omega)).trans (hfacts.out _ hD5).1, (hB.trans ((hW5.trans (hD5.mono (by omega))).mono hws)).setCell (by simp) _⟩ ?_
      rintro W6 ⟨⟨hQ6, hP6⟩, hn0, hB6⟩
      have hQ6H := Lib.hid hQ6
      have hP6H := Lib.hid hP6
      clear hQ6 hP6 hQ5 hP5 hcq hfq g1 g2 g3 g4 hget hfacts hD5 hW5 hs5 hSeH hS5H
      go_wp2_with fail
      go_roundw
      case rel => exact ⟨5, by omega, rfl, rfl, hQ6H.out, hP6H.out, hB6⟩
      case measure => simp [intOf]
    · have hix := num_at5
      have hW : Below wr.heap.size wr (wr.alloc (.cells #[.int .i64 2, .int .i64 65535, .func (Fn.func 113) #[] #[]] 169)) := (Below.refl _ _).alloc (Nat.le_refl _) _
      dsimp only [atK]
      go_wp2_with fail
      refine fresh_world (fun W => (W.cell? ⟨wr.heap.size, 0, none⟩ = some (.int .i64 2) ∧ W.cell? ⟨wr.heap.size, 2, none⟩ = some (.func (Fn.func 113) #[] #[])) ∧ Below wr.heap.size wr W ∧ wr.heap.size < W.heap.size) ⟨⟨by go_simp, by go_simp⟩, hW, by simp⟩ ?_
      rintro W5 ⟨⟨b0, b2⟩, hW5, hs5⟩
      have hfacts := Lib.hid (fun W (hw : Below W5.heap.size W5 W) => (⟨(hw.cell (p := ⟨wr.heap.size, 0, none⟩) hs5).trans b0, (hw.cell (p := ⟨wr.heap.size, 2, none⟩) hs5).trans b2⟩ : W.cell? ⟨wr.heap.size, 0, none⟩ = some (.int .i64 2) ∧ W.cell? ⟨wr.heap.size, 2, none⟩ = some (.func (Fn.func 113) #[] #[])))
      have hQ5 := Lib.hid (hQH.out.below hW5)
      have hP5 := Lib.hid (hPH.out.below hW5)
      have hcq := hQ5.out.at_.c5
      have hfq := hQ5.out.fr 5
      have g1 : 21 ≤ s.size := by omega
      have g2 : (21 : Int) ≤ (s.size : Int) := by omega
      have g3 : ¬ s.size < 21 := by omega
      have g4 : IntKind.i64.wrap 21 = 21 := by decide +kernel
      have hget := Lib.hid (fun W => nget_any (s.extract 19 21) W (by rw [ByteArray.size_extract]; omega))
      clear b0 b2 hix hW
      have hD5 : Below W5.heap.size W5 W5.drew := (Below.refl _ _).drew
      have hS5 := hfacts.out _ hD5
      have hSe := fun v => (⟨(World.cell?_setCell_other W5.drew ⟨X + 1, 5, none⟩ ⟨wr.heap.size, 0, none⟩ v (by intro e; injection e with e1; omega)).trans hS5.1, (World.cell?_setCell_other W5.drew ⟨X + 1, 5, none⟩ ⟨wr.heap.size, 2, none⟩ v (by intro e; injection e with e1; omega)).trans hS5.2⟩ : (W5.drew.setCell ⟨X + 1, 5, none⟩ v).cell? ⟨wr.heap.size, 0, none⟩ = some (.int .i64 2) ∧ (W5.drew.setCell ⟨X + 1, 5, none⟩ v).cell? ⟨wr.heap.size, 2, none⟩ = some (.func (Fn.func 113) #[] #[]))
      have hSeH := Lib.hid hSe
      have hS5H := Lib.hid hS5
      clear hSe hS5
      refine region_anyC (fun _ => true) (fun W => W.cell? ⟨wr.heap.size, 0, none⟩ = some (.int .i64 2) ∧ W.cell? ⟨wr.heap.size, 2, none⟩ = some (.func (Fn.func 113) #[] #[])) (by kernel_rfl) ?_
      refine anyL_take 0 (v := ?_) rfl (by kernel_rfl) (fun _ _ _ h => h) (Or.inl ⟨by rfl, ?_⟩) hS5H.out ?_
      rotate_left
      focus (intro W hW; go_simp; try with_reducible rfl)
      simp only [Act.put, List.setIfInBounds_toArray, List.set_cons_zero, List.set_cons_succ]
      refine anyL_take 1 (v := ?_) rfl (by kernel_rfl) (fun _ _ _ h => h) (Or.inl ⟨by rfl, ?_⟩) hS5H.out ?_
      rotate_left
      focus (intro W hW; obtain ⟨k0, k1⟩ := hW; go_simp; try with_reducible rfl)
      simp only [Act.put, List.setIfInBounds_toArray, List.set_cons_zero, List.set_cons_succ]
      refine anyL_take 3 (v := ?_) rfl (by kernel_rfl) (fun _ _ _ h => h) (Or.inl ⟨by rfl, ?_⟩) hS5H.out ?_
      rotate_left
      focus (intro W hW; go_simp; try with_reducible rfl)
      simp only [Act.put, List.setIfInBounds_toArray, List.set_cons_zero, List.set_cons_succ]
      refine anyL_take 4 (v := ?_) rfl (by kernel_rfl) (fun _ _ _ h => h) (Or.inl ⟨by rfl, ?_⟩) hS5H.out ?_
      rotate_left
      focus (intro W hW; go_simp; try with_reducible rfl)
      simp only [Act.put, List.setIfInBounds_toArray, List.set_cons_zero, List.set_cons_succ]
      refine anyL_take 5 (v := ?_) rfl (by kernel_rfl) (fun _ _ _ h => h) (Or.inl ⟨by rfl, ?_⟩) hS5H.out ?_
      rotate_left
      focus (intro W hW; go_simp; try with_reducible rfl)
      simp only [Act.put, List.setIfInBounds_toArray, List.set_cons_zero, List.set_cons_succ]
      refine anyL_take 6 (v := ?_) rfl (by kernel_rfl) (fun _ _ _ h => h) (Or.inl ⟨by rfl, ?_⟩) hS5H.out ?_
      rotate_left
      focus (intro W hW; go_simp; try with_reducible rfl)
      simp only [Act.put, List.setIfInBounds_toArray, List.set_cons_zero, List.set_cons_succ]
      refine anyL_take 7 (v := ?_) rfl (by kernel_rfl) (fun _ _ _ h => h) (Or.inl ⟨by rfl, ?_⟩) hS5H.out ?_
      rotate_left
      focus (intro W hW; obtain ⟨k0, k1⟩ := hW; go_simp; try with_reducible rfl)
      simp only [Act.put, List.setIfInBounds_toArray, List.set_cons_zero, List.set_cons_succ]
      refine anyL_take 8 (v := ?_) rfl (by kernel_rfl) (fun _ _ _ h => h) (Or.inl ⟨by rfl, ?_⟩) hS5H.out ?_
      rotate_left
      focus (intro W hW; go_simp; try with_reducible rfl)
      simp only [Act.put, List.setIfInBounds_toArray, List.set_cons_zero, List.set_cons_succ]
      refine anyL_take 9 (v := ?_) rfl (by kernel_rfl) (fun _ _ _ h => h) (Or.inl ⟨by rfl, ?_⟩) hS5H.out ?_
      rotate_left
      focus (intro W hW; go_simp; try with_reducible rfl)
      simp only [Act.put, List.setIfInBounds_toArray, List.set_cons_zero, List.set_cons_succ]
      refine anyL_one 2 rfl (by kernel_rfl) (fun K hK => ?_)
      go_simp
      refine (of_5 (X + 1) _).mono ?_
      rintro e' wq ⟨rfl, rfl⟩
      dsimp only
      refine hK.out _ _ (fun _ => hS5H.out) ?_
      clear hK K
      try simp only [Act.put, List.setIfInBounds_toArray, List.set_cons_zero, List.set_cons_succ]
      refine anyL_one 10 rfl (by kernel_rfl) (fun K hK => ?_)
      go_simp
      refine (hget.out _).mono ?_
      rintro e' wp ⟨rfl, rfl⟩
      dsimp only
      refine hK.out _ _ (fun _ => hS5H.out) ?_
      clear hK K
      try simp only [Act.put, List.setIfInBounds_toArray, List.set_cons_zero, List.set_cons_succ]
      refine anyL_take 11 (v := ?_) rfl (by kernel_rfl) (fun _ _ _ h => h) (Or.inl ⟨by rfl, ?_⟩) hS5H.out ?_
      rotate_left
      focus (intro W hW; go_simp; try with_reducible rfl)
      simp only [Act.put, List.setIfInBounds_toArray, List.set_cons_zero, List.set_cons_succ]
      refine anyL_take 12 (v := ?_) rfl (by kernel_rfl) (fun _ _ _ h => h) (Or.inl ⟨by rfl, ?_⟩) hS5H.out ?_
      rotate_left
      focus (intro W hW; go_simp; try with_reducible rfl)
      simp only [Act.put, List.setIfInBounds_toArray, List.set_cons_zero, List.set_cons_succ]
      refine anyL_take 13 (v := ?_) rfl (by kernel_rfl) (fun _ _ _ h => h) (Or.inl ⟨by rfl, ?_⟩) hS5H.out ?_
      rotate_left
      focus (intro W hW; go_simp; try with_reducible rfl)
      simp only [Act.put, List.setIfInBounds_toArray, List.set_cons_zero, List.set_cons_succ]
      refine anyL_take 14 (v := ?_) rfl (by kernel_rfl) (fun _ _ _ h => h) (Or.inl ⟨by rfl, ?_⟩) hS5H.out ?_
      rotate_left
      focus (intro W hW; go_simp; try with_reducible rfl)
      simp only [Act.put, List.setIfInBounds_toArray, List.set_cons_zero, List.set_cons_succ]
      refine anyL_one 15 rfl (by kernel_rfl) (fun K hK => ?_)
      go_simp
      refine hK.out _ _ (fun _ => hSeH.out _) ?_
      clear hK K
      try simp only [Act.put, List.setIfInBounds_toArray, List.set_cons_zero, List.set_cons_succ]
      refine anyC_done (by kernel_rfl) ?_ _
      refine fresh_K (fun W => (RcW W (X + 1) (numsR s 6) ∧ RcW W X zeroR) ∧ W.cell? ⟨wr.heap.size, 0, none⟩ = some (.int .i64 2) ∧ Below X w W) ⟨⟨(hQ5.out.below hD5).put5 _, (hP5.out.below hD5).far (by omega) 5 _⟩, (World.cell?_setCell_other _ _ _ _ (by intro e; injection e with e1; omega)).trans (hfacts.out _ hD5).1, (hB.trans ((hW5.trans (hD5.mono (by omega))).mono hws)).setCell (by simp) _⟩ ?_
      rintro W6 ⟨⟨hQ6, hP6⟩, hn0, hB6⟩
      have hQ6H := Lib.hid hQ6
      have hP6H := Lib.hid hP6
      clear hQ6 hP6 hQ5 hP5 hcq hfq g1 g2 g3 g4 hget hfacts hD5 hW5 hs5 hSeH hS5H
      go_wp2_with fail
      go_roundw
      case rel => exact ⟨6, by omega, rfl, rfl, hQ6H.out, hP6H.out, hB6⟩
      case measure => simp [intOf]
    · obtain ⟨c0, c1, c2, c3, c4, c5, c6⟩ := hQH.out.at_
      have hcH := Lib.hid (fun W (hw : Below wr.heap.size wr W) => (hQH.out.below hw).at_)
      clear c0 c1 c2 c3 c4 c5 c6
      go_wp2_with fail
      refine region_anyC (fun j => decide (j < 3)) (fun W => Below wr.heap.size wr W) (by kernel_rfl) ?_
      have hS5 : Below wr.heap.size wr wr.drew := (Below.refl _ _).drew
      refine anyL_take 0 (v := ?_) rfl (by kernel_rfl) (fun _ _ _ h => h) (Or.inl ⟨by rfl, ?_⟩) hS5 ?_
      rotate_left
      focus (intro W hW; obtain ⟨c0, c1, c2, c3, c4, c5, c6⟩ := hcH.out W hW; go_simp; try with_reducible rfl)
      simp only [Act.put, List.setIfInBounds_toArray, List.set_cons_zero, List.set_cons_succ]
      refine anyL_take 1 (v := ?_) rfl (by kernel_rfl) (fun _ _ _ h => h) (Or.inl ⟨by rfl, ?_⟩) hS5 ?_
      rotate_left
      focus (intro W hW; obtain ⟨c0, c1, c2, c3, c4, c5, c6⟩ := hcH.out W hW; go_simp; try with_reducible rfl)
      simp only [Act.put, List.setIfInBounds_toArray, List.set_cons_zero, List.set_cons_succ]
      refine anyL_one 2 rfl (by kernel_rfl) (fun K hK => ?_)
      go_simp
      refine (hpos.out _).mono ?_
      rintro e' wp ⟨rfl, hbp⟩
      have hb2 := hS5.trans (hbp.mono (by simp))
      have hP2 := hPH.out.below hb2
      obtain ⟨d0, d1, d2, d3, d4, d5, d6⟩ := hP2.at_
      have z0 := hP2.fr 0
      have z1 := hP2.fr 1
      have z2 := hP2.fr 2
      have z3 := hP2.fr 3
      have z4 := hP2.fr 4
      have z5 := hP2.fr 5
      have z6 := hP2.fr 6
      dsimp only
      refine hK.out _ _ (fun _ => hb2) ?_
      clear hK K
      try simp only [Act.put, List.setIfInBounds_toArray, List.set_cons_zero, List.set_cons_succ]
      refine anyL_one 3 rfl (by kernel_rfl) (fun K hK => ?_)
      go_simp
      refine hK.out _ _ (fun h => absurd h (by decide)) ?_
      clear hK K
      try simp only [Act.put, List.setIfInBounds_toArray, List.set_cons_zero, List.set_cons_succ]
      refine anyL_one 4 rfl (by kernel_rfl) (fun K hK => ?_)
      go_simp
      refine hK.out _ _ (fun h => absurd h (by decide)) ?_
      clear hK K
      try simp only [Act.put, List.setIfInBounds_toArray, List.set_cons_zero, List.set_cons_succ]
      refine anyC_done (by kernel_rfl) ?_ _
      have hBe := hB.trans (hb2.mono hws)
      clear hcH hpos hQH hPH hb2 hbp hS5
      simp only [Exit.then]
      go_wp2_with fail
      refine fresh_post (fun W => RcAt W X (numsR s 6) ∧ Below X w W) ⟨(hP2.all (numsR s 6)).at_, (((((((hBe.setCell (by simp) _).setCell (by simp) _).setCell (by simp) _).setCell (by simp) _).setCell (by simp) _).setCell (by simp) _).setCell (by simp) _)⟩ ?_
      clear d0 d1 d2 d3 d4 d5 d6 z0 z1 z2 z3 z4 z5 z6 hP2 hBe
      rintro W9 ⟨⟨d0, d1, d2, d3, d4, d5, d6⟩, hB9⟩
      refine bodyPost_ret (v := .tuple #[.agg #[.int .i64 (numsR s 6).k, .int .i64 (numsR s 6).s, .int .i64 (numsR s 6).a, .int .i64 (numsR s 6).b, .int .i64 (numsR s 6).c, .int .i64 (numsR s 6).d, .string (numsR s 6).body], .bool (numOk (numsR s 6))]) (by simp [results, Tryz.results107, go_sem, d0, d1, d2, d3, d4, d5, d6]) rfl ⟨rfl, ?_⟩
      rw [hXeH.out]
      exact hB9
end Go.Proofs.YtpmhfalhieinjaaGreatDoor
namespace Go.Proofs.YtpmhfalhieinjaaGreatDoor
open Go.RowKit Rec Crc Num Xor
def sumS (h b : ByteArray) : ByteArray := ⟨(sumB (h.data.toList ++ b.data.toList)).toArray⟩
/-- The record that a text begins with, its blocks, the error's number. -/
def withBody (s : ByteArray) : Rc := { numsR s 6 with body := s.extract 64 (nBlocks (numsR s 6).k * 64) }
def dec (s : ByteArray) : Rc × Int × Int :=
  if s = ⟨#[]⟩ then (zeroR, 0, 13) else if parseOk s = false then (zeroR, 0, 10) else if s.size < nBlocks (numsR s 6).k * 64 then (zeroR, 0, 10) else
    if s.extract 21 25 = sumS (s.extract 0 21) (withBody s).body then (withBody s, (nBlocks (numsR s 6).k : Int), 0) else (zeroR, 0, 11)
theorem TextOf.inj {s t : ByteArray} {l : List UInt8} (h : TextOf s l) (k : TextOf t l) : s = t := h.eq.trans k.eq.symm
theorem cut_of {s : ByteArray} {A B C : List UInt8} {a b : Nat} (h : TextOf s (A ++ B ++ C)) (ha : A.length = a) (hb : a + B.length = b) : TextOf (s.extract a b) B := by
  unfold TextOf at *
  rw [ByteArray.data_extract, Array.toList_extract, h]
  subst ha; subst hb
  simp [List.extract]
theorem getN_put {t : ByteArray} {n : Int} {k : Nat} (h : TextOf t (putL n.toNat k)) (hn : 0 ≤ n) (hk : 1 ≤ k) (hk7 : k ≤ 7) (hm : n < ((256 ^ k : Nat) : Int)) : getN t = n := by
  have hs : t.size = k := by rw [h.size, putL_length]
  unfold getN
  rw [if_pos (by omega), show t.data.toList = putL n.toNat k from h, num_put_of _ _ (by omega)]
  omega
theorem empty_zeros {t : ByteArray} {k : Nat} (h : TextOf t (List.replicate k 0)) : emptyB t = true := by
  unfold emptyB
  apply decide_eq_true
  intro i hi
  unfold byteAt
  have e := h.eq
  subst e
  have hi' : i < k := by rw [ofList_size, List.length_replicate] at hi; exact hi
  simp [hi']
/-- What Encode has written is read, whatever follows. -/
theorem nums_enc {s : ByteArray} {r : Rc} (hg : Rec.Good r) (rest : List UInt8) (h : TextOf s (encL r ++ rest)) : numsR s 6 = { r with body := ⟨#[]⟩ } := by
  obtain ⟨n0, n1, n2, n3, n4, n5⟩ := hg.1
  unfold encL headL at h
  have e0 := getN_put (cut_of (s := s) (A := [67, 66]) (B := putL r.k.toNat 1) (a := 2) (b := 3) (C := _) (by simpa only [List.append_assoc] using h) rfl (by rw [putL_length])) (by omega) (by omega) (by omega) (by omega)
  have e1 := getN_put (cut_of (s := s) (A := [67, 66] ++ putL r.k.toNat 1) (B := putL r.s.toNat 6) (a := 3) (b := 9) (C := _) (by simpa only [List.append_assoc] using h) (by simp [putL_length]) (by rw [putL_length])) (by omega) (by omega) (by omega) (by omega)
  have e2 := getN_put (cut_of (s := s) (A := [67, 66] ++ putL r.k.toNat 1 ++ putL r.s.toNat 6) (B := putL r.a.toNat 2) (a := 9) (b := 11) (C := _) (by simpa only [List.append_assoc] using h) (by simp [putL_length]) (by rw [putL_length])) (by omega) (by omega) (by omega) (by omega)
  have e3 := getN_put (cut_of (s := s) (A := [67, 66] ++ putL r.k.toNat 1 ++ putL r.s.toNat 6 ++ putL r.a.toNat 2) (B := putL r.b.toNat 2) (a := 11) (b := 13) (C := _) (by simpa only [List.append_assoc] using h) (by simp [putL_length]) (by rw [putL_length])) (by omega) (by omega) (by omega) (by omega)
  have e4 := getN_put (cut_of (s := s) (A := [67, 66] ++ putL r.k.toNat 1 ++ putL r.s.toNat 6 ++ putL r.a.toNat 2 ++ putL r.b.toNat 2) (B := putL r.c.toNat 6) (a := 13) (b := 19) (C := _) (by simpa only [List.append_assoc] using h) (by simp [putL_length]) (by rw [putL_length])) (by omega) (by omega) (by omega) (by omega)
  have e5 := getN_put (cut_of (s := s) (A := [67, 66] ++ putL r.k.toNat 1 ++ putL r.s.toNat 6 ++ putL r.a.toNat 2 ++ putL r.b.toNat 2 ++ putL r.c.toNat 6) (B := putL r.d.toNat 2) (a := 19) (b := 21) (C := _) (by simpa only [List.append_assoc] using h) (by simp [putL_length]) (by rw [putL_length])) (by omega) (by omega) (by omega) (by omega)
  unfold numsR
  rw [e0, e1, e2, e3, e4, e5]
  rfl
theorem dec_enc {s : ByteArray} {r : Rc} (hg : Rec.Good r) (rest : List UInt8) (h : TextOf s (encL r ++ rest)) : dec s = (r, (nBlocks r.k : Int), 0) := by
  have hn := nums_enc hg rest h
  have hp := nBlocks_pos hg.1
  have hsz : s.size = 64 * nBlocks r.k + rest.length := by rw [h.size, List.length_append, encL_len hg]
  have hne : ¬ s = ⟨#[]⟩ := fun e => by rw [e] at hsz; have : (⟨#[]⟩ : ByteArray).size = 0 := rfl; omega
  have hform : formOk s = true := by
    unfold formOk
    rw [decide_eq_true (show 64 ≤ s.size by omega)]
    have h1 : s.extract 0 2 = ⟨#[67, 66]⟩ := (cut_of (A := []) (B := [67, 66]) (C := _) (by unfold encL headL at h; simpa only [List.append_assoc, List.nil_append] using h) rfl rfl).eq
    rw [decide_eq_true h1]
    have h2 := empty_zeros (cut_of (s := s) (a := 25) (b := 64) (A := headL r ++ sumB (headL r ++ r.body.data.toList)) (B := List.replicate 39 0) (C := r.body.data.toList ++ rest) (by unfold encL at h; simpa only [List.append_assoc] using h) (by rw [List.length_append, headL_len, sumB_len]) (by rw [List.length_replicate]))
    rw [h2]; rfl
  have hok : parseOk s = true := by
    unfold parseOk
    rw [hform, hn]
    exact decide_eq_true (show NumOk { r with body := ⟨#[]⟩ } from hg.1)
  have hbody : s.extract 64 (nBlocks r.k * 64) = r.body := by
    have h1 := cut_of (s := s) (a := 64) (b := nBlocks r.k * 64) (A := headL r ++ sumB (headL r ++ r.body.data.toList) ++ List.replicate 39 0) (B := r.body.data.toList) (C := rest) (by unfold encL at h; simpa only [List.append_assoc] using h) (by rw [List.length_append, List.length_append, headL_len, sumB_len, List.length_replicate]) (by rw [body_len, hg.2]; omega)
    exact h1.inj rfl
  have hwb : withBody s = r := by unfold withBody; rw [hn]; show (⟨r.k, r.s, r.a, r.b, r.c, r.d, s.extract 64 (nBlocks r.k * 64)⟩ : Rc) = r; rw [hbody]
  have hsum : s.extract 21 25 = sumS (s.extract 0 21) r.body := by
    have h1 := cut_of (s := s) (a := 21) (b := 25) (A := headL r) (B := sumB (headL r ++ r.body.data.toList)) (C := List.replicate 39 0 ++ r.body.data.toList ++ rest) (by unfold encL at h; simpa only [List.append_assoc] using h) (headL_len r) (by rw [sumB_len])
    have h2 := cut_of (s := s) (a := 0) (b := 21) (A := []) (B := headL r) (C := sumB (headL r ++ r.body.data.toList) ++ List.replicate 39 0 ++ r.body.data.toList ++ rest) (by unfold encL at h; simpa only [List.append_assoc, List.nil_append] using h) rfl (by rw [headL_len])
    unfold sumS
    rw [show (s.extract 0 21).data.toList = headL r from h2]
    exact h1.eq
  unfold dec
  rw [if_neg hne, if_neg (by rw [hok]; simp), hn, if_neg (by show ¬ s.size < nBlocks r.k * 64; omega), hwb, if_pos hsum]
end Go.Proofs.YtpmhfalhieinjaaGreatDoor
