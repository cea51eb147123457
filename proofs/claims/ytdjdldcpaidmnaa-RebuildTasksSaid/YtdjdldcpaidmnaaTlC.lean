/- What the closures of Source do: is a block of the row the missing one's, or has its slot the row? Is a note of use? -/
import Derived.Test.YtdjdldcpaidmnaaTlF
namespace Go.Proofs.Ytdjdldcpaidmnaa
open Go.RowKit Tl

/-- The boxes of Source. -/
structure SrcB (W : World) (bg bz bv bb br bh bi : Nat) (D Z Bk O Ac zone : Int) (A : Option Addr) (ca : Nat) (B : Option Addr) (cb : Nat) (v : Vw) (block row idx : Int) : Prop where
  g : GeoAt W bg D Z Bk O Ac
  z : W.cell? ⟨bz, 0, none⟩ = some (.int .i64 zone)
  vw : VwB W bv A ca B cb v
  b : W.cell? ⟨bb, 0, none⟩ = some (.int .i64 block)
  r : W.cell? ⟨br, 0, none⟩ = some (.int .i64 row)
  h : W.cell? ⟨bh, 0, none⟩ = some (.func (.func 41) #[] #[.pointer (some ⟨bv, 0, none⟩), .pointer (some ⟨br, 0, none⟩)])
  i : W.cell? ⟨bi, 0, none⟩ = some (.int .i64 idx)
section
variable {W W' : World} {bg bz bv bb br bh bi : Nat} {D Z Bk O Ac zone : Int} {A : Option Addr} {ca : Nat} {B : Option Addr} {cb : Nat} {v : Vw} {block row idx : Int}
theorem keepC {b j : Nat} {x : Value} (h : W.cell? ⟨b, j, none⟩ = some x) (hb : Below W.heap.size W W') : W'.cell? ⟨b, j, none⟩ = some x := (hb.cell (p := ⟨b, j, none⟩) (lt_of_cell h)).trans h
theorem SrcB.below (h : SrcB W bg bz bv bb br bh bi D Z Bk O Ac zone A ca B cb v block row idx) (hb : Below W.heap.size W W') : SrcB W' bg bz bv bb br bh bi D Z Bk O Ac zone A ca B cb v block row idx :=
  ⟨h.g.below hb, keepC h.z hb, h.vw.below hb, keepC h.b hb, keepC h.r hb, keepC h.h hb, keepC h.i hb⟩
end
theorem okB_iff {D B : Int} {v : Vw} (h : okB D B v = true) : (v.ls.length : Int) = D ∧ -1 ≤ v.m ∧ v.m < D ∧ ∀ x ∈ v.ls, 0 ≤ x ∧ x ≤ B := of_decide_eq_true h
/-- The k-th block of a block's row. -/
theorem row_block {D Z Bk O Ac zone block : Int} (hp : plB D Z Bk O Ac zone block = true) {k : Nat} (hk : (k : Int) < D - 1) :
    plB D Z Bk O Ac zone (block - block % (D - 1) + (k : Int)) = true ∧ plD D Z Bk O Ac zone (block - block % (D - 1) + (k : Int)) = slotK D zone (block / (D - 1)) k ∧ plR D Z Bk O Ac zone (block - block % (D - 1) + (k : Int)) = block / (D - 1) := by
  obtain ⟨hg, z1, z2, b1, b2⟩ := plB_true hp
  have hrow := row_bd hg.1 b1 b2
  have hdm := Int.emod_add_mul_ediv block (D - 1)
  have e : block - block % (D - 1) + (k : Int) = (D - 1) * (block / (D - 1)) + (k : Int) := by omega
  have hu := (Int.ediv_emod_unique (a := block - block % (D - 1) + (k : Int)) (b := D - 1) (r := (k : Int)) (q := block / (D - 1)) (by omega)).2 ⟨by omega, by omega, hk⟩
  have hlt : block - block % (D - 1) + (k : Int) < (D - 1) * Bk := by
    have h1 : (D - 1) * (block / (D - 1) + 1) ≤ (D - 1) * Bk := Int.mul_le_mul_of_nonneg_left (by omega) (by omega)
    rw [Int.mul_add, Int.mul_one] at h1
    omega
  have h0 := Int.mul_nonneg (show 0 ≤ D - 1 by have := hg.1; omega) hrow.1
  have hp2 := plB_mk hg z1 z2 (show 0 ≤ block - block % (D - 1) + (k : Int) by omega) hlt
  obtain ⟨e1, e2⟩ := slot_pl hp2
  refine ⟨hp2, ?_, ?_⟩
  · rw [e2, hu.1, hu.2, Int.toNat_natCast]
  · rw [e1, hu.1]
set_option maxHeartbeats 1000000 in
theorem s2_any {bg bz bv bb br bh bi : Nat} {D Z Bk O Ac zone : Int} {A : Option Addr} {ca : Nat} {B : Option Addr} {cb : Nat} {v : Vw} {block : Int} (hp : plB D Z Bk O Ac zone block = true) (hv : okB D Bk v = true) {k : Nat} (hk : (k : Int) < D - 1) (W : World)
    (h : SrcB W bg bz bv bb br bh bi D Z Bk O Ac zone A ca B cb v block (block / (D - 1)) (block % (D - 1))) :
    Calls Try.prog 42 #[.int .i64 (k : Int), .pointer (some ⟨bg, 0, none⟩), .pointer (some ⟨bz, 0, none⟩), .pointer (some ⟨bb, 0, none⟩), .pointer (some ⟨bi, 0, none⟩), .pointer (some ⟨bv, 0, none⟩), .pointer (some ⟨bh, 0, none⟩)] W
      fun e w' => e = .returned (.bool (decide (slotK D zone (block / (D - 1)) k = v.m) || hasB v (block / (D - 1)) (slotK D zone (block / (D - 1)) k))) ∧ Below W.heap.size W w' := by
  obtain ⟨hg, z1, z2, b1, b2⟩ := plB_true hp
  have hrow := row_bd hg.1 b1 b2
  obtain ⟨hp2, e1, e2⟩ := row_block hp hk
  have hD : 0 < D := by have := hg.1; omega
  have hsb := slotK_bd (zone := zone) (row := block / (D - 1)) hD k
  obtain ⟨hvl, -, -, -⟩ := okB_iff hv
  have hCb := mul_bd (a := D - 1) (b := Bk) (m := 15) (n := 256) (by have := hg.1; omega) (by have := hg.2.1; omega) (by have := hg.2.2.2.2.1; omega) (by have := hg.2.2.2.2.2.1; omega)
  have hbb : 0 ≤ block ∧ block < 4000 := ⟨b1, by omega⟩
  have hD16 := hg.2.1
  have wa : IntKind.i64.wrap (block - block % (D - 1)) = block - block % (D - 1) := IntWalk.i64_in _ (by omega)
  have wb : IntKind.i64.wrap (block - block % (D - 1) + (k : Int)) = block - block % (D - 1) + (k : Int) := IntWalk.i64_in _ (by omega)
  have cp := fun W => place_any D Z Bk O Ac zone (block - block % (D - 1) + (k : Int)) W
  rw [hp2, e1, e2] at cp
  have cpH := Lib.hid cp
  have hH := Lib.hid h
  have chH := Lib.hid (fun W (h : SrcB W bg bz bv bb br bh bi D Z Bk O Ac zone A ca B cb v block (block / (D - 1)) (block % (D - 1))) => has_any12 v W bv br A ca B cb (block / (D - 1)) (slotK D zone (block / (D - 1)) k) h.vw h.r (.inr ⟨hsb.1, by rw [hvl]; exact hsb.2⟩))
  have eg : ∀ args w, (callFunc 41 args).run Try.prog w = .ok (.enter 41 args) w := enters_of Try.func41 (by kernel_rfl) rfl
  obtain ⟨g0, g1, g2, g3, g4, -⟩ := h.g
  have y1 := h.z
  have y2 := h.b
  have y3 := h.i
  clear h hp hv hg z1 z2 b1 b2 hrow hp2 e1 e2 hsb hvl hCb cp hbb hD hk hD16
  generalize slotK D zone (block / (D - 1)) k = s at cpH chH ⊢
  generalize block / (D - 1) = row at cpH chH hH ⊢
  generalize block % (D - 1) = idx at cpH chH hH wa wb y3
  obtain ⟨rb, hrb⟩ : ∃ rb, (decide (s = v.m) || hasB v row s) = rb := ⟨_, rfl⟩
  rw [hrb]
  have hrbH := Lib.hid hrb
  clear hrb
  go_enter Try.func42, Try.ntmps42
  go_wp2_with fail
  (with_reducible refine (cpH.out _).mono ?_)
  rintro e w1 ⟨rfl, hb1⟩
  have hH1 := Lib.hid (hH.out.below hb1)
  have hB1 := Lib.hid hb1
  have x1 := hH1.out.vw.c1
  have x2 := hH1.out.h
  clear hb1 hH y1 y2 y3 g0 g1 g2 g3 g4 wa wb
  by_cases hm : s = v.m
  · obtain rfl : rb = true := by rw [← hrbH.out, decide_eq_true hm]; rfl
    have hm2 : (s == v.m) = true := by rw [beq_iff_eq]; exact hm
    go_wp2
    go_ret
    exact ⟨rfl, hB1.out⟩
  · have e3 : hasB v row s = rb := by rw [← hrbH.out, decide_eq_false hm]; rfl
    have hm2 : (s == v.m) = false := by rw [beq_eq_false_iff_ne]; exact hm
    rw [e3] at chH
    clear e3 hrbH
    go_wp2_with fail
    (with_reducible refine (chH.out _ hH1.out).mono ?_)
    rintro e w2 ⟨rfl, hb2⟩
    have hF := Lib.hid (hB1.out.trans (hb2.mono hB1.out.size))
    clear hb2
    go_wp2
    go_ret
    exact ⟨rfl, hF.out⟩
/-- Is a note of use? -/
theorem s3_any (a c row idx reach : Int) (br bi bc : Nat) (W : World) (h1 : W.cell? ⟨br, 0, none⟩ = some (.int .i64 row)) (h2 : W.cell? ⟨bi, 0, none⟩ = some (.int .i64 idx)) (h3 : W.cell? ⟨bc, 0, none⟩ = some (.int .i64 reach)) :
    Calls Try.prog 44 #[.agg #[.int .i64 a, .int .i64 c], .pointer (some ⟨br, 0, none⟩), .pointer (some ⟨bi, 0, none⟩), .pointer (some ⟨bc, 0, none⟩)] W fun e w' => e = .returned (.bool (decide (a = row ∧ idx < c ∧ c ≤ reach))) ∧ Below W.heap.size W w' := by
  have l1 := lt_of_cell h1
  have l2 := lt_of_cell h2
  have l3 := lt_of_cell h3
  have n1 : ¬ br = W.heap.size := Nat.ne_of_lt l1
  have n2 : ¬ bi = W.heap.size := Nat.ne_of_lt l2
  have n3 : ¬ bc = W.heap.size := Nat.ne_of_lt l3
  by_cases k1 : a = row
  · have k1b : (a == row) = true := by rw [beq_iff_eq]; exact k1
    by_cases k2 : idx < c
    · by_cases k3 : c ≤ reach
      · rw [decide_eq_true ⟨k1, k2, k3⟩]
        clear k1
        go_enter Try.func44, Try.ntmps44
        go_wp2
        go_ret
        exact ⟨rfl, (Below.refl _ _).alloc (Nat.le_refl _) _⟩
      · rw [decide_eq_false (fun h => k3 h.2.2)]
        have k3b : decide (c ≤ reach) = false := decide_eq_false k3
        clear k1
        go_enter Try.func44, Try.ntmps44
        go_wp2
        go_ret
        exact ⟨rfl, (Below.refl _ _).alloc (Nat.le_refl _) _⟩
    · rw [decide_eq_false (fun h => k2 h.2.1)]
      have k2b : decide (idx < c) = false := decide_eq_false k2
      clear k1
      go_enter Try.func44, Try.ntmps44
      go_wp2
      go_ret
      exact ⟨rfl, (Below.refl _ _).alloc (Nat.le_refl _) _⟩
  · rw [decide_eq_false (fun h => k1 h.1)]
    have k1b : (a == row) = false := by rw [beq_eq_false_iff_ne]; exact k1
    clear k1
    go_enter Try.func44, Try.ntmps44
    go_wp2
    go_ret
    exact ⟨rfl, (Below.refl _ _).alloc (Nat.le_refl _) _⟩
end Go.Proofs.Ytdjdldcpaidmnaa
