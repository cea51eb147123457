/- RecordEncodes: any record as blocks, or that it may not be. -/
import Derived.Test.YtlignckncgceaabDoorRecSpeak
import Derived.Test.YtlignckncgceaabDoorRecRefE
namespace Go.Proofs.YtlignckncgceaabDoor
open Go.RowKit Rec Crc Num

set_option maxRecDepth 100000 in
set_option maxHeartbeats 8000000 in
theorem encodes_law (r : Rc) (w : World) (hT : Tab w) (hb : r.body.size ≤ 281474976710656) :
    Calls Tryd.prog 3 #[.agg #[.int .i64 r.k, .int .i64 r.s, .int .i64 r.a, .int .i64 r.b, .int .i64 r.c, .int .i64 r.d, .string r.body]] w fun e w' => e = .returned (.bool true) ∧ Below w.heap.size w w' := by
  have hwh := Lib.hid (fun W => whole_any r W hb)
  obtain ⟨q, hq⟩ : ∃ q, q = wholeR r := ⟨_, rfl⟩
  rw [← hq] at hwh
  clear hq
  have hXH := Lib.hid (RcW.new w r 23)
  have hBH := Lib.hid (show Below w.heap.size w (w.alloc (.cells #[.int .i64 r.k, .int .i64 r.s, .int .i64 r.a, .int .i64 r.b, .int .i64 r.c, .int .i64 r.d, .string r.body] 23)) from (Below.refl _ _).alloc (Nat.le_refl _) _)
  have hTA := Lib.hid (fun W (h : Below w.heap.size w W) => hT.below h)
  have henc := Lib.hid (fun W (h : Tab W) => encode_any q W h)
  have href := Lib.hid (fun W => refencode_any q W)
  have hbl := Lib.hid (fun W => blocks_any q.k W)
  clear hT hb
  obtain ⟨qk, qs, qa, qb, qc, qd, qy⟩ := q
  dsimp only at hwh henc href hbl
  by_cases hlong : 1000 < qy.size
  · have hl1 : (1000 : Int) < (qy.size : Int) := by omega
    clear hlong
    go_enter Tryd.func3, Tryd.ntmps3
    go_upto_region 4 with (first | (go_at_call 9; refine (speaks6 _ (hTA.out _ hBH.out)).mono ?_; rintro e w1 ⟨rfl, hb1⟩; have hX1 := hXH.out.below hb1; obtain ⟨c0, c1, c2, c3, c4, c5, c6⟩ := hX1.at_) | (go_at_call 10; with_reducible refine (hwh.out _).mono ?_; rintro e w2 ⟨rfl, hb2⟩; have hX2 := hX1.below hb2; obtain ⟨d0, d1, d2, d3, d4, d5, d6⟩ := hX2.at_; have z0 := hX2.fr 0; have z1 := hX2.fr 1; have z2 := hX2.fr 2; have z3 := hX2.fr 3; have z4 := hX2.fr 4; have z5 := hX2.fr 5; have z6 := hX2.fr 6))
    have hB2 : Below w.heap.size w w2 := hBH.out.trans ((hb1.trans (hb2.mono hb1.size)).mono (by simp))
    refine fresh_world (fun W => RcW W w.heap.size (⟨qk, qs, qa, qb, qc, qd, qy⟩ : Rc) ∧ Below w.heap.size w W) ⟨hX2.all (⟨qk, qs, qa, qb, qc, qd, qy⟩ : Rc), (((((((hB2.setCell (by simp) _).setCell (by simp) _).setCell (by simp) _).setCell (by simp) _).setCell (by simp) _).setCell (by simp) _).setCell (by simp) _)⟩ ?_
    clear c0 c1 c2 c3 c4 c5 c6 d0 d1 d2 d3 d4 d5 d6 z0 z1 z2 z3 z4 z5 z6 hX1 hX2 hb1 hb2 hB2 hwh hXH hBH
    rintro W3 ⟨hX3, hB3⟩
    obtain ⟨c0, c1, c2, c3, c4, c5, c6⟩ := hX3.at_
    dsimp only at c0 c1 c2 c3 c4 c5 c6
    have hX3H := Lib.hid hX3
    have hB3H := Lib.hid hB3
    clear hX3 hB3
    go_wp2_with fail
    go_ret
    exact ⟨rfl, hB3H.out⟩
  have hl1 : ¬ (1000 : Int) < (qy.size : Int) := by omega
  clear hlong
  by_cases hg : good ⟨qk, qs, qa, qb, qc, qd, qy⟩ = true
  · have hgd := good_iff.1 hg
    have hne := not_empty_of (full_of (encS_ne hgd))
    obtain ⟨ne1, ne2⟩ := hne
    obtain ⟨k1, k2⟩ : 1 ≤ qk ∧ qk ≤ 6 := hgd.1.1
    rw [if_pos hg] at henc
    clear hg hgd
    generalize encS ⟨qk, qs, qa, qb, qc, qd, qy⟩ = t at henc href ne1 ne2
    by_cases h4 : qk = 4
    · subst h4
      have hn : nBlocks 4 = 2 := rfl
      rw [hn] at hbl
      clear hn
      go_enter Tryd.func3, Tryd.ntmps3
      go_upto_region 4 with (first | (go_at_call 9; refine (speaks6 _ (hTA.out _ hBH.out)).mono ?_; rintro e w1 ⟨rfl, hb1⟩; have hX1 := hXH.out.below hb1; obtain ⟨c0, c1, c2, c3, c4, c5, c6⟩ := hX1.at_) | (go_at_call 10; with_reducible refine (hwh.out _).mono ?_; rintro e w2 ⟨rfl, hb2⟩; have hX2 := hX1.below hb2; obtain ⟨d0, d1, d2, d3, d4, d5, d6⟩ := hX2.at_; have z0 := hX2.fr 0; have z1 := hX2.fr 1; have z2 := hX2.fr 2; have z3 := hX2.fr 3; have z4 := hX2.fr 4; have z5 := hX2.fr 5; have z6 := hX2.fr 6))
      have hB2 : Below w.heap.size w w2 := hBH.out.trans ((hb1.trans (hb2.mono hb1.size)).mono (by simp))
      refine fresh_world (fun W => RcW W w.heap.size (⟨4, qs, qa, qb, qc, qd, qy⟩ : Rc) ∧ Below w.heap.size w W) ⟨hX2.all (⟨4, qs, qa, qb, qc, qd, qy⟩ : Rc), (((((((hB2.setCell (by simp) _).setCell (by simp) _).setCell (by simp) _).setCell (by simp) _).setCell (by simp) _).setCell (by simp) _).setCell (by simp) _)⟩ ?_
      clear c0 c1 c2 c3 c4 c5 c6 d0 d1 d2 d3 d4 d5 d6 z0 z1 z2 z3 z4 z5 z6 hX1 hX2 hb1 hb2 hB2 hwh hXH hBH
      rintro W3 ⟨hX3, hB3⟩
      obtain ⟨c0, c1, c2, c3, c4, c5, c6⟩ := hX3.at_
      dsimp only at c0 c1 c2 c3 c4 c5 c6
      have hX3H := Lib.hid hX3
      have hB3H := Lib.hid hB3
      clear hX3 hB3
      go_wp2_with (first | (go_at_call 11; with_reducible refine (henc.out _ (hTA.out _ hB3H.out)).mono ?_; rintro e w4 ⟨rfl, hb4⟩; have hX4 := hX3H.out.below hb4; obtain ⟨d0, d1, d2, d3, d4, d5, d6⟩ := hX4.at_; dsimp only at d0 d1 d2 d3 d4 d5 d6) | (go_at_call 12; with_reducible refine (href.out _).mono ?_; rintro e w5 ⟨rfl, hb5⟩; have hX5 := hX4.below hb5; obtain ⟨e0, e1, e2, e3, e4, e5, e6⟩ := hX5.at_; dsimp only at e0 e1 e2 e3 e4 e5 e6) | (go_at_call 13; with_reducible refine (hbl.out _).mono ?_; rintro e w6 ⟨rfl, rfl⟩))
      go_ret
      exact ⟨rfl, hB3H.out.trans ((hb4.trans (hb5.mono hb4.size)).mono hB3H.out.size)⟩
    · have hn : nBlocks qk = 1 := by unfold nBlocks; rw [if_neg (by omega), if_neg h4]
      rw [hn] at hbl
      have h4' : (qk == 4) = false := by simp [h4]
      clear hn h4
      go_enter Tryd.func3, Tryd.ntmps3
      go_upto_region 4 with (first | (go_at_call 9; refine (speaks6 _ (hTA.out _ hBH.out)).mono ?_; rintro e w1 ⟨rfl, hb1⟩; have hX1 := hXH.out.below hb1; obtain ⟨c0, c1, c2, c3, c4, c5, c6⟩ := hX1.at_) | (go_at_call 10; with_reducible refine (hwh.out _).mono ?_; rintro e w2 ⟨rfl, hb2⟩; have hX2 := hX1.below hb2; obtain ⟨d0, d1, d2, d3, d4, d5, d6⟩ := hX2.at_; have z0 := hX2.fr 0; have z1 := hX2.fr 1; have z2 := hX2.fr 2; have z3 := hX2.fr 3; have z4 := hX2.fr 4; have z5 := hX2.fr 5; have z6 := hX2.fr 6))
      have hB2 : Below w.heap.size w w2 := hBH.out.trans ((hb1.trans (hb2.mono hb1.size)).mono (by simp))
      refine fresh_world (fun W => RcW W w.heap.size (⟨qk, qs, qa, qb, qc, qd, qy⟩ : Rc) ∧ Below w.heap.size w W) ⟨hX2.all (⟨qk, qs, qa, qb, qc, qd, qy⟩ : Rc), (((((((hB2.setCell (by simp) _).setCell (by simp) _).setCell (by simp) _).setCell (by simp) _).setCell (by simp) _).setCell (by simp) _).setCell (by simp) _)⟩ ?_
      clear c0 c1 c2 c3 c4 c5 c6 d0 d1 d2 d3 d4 d5 d6 z0 z1 z2 z3 z4 z5 z6 hX1 hX2 hb1 hb2 hB2 hwh hXH hBH
      rintro W3 ⟨hX3, hB3⟩
      obtain ⟨c0, c1, c2, c3, c4, c5, c6⟩ := hX3.at_
      dsimp only at c0 c1 c2 c3 c4 c5 c6
      have hX3H := Lib.hid hX3
      have hB3H := Lib.hid hB3
      clear hX3 hB3
      go_wp2_with (first | (go_at_call 11; with_reducible refine (henc.out _ (hTA.out _ hB3H.out)).mono ?_; rintro e w4 ⟨rfl, hb4⟩; have hX4 := hX3H.out.below hb4; obtain ⟨d0, d1, d2, d3, d4, d5, d6⟩ := hX4.at_; dsimp only at d0 d1 d2 d3 d4 d5 d6) | (go_at_call 12; with_reducible refine (href.out _).mono ?_; rintro e w5 ⟨rfl, hb5⟩; have hX5 := hX4.below hb5; obtain ⟨e0, e1, e2, e3, e4, e5, e6⟩ := hX5.at_; dsimp only at e0 e1 e2 e3 e4 e5 e6) | (go_at_call 13; with_reducible refine (hbl.out _).mono ?_; rintro e w6 ⟨rfl, rfl⟩))
      go_ret
      exact ⟨rfl, hB3H.out.trans ((hb4.trans (hb5.mono hb4.size)).mono hB3H.out.size)⟩
  · rw [if_neg hg] at henc
    have hem : encS ⟨qk, qs, qa, qb, qc, qd, qy⟩ = ByteArray.empty := if_neg hg
    rw [hem] at henc href
    clear hem hg
    by_cases k1 : qk < 1
    · have hn : nBlocks qk = 0 := by unfold nBlocks; rw [if_pos (by omega)]
      rw [hn] at hbl
      have h4' : (qk == 4) = false := by simp; omega
      clear hn
      go_enter Tryd.func3, Tryd.ntmps3
      go_upto_region 4 with (first | (go_at_call 9; refine (speaks6 _ (hTA.out _ hBH.out)).mono ?_; rintro e w1 ⟨rfl, hb1⟩; have hX1 := hXH.out.below hb1; obtain ⟨c0, c1, c2, c3, c4, c5, c6⟩ := hX1.at_) | (go_at_call 10; with_reducible refine (hwh.out _).mono ?_; rintro e w2 ⟨rfl, hb2⟩; have hX2 := hX1.below hb2; obtain ⟨d0, d1, d2, d3, d4, d5, d6⟩ := hX2.at_; have z0 := hX2.fr 0; have z1 := hX2.fr 1; have z2 := hX2.fr 2; have z3 := hX2.fr 3; have z4 := hX2.fr 4; have z5 := hX2.fr 5; have z6 := hX2.fr 6))
      have hB2 : Below w.heap.size w w2 := hBH.out.trans ((hb1.trans (hb2.mono hb1.size)).mono (by simp))
      refine fresh_world (fun W => RcW W w.heap.size (⟨qk, qs, qa, qb, qc, qd, qy⟩ : Rc) ∧ Below w.heap.size w W) ⟨hX2.all (⟨qk, qs, qa, qb, qc, qd, qy⟩ : Rc), (((((((hB2.setCell (by simp) _).setCell (by simp) _).setCell (by simp) _).setCell (by simp) _).setCell (by simp) _).setCell (by simp) _).setCell (by simp) _)⟩ ?_
      clear c0 c1 c2 c3 c4 c5 c6 d0 d1 d2 d3 d4 d5 d6 z0 z1 z2 z3 z4 z5 z6 hX1 hX2 hb1 hb2 hB2 hwh hXH hBH
      rintro W3 ⟨hX3, hB3⟩
      obtain ⟨c0, c1, c2, c3, c4, c5, c6⟩ := hX3.at_
      dsimp only at c0 c1 c2 c3 c4 c5 c6
      have hX3H := Lib.hid hX3
      have hB3H := Lib.hid hB3
      clear hX3 hB3
      go_wp2_with (first | (go_at_call 11; with_reducible refine (henc.out _ (hTA.out _ hB3H.out)).mono ?_; rintro e w4 ⟨rfl, hb4⟩; have hX4 := hX3H.out.below hb4; obtain ⟨d0, d1, d2, d3, d4, d5, d6⟩ := hX4.at_; dsimp only at d0 d1 d2 d3 d4 d5 d6) | (go_at_call 12; with_reducible refine (href.out _).mono ?_; rintro e w5 ⟨rfl, hb5⟩; have hX5 := hX4.below hb5; obtain ⟨e0, e1, e2, e3, e4, e5, e6⟩ := hX5.at_; dsimp only at e0 e1 e2 e3 e4 e5 e6) | (go_at_call 13; with_reducible refine (hbl.out _).mono ?_; rintro e w6 ⟨rfl, rfl⟩))
      go_ret
      exact ⟨rfl, hB3H.out.trans ((hb4.trans (hb5.mono hb4.size)).mono hB3H.out.size)⟩
    by_cases k2 : 6 < qk
    · have hn : nBlocks qk = 0 := by unfold nBlocks; rw [if_pos (by omega)]
      rw [hn] at hbl
      have h4' : (qk == 4) = false := by simp; omega
      clear hn
      go_enter Tryd.func3, Tryd.ntmps3
      go_upto_region 4 with (first | (go_at_call 9; refine (speaks6 _ (hTA.out _ hBH.out)).mono ?_; rintro e w1 ⟨rfl, hb1⟩; have hX1 := hXH.out.below hb1; obtain ⟨c0, c1, c2, c3, c4, c5, c6⟩ := hX1.at_) | (go_at_call 10; with_reducible refine (hwh.out _).mono ?_; rintro e w2 ⟨rfl, hb2⟩; have hX2 := hX1.below hb2; obtain ⟨d0, d1, d2, d3, d4, d5, d6⟩ := hX2.at_; have z0 := hX2.fr 0; have z1 := hX2.fr 1; have z2 := hX2.fr 2; have z3 := hX2.fr 3; have z4 := hX2.fr 4; have z5 := hX2.fr 5; have z6 := hX2.fr 6))
      have hB2 : Below w.heap.size w w2 := hBH.out.trans ((hb1.trans (hb2.mono hb1.size)).mono (by simp))
      refine fresh_world (fun W => RcW W w.heap.size (⟨qk, qs, qa, qb, qc, qd, qy⟩ : Rc) ∧ Below w.heap.size w W) ⟨hX2.all (⟨qk, qs, qa, qb, qc, qd, qy⟩ : Rc), (((((((hB2.setCell (by simp) _).setCell (by simp) _).setCell (by simp) _).setCell (by simp) _).setCell (by simp) _).setCell (by simp) _).setCell (by simp) _)⟩ ?_
      clear c0 c1 c2 c3 c4 c5 c6 d0 d1 d2 d3 d4 d5 d6 z0 z1 z2 z3 z4 z5 z6 hX1 hX2 hb1 hb2 hB2 hwh hXH hBH
      rintro W3 ⟨hX3, hB3⟩
      obtain ⟨c0, c1, c2, c3, c4, c5, c6⟩ := hX3.at_
      dsimp only at c0 c1 c2 c3 c4 c5 c6
      have hX3H := Lib.hid hX3
      have hB3H := Lib.hid hB3
      clear hX3 hB3
      go_wp2_with (first | (go_at_call 11; with_reducible refine (henc.out _ (hTA.out _ hB3H.out)).mono ?_; rintro e w4 ⟨rfl, hb4⟩; have hX4 := hX3H.out.below hb4; obtain ⟨d0, d1, d2, d3, d4, d5, d6⟩ := hX4.at_; dsimp only at d0 d1 d2 d3 d4 d5 d6) | (go_at_call 12; with_reducible refine (href.out _).mono ?_; rintro e w5 ⟨rfl, hb5⟩; have hX5 := hX4.below hb5; obtain ⟨e0, e1, e2, e3, e4, e5, e6⟩ := hX5.at_; dsimp only at e0 e1 e2 e3 e4 e5 e6) | (go_at_call 13; with_reducible refine (hbl.out _).mono ?_; rintro e w6 ⟨rfl, rfl⟩))
      go_ret
      exact ⟨rfl, hB3H.out.trans ((hb4.trans (hb5.mono hb4.size)).mono hB3H.out.size)⟩
    by_cases h4 : qk = 4
    · subst h4
      have hn : nBlocks 4 = 2 := rfl
      rw [hn] at hbl
      clear hn
      go_enter Tryd.func3, Tryd.ntmps3
      go_upto_region 4 with (first | (go_at_call 9; refine (speaks6 _ (hTA.out _ hBH.out)).mono ?_; rintro e w1 ⟨rfl, hb1⟩; have hX1 := hXH.out.below hb1; obtain ⟨c0, c1, c2, c3, c4, c5, c6⟩ := hX1.at_) | (go_at_call 10; with_reducible refine (hwh.out _).mono ?_; rintro e w2 ⟨rfl, hb2⟩; have hX2 := hX1.below hb2; obtain ⟨d0, d1, d2, d3, d4, d5, d6⟩ := hX2.at_; have z0 := hX2.fr 0; have z1 := hX2.fr 1; have z2 := hX2.fr 2; have z3 := hX2.fr 3; have z4 := hX2.fr 4; have z5 := hX2.fr 5; have z6 := hX2.fr 6))
      have hB2 : Below w.heap.size w w2 := hBH.out.trans ((hb1.trans (hb2.mono hb1.size)).mono (by simp))
      refine fresh_world (fun W => RcW W w.heap.size (⟨4, qs, qa, qb, qc, qd, qy⟩ : Rc) ∧ Below w.heap.size w W) ⟨hX2.all (⟨4, qs, qa, qb, qc, qd, qy⟩ : Rc), (((((((hB2.setCell (by simp) _).setCell (by simp) _).setCell (by simp) _).setCell (by simp) _).setCell (by simp) _).setCell (by simp) _).setCell (by simp) _)⟩ ?_
      clear c0 c1 c2 c3 c4 c5 c6 d0 d1 d2 d3 d4 d5 d6 z0 z1 z2 z3 z4 z5 z6 hX1 hX2 hb1 hb2 hB2 hwh hXH hBH
      rintro W3 ⟨hX3, hB3⟩
      obtain ⟨c0, c1, c2, c3, c4, c5, c6⟩ := hX3.at_
      dsimp only at c0 c1 c2 c3 c4 c5 c6
      have hX3H := Lib.hid hX3
      have hB3H := Lib.hid hB3
      clear hX3 hB3
      go_wp2_with (first | (go_at_call 11; with_reducible refine (henc.out _ (hTA.out _ hB3H.out)).mono ?_; rintro e w4 ⟨rfl, hb4⟩; have hX4 := hX3H.out.below hb4; obtain ⟨d0, d1, d2, d3, d4, d5, d6⟩ := hX4.at_; dsimp only at d0 d1 d2 d3 d4 d5 d6) | (go_at_call 12; with_reducible refine (href.out _).mono ?_; rintro e w5 ⟨rfl, hb5⟩; have hX5 := hX4.below hb5; obtain ⟨e0, e1, e2, e3, e4, e5, e6⟩ := hX5.at_; dsimp only at e0 e1 e2 e3 e4 e5 e6) | (go_at_call 13; with_reducible refine (hbl.out _).mono ?_; rintro e w6 ⟨rfl, rfl⟩))
      go_ret
      exact ⟨rfl, hB3H.out.trans ((hb4.trans (hb5.mono hb4.size)).mono hB3H.out.size)⟩
    · have hn : nBlocks qk = 1 := by unfold nBlocks; rw [if_neg (by omega), if_neg h4]
      rw [hn] at hbl
      have h4' : (qk == 4) = false := by simp [h4]
      clear hn h4
      go_enter Tryd.func3, Tryd.ntmps3
      go_upto_region 4 with (first | (go_at_call 9; refine (speaks6 _ (hTA.out _ hBH.out)).mono ?_; rintro e w1 ⟨rfl, hb1⟩; have hX1 := hXH.out.below hb1; obtain ⟨c0, c1, c2, c3, c4, c5, c6⟩ := hX1.at_) | (go_at_call 10; with_reducible refine (hwh.out _).mono ?_; rintro e w2 ⟨rfl, hb2⟩; have hX2 := hX1.below hb2; obtain ⟨d0, d1, d2, d3, d4, d5, d6⟩ := hX2.at_; have z0 := hX2.fr 0; have z1 := hX2.fr 1; have z2 := hX2.fr 2; have z3 := hX2.fr 3; have z4 := hX2.fr 4; have z5 := hX2.fr 5; have z6 := hX2.fr 6))
      have hB2 : Below w.heap.size w w2 := hBH.out.trans ((hb1.trans (hb2.mono hb1.size)).mono (by simp))
      refine fresh_world (fun W => RcW W w.heap.size (⟨qk, qs, qa, qb, qc, qd, qy⟩ : Rc) ∧ Below w.heap.size w W) ⟨hX2.all (⟨qk, qs, qa, qb, qc, qd, qy⟩ : Rc), (((((((hB2.setCell (by simp) _).setCell (by simp) _).setCell (by simp) _).setCell (by simp) _).setCell (by simp) _).setCell (by simp) _).setCell (by simp) _)⟩ ?_
      clear c0 c1 c2 c3 c4 c5 c6 d0 d1 d2 d3 d4 d5 d6 z0 z1 z2 z3 z4 z5 z6 hX1 hX2 hb1 hb2 hB2 hwh hXH hBH
      rintro W3 ⟨hX3, hB3⟩
      obtain ⟨c0, c1, c2, c3, c4, c5, c6⟩ := hX3.at_
      dsimp only at c0 c1 c2 c3 c4 c5 c6
      have hX3H := Lib.hid hX3
      have hB3H := Lib.hid hB3
      clear hX3 hB3
      go_wp2_with (first | (go_at_call 11; with_reducible refine (henc.out _ (hTA.out _ hB3H.out)).mono ?_; rintro e w4 ⟨rfl, hb4⟩; have hX4 := hX3H.out.below hb4; obtain ⟨d0, d1, d2, d3, d4, d5, d6⟩ := hX4.at_; dsimp only at d0 d1 d2 d3 d4 d5 d6) | (go_at_call 12; with_reducible refine (href.out _).mono ?_; rintro e w5 ⟨rfl, hb5⟩; have hX5 := hX4.below hb5; obtain ⟨e0, e1, e2, e3, e4, e5, e6⟩ := hX5.at_; dsimp only at e0 e1 e2 e3 e4 e5 e6) | (go_at_call 13; with_reducible refine (hbl.out _).mono ?_; rintro e w6 ⟨rfl, rfl⟩))
      go_ret
      exact ⟨rfl, hB3H.out.trans ((hb4.trans (hb5.mono hb4.size)).mono hB3H.out.size)⟩
end Go.Proofs.YtlignckncgceaabDoor
