/- RecordRots: a record of which up to four bytes in a row were changed is none. -/
import Derived.Test.YtlignckncgceaabDoorRecSpeak
import Derived.Test.YtlignckncgceaabDoorRecRotM
import Derived.Test.YtlignckncgceaabDoorRecTold
import Derived.Test.YtlignckncgceaabDoorModIn
namespace Go.Proofs.YtlignckncgceaabDoor
open Go.RowKit Rec Crc Num

set_option maxRecDepth 100000 in
set_option maxHeartbeats 16000000 in
theorem rots_law (r : Rc) (a : Int) (bs : List UInt8) (h4 : bs.length = 4) (w : World) (hT : Tab w) (hb : r.body.size ≤ 281474976710656) :
    Calls Tryd.prog 6 #[.agg #[.int .i64 r.k, .int .i64 r.s, .int .i64 r.a, .int .i64 r.b, .int .i64 r.c, .int .i64 r.d, .string r.body], .int .i64 a, .agg (bs.map fun b => Value.int .u8 (b.toNat : Int)).toArray] w fun e w' => e = .returned (.bool true) ∧ Below w.heap.size w w' := by
  have hwh := Lib.hid (fun W => whole_any r W hb)
  obtain ⟨q, hq⟩ : ∃ q, q = wholeR r := ⟨_, rfl⟩
  rw [← hq] at hwh
  clear hq hb
  have hTA := Lib.hid (fun W (h : Below w.heap.size w W) => hT.below h)
  have hB0 := Lib.hid (show Below w.heap.size w ((w.alloc (.cells #[.int .i64 r.k, .int .i64 r.s, .int .i64 r.a, .int .i64 r.b, .int .i64 r.c, .int .i64 r.d, .string r.body] 23)).alloc (.cells (bs.map fun b => Value.int .u8 (b.toNat : Int)).toArray 48)) from ((Below.refl _ _).alloc (Nat.le_refl _) _).alloc (by simp) _)
  have hX0 := Lib.hid (show RcAt ((w.alloc (.cells #[.int .i64 r.k, .int .i64 r.s, .int .i64 r.a, .int .i64 r.b, .int .i64 r.c, .int .i64 r.d, .string r.body] 23)).alloc (.cells (bs.map fun b => Value.int .u8 (b.toNat : Int)).toArray 48)) w.heap.size r from (RcAt.new w r 23).below ((Below.refl _ _).alloc (by simp) _))
  have hY0 := Lib.hid (show ∀ j, j < 4 → ((w.alloc (.cells #[.int .i64 r.k, .int .i64 r.s, .int .i64 r.a, .int .i64 r.b, .int .i64 r.c, .int .i64 r.d, .string r.body] 23)).alloc (.cells (bs.map fun b => Value.int .u8 (b.toNat : Int)).toArray 48)).cell? ⟨w.heap.size + 1, j, none⟩ = some (.int .u8 ((bs.getD j 0).toNat : Int)) from fun j hj => by
    have hjl : j < bs.length := by omega
    have h := World.cell?_alloc_new (w.alloc (.cells #[.int .i64 r.k, .int .i64 r.s, .int .i64 r.a, .int .i64 r.b, .int .i64 r.c, .int .i64 r.d, .string r.body] 23)) ((bs.map fun b => Value.int .u8 (b.toNat : Int)).toArray) 48 j
    rw [World.size_alloc] at h
    rw [h]
    simp [List.getD, hjl])
  clear hT
  go_enter Tryd.func6, Tryd.ntmps6
  go_upto_region 3 with (go_at_call 9; refine (speaks6 _ (hTA.out _ hB0.out)).mono ?_; rintro e w1 ⟨rfl, hb1⟩)
  refine fresh_world (fun W => (RcAt W w.heap.size r ∧ ∀ j, j < 4 → W.cell? ⟨w.heap.size + 1, j, none⟩ = some (.int .u8 ((bs.getD j 0).toNat : Int))) ∧ Below w.heap.size w W ∧ w.heap.size + 1 < W.heap.size) ⟨⟨hX0.out.below hb1, fun j hj => (hb1.cell (p := ⟨w.heap.size + 1, j, none⟩) (by simp)).trans (hY0.out j hj)⟩, hB0.out.trans (hb1.mono (by simp; omega)), by have := hb1.size; simp at this; omega⟩ ?_
  clear hX0 hY0 hB0 hb1
  rintro W1 ⟨⟨hX1, hY1⟩, hB1, hlt1⟩
  obtain ⟨c0, c1, c2, c3, c4, c5, c6⟩ := hX1
  have hY1H := Lib.hid hY1
  have hB1H := Lib.hid hB1
  have hlt1H := Lib.hid hlt1
  clear hY1 hB1 hlt1
  have henc := Lib.hid (fun W (h : Tab W) => encode_any q W h)
  by_cases hg : good q = true
  case neg =>
    rw [if_neg hg] at henc
    clear hg
    generalize encS q = t at henc
    go_wp2_with (first | (go_at_call 10; with_reducible refine (hwh.out _).mono ?_; rintro e w2 ⟨rfl, hb2⟩) | (go_at_call 11; with_reducible refine (henc.out _ (hTA.out _ (hB1H.out.trans (hb2.mono hB1H.out.size)))).mono ?_; rintro e w3 ⟨rfl, hb3⟩))
    go_ret
    exact ⟨rfl, hB1H.out.trans ((hb2.trans (hb3.mono hb2.size)).mono hB1H.out.size)⟩
  rw [if_pos hg] at henc
  have hgd := good_iff.1 hg
  have hgdH := Lib.hid hgd
  have hnb : nBlocks q.k = 1 ∨ nBlocks q.k = 2 := by have := nBlocks_pos hgd.1; omega
  have hes : encS q = ⟨(encL q).toArray⟩ := encS_good hgd
  have hesz := encS_size hgd
  have hbit : bits .and .i64 a 1 = 0 ∨ bits .and .i64 a 1 = 1 := by
    obtain ⟨m, hm, he⟩ := mask_nat a 1 1 rfl (by omega)
    have he' : bits .and .i64 a 1 = (m : Int) := he
    omega
  have hdec := Lib.hid (fun (m : List UInt8) (hm : m.length ≤ 4) (p : Nat) hp => dec_turned hgd m hm p hp)
  generalize hl0 : encL q = l0 at hes hdec
  have hll : l0.length = 64 * nBlocks q.k := by rw [← hl0]; exact encL_len hgd
  have htl : (encS q).data.toList = l0 := by rw [hes]
  clear hl0 hes hg hgd
  generalize encS q = t at henc hesz htl
  have htlH := Lib.hid htl
  have hllH := Lib.hid hll
  clear htl hll
  have hcv := fun wx => run_bytes_of_string (P := Tryd.prog) wx 9 49 5 t Tryd.underlying9 Tryd.underlying49 Tryd.underlying5
  rcases hnb with hnb | hnb
  · have hs1 : (t.size : Int) = 64 := by omega
    have hs2 : t.size = 64 := by omega
    clear hesz hbit
    obtain ⟨u, y, hu, hy, y0, y1, u0, u1, wu, wun, wy⟩ := mod_in a 18 (by omega) (by omega)
    obtain ⟨p, hpy⟩ : ∃ p : Nat, (p : Int) = 3 + y := ⟨(3 + y).toNat, by omega⟩
    have g1 : IntKind.i64.wrap 18 = 18 := by decide +kernel
    have g2 : IntKind.i64.wrap (u + 21) = u + 21 := wrap_in (by omega)
    have g3 : IntKind.i64.wrap (u + 21 - 3) = u + 18 := by rw [wrap_in (by omega)]; omega
    have g4 : IntKind.i64.wrap (3 + y) = (p : Int) := by rw [hpy]; exact wrap_in (by omega)
    have hp1 : 3 ≤ p ∧ p < 21 := by omega
    clear hpy wun y0 y1 u0 u1
    go_wp2_with (first | (go_at_call 10; with_reducible refine (hwh.out _).mono ?_; rintro e w2 ⟨rfl, hb2⟩) | (go_at_call 11; with_reducible refine (henc.out _ (hTA.out _ (hB1H.out.trans (hb2.mono hB1H.out.size)))).mono ?_; rintro e w3 ⟨rfl, hb3⟩))
    clear hcv hu hy g1 g2 g3 g4 wu wy
    refine fresh_world (fun wx => Told w wx w3.heap.size 64 (w.heap.size + 1) l0 bs p 0) ?_ ?_
    · have hb23 := hb2.trans (hb3.mono hb2.size)
      have hlt3 : w.heap.size + 1 < w3.heap.size := Nat.lt_of_lt_of_le hlt1H.out hb23.size
      have hB3 := hB1H.out.trans (hb23.mono hB1H.out.size)
      refine ⟨by rw [hllH.out, hnb], h4, hlt3, ?_, ?_, ?_, ?_, by omega⟩
      · have hn := BytesAt.new w3 t (grownCap w3 64 0 5) 5 ((bytesRow t (grownCap w3 64 0 5)).size, (bytesRow t (grownCap w3 64 0 5)).size + 1)
        rw [htlH.out] at hn
        exact hn
      · intro j hj
        have : j < (bytesRow t (grownCap w3 64 0 5)).size := by unfold bytesRow; simp; omega
        have e := World.frozen?_alloc_mark w3 (bytesRow t (grownCap w3 64 0 5)) 5 (bytesRow t (grownCap w3 64 0 5)).size ((bytesRow t (grownCap w3 64 0 5)).size + 1) j
        exact e.trans (by simp; omega)
      · intro j hj
        exact (World.cell?_alloc_lt w3 _ ⟨w.heap.size + 1, j, none⟩ hlt3).trans ((hb23.cell (p := ⟨w.heap.size + 1, j, none⟩) hlt1H.out).trans (hY1H.out j hj))
      · exact (hB3.alloc hB3.size _).drew
    rintro W2 hI
    clear hb2 hb3 hB1H hlt1H hY1H c0 c1 c2 c3 c4 c5 c6 hwh henc htlH
    generalize grownCap w3 64 0 5 = cap
    generalize w3.heap.size = g at hI ⊢
    generalize hBB : w.heap.size + 1 = B at hI ⊢
    have hBH := Lib.hid hBB
    clear hBB
    go_loopw [12, 13] (fun c i wr => ∃ k : Nat, k ≤ 4 ∧ p + k ≤ 21 ∧ i = .int .i64 (k : Int) ∧ c = .bool ((bs.take k).any (· != 0)) ∧ Told w wr g 64 B l0 bs p k) (fun _ i _ => 4 - (intOf i).toNat)
    case atStart => exact ⟨0, by omega, by omega, rfl, by simp, hI⟩
    case round =>
      clear hI
      obtain ⟨k, hk4, hkn, rfl, rfl, hI⟩ := hrel
      by_cases hlt : k < 4 ∧ p + k < 21
      · obtain ⟨hk, hkT⟩ := hlt
        have hkp : p + k < 64 := by omega
        obtain ⟨hc1, hc2, hc3⟩ := hI.at_ hk hkp
        have hg1 : decide ((k : Int) < 4) = true := by simp; omega
        have hg2 : decide ((p : Int) + (k : Int) < 21) = true := by simp; omega
        have hw1 : IntKind.i64.wrap ((p : Int) + (k : Int)) = (p : Int) + (k : Int) := IntWalk.i64_in _ (by omega)
        have hw2 : ((p : Int) + (k : Int)).toNat = p + k := by omega
        have hkp2 : p + k < t.size := by omega
        obtain ⟨d, hx, hd⟩ : ∃ d : UInt8, bits .xor .u8 (((upd l0 p (bs.take k)).getD (p + k) 0).toNat : Int) ((bs.getD k 0).toNat : Int) = (d.toNat : Int) ∧ Hid (d = (upd l0 p (bs.take k)).getD (p + k) 0 ^^^ bs.getD k 0) := ⟨_, u8_xor_bytes _ _, Lib.hid rfl⟩
        have hnext := Lib.hid (hI.step hk hkp d hd.out)
        have hany : (bs.take (k + 1)).any (· != 0) = ((bs.take k).any (· != 0) || (bs.getD k 0 != 0)) := by
          rw [List.take_succ_eq_append_getElem (by omega), List.any_append]
          simp [List.getD, show k < bs.length by omega]
        have hc4 : (wr.setCell ⟨g, p + k, none⟩ (.int .u8 (d.toNat : Int))).cell? ⟨B, k, none⟩ = some (.int .u8 ((bs.getD k 0).toNat : Int)) := hnext.out.2.2.2.2.2.1 k hk
        have hanyH := Lib.hid hany
        clear hI hany
        generalize (upd l0 p (bs.take k)).getD (p + k) 0 = c0 at hc1 hx hd
        generalize (bs.take k).any (· != 0) = ch at hanyH ⊢
        generalize bs.getD k 0 = bk at hc3 hc4 hx hd hanyH
        obtain ⟨z, hz1, hz2⟩ : ∃ z : Bool, ((bk.toNat : Int) != 0) = z ∧ Hid ((bk != 0) = z) := by
          refine ⟨bk != 0, ?_, Lib.hid rfl⟩
          rw [Bool.eq_iff_iff, bne_iff_ne, bne_iff_ne, ne_eq, ne_eq, ← UInt8.toNat_inj]
          simp
        go_wp2
        go_region
        cases ch
        all_goals
          go_wp2
          go_roundw
          case rel => exact ⟨k + 1, by omega, by omega, by go_num, by rw [hanyH.out, hz2.out]; simp, hnext.out.drew⟩
          case measure => simp [intOf]; omega
      · have hW := hI.2.2.2.2.2.2.1
        have hBy := hI.2.2.2.1
        have hg1 : decide ((k : Int) < 4) = decide (k < 4) := by rw [decide_eq_decide]; omega
        have hw1 : IntKind.i64.wrap ((p : Int) + (k : Int)) = (p : Int) + (k : Int) := IntWalk.i64_in _ (by omega)
        have hg2 : k < 4 → decide ((p : Int) + (k : Int) < 21) = false := fun h => by simp; omega
        have hlen : (upd l0 p (bs.take k)).length = 64 := by rw [upd_length, hllH.out, hnb]
        have hfin := hdec.out (bs.take k) (by simp; omega) p (Or.inl ⟨hp1.1, by simp; omega⟩)
        clear hI
        generalize (bs.take k).any (· != 0) = ch at hfin ⊢
        generalize upd l0 p (bs.take k) = l' at hBy hlen hfin
        have hcb : (convert 49 9 (.slice (some ⟨g, 0, none⟩) 64 cap)).run Tryd.prog wr = .ok (.string ⟨l'.toArray⟩) wr :=
          back hBy hlen Tryd.underlying49 Tryd.underlying5 Tryd.underlying9
        have hd1 := Lib.hid (decode_any ⟨l'.toArray⟩ wr (by rw [(ofList_size _).trans hlen]; unfold maxLen; omega) (hTA.out _ hW))
        have hWH := Lib.hid hW
        clear hW hBy hlen hs2 hkn hp1 hnb hdec
        cases ch with
        | false =>
          rw [hfin.2 rfl] at hd1
          clear hfin
          by_cases hk : k < 4
          · have hg3 := hg2 hk
            go_wp2_with (go_at_call 14; with_reducible refine hd1.out.mono ?_; rintro e w4 ⟨rfl, hb4⟩)
            go_ret
            exact ⟨rfl, hWH.out.trans ((hb4.alloc hb4.size _).mono hWH.out.size)⟩
          · skip
            go_wp2_with (go_at_call 14; with_reducible refine hd1.out.mono ?_; rintro e w4 ⟨rfl, hb4⟩)
            go_ret
            exact ⟨rfl, hWH.out.trans ((hb4.alloc hb4.size _).mono hWH.out.size)⟩
        | true =>
          obtain ⟨ev, hev, hdz⟩ := hfin.1 rfl
          rw [hdz] at hd1
          have hev1 : (ev != 0) = true := bne_iff_ne.2 hev
          have hev2 : (ev == 0) = false := beq_eq_false_iff_ne.2 hev
          have heq : ∀ W, (binOp .eql 29 (.agg #[.int .i64 0, .int .i64 0, .int .i64 0, .int .i64 0, .int .i64 0, .int .i64 0, .string ⟨#[]⟩]) (.agg #[.int .i64 0, .int .i64 0, .int .i64 0, .int .i64 0, .int .i64 0, .int .i64 0, .string ⟨#[]⟩])).run Tryd.prog W = .ok (.bool true) W := fun W => by
            have h := (rec_eql W zeroR zeroR).1
            rw [eqR_self] at h
            exact h
          clear hfin hdz hev
          have hd2 : Hid (Calls Tryd.prog 14 #[.string ⟨l'.toArray⟩] wr fun e w' => e = .returned (.tuple #[.agg #[.int .i64 0, .int .i64 0, .int .i64 0, .int .i64 0, .int .i64 0, .int .i64 0, .string ⟨#[]⟩], .int .i64 0, .int .i64 ev]) ∧ Below wr.heap.size wr w') := Lib.hid hd1.out
          clear hd1
          have hd1 := hd2
          clear hd2
          by_cases hk : k < 4
          · have hg3 := hg2 hk
            go_wp2_with (go_at_call 14; with_reducible refine hd1.out.mono ?_; rintro e w4 ⟨rfl, hb4⟩)
            go_ret
            exact ⟨rfl, hWH.out.trans ((hb4.alloc hb4.size _).mono hWH.out.size)⟩
          · skip
            go_wp2_with (go_at_call 14; with_reducible refine hd1.out.mono ?_; rintro e w4 ⟨rfl, hb4⟩)
            go_ret
            exact ⟨rfl, hWH.out.trans ((hb4.alloc hb4.size _).mono hWH.out.size)⟩
  · have hs1 : (t.size : Int) = 128 := by omega
    have hs2 : t.size = 128 := by omega
    clear hesz
    rcases hbit with hbit | hbit
    · skip
      obtain ⟨u, y, hu, hy, y0, y1, u0, u1, wu, wun, wy⟩ := mod_in a 18 (by omega) (by omega)
      obtain ⟨p, hpy⟩ : ∃ p : Nat, (p : Int) = 3 + y := ⟨(3 + y).toNat, by omega⟩
      have g1 : IntKind.i64.wrap 18 = 18 := by decide +kernel
      have g2 : IntKind.i64.wrap (u + 21) = u + 21 := wrap_in (by omega)
      have g3 : IntKind.i64.wrap (u + 21 - 3) = u + 18 := by rw [wrap_in (by omega)]; omega
      have g4 : IntKind.i64.wrap (3 + y) = (p : Int) := by rw [hpy]; exact wrap_in (by omega)
      have hp1 : 3 ≤ p ∧ p < 21 := by omega
      clear hpy wun y0 y1 u0 u1
      go_wp2_with (first | (go_at_call 10; with_reducible refine (hwh.out _).mono ?_; rintro e w2 ⟨rfl, hb2⟩) | (go_at_call 11; with_reducible refine (henc.out _ (hTA.out _ (hB1H.out.trans (hb2.mono hB1H.out.size)))).mono ?_; rintro e w3 ⟨rfl, hb3⟩))
      clear hcv hu hy g1 g2 g3 g4 wu wy
      refine fresh_world (fun wx => Told w wx w3.heap.size 128 (w.heap.size + 1) l0 bs p 0) ?_ ?_
      · have hb23 := hb2.trans (hb3.mono hb2.size)
        have hlt3 : w.heap.size + 1 < w3.heap.size := Nat.lt_of_lt_of_le hlt1H.out hb23.size
        have hB3 := hB1H.out.trans (hb23.mono hB1H.out.size)
        refine ⟨by rw [hllH.out, hnb], h4, hlt3, ?_, ?_, ?_, ?_, by omega⟩
        · have hn := BytesAt.new w3 t (grownCap w3 128 0 5) 5 ((bytesRow t (grownCap w3 128 0 5)).size, (bytesRow t (grownCap w3 128 0 5)).size + 1)
          rw [htlH.out] at hn
          exact hn
        · intro j hj
          have : j < (bytesRow t (grownCap w3 128 0 5)).size := by unfold bytesRow; simp; omega
          have e := World.frozen?_alloc_mark w3 (bytesRow t (grownCap w3 128 0 5)) 5 (bytesRow t (grownCap w3 128 0 5)).size ((bytesRow t (grownCap w3 128 0 5)).size + 1) j
          exact e.trans (by simp; omega)
        · intro j hj
          exact (World.cell?_alloc_lt w3 _ ⟨w.heap.size + 1, j, none⟩ hlt3).trans ((hb23.cell (p := ⟨w.heap.size + 1, j, none⟩) hlt1H.out).trans (hY1H.out j hj))
        · exact (hB3.alloc hB3.size _).drew
      rintro W2 hI
      clear hb2 hb3 hB1H hlt1H hY1H c0 c1 c2 c3 c4 c5 c6 hwh henc htlH
      generalize grownCap w3 128 0 5 = cap
      generalize w3.heap.size = g at hI ⊢
      generalize hBB : w.heap.size + 1 = B at hI ⊢
      have hBH := Lib.hid hBB
      clear hBB
      go_loopw [12, 13] (fun c i wr => ∃ k : Nat, k ≤ 4 ∧ p + k ≤ 21 ∧ i = .int .i64 (k : Int) ∧ c = .bool ((bs.take k).any (· != 0)) ∧ Told w wr g 128 B l0 bs p k) (fun _ i _ => 4 - (intOf i).toNat)
      case atStart => exact ⟨0, by omega, by omega, rfl, by simp, hI⟩
      case round =>
        clear hI
        obtain ⟨k, hk4, hkn, rfl, rfl, hI⟩ := hrel
        by_cases hlt : k < 4 ∧ p + k < 21
        · obtain ⟨hk, hkT⟩ := hlt
          have hkp : p + k < 128 := by omega
          obtain ⟨hc1, hc2, hc3⟩ := hI.at_ hk hkp
          have hg1 : decide ((k : Int) < 4) = true := by simp; omega
          have hg2 : decide ((p : Int) + (k : Int) < 21) = true := by simp; omega
          have hw1 : IntKind.i64.wrap ((p : Int) + (k : Int)) = (p : Int) + (k : Int) := IntWalk.i64_in _ (by omega)
          have hw2 : ((p : Int) + (k : Int)).toNat = p + k := by omega
          have hkp2 : p + k < t.size := by omega
          obtain ⟨d, hx, hd⟩ : ∃ d : UInt8, bits .xor .u8 (((upd l0 p (bs.take k)).getD (p + k) 0).toNat : Int) ((bs.getD k 0).toNat : Int) = (d.toNat : Int) ∧ Hid (d = (upd l0 p (bs.take k)).getD (p + k) 0 ^^^ bs.getD k 0) := ⟨_, u8_xor_bytes _ _, Lib.hid rfl⟩
          have hnext := Lib.hid (hI.step hk hkp d hd.out)
          have hany : (bs.take (k + 1)).any (· != 0) = ((bs.take k).any (· != 0) || (bs.getD k 0 != 0)) := by
            rw [List.take_succ_eq_append_getElem (by omega), List.any_append]
            simp [List.getD, show k < bs.length by omega]
          have hc4 : (wr.setCell ⟨g, p + k, none⟩ (.int .u8 (d.toNat : Int))).cell? ⟨B, k, none⟩ = some (.int .u8 ((bs.getD k 0).toNat : Int)) := hnext.out.2.2.2.2.2.1 k hk
          have hanyH := Lib.hid hany
          clear hI hany
          generalize (upd l0 p (bs.take k)).getD (p + k) 0 = c0 at hc1 hx hd
          generalize (bs.take k).any (· != 0) = ch at hanyH ⊢
          generalize bs.getD k 0 = bk at hc3 hc4 hx hd hanyH
          obtain ⟨z, hz1, hz2⟩ : ∃ z : Bool, ((bk.toNat : Int) != 0) = z ∧ Hid ((bk != 0) = z) := by
            refine ⟨bk != 0, ?_, Lib.hid rfl⟩
            rw [Bool.eq_iff_iff, bne_iff_ne, bne_iff_ne, ne_eq, ne_eq, ← UInt8.toNat_inj]
            simp
          go_wp2
          go_region
          cases ch
          all_goals
            go_wp2
            go_roundw
            case rel => exact ⟨k + 1, by omega, by omega, by go_num, by rw [hanyH.out, hz2.out]; simp, hnext.out.drew⟩
            case measure => simp [intOf]; omega
        · have hW := hI.2.2.2.2.2.2.1
          have hBy := hI.2.2.2.1
          have hg1 : decide ((k : Int) < 4) = decide (k < 4) := by rw [decide_eq_decide]; omega
          have hw1 : IntKind.i64.wrap ((p : Int) + (k : Int)) = (p : Int) + (k : Int) := IntWalk.i64_in _ (by omega)
          have hg2 : k < 4 → decide ((p : Int) + (k : Int) < 21) = false := fun h => by simp; omega
          have hlen : (upd l0 p (bs.take k)).length = 128 := by rw [upd_length, hllH.out, hnb]
          have hfin := hdec.out (bs.take k) (by simp; omega) p (Or.inl ⟨hp1.1, by simp; omega⟩)
          clear hI
          generalize (bs.take k).any (· != 0) = ch at hfin ⊢
          generalize upd l0 p (bs.take k) = l' at hBy hlen hfin
          have hcb : (convert 49 9 (.slice (some ⟨g, 0, none⟩) 128 cap)).run Tryd.prog wr = .ok (.string ⟨l'.toArray⟩) wr :=
            back hBy hlen Tryd.underlying49 Tryd.underlying5 Tryd.underlying9
          have hd1 := Lib.hid (decode_any ⟨l'.toArray⟩ wr (by rw [(ofList_size _).trans hlen]; unfold maxLen; omega) (hTA.out _ hW))
          have hWH := Lib.hid hW
          clear hW hBy hlen hs2 hkn hp1 hnb hdec
          cases ch with
          | false =>
            rw [hfin.2 rfl] at hd1
            clear hfin
            by_cases hk : k < 4
            · have hg3 := hg2 hk
              go_wp2_with (go_at_call 14; with_reducible refine hd1.out.mono ?_; rintro e w4 ⟨rfl, hb4⟩)
              go_ret
              exact ⟨rfl, hWH.out.trans ((hb4.alloc hb4.size _).mono hWH.out.size)⟩
            · skip
              go_wp2_with (go_at_call 14; with_reducible refine hd1.out.mono ?_; rintro e w4 ⟨rfl, hb4⟩)
              go_ret
              exact ⟨rfl, hWH.out.trans ((hb4.alloc hb4.size _).mono hWH.out.size)⟩
          | true =>
            obtain ⟨ev, hev, hdz⟩ := hfin.1 rfl
            rw [hdz] at hd1
            have hev1 : (ev != 0) = true := bne_iff_ne.2 hev
            have hev2 : (ev == 0) = false := beq_eq_false_iff_ne.2 hev
            have heq : ∀ W, (binOp .eql 29 (.agg #[.int .i64 0, .int .i64 0, .int .i64 0, .int .i64 0, .int .i64 0, .int .i64 0, .string ⟨#[]⟩]) (.agg #[.int .i64 0, .int .i64 0, .int .i64 0, .int .i64 0, .int .i64 0, .int .i64 0, .string ⟨#[]⟩])).run Tryd.prog W = .ok (.bool true) W := fun W => by
              have h := (rec_eql W zeroR zeroR).1
              rw [eqR_self] at h
              exact h
            clear hfin hdz hev
            have hd2 : Hid (Calls Tryd.prog 14 #[.string ⟨l'.toArray⟩] wr fun e w' => e = .returned (.tuple #[.agg #[.int .i64 0, .int .i64 0, .int .i64 0, .int .i64 0, .int .i64 0, .int .i64 0, .string ⟨#[]⟩], .int .i64 0, .int .i64 ev]) ∧ Below wr.heap.size wr w') := Lib.hid hd1.out
            clear hd1
            have hd1 := hd2
            clear hd2
            by_cases hk : k < 4
            · have hg3 := hg2 hk
              go_wp2_with (go_at_call 14; with_reducible refine hd1.out.mono ?_; rintro e w4 ⟨rfl, hb4⟩)
              go_ret
              exact ⟨rfl, hWH.out.trans ((hb4.alloc hb4.size _).mono hWH.out.size)⟩
            · skip
              go_wp2_with (go_at_call 14; with_reducible refine hd1.out.mono ?_; rintro e w4 ⟨rfl, hb4⟩)
              go_ret
              exact ⟨rfl, hWH.out.trans ((hb4.alloc hb4.size _).mono hWH.out.size)⟩
    · skip
      obtain ⟨u, y, hu, hy, y0, y1, u0, u1, wu, wun, wy⟩ := mod_in a 64 (by omega) (by omega)
      obtain ⟨p, hpy⟩ : ∃ p : Nat, (p : Int) = 64 + y := ⟨(64 + y).toNat, by omega⟩
      have g1 : IntKind.i64.wrap 64 = 64 := by decide +kernel
      have g2 : IntKind.i64.wrap (u + 128) = u + 128 := wrap_in (by omega)
      have g3 : IntKind.i64.wrap (u + 128 - 64) = u + 64 := by rw [wrap_in (by omega)]; omega
      have g4 : IntKind.i64.wrap (64 + y) = (p : Int) := by rw [hpy]; exact wrap_in (by omega)
      have hp1 : 64 ≤ p ∧ p < 128 := by omega
      clear hpy wun y0 y1 u0 u1
      go_wp2_with (first | (go_at_call 10; with_reducible refine (hwh.out _).mono ?_; rintro e w2 ⟨rfl, hb2⟩) | (go_at_call 11; with_reducible refine (henc.out _ (hTA.out _ (hB1H.out.trans (hb2.mono hB1H.out.size)))).mono ?_; rintro e w3 ⟨rfl, hb3⟩))
      clear hcv hu hy g1 g2 g3 g4 wu wy
      refine fresh_world (fun wx => Told w wx w3.heap.size 128 (w.heap.size + 1) l0 bs p 0) ?_ ?_
      · have hb23 := hb2.trans (hb3.mono hb2.size)
        have hlt3 : w.heap.size + 1 < w3.heap.size := Nat.lt_of_lt_of_le hlt1H.out hb23.size
        have hB3 := hB1H.out.trans (hb23.mono hB1H.out.size)
        refine ⟨by rw [hllH.out, hnb], h4, hlt3, ?_, ?_, ?_, ?_, by omega⟩
        · have hn := BytesAt.new w3 t (grownCap w3 128 0 5) 5 ((bytesRow t (grownCap w3 128 0 5)).size, (bytesRow t (grownCap w3 128 0 5)).size + 1)
          rw [htlH.out] at hn
          exact hn
        · intro j hj
          have : j < (bytesRow t (grownCap w3 128 0 5)).size := by unfold bytesRow; simp; omega
          have e := World.frozen?_alloc_mark w3 (bytesRow t (grownCap w3 128 0 5)) 5 (bytesRow t (grownCap w3 128 0 5)).size ((bytesRow t (grownCap w3 128 0 5)).size + 1) j
          exact e.trans (by simp; omega)
        · intro j hj
          exact (World.cell?_alloc_lt w3 _ ⟨w.heap.size + 1, j, none⟩ hlt3).trans ((hb23.cell (p := ⟨w.heap.size + 1, j, none⟩) hlt1H.out).trans (hY1H.out j hj))
        · exact (hB3.alloc hB3.size _).drew
      rintro W2 hI
      clear hb2 hb3 hB1H hlt1H hY1H c0 c1 c2 c3 c4 c5 c6 hwh henc htlH
      generalize grownCap w3 128 0 5 = cap
      generalize w3.heap.size = g at hI ⊢
      generalize hBB : w.heap.size + 1 = B at hI ⊢
      have hBH := Lib.hid hBB
      clear hBB
      go_loopw [12, 13] (fun c i wr => ∃ k : Nat, k ≤ 4 ∧ p + k ≤ 128 ∧ i = .int .i64 (k : Int) ∧ c = .bool ((bs.take k).any (· != 0)) ∧ Told w wr g 128 B l0 bs p k) (fun _ i _ => 4 - (intOf i).toNat)
      case atStart => exact ⟨0, by omega, by omega, rfl, by simp, hI⟩
      case round =>
        clear hI
        obtain ⟨k, hk4, hkn, rfl, rfl, hI⟩ := hrel
        by_cases hlt : k < 4 ∧ p + k < 128
        · obtain ⟨hk, hkT⟩ := hlt
          have hkp : p + k < 128 := by omega
          obtain ⟨hc1, hc2, hc3⟩ := hI.at_ hk hkp
          have hg1 : decide ((k : Int) < 4) = true := by simp; omega
          have hg2 : decide ((p : Int) + (k : Int) < 128) = true := by simp; omega
          have hw1 : IntKind.i64.wrap ((p : Int) + (k : Int)) = (p : Int) + (k : Int) := IntWalk.i64_in _ (by omega)
          have hw2 : ((p : Int) + (k : Int)).toNat = p + k := by omega
          have hkp2 : p + k < t.size := by omega
          obtain ⟨d, hx, hd⟩ : ∃ d : UInt8, bits .xor .u8 (((upd l0 p (bs.take k)).getD (p + k) 0).toNat : Int) ((bs.getD k 0).toNat : Int) = (d.toNat : Int) ∧ Hid (d = (upd l0 p (bs.take k)).getD (p + k) 0 ^^^ bs.getD k 0) := ⟨_, u8_xor_bytes _ _, Lib.hid rfl⟩
          have hnext := Lib.hid (hI.step hk hkp d hd.out)
          have hany : (bs.take (k + 1)).any (· != 0) = ((bs.take k).any (· != 0) || (bs.getD k 0 != 0)) := by
            rw [List.take_succ_eq_append_getElem (by omega), List.any_append]
            simp [List.getD, show k < bs.length by omega]
          have hc4 : (wr.setCell ⟨g, p + k, none⟩ (.int .u8 (d.toNat : Int))).cell? ⟨B, k, none⟩ = some (.int .u8 ((bs.getD k 0).toNat : Int)) := hnext.out.2.2.2.2.2.1 k hk
          have hanyH := Lib.hid hany
          clear hI hany
          generalize (upd l0 p (bs.take k)).getD (p + k) 0 = c0 at hc1 hx hd
          generalize (bs.take k).any (· != 0) = ch at hanyH ⊢
          generalize bs.getD k 0 = bk at hc3 hc4 hx hd hanyH
          obtain ⟨z, hz1, hz2⟩ : ∃ z : Bool, ((bk.toNat : Int) != 0) = z ∧ Hid ((bk != 0) = z) := by
            refine ⟨bk != 0, ?_, Lib.hid rfl⟩
            rw [Bool.eq_iff_iff, bne_iff_ne, bne_iff_ne, ne_eq, ne_eq, ← UInt8.toNat_inj]
            simp
          go_wp2
          go_region
          cases ch
          all_goals
            go_wp2
            go_roundw
            case rel => exact ⟨k + 1, by omega, by omega, by go_num, by rw [hanyH.out, hz2.out]; simp, hnext.out.drew⟩
            case measure => simp [intOf]; omega
        · have hW := hI.2.2.2.2.2.2.1
          have hBy := hI.2.2.2.1
          have hg1 : decide ((k : Int) < 4) = decide (k < 4) := by rw [decide_eq_decide]; omega
          have hw1 : IntKind.i64.wrap ((p : Int) + (k : Int)) = (p : Int) + (k : Int) := IntWalk.i64_in _ (by omega)
          have hg2 : k < 4 → decide ((p : Int) + (k : Int) < 128) = false := fun h => by simp; omega
          have hlen : (upd l0 p (bs.take k)).length = 128 := by rw [upd_length, hllH.out, hnb]
          have hfin := hdec.out (bs.take k) (by simp; omega) p (Or.inr ⟨hp1.1, by simp; omega, hnb⟩)
          clear hI
          generalize (bs.take k).any (· != 0) = ch at hfin ⊢
          generalize upd l0 p (bs.take k) = l' at hBy hlen hfin
          have hcb : (convert 49 9 (.slice (some ⟨g, 0, none⟩) 128 cap)).run Tryd.prog wr = .ok (.string ⟨l'.toArray⟩) wr :=
            back hBy hlen Tryd.underlying49 Tryd.underlying5 Tryd.underlying9
          have hd1 := Lib.hid (decode_any ⟨l'.toArray⟩ wr (by rw [(ofList_size _).trans hlen]; unfold maxLen; omega) (hTA.out _ hW))
          have hWH := Lib.hid hW
          clear hW hBy hlen hs2 hkn hp1 hnb hdec
          cases ch with
          | false =>
            rw [hfin.2 rfl] at hd1
            clear hfin
            by_cases hk : k < 4
            · have hg3 := hg2 hk
              go_wp2_with (go_at_call 14; with_reducible refine hd1.out.mono ?_; rintro e w4 ⟨rfl, hb4⟩)
              go_ret
              exact ⟨rfl, hWH.out.trans ((hb4.alloc hb4.size _).mono hWH.out.size)⟩
            · skip
              go_wp2_with (go_at_call 14; with_reducible refine hd1.out.mono ?_; rintro e w4 ⟨rfl, hb4⟩)
              go_ret
              exact ⟨rfl, hWH.out.trans ((hb4.alloc hb4.size _).mono hWH.out.size)⟩
          | true =>
            obtain ⟨ev, hev, hdz⟩ := hfin.1 rfl
            rw [hdz] at hd1
            have hev1 : (ev != 0) = true := bne_iff_ne.2 hev
            have hev2 : (ev == 0) = false := beq_eq_false_iff_ne.2 hev
            have heq : ∀ W, (binOp .eql 29 (.agg #[.int .i64 0, .int .i64 0, .int .i64 0, .int .i64 0, .int .i64 0, .int .i64 0, .string ⟨#[]⟩]) (.agg #[.int .i64 0, .int .i64 0, .int .i64 0, .int .i64 0, .int .i64 0, .int .i64 0, .string ⟨#[]⟩])).run Tryd.prog W = .ok (.bool true) W := fun W => by
              have h := (rec_eql W zeroR zeroR).1
              rw [eqR_self] at h
              exact h
            clear hfin hdz hev
            have hd2 : Hid (Calls Tryd.prog 14 #[.string ⟨l'.toArray⟩] wr fun e w' => e = .returned (.tuple #[.agg #[.int .i64 0, .int .i64 0, .int .i64 0, .int .i64 0, .int .i64 0, .int .i64 0, .string ⟨#[]⟩], .int .i64 0, .int .i64 ev]) ∧ Below wr.heap.size wr w') := Lib.hid hd1.out
            clear hd1
            have hd1 := hd2
            clear hd2
            by_cases hk : k < 4
            · have hg3 := hg2 hk
              go_wp2_with (go_at_call 14; with_reducible refine hd1.out.mono ?_; rintro e w4 ⟨rfl, hb4⟩)
              go_ret
              exact ⟨rfl, hWH.out.trans ((hb4.alloc hb4.size _).mono hWH.out.size)⟩
            · skip
              go_wp2_with (go_at_call 14; with_reducible refine hd1.out.mono ?_; rintro e w4 ⟨rfl, hb4⟩)
              go_ret
              exact ⟨rfl, hWH.out.trans ((hb4.alloc hb4.size _).mono hWH.out.size)⟩
end Go.Proofs.YtlignckncgceaabDoor
