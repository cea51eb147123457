/- The walk of GroupRots. -/
import Derived.Test.YtchipfpnikkbeaaDoorGpO
import Derived.Test.YtchipfpnikkbeaaDoorOTold
namespace Go.Proofs.YtchipfpnikkbeaaDoor
open Go.RowKit Rec Crc Num Xor

theorem row_cap {α : Type} {E : Enc α} {W : World} {base : Nat} {t : TypeId} {A : Option Addr} {c : Nat} {xs : List α} (h : E.Row W base t A c xs) : xs.length ≤ c := by
  rcases h.form with ⟨_, h1, h2⟩ | ⟨_, _, _, _, h⟩
  · rw [h2]; exact Nat.zero_le _
  · exact h
set_option maxRecDepth 100000 in
set_option maxHeartbeats 16000000 in
theorem rots_lawG (q : Int) (AB : Option Addr) (bl : List Int) (kb : Nat) (AT : Option Addr) (tr : List Bool) (kt : Nat) (AD : Option Addr) (ds : List ByteArray) (kd : Nat) (a : Int) (bs : List UInt8) (h4 : bs.length = 4) (w : World) (hT : Tab w) (hI : GIn w AB bl AT tr AD ds) (hds : ∀ s ∈ ds, s.size ≤ maxLen) :
    Calls Tryd.prog 5 #[.agg #[.int .i64 q, .slice AB bl.length kb, .slice AT tr.length kt, .slice AD ds.length kd], .int .i64 a, .agg (bs.map fun b => Value.int .u8 (b.toNat : Int)).toArray] w fun e w' => e = .returned (.bool true) ∧ Below w.heap.size w w' := by
  have hTA := Lib.hid (fun W (h : Below w.heap.size w W) => hT.below h)
  have hgiv := Lib.hid (fun W (hb : Below w.heap.size w W) => given18 W q AB kb bl AT kt tr AD kd ds ⟨hI.b.below hb, hI.t.below hb, hI.d.below hb⟩ hds)
  obtain ⟨nb, hnb⟩ : ∃ nb, bl.length = nb := ⟨_, rfl⟩
  obtain ⟨nt, hnt⟩ : ∃ nt, tr.length = nt := ⟨_, rfl⟩
  obtain ⟨nd, hnd⟩ : ∃ nd, ds.length = nd := ⟨_, rfl⟩
  rw [hnb, hnt, hnd] at hgiv ⊢
  have hlnH := Lib.hid (And.intro hnb hnd)
  have hB0 := Lib.hid (show Below w.heap.size w ((w.alloc (.cells #[.int .i64 q, .slice AB nb kb, .slice AT nt kt, .slice AD nd kd] 26)).alloc (.cells (bs.map fun b => Value.int .u8 (b.toNat : Int)).toArray 46)) from ((Below.refl _ _).alloc (Nat.le_refl _) _).alloc (by simp) _)
  have hX0 := Lib.hid (show (fun W : World => (W.cell? ⟨w.heap.size, 0, none⟩ = some (.int .i64 q) ∧ W.cell? ⟨w.heap.size, 1, none⟩ = some (.slice AB nb kb) ∧ W.cell? ⟨w.heap.size, 2, none⟩ = some (.slice AT nt kt) ∧ W.cell? ⟨w.heap.size, 3, none⟩ = some (.slice AD nd kd))) ((w.alloc (.cells #[.int .i64 q, .slice AB nb kb, .slice AT nt kt, .slice AD nd kd] 26)).alloc (.cells (bs.map fun b => Value.int .u8 (b.toNat : Int)).toArray 46)) from ⟨by go_simp, by go_simp, by go_simp, by go_simp⟩)
  have hY0 := Lib.hid (show (fun W : World => (∀ j, j < 4 → W.cell? ⟨w.heap.size + 1, j, none⟩ = some (.int .u8 ((bs.getD j 0).toNat : Int)))) ((w.alloc (.cells #[.int .i64 q, .slice AB nb kb, .slice AT nt kt, .slice AD nd kd] 26)).alloc (.cells (bs.map fun b => Value.int .u8 (b.toNat : Int)).toArray 46)) from fun j hj => by
    have hjl : j < bs.length := by omega
    have h := World.cell?_alloc_new (w.alloc (.cells #[.int .i64 q, .slice AB nb kb, .slice AT nt kt, .slice AD nd kd] 26)) ((bs.map fun b => Value.int .u8 (b.toNat : Int)).toArray) 46 j
    rw [World.size_alloc] at h
    show (_ : World).cell? ⟨w.heap.size + 1, j, none⟩ = _
    rw [h]
    simp [List.getD, hjl])
  clear hT hI hds hnb hnt hnd
  go_enter Tryd.func5, Tryd.ntmps5
  go_upto_region 3 with (go_at_call 7; refine (speaks18 _ (hTA.out _ hB0.out)).mono ?_; rintro e w1 ⟨rfl, hb1⟩)
  refine fresh_world (fun W => ((W.cell? ⟨w.heap.size, 0, none⟩ = some (.int .i64 q) ∧ W.cell? ⟨w.heap.size, 1, none⟩ = some (.slice AB nb kb) ∧ W.cell? ⟨w.heap.size, 2, none⟩ = some (.slice AT nt kt) ∧ W.cell? ⟨w.heap.size, 3, none⟩ = some (.slice AD nd kd)) ∧ (∀ j, j < 4 → W.cell? ⟨w.heap.size + 1, j, none⟩ = some (.int .u8 ((bs.getD j 0).toNat : Int)))) ∧ Below w.heap.size w W ∧ w.heap.size + 1 < W.heap.size) ⟨⟨⟨(hb1.cell (p := ⟨w.heap.size, 0, none⟩) (by simp; omega)).trans hX0.out.1, (hb1.cell (p := ⟨w.heap.size, 1, none⟩) (by simp; omega)).trans hX0.out.2.1, (hb1.cell (p := ⟨w.heap.size, 2, none⟩) (by simp; omega)).trans hX0.out.2.2.1, (hb1.cell (p := ⟨w.heap.size, 3, none⟩) (by simp; omega)).trans hX0.out.2.2.2⟩, fun j hj => (hb1.cell (p := ⟨w.heap.size + 1, j, none⟩) (by simp)).trans (hY0.out j hj)⟩, hB0.out.trans (hb1.mono (by simp; omega)), by have := hb1.size; simp at this; omega⟩ ?_
  clear hX0 hY0 hB0 hb1
  rintro W1 ⟨⟨⟨c0, c1, c2, c3⟩, hY1⟩, hB1, hlt1⟩
  have hY1H := Lib.hid hY1
  have hB1H := Lib.hid hB1
  have hlt1H := Lib.hid hlt1
  clear hY1 hB1 hlt1
  go_wp2_with fail
  refine (hgiv.out _ hB1H.out).mono ?_
  rintro e w2 ⟨E, B, T, D, F, rfl, hxs, hR, hb2⟩
  have hal1 := (Below.refl w2.heap.size w2).alloc (Nat.le_refl _) (.cells #[.int .i64 q, .slice E.A E.xs.length E.c, .slice D.A D.xs.length D.c] 30)
  have hal2 := (hal1).alloc (by simp) (.cells #[.int .i64 q, .slice B.A B.xs.length B.c, .slice T.A T.xs.length T.c, .slice F.A F.xs.length F.c] 31)
  have hst := Lib.hid (And.intro (hR.below hal2) (bmore (bmore hB1H.out hb2) hal2))
  have hlE : E.xs.length ≤ 9 ∧ D.xs.length ≤ 9 := by rw [hxs.1, hxs.2.2.2.1, gE_len, gD_len]; omega
  have hlEH := Lib.hid hlE
  have hY2H := Lib.hid (show (fun W : World => (∀ j, j < 4 → W.cell? ⟨w.heap.size + 1, j, none⟩ = some (.int .u8 ((bs.getD j 0).toNat : Int)))) _ from fun j hj => (hal2.cell (p := ⟨w.heap.size + 1, j, none⟩) (Nat.lt_of_lt_of_le hlt1H.out hb2.size)).trans ((hb2.cell (p := ⟨w.heap.size + 1, j, none⟩) hlt1H.out).trans (hY1H.out j hj)))
  have hlt2H := Lib.hid (Nat.lt_of_lt_of_le hlt1H.out hb2.size)
  clear hR hb2 hxs hal1 hal2 hlE hY1H hB1H c0 c1 c2 c3 hgiv hlnH
  go_upto_region 4 with fail
  refine fresh_world (fun W => (W.cell? ⟨w2.heap.size, 0, none⟩ = some (.int .i64 q) ∧ W.cell? ⟨w2.heap.size, 1, none⟩ = some (.slice E.A E.xs.length E.c) ∧ W.cell? ⟨w2.heap.size, 2, none⟩ = some (.slice D.A D.xs.length D.c)) ∧ GvR W (W1.heap.size + 5) E B T D F ∧ Below w.heap.size w W ∧ (∀ j, j < 4 → W.cell? ⟨w.heap.size + 1, j, none⟩ = some (.int .u8 ((bs.getD j 0).toNat : Int))) ∧ w.heap.size + 1 < W.heap.size) ⟨⟨by go_simp, by go_simp, by go_simp⟩, hst.out.1, hst.out.2, hY2H.out, by have := hlt2H.out; simp; omega⟩ ?_
  clear hst hY2H hlt1H
  rintro W4 ⟨⟨c0, c1, c2⟩, hR4, hB4, hY4, hlt4⟩
  have hY4H := Lib.hid hY4
  have hB4H := Lib.hid hB4
  have hlt4H := Lib.hid hlt4
  clear hY4 hB4 hlt4
  by_cases hg : GoodG ⟨q, E.xs, D.xs⟩
  case neg =>
    have henc := Lib.hid (encode_badG W4 ⟨q, E.xs, D.xs⟩ E.A D.A E.c D.c ⟨hR4.rE.in_, hR4.rD.in_⟩ (by have := hlEH.out; show E.xs.length ≤ 1000; omega) (by have := hlEH.out; show D.xs.length ≤ 1000; omega) hg)
    clear hg hR4
    go_wp2_with fail
    refine henc.out.mono ?_
    rintro e w3 ⟨rfl, hb3⟩
    have hF := Lib.hid (bmore hB4H.out hb3)
    clear hb3 henc
    go_wp2_with fail
    go_ret
    exact ⟨rfl, hF.out⟩
  have henc := Lib.hid (encode_goodG W4 ⟨q, E.xs, D.xs⟩ E.A D.A E.c D.c ⟨hR4.rE.in_, hR4.rD.in_⟩ (row_cap hR4.rD) hg (hTA.out _ hB4H.out))
  have hdec := Lib.hid (fun (m : List UInt8) (hm : m.length ≤ 4) (p : Nat) hp => decG_turned hg m hm p hp)
  have hll0 := encG_len hg
  have hbe := blkE_le E.xs
  have hn6 : E.xs.length ≤ 6 := hg.1.2.2
  dsimp only at henc hll0
  generalize encG ⟨q, E.xs, D.xs⟩ = l0 at henc hdec hll0
  obtain ⟨n, hn⟩ : ∃ n, 64 * blkE E.xs = n := ⟨_, rfl⟩
  have hn64 : n = 64 ∨ 64 < n := by omega
  have hnb : n ≤ 448 := by omega
  have hnge : 64 ≤ n := by omega
  have hnH : Hid (64 * blkE E.xs = n) := Lib.hid hn
  rw [hn] at hll0
  obtain ⟨t, ht⟩ : ∃ t : ByteArray, t = ⟨l0.toArray⟩ := ⟨_, rfl⟩
  rw [← ht] at henc
  have htl : t.data.toList = l0 := by rw [ht]
  have hts : t.size = n := by rw [ht]; exact (ofList_size _).trans hll0
  have hs1 : (t.size : Int) = (n : Int) := by omega
  have htlH := Lib.hid htl
  have hllH := Lib.hid hll0
  have hcv := fun wx => run_bytes_of_string (P := Tryd.prog) wx 9 44 5 t Tryd.underlying9 Tryd.underlying44 Tryd.underlying5
  have hbit : bits .and .i64 a 1 = 0 ∨ bits .and .i64 a 1 = 1 := by
    obtain ⟨m, hm, he⟩ := mask_nat a 1 1 rfl (by omega)
    have he' : bits .and .i64 a 1 = (m : Int) := he
    omega
  clear hg hR4 ht htl hll0 hbe hn6 hn
  have hcase : (bits .and .i64 a 1 = 0) ∨ (bits .and .i64 a 1 = 1 ∧ n = 64) ∨ (bits .and .i64 a 1 = 1 ∧ 64 < n) := by omega
  clear hbit hn64
  rcases hcase with hbit | ⟨hbit, hn64⟩ | ⟨hbit, hn64⟩
  ·
    have hz := hbit

    obtain ⟨u, y, hu, hy, y0, y1, u0, u1, wu, wun, wy⟩ := mod_in a 6 (by omega) (by omega)
    obtain ⟨p, hpy⟩ : ∃ p : Nat, (p : Int) = 2 + y := ⟨(2 + y).toNat, by omega⟩
    have g1 : IntKind.i64.wrap 6 = 6 := by decide +kernel
    have g2 : IntKind.i64.wrap (u + 8) = u + 8 := wrap_in (by omega)
    have g3 : IntKind.i64.wrap (u + 8 - 2) = u + 6 := by rw [wrap_in (by omega)]; omega
    have g4 : IntKind.i64.wrap (2 + y) = (p : Int) := by rw [hpy]; exact wrap_in (by omega)
    have hp1 : 2 ≤ p ∧ p < 8 := by omega
    have hd0 : True := trivial
    have hd0b : True := trivial

    clear hpy wun y0 y1 u0 u1
    go_wp2_with fail
    refine henc.out.mono ?_
    rintro e w3 ⟨rfl, hb3⟩
    have hlt3 : w.heap.size + 1 < w3.heap.size := Nat.lt_of_lt_of_le hlt4H.out hb3.size
    have hlt3H := Lib.hid hlt3
    have hB3 := Lib.hid (bmore hB4H.out hb3)
    have hY3 := Lib.hid (fun j hj => (hb3.cell (p := ⟨w.heap.size + 1, j, none⟩) hlt4H.out).trans (hY4H.out j hj))
    clear hb3 hlt3
    go_upto_region 12 with fail
    clear hcv hu hy g1 g2 g3 g4 wu wy hd0 hd0b
    try clear hdd2
    refine fresh_world (fun wx => Told w wx w3.heap.size n (w.heap.size + 1) l0 bs p 0) ?_ ?_
    · refine ⟨hllH.out, h4, hlt3H.out, ?_, ?_, ?_, ?_, by have := hB3.out.size; omega⟩
      · have hn := BytesAt.new w3 t (grownCap w3 n 0 5) 5 ((bytesRow t (grownCap w3 n 0 5)).size, (bytesRow t (grownCap w3 n 0 5)).size + 1)
        rw [htlH.out] at hn
        exact hn
      · intro j hj
        have : j < (bytesRow t (grownCap w3 n 0 5)).size := by unfold bytesRow; simp; omega
        have e := World.frozen?_alloc_mark w3 (bytesRow t (grownCap w3 n 0 5)) 5 (bytesRow t (grownCap w3 n 0 5)).size ((bytesRow t (grownCap w3 n 0 5)).size + 1) j
        exact e.trans (by simp; omega)
      · intro j hj
        exact (World.cell?_alloc_lt w3 _ ⟨w.heap.size + 1, j, none⟩ hlt3H.out).trans (hY3.out j hj)
      · exact (hB3.out.alloc hB3.out.size _).drew
    rintro W2 hI
    clear hlt4H hB4H hY4H hlt3H hB3 hY3 c0 c1 c2 henc htlH
    generalize grownCap w3 n 0 5 = cap
    generalize w3.heap.size = g at hI ⊢
    generalize hBB : w.heap.size + 1 = B' at hI ⊢
    have hBH := Lib.hid hBB
    clear hBB
    go_wp2_with fail
    go_loopw [14, 15] (fun c i wr => ∃ k : Nat, k ≤ 4 ∧ p + k ≤ 8 ∧ i = .int .i64 (k : Int) ∧ c = .bool ((bs.take k).any (· != 0)) ∧ Told w wr g n B' l0 bs p k) (fun _ i _ => 4 - (Go.RowKit.intOf i).toNat)
    case atStart => exact ⟨0, by omega, by omega, rfl, by simp, hI⟩
    case round =>
      clear hI
      obtain ⟨k, hk4, hkn, rfl, rfl, hI⟩ := hrel
      by_cases hlt : k < 4 ∧ p + k < 8
      · obtain ⟨hk, hkT⟩ := hlt
        have hkp : p + k < n := by omega
        obtain ⟨hc1, hc2, hc3⟩ := hI.at_ hk hkp
        have hg1 : decide ((k : Int) < 4) = true := by simp; omega
        have hg2 : decide ((p : Int) + (k : Int) < 8) = true := by simp; omega
        have hw1 : IntKind.i64.wrap ((p : Int) + (k : Int)) = (p : Int) + (k : Int) := IntWalk.i64_in _ (by omega)
        have hw2 : ((p : Int) + (k : Int)).toNat = p + k := by omega
        have hkp2 : p + k < t.size := by omega
        obtain ⟨d, hx, hd⟩ : ∃ d : UInt8, bits .xor .u8 (((upd l0 p (bs.take k)).getD (p + k) 0).toNat : Int) ((bs.getD k 0).toNat : Int) = (d.toNat : Int) ∧ Hid (d = (upd l0 p (bs.take k)).getD (p + k) 0 ^^^ bs.getD k 0) := ⟨_, u8_xor_bytes _ _, Lib.hid rfl⟩
        have hnext := Lib.hid (hI.step hk hkp d hd.out)
        have hany : (bs.take (k + 1)).any (· != 0) = ((bs.take k).any (· != 0) || (bs.getD k 0 != 0)) := by
          rw [List.take_succ_eq_append_getElem (by omega), List.any_append]
          simp [List.getD, show k < bs.length by omega]
        have hc4 : (wr.setCell ⟨g, p + k, none⟩ (.int .u8 (d.toNat : Int))).cell? ⟨B', k, none⟩ = some (.int .u8 ((bs.getD k 0).toNat : Int)) := hnext.out.2.2.2.2.2.1 k hk
        have hanyH := Lib.hid hany
        clear hI hany
        generalize (upd l0 p (bs.take k)).getD (p + k) 0 = c0 at hc1 hx hd
        generalize (bs.take k).any (· != 0) = ch at hanyH ⊢
        generalize bs.getD k 0 = bk at hc3 hc4 hx hd hanyH
        obtain ⟨z, hz1, hz2⟩ : ∃ z : Bool, ((bk.toNat : Int) != 0) = z ∧ Hid ((bk != 0) = z) := by
          refine ⟨bk != 0, ?_, Lib.hid rfl⟩
          rw [Bool.eq_iff_iff, bne_iff_ne, bne_iff_ne, ne_eq, ne_eq, ← UInt8.toNat_inj]
          simp
        go_wp2
        go_region
        cases ch
        all_goals
          go_wp2
          go_roundw
          case rel => exact ⟨k + 1, by omega, by omega, by go_num, by rw [hanyH.out, hz2.out]; simp, hnext.out.drew⟩
          case measure => simp [Go.RowKit.intOf]; omega
      · have hW := hI.2.2.2.2.2.2.1
        have hBy := hI.2.2.2.1
        have hg1 : decide ((k : Int) < 4) = decide (k < 4) := by rw [decide_eq_decide]; omega
        have hw1 : IntKind.i64.wrap ((p : Int) + (k : Int)) = (p : Int) + (k : Int) := IntWalk.i64_in _ (by omega)
        have hg2 : k < 4 → decide ((p : Int) + (k : Int) < 8) = false := fun h => by simp; omega
        have hlen : (upd l0 p (bs.take k)).length = n := by rw [upd_length, hllH.out]
        have hfin := hdec.out (bs.take k) (by simp; omega) p (Or.inl ⟨hp1.1, by simp; omega⟩)
        clear hI
        generalize (bs.take k).any (· != 0) = ch at hfin ⊢
        generalize upd l0 p (bs.take k) = l' at hBy hlen hfin
        have hcb : (convert 44 9 (.slice (some ⟨g, 0, none⟩) n cap)).run Tryd.prog wr = .ok (.string ⟨l'.toArray⟩) wr :=
          back hBy hlen Tryd.underlying44 Tryd.underlying5 Tryd.underlying9
        have hd1 := Lib.hid (decode_anyG ⟨l'.toArray⟩ wr (by rw [(ofList_size _).trans hlen]; unfold maxLen; omega) (hTA.out _ hW))
        have hWH := Lib.hid hW
        clear hW hBy hlen hkn hp1 hdec
        cases ch with
        | false =>
          rw [hfin.2 rfl] at hd1
          clear hfin
          have hk4c : k < 4 ∨ ¬ k < 4 := by omega
          rcases hk4c with hk | hk
          ·
            have hg3 := hg2 hk
            go_wp2_with fail
            refine hd1.out.mono ?_
            rintro e w4 ⟨A1, k1, A2, k2, rfl, _, _, hb4⟩
            have hF4 := Lib.hid (bmore hWH.out hb4)
            clear hb4
            try dsimp only [zG, List.length_nil]
            go_wp2_with fail
            go_ret
            exact ⟨rfl, hF4.out.alloc hF4.out.size _⟩
          ·
            go_wp2_with fail
            refine hd1.out.mono ?_
            rintro e w4 ⟨A1, k1, A2, k2, rfl, _, _, hb4⟩
            have hF4 := Lib.hid (bmore hWH.out hb4)
            clear hb4
            try dsimp only [zG, List.length_nil]
            go_wp2_with fail
            go_ret
            exact ⟨rfl, hF4.out.alloc hF4.out.size _⟩
        | true =>
          obtain ⟨ev, hev, hdz⟩ := hfin.1 rfl
          rw [hdz] at hd1
          have hev1 : (ev != 0) = true := bne_iff_ne.2 hev
          have hev2 : (ev == 0) = false := beq_eq_false_iff_ne.2 hev
          clear hfin hdz hev
          have hk4c : k < 4 ∨ ¬ k < 4 := by omega
          rcases hk4c with hk | hk
          ·
            have hg3 := hg2 hk
            go_wp2_with fail
            refine hd1.out.mono ?_
            rintro e w4 ⟨A1, k1, A2, k2, rfl, _, _, hb4⟩
            have hF4 := Lib.hid (bmore hWH.out hb4)
            clear hb4
            try dsimp only [zG, List.length_nil]
            go_wp2_with fail
            go_ret
            exact ⟨rfl, hF4.out.alloc hF4.out.size _⟩
          ·
            go_wp2_with fail
            refine hd1.out.mono ?_
            rintro e w4 ⟨A1, k1, A2, k2, rfl, _, _, hb4⟩
            have hF4 := Lib.hid (bmore hWH.out hb4)
            clear hb4
            try dsimp only [zG, List.length_nil]
            go_wp2_with fail
            go_ret
            exact ⟨rfl, hF4.out.alloc hF4.out.size _⟩
  ·
    have hz := hbit
    have hn64I : ¬ (64 : Int) < (n : Int) := by omega
    clear hn64

    obtain ⟨u, y, hu, hy, y0, y1, u0, u1, wu, wun, wy⟩ := mod_in a 6 (by omega) (by omega)
    obtain ⟨p, hpy⟩ : ∃ p : Nat, (p : Int) = 2 + y := ⟨(2 + y).toNat, by omega⟩
    have g1 : IntKind.i64.wrap 6 = 6 := by decide +kernel
    have g2 : IntKind.i64.wrap (u + 8) = u + 8 := wrap_in (by omega)
    have g3 : IntKind.i64.wrap (u + 8 - 2) = u + 6 := by rw [wrap_in (by omega)]; omega
    have g4 : IntKind.i64.wrap (2 + y) = (p : Int) := by rw [hpy]; exact wrap_in (by omega)
    have hp1 : 2 ≤ p ∧ p < 8 := by omega
    have hd0 : True := trivial
    have hd0b : True := trivial

    clear hpy wun y0 y1 u0 u1
    go_wp2_with fail
    refine henc.out.mono ?_
    rintro e w3 ⟨rfl, hb3⟩
    have hlt3 : w.heap.size + 1 < w3.heap.size := Nat.lt_of_lt_of_le hlt4H.out hb3.size
    have hlt3H := Lib.hid hlt3
    have hB3 := Lib.hid (bmore hB4H.out hb3)
    have hY3 := Lib.hid (fun j hj => (hb3.cell (p := ⟨w.heap.size + 1, j, none⟩) hlt4H.out).trans (hY4H.out j hj))
    clear hb3 hlt3
    go_upto_region 12 with fail
    clear hcv hu hy g1 g2 g3 g4 wu wy hd0 hd0b
    try clear hdd2
    refine fresh_world (fun wx => Told w wx w3.heap.size n (w.heap.size + 1) l0 bs p 0) ?_ ?_
    · refine ⟨hllH.out, h4, hlt3H.out, ?_, ?_, ?_, ?_, by have := hB3.out.size; omega⟩
      · have hn := BytesAt.new w3 t (grownCap w3 n 0 5) 5 ((bytesRow t (grownCap w3 n 0 5)).size, (bytesRow t (grownCap w3 n 0 5)).size + 1)
        rw [htlH.out] at hn
        exact hn
      · intro j hj
        have : j < (bytesRow t (grownCap w3 n 0 5)).size := by unfold bytesRow; simp; omega
        have e := World.frozen?_alloc_mark w3 (bytesRow t (grownCap w3 n 0 5)) 5 (bytesRow t (grownCap w3 n 0 5)).size ((bytesRow t (grownCap w3 n 0 5)).size + 1) j
        exact e.trans (by simp; omega)
      · intro j hj
        exact (World.cell?_alloc_lt w3 _ ⟨w.heap.size + 1, j, none⟩ hlt3H.out).trans (hY3.out j hj)
      · exact (hB3.out.alloc hB3.out.size _).drew
    rintro W2 hI
    clear hlt4H hB4H hY4H hlt3H hB3 hY3 c0 c1 c2 henc htlH
    generalize grownCap w3 n 0 5 = cap
    generalize w3.heap.size = g at hI ⊢
    generalize hBB : w.heap.size + 1 = B' at hI ⊢
    have hBH := Lib.hid hBB
    clear hBB
    go_wp2_with fail
    go_loopw [14, 15] (fun c i wr => ∃ k : Nat, k ≤ 4 ∧ p + k ≤ 8 ∧ i = .int .i64 (k : Int) ∧ c = .bool ((bs.take k).any (· != 0)) ∧ Told w wr g n B' l0 bs p k) (fun _ i _ => 4 - (Go.RowKit.intOf i).toNat)
    case atStart => exact ⟨0, by omega, by omega, rfl, by simp, hI⟩
    case round =>
      clear hI
      obtain ⟨k, hk4, hkn, rfl, rfl, hI⟩ := hrel
      by_cases hlt : k < 4 ∧ p + k < 8
      · obtain ⟨hk, hkT⟩ := hlt
        have hkp : p + k < n := by omega
        obtain ⟨hc1, hc2, hc3⟩ := hI.at_ hk hkp
        have hg1 : decide ((k : Int) < 4) = true := by simp; omega
        have hg2 : decide ((p : Int) + (k : Int) < 8) = true := by simp; omega
        have hw1 : IntKind.i64.wrap ((p : Int) + (k : Int)) = (p : Int) + (k : Int) := IntWalk.i64_in _ (by omega)
        have hw2 : ((p : Int) + (k : Int)).toNat = p + k := by omega
        have hkp2 : p + k < t.size := by omega
        obtain ⟨d, hx, hd⟩ : ∃ d : UInt8, bits .xor .u8 (((upd l0 p (bs.take k)).getD (p + k) 0).toNat : Int) ((bs.getD k 0).toNat : Int) = (d.toNat : Int) ∧ Hid (d = (upd l0 p (bs.take k)).getD (p + k) 0 ^^^ bs.getD k 0) := ⟨_, u8_xor_bytes _ _, Lib.hid rfl⟩
        have hnext := Lib.hid (hI.step hk hkp d hd.out)
        have hany : (bs.take (k + 1)).any (· != 0) = ((bs.take k).any (· != 0) || (bs.getD k 0 != 0)) := by
          rw [List.take_succ_eq_append_getElem (by omega), List.any_append]
          simp [List.getD, show k < bs.length by omega]
        have hc4 : (wr.setCell ⟨g, p + k, none⟩ (.int .u8 (d.toNat : Int))).cell? ⟨B', k, none⟩ = some (.int .u8 ((bs.getD k 0).toNat : Int)) := hnext.out.2.2.2.2.2.1 k hk
        have hanyH := Lib.hid hany
        clear hI hany
        generalize (upd l0 p (bs.take k)).getD (p + k) 0 = c0 at hc1 hx hd
        generalize (bs.take k).any (· != 0) = ch at hanyH ⊢
        generalize bs.getD k 0 = bk at hc3 hc4 hx hd hanyH
        obtain ⟨z, hz1, hz2⟩ : ∃ z : Bool, ((bk.toNat : Int) != 0) = z ∧ Hid ((bk != 0) = z) := by
          refine ⟨bk != 0, ?_, Lib.hid rfl⟩
          rw [Bool.eq_iff_iff, bne_iff_ne, bne_iff_ne, ne_eq, ne_eq, ← UInt8.toNat_inj]
          simp
        go_wp2
        go_region
        cases ch
        all_goals
          go_wp2
          go_roundw
          case rel => exact ⟨k + 1, by omega, by omega, by go_num, by rw [hanyH.out, hz2.out]; simp, hnext.out.drew⟩
          case measure => simp [Go.RowKit.intOf]; omega
      · have hW := hI.2.2.2.2.2.2.1
        have hBy := hI.2.2.2.1
        have hg1 : decide ((k : Int) < 4) = decide (k < 4) := by rw [decide_eq_decide]; omega
        have hw1 : IntKind.i64.wrap ((p : Int) + (k : Int)) = (p : Int) + (k : Int) := IntWalk.i64_in _ (by omega)
        have hg2 : k < 4 → decide ((p : Int) + (k : Int) < 8) = false := fun h => by simp; omega
        have hlen : (upd l0 p (bs.take k)).length = n := by rw [upd_length, hllH.out]
        have hfin := hdec.out (bs.take k) (by simp; omega) p (Or.inl ⟨hp1.1, by simp; omega⟩)
        clear hI
        generalize (bs.take k).any (· != 0) = ch at hfin ⊢
        generalize upd l0 p (bs.take k) = l' at hBy hlen hfin
        have hcb : (convert 44 9 (.slice (some ⟨g, 0, none⟩) n cap)).run Tryd.prog wr = .ok (.string ⟨l'.toArray⟩) wr :=
          back hBy hlen Tryd.underlying44 Tryd.underlying5 Tryd.underlying9
        have hd1 := Lib.hid (decode_anyG ⟨l'.toArray⟩ wr (by rw [(ofList_size _).trans hlen]; unfold maxLen; omega) (hTA.out _ hW))
        have hWH := Lib.hid hW
        clear hW hBy hlen hkn hp1 hdec
        cases ch with
        | false =>
          rw [hfin.2 rfl] at hd1
          clear hfin
          have hk4c : k < 4 ∨ ¬ k < 4 := by omega
          rcases hk4c with hk | hk
          ·
            have hg3 := hg2 hk
            go_wp2_with fail
            refine hd1.out.mono ?_
            rintro e w4 ⟨A1, k1, A2, k2, rfl, _, _, hb4⟩
            have hF4 := Lib.hid (bmore hWH.out hb4)
            clear hb4
            try dsimp only [zG, List.length_nil]
            go_wp2_with fail
            go_ret
            exact ⟨rfl, hF4.out.alloc hF4.out.size _⟩
          ·
            go_wp2_with fail
            refine hd1.out.mono ?_
            rintro e w4 ⟨A1, k1, A2, k2, rfl, _, _, hb4⟩
            have hF4 := Lib.hid (bmore hWH.out hb4)
            clear hb4
            try dsimp only [zG, List.length_nil]
            go_wp2_with fail
            go_ret
            exact ⟨rfl, hF4.out.alloc hF4.out.size _⟩
        | true =>
          obtain ⟨ev, hev, hdz⟩ := hfin.1 rfl
          rw [hdz] at hd1
          have hev1 : (ev != 0) = true := bne_iff_ne.2 hev
          have hev2 : (ev == 0) = false := beq_eq_false_iff_ne.2 hev
          clear hfin hdz hev
          have hk4c : k < 4 ∨ ¬ k < 4 := by omega
          rcases hk4c with hk | hk
          ·
            have hg3 := hg2 hk
            go_wp2_with fail
            refine hd1.out.mono ?_
            rintro e w4 ⟨A1, k1, A2, k2, rfl, _, _, hb4⟩
            have hF4 := Lib.hid (bmore hWH.out hb4)
            clear hb4
            try dsimp only [zG, List.length_nil]
            go_wp2_with fail
            go_ret
            exact ⟨rfl, hF4.out.alloc hF4.out.size _⟩
          ·
            go_wp2_with fail
            refine hd1.out.mono ?_
            rintro e w4 ⟨A1, k1, A2, k2, rfl, _, _, hb4⟩
            have hF4 := Lib.hid (bmore hWH.out hb4)
            clear hb4
            try dsimp only [zG, List.length_nil]
            go_wp2_with fail
            go_ret
            exact ⟨rfl, hF4.out.alloc hF4.out.size _⟩
  ·
    have hz := hbit
    have hn64I : (64 : Int) < (n : Int) := by omega

    obtain ⟨dd, hdd⟩ : ∃ dd : Int, dd = (n : Int) - 64 := ⟨_, rfl⟩
    obtain ⟨u, y, hu, hy, y0, y1, u0, u1, wu, wun, wy⟩ := mod_in a dd (by omega) (by omega)
    obtain ⟨p, hpy⟩ : ∃ p : Nat, (p : Int) = 64 + y := ⟨(64 + y).toNat, by omega⟩
    have g1 : IntKind.i64.wrap ((n : Int) - 64) = dd := by rw [hdd]; exact wrap_in (by omega)
    have g2 : IntKind.i64.wrap (u + (n : Int)) = u + (n : Int) := wrap_in (by omega)
    have g3 : IntKind.i64.wrap (u + (n : Int) - 64) = u + dd := by rw [wrap_in (by omega)]; omega
    have g4 : IntKind.i64.wrap (64 + y) = (p : Int) := by rw [hpy]; exact wrap_in (by omega)
    have hp1 : 64 ≤ p ∧ p < n := by omega
    have hd0 : ¬ dd = 0 := by omega
    have hd0b : (dd == 0) = false := beq_eq_false_iff_ne.2 hd0
    have hdd2 : (n : Int) - 64 = dd := hdd.symm
    clear hdd

    clear hpy wun y0 y1 u0 u1
    go_wp2_with fail
    refine henc.out.mono ?_
    rintro e w3 ⟨rfl, hb3⟩
    have hlt3 : w.heap.size + 1 < w3.heap.size := Nat.lt_of_lt_of_le hlt4H.out hb3.size
    have hlt3H := Lib.hid hlt3
    have hB3 := Lib.hid (bmore hB4H.out hb3)
    have hY3 := Lib.hid (fun j hj => (hb3.cell (p := ⟨w.heap.size + 1, j, none⟩) hlt4H.out).trans (hY4H.out j hj))
    clear hb3 hlt3
    go_upto_region 12 with fail
    clear hcv hu hy g1 g2 g3 g4 wu wy hd0 hd0b
    try clear hdd2
    refine fresh_world (fun wx => Told w wx w3.heap.size n (w.heap.size + 1) l0 bs p 0) ?_ ?_
    · refine ⟨hllH.out, h4, hlt3H.out, ?_, ?_, ?_, ?_, by have := hB3.out.size; omega⟩
      · have hn := BytesAt.new w3 t (grownCap w3 n 0 5) 5 ((bytesRow t (grownCap w3 n 0 5)).size, (bytesRow t (grownCap w3 n 0 5)).size + 1)
        rw [htlH.out] at hn
        exact hn
      · intro j hj
        have : j < (bytesRow t (grownCap w3 n 0 5)).size := by unfold bytesRow; simp; omega
        have e := World.frozen?_alloc_mark w3 (bytesRow t (grownCap w3 n 0 5)) 5 (bytesRow t (grownCap w3 n 0 5)).size ((bytesRow t (grownCap w3 n 0 5)).size + 1) j
        exact e.trans (by simp; omega)
      · intro j hj
        exact (World.cell?_alloc_lt w3 _ ⟨w.heap.size + 1, j, none⟩ hlt3H.out).trans (hY3.out j hj)
      · exact (hB3.out.alloc hB3.out.size _).drew
    rintro W2 hI
    clear hlt4H hB4H hY4H hlt3H hB3 hY3 c0 c1 c2 henc htlH
    generalize grownCap w3 n 0 5 = cap
    generalize w3.heap.size = g at hI ⊢
    generalize hBB : w.heap.size + 1 = B' at hI ⊢
    have hBH := Lib.hid hBB
    clear hBB
    go_wp2_with fail
    go_loopw [14, 15] (fun c i wr => ∃ k : Nat, k ≤ 4 ∧ p + k ≤ n ∧ i = .int .i64 (k : Int) ∧ c = .bool ((bs.take k).any (· != 0)) ∧ Told w wr g n B' l0 bs p k) (fun _ i _ => 4 - (Go.RowKit.intOf i).toNat)
    case atStart => exact ⟨0, by omega, by omega, rfl, by simp, hI⟩
    case round =>
      clear hI
      obtain ⟨k, hk4, hkn, rfl, rfl, hI⟩ := hrel
      by_cases hlt : k < 4 ∧ p + k < n
      · obtain ⟨hk, hkT⟩ := hlt
        have hkp : p + k < n := by omega
        obtain ⟨hc1, hc2, hc3⟩ := hI.at_ hk hkp
        have hg1 : decide ((k : Int) < 4) = true := by simp; omega
        have hg2 : decide ((p : Int) + (k : Int) < (n : Int)) = true := by simp; omega
        have hw1 : IntKind.i64.wrap ((p : Int) + (k : Int)) = (p : Int) + (k : Int) := IntWalk.i64_in _ (by omega)
        have hw2 : ((p : Int) + (k : Int)).toNat = p + k := by omega
        have hkp2 : p + k < t.size := by omega
        obtain ⟨d, hx, hd⟩ : ∃ d : UInt8, bits .xor .u8 (((upd l0 p (bs.take k)).getD (p + k) 0).toNat : Int) ((bs.getD k 0).toNat : Int) = (d.toNat : Int) ∧ Hid (d = (upd l0 p (bs.take k)).getD (p + k) 0 ^^^ bs.getD k 0) := ⟨_, u8_xor_bytes _ _, Lib.hid rfl⟩
        have hnext := Lib.hid (hI.step hk hkp d hd.out)
        have hany : (bs.take (k + 1)).any (· != 0) = ((bs.take k).any (· != 0) || (bs.getD k 0 != 0)) := by
          rw [List.take_succ_eq_append_getElem (by omega), List.any_append]
          simp [List.getD, show k < bs.length by omega]
        have hc4 : (wr.setCell ⟨g, p + k, none⟩ (.int .u8 (d.toNat : Int))).cell? ⟨B', k, none⟩ = some (.int .u8 ((bs.getD k 0).toNat : Int)) := hnext.out.2.2.2.2.2.1 k hk
        have hanyH := Lib.hid hany
        clear hI hany
        generalize (upd l0 p (bs.take k)).getD (p + k) 0 = c0 at hc1 hx hd
        generalize (bs.take k).any (· != 0) = ch at hanyH ⊢
        generalize bs.getD k 0 = bk at hc3 hc4 hx hd hanyH
        obtain ⟨z, hz1, hz2⟩ : ∃ z : Bool, ((bk.toNat : Int) != 0) = z ∧ Hid ((bk != 0) = z) := by
          refine ⟨bk != 0, ?_, Lib.hid rfl⟩
          rw [Bool.eq_iff_iff, bne_iff_ne, bne_iff_ne, ne_eq, ne_eq, ← UInt8.toNat_inj]
          simp
        go_wp2
        go_region
        cases ch
        all_goals
          go_wp2
          go_roundw
          case rel => exact ⟨k + 1, by omega, by omega, by go_num, by rw [hanyH.out, hz2.out]; simp, hnext.out.drew⟩
          case measure => simp [Go.RowKit.intOf]; omega
      · have hW := hI.2.2.2.2.2.2.1
        have hBy := hI.2.2.2.1
        have hg1 : decide ((k : Int) < 4) = decide (k < 4) := by rw [decide_eq_decide]; omega
        have hw1 : IntKind.i64.wrap ((p : Int) + (k : Int)) = (p : Int) + (k : Int) := IntWalk.i64_in _ (by omega)
        have hg2 : k < 4 → decide ((p : Int) + (k : Int) < (n : Int)) = false := fun h => by simp; omega
        have hlen : (upd l0 p (bs.take k)).length = n := by rw [upd_length, hllH.out]
        have hfin := hdec.out (bs.take k) (by simp; omega) p (Or.inr ⟨hp1.1, by rw [hnH.out]; simp; omega⟩)
        clear hI
        generalize (bs.take k).any (· != 0) = ch at hfin ⊢
        generalize upd l0 p (bs.take k) = l' at hBy hlen hfin
        have hcb : (convert 44 9 (.slice (some ⟨g, 0, none⟩) n cap)).run Tryd.prog wr = .ok (.string ⟨l'.toArray⟩) wr :=
          back hBy hlen Tryd.underlying44 Tryd.underlying5 Tryd.underlying9
        have hd1 := Lib.hid (decode_anyG ⟨l'.toArray⟩ wr (by rw [(ofList_size _).trans hlen]; unfold maxLen; omega) (hTA.out _ hW))
        have hWH := Lib.hid hW
        clear hW hBy hlen hkn hp1 hdec
        cases ch with
        | false =>
          rw [hfin.2 rfl] at hd1
          clear hfin
          have hk4c : k < 4 ∨ ¬ k < 4 := by omega
          rcases hk4c with hk | hk
          ·
            have hg3 := hg2 hk
            go_wp2_with fail
            refine hd1.out.mono ?_
            rintro e w4 ⟨A1, k1, A2, k2, rfl, _, _, hb4⟩
            have hF4 := Lib.hid (bmore hWH.out hb4)
            clear hb4
            try dsimp only [zG, List.length_nil]
            go_wp2_with fail
            go_ret
            exact ⟨rfl, hF4.out.alloc hF4.out.size _⟩
          ·
            go_wp2_with fail
            refine hd1.out.mono ?_
            rintro e w4 ⟨A1, k1, A2, k2, rfl, _, _, hb4⟩
            have hF4 := Lib.hid (bmore hWH.out hb4)
            clear hb4
            try dsimp only [zG, List.length_nil]
            go_wp2_with fail
            go_ret
            exact ⟨rfl, hF4.out.alloc hF4.out.size _⟩
        | true =>
          obtain ⟨ev, hev, hdz⟩ := hfin.1 rfl
          rw [hdz] at hd1
          have hev1 : (ev != 0) = true := bne_iff_ne.2 hev
          have hev2 : (ev == 0) = false := beq_eq_false_iff_ne.2 hev
          clear hfin hdz hev
          have hk4c : k < 4 ∨ ¬ k < 4 := by omega
          rcases hk4c with hk | hk
          ·
            have hg3 := hg2 hk
            go_wp2_with fail
            refine hd1.out.mono ?_
            rintro e w4 ⟨A1, k1, A2, k2, rfl, _, _, hb4⟩
            have hF4 := Lib.hid (bmore hWH.out hb4)
            clear hb4
            try dsimp only [zG, List.length_nil]
            go_wp2_with fail
            go_ret
            exact ⟨rfl, hF4.out.alloc hF4.out.size _⟩
          ·
            go_wp2_with fail
            refine hd1.out.mono ?_
            rintro e w4 ⟨A1, k1, A2, k2, rfl, _, _, hb4⟩
            have hF4 := Lib.hid (bmore hWH.out hb4)
            clear hb4
            try dsimp only [zG, List.length_nil]
            go_wp2_with fail
            go_ret
            exact ⟨rfl, hF4.out.alloc hF4.out.size _⟩
end Go.Proofs.YtchipfpnikkbeaaDoor
