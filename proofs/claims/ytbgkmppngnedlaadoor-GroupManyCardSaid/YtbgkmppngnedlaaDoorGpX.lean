/- The walk of GroupMany. -/
import Derived.Test.YtbgkmppngnedlaaDoorGpV
import Derived.Test.YtbgkmppngnedlaaDoorOTold
namespace Go.Proofs.YtbgkmppngnedlaaDoor
open Go.RowKit Rec Crc Num Xor

theorem row_capM {α : Type} {E : Enc α} {W : World} {base : Nat} {t : TypeId} {A : Option Addr} {c : Nat} {xs : List α} (h : E.Row W base t A c xs) : xs.length ≤ c := by
  rcases h.form with ⟨_, h1, h2⟩ | ⟨_, _, _, _, h⟩
  · rw [h2]; exact Nat.zero_le _
  · exact h
theorem endG_getM (gs : List Gp) {j : Nat} (h : j < gs.length) : ∃ h2 : j < (endG gs).length, (endG gs)[j] = 64 * blkG (gs.take (j + 1)) := ⟨by rw [endG_len]; exact h, endG_at _⟩
theorem gD_sizeM (ds : List ByteArray) (k : Nat) : ∀ d ∈ gD ds k, d.size ≤ maxLen := fun d h => by
  unfold gD at h
  obtain ⟨i, _, rfl⟩ := List.mem_map.1 h
  unfold dFix maxLen
  rw [ByteArray.size_extract]
  omega
/-- given and Encode of one group: what is left. -/
structure CtM (w W : World) (X : Nat) (q : Int) (EA DA : Option Addr) (Ec Dc : Nat) (es : List (Int × Bool)) (ds : List ByteArray) : Prop where
  x0 : W.cell? ⟨X, 0, none⟩ = some (.int .i64 q)
  x1 : W.cell? ⟨X, 1, none⟩ = some (.slice EA es.length Ec)
  x2 : W.cell? ⟨X, 2, none⟩ = some (.slice DA ds.length Dc)
  e : geE.In W EA es
  d : stE.In W DA ds
  cd : ds.length ≤ Dc
theorem text_sizeM {t : ByteArray} {l : List UInt8} (h : TextOf t l) : t.size = l.length := h.size
theorem text_takeM {t : ByteArray} {l : List UInt8} (h : TextOf t l) (c : Nat) : TextOf (t.extract 0 c) (l.take c) := by
  show (t.extract 0 c).data.toList = l.take c
  have h1 : t.data.toList = l := h
  rw [ByteArray.data_extract, Array.toList_extract, h1]
  simp [List.extract]
/-- What the law holds behind Scan. -/
structure MaB (w W : World) (b1 b2 : Nat) (X X2 : SlT Gv) (Y Y2 : SlT Nat) : Prop where
  a : GS W b1 X Y
  b : GS W b2 X2 Y2
  bw : Below w.heap.size w W
theorem MaB.below {w W W' : World} {b1 b2 : Nat} {X X2 : SlT Gv} {Y Y2 : SlT Nat} (h : MaB w W b1 b2 X X2 Y Y2) (hb : Below W.heap.size W W') : MaB w W' b1 b2 X X2 Y Y2 := ⟨h.a.below hb, h.b.below hb, h.bw.trans (hb.mono h.bw.size)⟩
/-- One group of either row. -/
structure MiB (W : World) (xb xo zb zo : Nat) (gq : Int) (EA DA EA2 DA2 : Option Addr) (ne Ec Dc Ec2 Dc2 : Nat) : Prop where
  a0 : W.cell? ⟨xb, xo, none⟩ = some (.int .i64 gq)
  a1 : W.cell? ⟨xb, xo + 1, none⟩ = some (.slice EA ne Ec)
  a2 : W.cell? ⟨xb, xo + 2, none⟩ = some (.slice DA ne Dc)
  c0 : W.cell? ⟨zb, zo, none⟩ = some (.int .i64 gq)
  c1 : W.cell? ⟨zb, zo + 1, none⟩ = some (.slice EA2 ne Ec2)
  c2 : W.cell? ⟨zb, zo + 2, none⟩ = some (.slice DA2 ne Dc2)
theorem MiB.below {W W' : World} {xb xo zb zo : Nat} {gq : Int} {EA DA EA2 DA2 : Option Addr} {ne Ec Dc Ec2 Dc2 : Nat} (h : MiB W xb xo zb zo gq EA DA EA2 DA2 ne Ec Dc Ec2 Dc2) (hb : Below W.heap.size W W') : MiB W' xb xo zb zo gq EA DA EA2 DA2 ne Ec Dc Ec2 Dc2 :=
  ⟨(hb.cell (lt_of_cell h.a0)).trans h.a0, (hb.cell (lt_of_cell h.a1)).trans h.a1, (hb.cell (lt_of_cell h.a2)).trans h.a2, (hb.cell (lt_of_cell h.c0)).trans h.c0, (hb.cell (lt_of_cell h.c1)).trans h.c1, (hb.cell (lt_of_cell h.c2)).trans h.c2⟩
theorem ge_neqM (w : World) (x : Int × Bool) : (binOp .neq 47 (.agg #[.int .i64 x.1, .bool x.2]) (.agg #[.int .i64 x.1, .bool x.2])).run Tryd.prog w = .ok (.bool false) w := by
  have h := (ge_eql w x x).2
  rw [eqGe_iff.2 rfl] at h
  exact h
set_option maxRecDepth 100000 in
set_option maxHeartbeats 16000000 in
theorem many_lawG (A : Option Addr) (cap : Nat) (l : List Gx) (w : World) (hT : Tab w) (hI : GxIn w A l) (hds : ∀ g ∈ l, ∀ s ∈ g.ds, s.size ≤ maxLen) (hlen : l.length ≤ 9223372036854775807) :
    Calls Tryd.prog 5 #[.slice A l.length cap] w fun e w' => e = .returned (.bool true) ∧ Below w.heap.size w w' := by
  have hTA := Lib.hid (fun W (h : Below w.heap.size w W) => hT.below h)
  have hIH := Lib.hid (fun W (h : Below w.heap.size w W) => hI.below h)
  have hdsH := Lib.hid hds
  obtain ⟨n, hn⟩ : ∃ n, l.length = n := ⟨_, rfl⟩
  rw [hn] at hlen ⊢
  have hnH := Lib.hid hn
  clear hI hds hn
  have hsp := Lib.hid (speaks18 w hT)
  clear hT
  go_enter Tryd.func5, Tryd.ntmps5
  go_wp2_with fail
  refine hsp.out.mono ?_
  rintro e w1 ⟨rfl, hb1⟩
  have hB1 := Lib.hid hb1
  have hR1 : Hid (GS w1 w.heap.size slT0 slT0) := Lib.hid (GS.nil w1 hb1.size)
  have hs1 : Hid (TextOf ⟨#[]⟩ (catG (gsK l 0))) := Lib.hid rfl
  clear hb1 hsp
  go_wp2_with fail
  go_loopw [3, 4, 5, 6] (fun sv xv yv iv wr => ∃ (k : Nat) (s : ByteArray) (X : SlT Gv) (Y : SlT Nat), k ≤ n ∧ iv = .int .i64 (k : Int) ∧ sv = .string s ∧ xv = .slice X.A X.xs.length X.c ∧ yv = .slice Y.A Y.xs.length Y.c ∧ Hid (k ≤ 20 ∧ X.xs.map Gv.gp = gsK l k ∧ Y.xs = begsG 0 (gsK l k)) ∧ Hid (TextOf s (catG (gsK l k))) ∧ Hid (GS wr w.heap.size X Y) ∧ Hid (Below w.heap.size w wr)) (fun _ _ _ iv _ => n - (Go.RowKit.intOf iv).toNat)
  case atStart => exact ⟨0, ⟨#[]⟩, slT0, slT0, Nat.zero_le _, rfl, rfl, rfl, rfl, Lib.hid ⟨by omega, rfl, rfl⟩, hs1, hR1, hB1⟩
  case round =>
    clear hs1 hR1 hB1
    obtain ⟨k, s, X, Y, hkn, rfl, rfl, rfl, rfl, hk20, hs, hR, hB⟩ := hrel
    have hk2 := hk20.out.1
    have hgs := gsK_all l k
    have hsz : Hid (s.size = 64 * blkG (gsK l k) ∧ s.size ≤ 10000) := Lib.hid (by
      have h1 := text_sizeM hs.out
      rw [catG_len hgs.1] at h1
      have h2 := blkG_le hgs.1
      have h3 := hgs.2
      omega)
    have hXm : Hid (X.xs.length = (gsK l k).length) := Lib.hid (by rw [← hk20.out.2.1, List.length_map])
    have hXl : Hid (X.xs.length ≤ 20) := Lib.hid (by rw [hXm.out]; omega)
    have hYm : Hid (Y.xs.length = X.xs.length) := Lib.hid (by rw [hXm.out, hk20.out.2.2, begsG_len])
    obtain ⟨t, ht⟩ : ∃ t, decide (k < n ∧ k < 20) = t := ⟨_, rfl⟩
    have htH := Lib.hid ht
    go_upto_region 7 with fail
    go_cut [24] from 17 to 24 (fun c wx => c = .bool t ∧ wx = wr)
    case first =>
      by_cases g1 : k < n
      case pos =>
        have g1I : (k : Int) < (n : Int) := by omega
        by_cases g2 : k < 20
        case pos =>
          have g2I : (k : Int) < 20 := by omega
          have e1 : t = true := by rw [← ht]; exact decide_eq_true ⟨g1, g2⟩
          subst e1
          clear ht g1 g2
          go_wp2_with fail
          go_meet
          exact ⟨rfl, rfl⟩
        case neg =>
          have g2I : ¬ (k : Int) < 20 := by omega
          have e1 : t = false := by rw [← ht]; exact decide_eq_false (fun h => g2 h.2)
          subst e1
          clear ht g1 g2
          go_wp2_with fail
          go_meet
          exact ⟨rfl, rfl⟩
      case neg =>
        have g1I : ¬ (k : Int) < (n : Int) := by omega
        have e1 : t = false := by rw [← ht]; exact decide_eq_false (fun h => g1 h.1)
        subst e1
        clear ht g1
        go_wp2_with fail
        go_meet
        exact ⟨rfl, rfl⟩
    obtain ⟨rfl, hwx⟩ := hcut
    rw [hwx]
    clear hwx ht
    cases t with
    | true =>
      obtain ⟨hlt, hlt20⟩ := of_decide_eq_true htH.out
      have hkl : k < l.length := by rw [hnH.out]; exact hlt
      have hkI : (k : Int) < (n : Int) := by omega
      have hkw : IntKind.i64.wrap ((k : Int) + 1) = (k : Int) + 1 := IntWalk.i64_in _ (by omega)
      obtain ⟨gb, go_, rfl, -, ⟨y0, y1, y2, y3⟩, hgin⟩ := (hIH.out wr hB.out).at_ hkl
      have hgv := Lib.hid (given18 wr l[k].q l[k].AB l[k].kb l[k].bl l[k].AT l[k].kt l[k].tr l[k].AD l[k].kd l[k].ds hgin (hdsH.out _ (List.getElem_mem hkl)))
      have hgood := Lib.hid (fun h => gsK_good hkl h)
      have hbad := Lib.hid (fun h => gsK_bad hkl h)
      have hgg : Hid (l[k].g = givG l[k].q l[k].bl l[k].tr l[k].ds) := Lib.hid rfl
      have hkl2 := Lib.hid hkl
      clear hgin
      generalize l[k] = x at y0 y1 y2 y3 hgv hgood hbad hgg
      clear hkl hlt hgs
      go_wp2_with fail
      refine hgv.out.mono ?_
      rintro e w2 ⟨E, B, T, D, F, rfl, hxs, hRr, hb2⟩
      have hal1 := (Below.refl w2.heap.size w2).alloc (Nat.le_refl _) (.cells #[.int .i64 x.q, .slice E.A E.xs.length E.c, .slice D.A D.xs.length D.c] 30)
      have hal2 := (hal1).alloc (by simp) (.cells #[.int .i64 x.q, .slice B.A B.xs.length B.c, .slice T.A T.xs.length T.c, .slice F.A F.xs.length F.c] 31)
      have hR2 := hRr.below hal2
      have hB2 := hB.out.trans ((hb2.trans (hal2.mono hb2.size)).mono hB.out.size)
      have hRow2 := hR.out.below (hb2.trans (hal2.mono hb2.size))
      have hgx : Hid (x.g = ⟨x.q, E.xs, D.xs⟩) := Lib.hid (by rw [hgg.out, hxs.1, hxs.2.2.2.1]; rfl)
      have hlE : Hid (E.xs.length ≤ 1000 ∧ D.xs.length ≤ 1000) := Lib.hid (by rw [hxs.1, hxs.2.2.2.1, gE_len, gD_len]; omega)
      have hwb := hB.out.size
      have hGc : GvC ((w2.alloc (.cells #[.int .i64 x.q, .slice E.A E.xs.length E.c, .slice D.A D.xs.length D.c] 30)).alloc (.cells #[.int .i64 x.q, .slice B.A B.xs.length B.c, .slice T.A T.xs.length T.c, .slice F.A F.xs.length F.c] 31)) w.heap.size X.A Y.A ⟨x.q, E.A, E.c, E.xs, D.A, D.c, D.xs⟩ :=
        ⟨hR2.rE.mono (by omega), hR2.rD.mono (by omega), ap_later hR.out.t.rX hR2.rE (by omega), ap_later hR.out.t.rX hR2.rD (by omega), ap_later hR.out.t.rY hR2.rE (by omega), ap_later hR.out.t.rY hR2.rD (by omega)⟩
      have hall := Lib.hid (show CtM w ((w2.alloc (.cells #[.int .i64 x.q, .slice E.A E.xs.length E.c, .slice D.A D.xs.length D.c] 30)).alloc (.cells #[.int .i64 x.q, .slice B.A B.xs.length B.c, .slice T.A T.xs.length T.c, .slice F.A F.xs.length F.c] 31)) w2.heap.size x.q E.A D.A E.c D.c E.xs D.xs ∧ _ ∧ _ ∧ _ from ⟨⟨by go_simp, by go_simp, by go_simp, hR2.rE.in_, hR2.rD.in_, row_capM hR2.rD⟩, hRow2, hB2, hGc⟩)
      clear hgv hxs hRr hb2 hal1 hal2 hR2 hB2 hRow2 hR hB y0 y1 y2 y3 hgg hwb hGc
      go_upto_region 10 with fail
      obtain ⟨Z, hZ⟩ : ∃ Z, w2.heap.size = Z := ⟨_, rfl⟩
      refine fresh_world (fun W => CtM w W w2.heap.size x.q E.A D.A E.c D.c E.xs D.xs ∧ GS W w.heap.size X Y ∧ Below w.heap.size w W ∧ GvC W w.heap.size X.A Y.A ⟨x.q, E.A, E.c, E.xs, D.A, D.c, D.xs⟩) hall.out ?_
      rw [hZ]
      clear hall hZ
      obtain ⟨EEA, Ec, es⟩ := E
      obtain ⟨DA, Dc, dd⟩ := D
      dsimp only at hgx hlE ⊢
      rintro W4 ⟨hC4, hR4, hB4, hG4⟩
      have hR4H := Lib.hid hR4
      have hB4H := Lib.hid hB4
      have hC4H := Lib.hid hC4
      have hG4H := Lib.hid hG4
      obtain ⟨x0, x1, x2, -, -, -⟩ := hC4
      by_cases hg : GoodG ⟨x.q, es, dd⟩
      case neg =>
        have henc := Lib.hid (encode_badG W4 ⟨x.q, es, dd⟩ EEA DA Ec Dc ⟨hC4H.out.e, hC4H.out.d⟩ hlE.out.1 hlE.out.2 hg)
        have hsk : Hid (gsK l (k + 1) = gsK l k) := Lib.hid (hbad.out (by rw [hgx.out]; exact hg))
        dsimp only at henc
        clear hG4 hG4H
        generalize es.length = ne at henc x1
        generalize dd.length = nd at henc x2
        clear hg hbad hgood hR4 hB4 hC4H hgx hlE
        go_wp2_with fail
        refine henc.out.mono ?_
        rintro e w3 ⟨rfl, hb3⟩
        have hR3 := Lib.hid (hR4H.out.below hb3)
        have hB3 := Lib.hid (hB4H.out.trans (hb3.mono hB4H.out.size))
        clear hb3 henc x0 x1 x2
        go_wp2_with fail
        go_roundw
        case rel => exact ⟨k + 1, s, X, Y, by have := hkl2.out; have := hnH.out; omega, by go_num, rfl, rfl, rfl, Lib.hid ⟨by omega, by rw [hsk.out]; exact hk20.out.2.1, by rw [hsk.out]; exact hk20.out.2.2⟩, by rw [hsk.out]; exact hs, hR3, hB3⟩
        case measure => simp only [Go.RowKit.intOf]; have := hkl2.out; have := hnH.out; omega
      case pos =>
        have henc := Lib.hid (encode_goodG W4 ⟨x.q, es, dd⟩ EEA DA Ec Dc ⟨hC4H.out.e, hC4H.out.d⟩ hC4H.out.cd hg (hTA.out _ hB4))
        have hsk : Hid (gsK l (k + 1) = gsK l k ++ [⟨x.q, es, dd⟩]) := Lib.hid (by rw [hgood.out (by rw [hgx.out]; exact hg), hgx.out])
        have hlg := encG_len hg
        have hbe := blkE_le es
        have hn6 : es.length ≤ 6 := hg.1.2.2
        have hs2 : Hid (TextOf (s ++ ⟨(encG ⟨x.q, es, dd⟩).toArray⟩) (catG (gsK l (k + 1)))) := Lib.hid (by
          rw [hsk.out, catG_snoc]
          exact hs.out.append rfl)
        obtain ⟨ee, hee⟩ : ∃ ee : ByteArray, ⟨(encG ⟨x.q, es, dd⟩).toArray⟩ = ee := ⟨_, rfl⟩
        have hes : ee.size = 64 * blkE es := by rw [← hee]; exact (ofList_size _).trans hlg
        rw [hee] at henc hs2
        dsimp only at henc
        have q1 : ¬ 9223372036854775807 < s.size + ee.size := by have := hsz.out.2; omega
        obtain ⟨bg, hbg⟩ : ∃ bg, blkG (gsK l k) = bg := ⟨_, rfl⟩
        have hdiv : Int.tdiv (s.size : Int) 64 = (bg : Int) := by rw [Int.tdiv_eq_ediv_of_nonneg (by omega), hsz.out.1, hbg]; omega
        have hdw : IntKind.i64.wrap (bg : Int) = (bg : Int) := IntWalk.i64_in _ (by have := hsz.out; omega)
        have hbgH : Hid (begsG 0 (gsK l (k + 1)) = begsG 0 (gsK l k) ++ [bg]) := Lib.hid (by rw [hsk.out, begsG_snoc, Nat.zero_add, hbg])
        clear hbad hgood hR4 hB4 hC4H hgx hlE hlg hbe hn6 hee hes hbg hG4
        go_wp2_with fail
        refine henc.out.mono ?_
        rintro e w3 ⟨rfl, hb3⟩
        have z0 := (hb3.cell (lt_of_cell x0)).trans x0
        have z1 := (hb3.cell (lt_of_cell x1)).trans x1
        have z2 := (hb3.cell (lt_of_cell x2)).trans x2
        have hR3 := hR4H.out.below hb3
        have hB3 := Lib.hid (hB4H.out.trans (hb3.mono hB4H.out.size))
        obtain ⟨X', Y', W7, W8, hr1, hr2, hX', hY', hG8, hB8⟩ := hR3.both (x := ⟨x.q, EEA, Ec, es, DA, Dc, dd⟩) (y := bg) rfl (hG4H.out.below hb3) (by have := hXl.out; omega) (by have := hXl.out; have := hYm.out; omega)
        have hB8H := Lib.hid (hB3.out.trans hB8)
        have hG8H := Lib.hid hG8
        have hnew : Hid (k + 1 ≤ 20 ∧ X'.xs.map Gv.gp = gsK l (k + 1) ∧ Y'.xs = begsG 0 (gsK l (k + 1))) := Lib.hid ⟨by omega, by rw [hX', List.map_append, hk20.out.2.1, hsk.out]; rfl, by rw [hY', hk20.out.2.2, hbgH.out]⟩
        have hr2H := Lib.hid hr2
        have hr1H := Lib.hid hr1
        clear hX' hY' hG8 hB8 hb3 henc x0 x1 x2 hR3 hB3 hR4H hB4H hG4H hbgH hsk hr1 hr2 hg hk20 hXm hXl hYm
        have hrr := hr2H
        have hrr := hr1H
        clear hr1H hr2H
        go_wp2_with (at_builtin; refine append_run_wp rfl _ _ _ rfl rfl rfl hrr.out ?_; clear hrr)
        go_roundw
        case rel => exact ⟨k + 1, s ++ ee, X', Y', by have := hkl2.out; have := hnH.out; omega, by go_num, rfl, rfl, rfl, hnew, hs2, hG8H, hB8H⟩
        case measure => simp only [Go.RowKit.intOf]; have := hkl2.out; have := hnH.out; omega
    | false =>
      clear htH hIH hdsH hnH hXm
      obtain ⟨-, hXg, hYg⟩ := hk20.out
      have hall : ∀ g ∈ gsK l k, GoodG g := hgs.1
      clear hgs hk20
      generalize gsK l k = gs at hs hsz hall hXg hYg
      have hsc2 : ScansG s gs (begsG 0 gs) 0 := scanG_zeros gs 0 _ 0 hall (by rw [List.replicate_zero, List.append_nil]; exact hs.out)
      have hx2 := Lib.hid (scan_anyG s wr (by have := hsz.out.2; omega) (hTA.out _ hB.out))
      unfold ScanPost at hx2
      obtain ⟨m, hm⟩ : ∃ m, X.xs.length = m := ⟨_, rfl⟩
      have hYm2 := hYm.out
      have hXl2 := hXl.out
      rw [hm] at hYm2 hXl2
      have hgood : ∀ g ∈ X.xs, g.ds.length = g.es.length ∧ g.es.length ≤ 6 := fun g hg => by
        have h1 := hall g.gp (by rw [← hXg]; exact List.mem_map_of_mem hg)
        exact ⟨fits_len h1.2, h1.1.2.2⟩
      rw [hYm2, hm]
      have hmH := Lib.hid hm
      clear hm hall hYm hXl hs hsz
      go_wp2_with fail
      refine hx2.out.mono ?_
      rintro e w5 ⟨X2, Y2, rfl, hGS2, hSX2, hb5⟩
      obtain ⟨u1, u2⟩ := hSX2.uniq hsc2
      have hXX : X2.xs.map Gv.gp = X.xs.map Gv.gp := by rw [u1, hXg]
      have hYY : Y2.xs = Y.xs := by rw [u2, hYg]
      have hX2l : X2.xs.length = m := by
        have h1 := congrArg List.length hXX
        rw [List.length_map, List.length_map, hmH.out] at h1
        exact h1
      have hY2l : Y2.xs.length = m := by rw [hYY, hYm2]
      rw [hX2l, hY2l]
      obtain ⟨b2, hM5⟩ : ∃ b2, Hid (MaB w w5 w.heap.size b2 X X2 Y Y2) := ⟨_, Lib.hid ⟨hR.out.below hb5, hGS2, hB.out.trans (hb5.mono hB.out.size)⟩⟩
      have heq : Hid (∀ i (h : i < m), ∃ (h1 : i < X.xs.length) (h2 : i < X2.xs.length), X2.xs[i].q = X.xs[i].q ∧ X2.xs[i].es = X.xs[i].es ∧ X2.xs[i].ds = X.xs[i].ds ∧ X.xs[i].ds.length = X.xs[i].es.length ∧ X.xs[i].es.length ≤ 6) := Lib.hid (fun i h => by
        have h1 : i < X.xs.length := by rw [hmH.out]; exact h
        have h2 : i < X2.xs.length := by rw [hX2l]; exact h
        refine ⟨h1, h2, ?_⟩
        have e1 : (X2.xs.map Gv.gp)[i]'(by rw [List.length_map]; exact h2) = (X.xs.map Gv.gp)[i]'(by rw [List.length_map]; exact h1) := by simp only [hXX]
        rw [List.getElem_map, List.getElem_map] at e1
        unfold Gv.gp at e1
        simp only [Gp.mk.injEq] at e1
        exact ⟨e1.1, e1.2.1, e1.2.2, hgood _ (List.getElem_mem h1)⟩)
      have hyl : Hid (Y.xs.length = m ∧ Y2.xs = Y.xs) := Lib.hid ⟨hYm2, hYY⟩
      have qm : ((m : Int) != (m : Int)) = false := by simp
      clear hx2 hGS2 hSX2 hb5 u1 u2 hXX hYY hX2l hY2l hR hB hXg hYg hsc2 hgood hYm2
      go_wp2_with fail
      go_loopw [13] (fun iv wr => ∃ i : Nat, i ≤ m ∧ iv = .int .i64 (i : Int) ∧ Hid (MaB w wr w.heap.size b2 X X2 Y Y2)) (fun iv _ => m - (Go.RowKit.intOf iv).toNat)
      case atStart => exact ⟨0, Nat.zero_le _, rfl, hM5⟩
      case round =>
        clear hM5
        obtain ⟨i, him, rfl, hM⟩ := hrel
        by_cases hlt2 : i < m
        case neg =>
          have hiI : ¬ (i : Int) < (m : Int) := by omega
          go_wp2_with fail
          go_ret
          exact ⟨rfl, hM.out.bw⟩
        case pos =>
          have hiI : (i : Int) < (m : Int) := by omega
          have hiw : IntKind.i64.wrap ((i : Int) + 1) = (i : Int) + 1 := IntWalk.i64_in _ (by omega)
          obtain ⟨h1, h2, eq1, eq2, eq3, eq4, eq5⟩ := heq.out i hlt2
          obtain ⟨xb, xo, hXA, -, a0, a1, a2⟩ := gv_at hM.out.a.t.rX.in_ h1
          obtain ⟨zb, zo, hZA, -, c0, c1, c2⟩ := gv_at hM.out.b.t.rX.in_ h2
          obtain ⟨yb, yo, hYA, -, p0⟩ := ixg_at hM.out.a.t.rY.in_ (i := i) (by rw [hyl.out.1]; exact hlt2)
          obtain ⟨vb, vo, hVA, -, r0⟩ := ixg_at hM.out.b.t.rY.in_ (i := i) (by rw [hyl.out.2, hyl.out.1]; exact hlt2)
          have hcE := Lib.hid (fun W (h : MaB w W w.heap.size b2 X X2 Y Y2) => (h.a.c X.xs[i] (List.getElem_mem h1)).e.in_)
          have hcD := Lib.hid (fun W (h : MaB w W w.heap.size b2 X X2 Y Y2) => (h.a.c X.xs[i] (List.getElem_mem h1)).d.in_)
          have hcE2 := Lib.hid (fun W (h : MaB w W w.heap.size b2 X X2 Y Y2) => (h.b.c X2.xs[i] (List.getElem_mem h2)).e.in_)
          have hcD2 := Lib.hid (fun W (h : MaB w W w.heap.size b2 X X2 Y Y2) => (h.b.c X2.xs[i] (List.getElem_mem h2)).d.in_)
          have hpr : Y2.xs[i]'(by rw [hyl.out.2, hyl.out.1]; exact hlt2) = Y.xs[i]'(by rw [hyl.out.1]; exact hlt2) := by simp only [hyl.out.2]
          rw [hpr] at r0
          rw [eq1] at c0
          rw [eq2] at c1 hcE2
          rw [eq3] at c2 hcD2
          rw [eq4] at a2 c2
          generalize hes : X.xs[i].es = es at a1 a2 c1 c2 hcE hcE2 eq4 eq5
          generalize X.xs[i].ds = dd at hcD hcD2 eq4
          generalize X.xs[i].q = gq at a0 c0
          generalize X.xs[i].EA = EA at a1 hcE
          generalize X.xs[i].DA = DA at a2 hcD
          generalize X2.xs[i].EA = EA2 at c1 hcE2
          generalize X2.xs[i].DA = DA2 at c2 hcD2
          generalize X.xs[i].ec = Ec at a1
          generalize X.xs[i].dc = Dc at a2
          generalize X2.xs[i].ec = Ec2 at c1
          generalize X2.xs[i].dc = Dc2 at c2
          generalize Y.xs[i]'(by rw [hyl.out.1]; exact hlt2) = yp at p0 r0
          obtain ⟨ne, hne⟩ : ∃ ne, es.length = ne := ⟨_, rfl⟩
          rw [hne] at a1 a2 c1 c2 eq4 eq5
          have hneH := Lib.hid (And.intro hne eq4)
          have hne6 := Lib.hid eq5
          have hmi : MiB wr xb (xo + i * 3) zb (zo + i * 3) gq EA DA EA2 DA2 ne Ec Dc Ec2 Dc2 := ⟨a0, a1, a2, c0, c1, c2⟩
          obtain ⟨Wd, hWd, hBd, hMd, p0, r0⟩ : ∃ Wd, Wd = wr.drew ∧ Hid (MiB Wd xb (xo + i * 3) zb (zo + i * 3) gq EA DA EA2 DA2 ne Ec Dc Ec2 Dc2) ∧ Hid (MaB w Wd w.heap.size b2 X X2 Y Y2) ∧ Wd.cell? ⟨yb, yo + i, none⟩ = some (.int .i64 (yp : Int)) ∧ Wd.cell? ⟨vb, vo + i, none⟩ = some (.int .i64 (yp : Int)) := ⟨_, rfl, Lib.hid (hmi.below (Below.refl _ _).drew), Lib.hid (hM.out.below (Below.refl _ _).drew), p0, r0⟩
          have hWdH := Lib.hid hWd
          clear a0 a1 a2 c0 c1 c2 hmi hM hWd hne eq1 eq2 eq3 eq4 eq5 hes hpr
          obtain ⟨a0, a1, a2, c0, c1, c2⟩ := hBd.out
          have qq : (gq != gq) = false := by simp
          have qp : ((yp : Int) != (yp : Int)) = false := by simp
          have qe : ((ne : Int) != (ne : Int)) = false := by simp
          rw [hXA, hZA, hYA, hVA]
          go_upto_region 20 with fail
          have hS0 : (fun V => V = Wd) Wd := rfl
          refine region_anyC (fun _ => true) (fun V => V = Wd) (by kernel_rfl) ?_
          rw [← hWdH.out]
          refine anyL_take 0 (v := ?_) rfl (by kernel_rfl) (fun _ _ _ h => h) (Or.inl ⟨by rfl, ?_⟩) hS0 ?_
          rotate_left
          focus (intro W hW; go_simp; try with_reducible rfl)
          simp only [Act.put, List.setIfInBounds_toArray, List.set_cons_zero, List.set_cons_succ]
          refine anyL_take 1 (v := ?_) rfl (by kernel_rfl) (fun _ _ _ h => h) (Or.inl ⟨by rfl, ?_⟩) hS0 ?_
          rotate_left
          focus (intro W hW; go_simp; try with_reducible rfl)
          simp only [Act.put, List.setIfInBounds_toArray, List.set_cons_zero, List.set_cons_succ]
          refine anyL_take 2 (v := ?_) rfl (by kernel_rfl) (fun _ _ _ h => h) (Or.inl ⟨by rfl, ?_⟩) hS0 ?_
          rotate_left
          focus (intro W hW; go_simp; try with_reducible rfl)
          simp only [Act.put, List.setIfInBounds_toArray, List.set_cons_zero, List.set_cons_succ]
          refine anyL_take 3 (v := ?_) rfl (by kernel_rfl) (fun _ _ _ h => h) (Or.inl ⟨by rfl, ?_⟩) hS0 ?_
          rotate_left
          focus (intro W hW; go_simp; try with_reducible rfl)
          simp only [Act.put, List.setIfInBounds_toArray, List.set_cons_zero, List.set_cons_succ]
          refine anyL_take 4 (v := ?_) rfl (by kernel_rfl) (fun _ _ _ h => h) (Or.inl ⟨by rfl, ?_⟩) hS0 ?_
          rotate_left
          focus (intro W hW; obtain rfl := hW; go_simp; try with_reducible rfl)
          simp only [Act.put, List.setIfInBounds_toArray, List.set_cons_zero, List.set_cons_succ]
          refine anyL_take 5 (v := ?_) rfl (by kernel_rfl) (fun _ _ _ h => h) (Or.inl ⟨by rfl, ?_⟩) hS0 ?_
          rotate_left
          focus (intro W hW; go_simp; try with_reducible rfl)
          simp only [Act.put, List.setIfInBounds_toArray, List.set_cons_zero, List.set_cons_succ]
          refine anyL_take 6 (v := ?_) rfl (by kernel_rfl) (fun _ _ _ h => h) (Or.inl ⟨by rfl, ?_⟩) hS0 ?_
          rotate_left
          focus (intro W hW; go_simp; try with_reducible rfl)
          simp only [Act.put, List.setIfInBounds_toArray, List.set_cons_zero, List.set_cons_succ]
          refine anyL_take 7 (v := ?_) rfl (by kernel_rfl) (fun _ _ _ h => h) (Or.inl ⟨by rfl, ?_⟩) hS0 ?_
          rotate_left
          focus (intro W hW; go_simp; try with_reducible rfl)
          simp only [Act.put, List.setIfInBounds_toArray, List.set_cons_zero, List.set_cons_succ]
          refine anyL_take 8 (v := ?_) rfl (by kernel_rfl) (fun _ _ _ h => h) (Or.inl ⟨by rfl, ?_⟩) hS0 ?_
          rotate_left
          focus (intro W hW; go_simp; try with_reducible rfl)
          simp only [Act.put, List.setIfInBounds_toArray, List.set_cons_zero, List.set_cons_succ]
          refine anyL_take 9 (v := ?_) rfl (by kernel_rfl) (fun _ _ _ h => h) (Or.inl ⟨by rfl, ?_⟩) hS0 ?_
          rotate_left
          focus (intro W hW; obtain rfl := hW; go_simp; try with_reducible rfl)
          simp only [Act.put, List.setIfInBounds_toArray, List.set_cons_zero, List.set_cons_succ]
          refine anyL_take 10 (v := ?_) rfl (by kernel_rfl) (fun _ _ _ h => h) (Or.inl ⟨by rfl, ?_⟩) hS0 ?_
          rotate_left
          focus (intro W hW; go_simp; try with_reducible rfl)
          simp only [Act.put, List.setIfInBounds_toArray, List.set_cons_zero, List.set_cons_succ]
          refine anyL_take 11 (v := ?_) rfl (by kernel_rfl) (fun _ _ _ h => h) (Or.inl ⟨by rfl, ?_⟩) hS0 ?_
          rotate_left
          focus (intro W hW; go_simp; try with_reducible rfl)
          simp only [Act.put, List.setIfInBounds_toArray, List.set_cons_zero, List.set_cons_succ]
          refine anyL_take 12 (v := ?_) rfl (by kernel_rfl) (fun _ _ _ h => h) (Or.inl ⟨by rfl, ?_⟩) hS0 ?_
          rotate_left
          focus (intro W hW; go_simp; try with_reducible rfl)
          simp only [Act.put, List.setIfInBounds_toArray, List.set_cons_zero, List.set_cons_succ]
          refine anyL_take 13 (v := ?_) rfl (by kernel_rfl) (fun _ _ _ h => h) (Or.inl ⟨by rfl, ?_⟩) hS0 ?_
          rotate_left
          focus (intro W hW; go_simp; try with_reducible rfl)
          simp only [Act.put, List.setIfInBounds_toArray, List.set_cons_zero, List.set_cons_succ]
          refine anyL_take 14 (v := ?_) rfl (by kernel_rfl) (fun _ _ _ h => h) (Or.inl ⟨by rfl, ?_⟩) hS0 ?_
          rotate_left
          focus (intro W hW; go_simp; try with_reducible rfl)
          simp only [Act.put, List.setIfInBounds_toArray, List.set_cons_zero, List.set_cons_succ]
          refine anyL_take 15 (v := ?_) rfl (by kernel_rfl) (fun _ _ _ h => h) (Or.inl ⟨by rfl, ?_⟩) hS0 ?_
          rotate_left
          focus (intro W hW; obtain rfl := hW; go_simp; try with_reducible rfl)
          simp only [Act.put, List.setIfInBounds_toArray, List.set_cons_zero, List.set_cons_succ]
          refine anyL_take 16 (v := ?_) rfl (by kernel_rfl) (fun _ _ _ h => h) (Or.inl ⟨by rfl, ?_⟩) hS0 ?_
          rotate_left
          focus (intro W hW; go_simp; try with_reducible rfl)
          simp only [Act.put, List.setIfInBounds_toArray, List.set_cons_zero, List.set_cons_succ]
          refine anyL_take 17 (v := ?_) rfl (by kernel_rfl) (fun _ _ _ h => h) (Or.inl ⟨by rfl, ?_⟩) hS0 ?_
          rotate_left
          focus (intro W hW; go_simp; try with_reducible rfl)
          simp only [Act.put, List.setIfInBounds_toArray, List.set_cons_zero, List.set_cons_succ]
          refine anyL_take 18 (v := ?_) rfl (by kernel_rfl) (fun _ _ _ h => h) (Or.inl ⟨by rfl, ?_⟩) hS0 ?_
          rotate_left
          focus (intro W hW; go_simp; try with_reducible rfl)
          simp only [Act.put, List.setIfInBounds_toArray, List.set_cons_zero, List.set_cons_succ]
          refine anyL_take 19 (v := ?_) rfl (by kernel_rfl) (fun _ _ _ h => h) (Or.inl ⟨by rfl, ?_⟩) hS0 ?_
          rotate_left
          focus (intro W hW; obtain rfl := hW; go_simp; try with_reducible rfl)
          simp only [Act.put, List.setIfInBounds_toArray, List.set_cons_zero, List.set_cons_succ]
          refine anyL_take 20 (v := ?_) rfl (by kernel_rfl) (fun _ _ _ h => h) (Or.inl ⟨by rfl, ?_⟩) hS0 ?_
          rotate_left
          focus (intro W hW; go_simp; try with_reducible rfl)
          simp only [Act.put, List.setIfInBounds_toArray, List.set_cons_zero, List.set_cons_succ]
          refine anyL_take 21 (v := ?_) rfl (by kernel_rfl) (fun _ _ _ h => h) (Or.inl ⟨by rfl, ?_⟩) hS0 ?_
          rotate_left
          focus (intro W hW; go_simp; try with_reducible rfl)
          simp only [Act.put, List.setIfInBounds_toArray, List.set_cons_zero, List.set_cons_succ]
          refine anyL_take 22 (v := ?_) rfl (by kernel_rfl) (fun _ _ _ h => h) (Or.inl ⟨by rfl, ?_⟩) hS0 ?_
          rotate_left
          focus (intro W hW; go_simp; try with_reducible rfl)
          simp only [Act.put, List.setIfInBounds_toArray, List.set_cons_zero, List.set_cons_succ]
          refine anyL_take 23 (v := ?_) rfl (by kernel_rfl) (fun _ _ _ h => h) (Or.inl ⟨by rfl, ?_⟩) hS0 ?_
          rotate_left
          focus (intro W hW; go_simp; try with_reducible rfl)
          simp only [Act.put, List.setIfInBounds_toArray, List.set_cons_zero, List.set_cons_succ]
          refine anyL_take 24 (v := ?_) rfl (by kernel_rfl) (fun _ _ _ h => h) (Or.inl ⟨by rfl, ?_⟩) hS0 ?_
          rotate_left
          focus (intro W hW; go_simp; try with_reducible rfl)
          simp only [Act.put, List.setIfInBounds_toArray, List.set_cons_zero, List.set_cons_succ]
          refine anyL_take 25 (v := ?_) rfl (by kernel_rfl) (fun _ _ _ h => h) (Or.inl ⟨by rfl, ?_⟩) hS0 ?_
          rotate_left
          focus (intro W hW; go_simp; try with_reducible rfl)
          simp only [Act.put, List.setIfInBounds_toArray, List.set_cons_zero, List.set_cons_succ]
          refine anyL_take 26 (v := ?_) rfl (by kernel_rfl) (fun _ _ _ h => h) (Or.inl ⟨by rfl, ?_⟩) hS0 ?_
          rotate_left
          focus (intro W hW; go_simp; try with_reducible rfl)
          simp only [Act.put, List.setIfInBounds_toArray, List.set_cons_zero, List.set_cons_succ]
          refine anyL_take 27 (v := ?_) rfl (by kernel_rfl) (fun _ _ _ h => h) (Or.inl ⟨by rfl, ?_⟩) hS0 ?_
          rotate_left
          focus (intro W hW; obtain rfl := hW; go_simp; try with_reducible rfl)
          simp only [Act.put, List.setIfInBounds_toArray, List.set_cons_zero, List.set_cons_succ]
          refine anyL_take 28 (v := ?_) rfl (by kernel_rfl) (fun _ _ _ h => h) (Or.inl ⟨by rfl, ?_⟩) hS0 ?_
          rotate_left
          focus (intro W hW; go_simp; try with_reducible rfl)
          simp only [Act.put, List.setIfInBounds_toArray, List.set_cons_zero, List.set_cons_succ]
          refine anyL_take 29 (v := ?_) rfl (by kernel_rfl) (fun _ _ _ h => h) (Or.inl ⟨by rfl, ?_⟩) hS0 ?_
          rotate_left
          focus (intro W hW; go_simp; try with_reducible rfl)
          simp only [Act.put, List.setIfInBounds_toArray, List.set_cons_zero, List.set_cons_succ]
          refine anyL_take 30 (v := ?_) rfl (by kernel_rfl) (fun _ _ _ h => h) (Or.inl ⟨by rfl, ?_⟩) hS0 ?_
          rotate_left
          focus (intro W hW; go_simp; try with_reducible rfl)
          simp only [Act.put, List.setIfInBounds_toArray, List.set_cons_zero, List.set_cons_succ]
          refine anyL_take 31 (v := ?_) rfl (by kernel_rfl) (fun _ _ _ h => h) (Or.inl ⟨by rfl, ?_⟩) hS0 ?_
          rotate_left
          focus (intro W hW; go_simp; try with_reducible rfl)
          simp only [Act.put, List.setIfInBounds_toArray, List.set_cons_zero, List.set_cons_succ]
          refine anyL_take 32 (v := ?_) rfl (by kernel_rfl) (fun _ _ _ h => h) (Or.inl ⟨by rfl, ?_⟩) hS0 ?_
          rotate_left
          focus (intro W hW; go_simp; try with_reducible rfl)
          simp only [Act.put, List.setIfInBounds_toArray, List.set_cons_zero, List.set_cons_succ]
          refine anyL_take 33 (v := ?_) rfl (by kernel_rfl) (fun _ _ _ h => h) (Or.inl ⟨by rfl, ?_⟩) hS0 ?_
          rotate_left
          focus (intro W hW; obtain rfl := hW; go_simp; try with_reducible rfl)
          simp only [Act.put, List.setIfInBounds_toArray, List.set_cons_zero, List.set_cons_succ]
          refine anyL_take 34 (v := ?_) rfl (by kernel_rfl) (fun _ _ _ h => h) (Or.inl ⟨by rfl, ?_⟩) hS0 ?_
          rotate_left
          focus (intro W hW; go_simp; try with_reducible rfl)
          simp only [Act.put, List.setIfInBounds_toArray, List.set_cons_zero, List.set_cons_succ]
          refine anyL_take 35 (v := ?_) rfl (by kernel_rfl) (fun _ _ _ h => h) (Or.inl ⟨by rfl, ?_⟩) hS0 ?_
          rotate_left
          focus (intro W hW; go_simp; try with_reducible rfl)
          simp only [Act.put, List.setIfInBounds_toArray, List.set_cons_zero, List.set_cons_succ]
          refine anyL_take 36 (v := ?_) rfl (by kernel_rfl) (fun _ _ _ h => h) (Or.inl ⟨by rfl, ?_⟩) hS0 ?_
          rotate_left
          focus (intro W hW; go_simp; try with_reducible rfl)
          simp only [Act.put, List.setIfInBounds_toArray, List.set_cons_zero, List.set_cons_succ]
          refine anyC_done (by kernel_rfl) ?_ _
          have hM20 := hMd
          clear p0 r0 a0 a1 a2 c0 c1 c2 qq qp qe
          go_wp2_with fail
          go_loopw [14] (fun kv wr => ∃ k : Nat, k ≤ ne ∧ kv = .int .i64 (k : Int) ∧ Hid (MiB wr xb (xo + i * 3) zb (zo + i * 3) gq EA DA EA2 DA2 ne Ec Dc Ec2 Dc2) ∧ Hid (MaB w wr w.heap.size b2 X X2 Y Y2)) (fun kv _ => ne - (Go.RowKit.intOf kv).toNat)
          case atStart => exact ⟨0, Nat.zero_le _, rfl, hBd, hM20⟩
          case round =>
            clear hBd hM20 hMd hWdH
            obtain ⟨k, hkn, rfl, hmi, hM⟩ := hrel
            obtain ⟨a0, a1, a2, c0, c1, c2⟩ := hmi.out
            by_cases hlt3 : k < ne
            case neg =>
              have hkI : ¬ (k : Int) < (ne : Int) := by omega
              have hMf := hM
              clear hM
              go_wp2_with fail
              go_roundw
              case rel => exact ⟨i + 1, hlt2, by go_num, hMf⟩
              case measure => simp only [Go.RowKit.intOf]; omega
            case pos =>
              have hkI : (k : Int) < (ne : Int) := by omega
              have hkw : IntKind.i64.wrap ((k : Int) + 1) = (k : Int) + 1 := IntWalk.i64_in _ (by have := hne6.out; omega)
              have hke : k < es.length := by rw [hneH.out.1]; exact hlt3
              have hkd : k < dd.length := by rw [hneH.out.2]; exact hlt3
              obtain ⟨e1b, e1o, hE1, -, s0, s1⟩ := ge_at (hcE.out wr hM.out) hke
              obtain ⟨e2b, e2o, hE2, -, s2, s3⟩ := ge_at (hcE2.out wr hM.out) hke
              obtain ⟨d1b, d1o, hD1, -, s4⟩ := st_at (hcD.out wr hM.out) hkd
              obtain ⟨d2b, d2o, hD2, -, s5⟩ := st_at (hcD2.out wr hM.out) hkd
              rw [hE1] at a1
              rw [hE2] at c1
              rw [hD1] at a2
              rw [hD2] at c2
              have hq := fun W => ge_neqM W es[k]
              have hst : (dd[k].toList == dd[k].toList) = true := by simp
              generalize dd[k] = ddk at s4 s5 hst
              generalize es[k] = ek at s0 s1 s2 s3 hq
              obtain ⟨Wd, hWd, hmd, hMd, a1, a2, c1, c2, s0, s1, s2, s3, s4, s5⟩ : ∃ Wd, Wd = wr.drew ∧ Hid (MiB Wd xb (xo + i * 3) zb (zo + i * 3) gq EA DA EA2 DA2 ne Ec Dc Ec2 Dc2) ∧ Hid (MaB w Wd w.heap.size b2 X X2 Y Y2) ∧ Wd.cell? ⟨xb, xo + i * 3 + 1, none⟩ = some (.slice (some ⟨e1b, e1o, none⟩) ne Ec) ∧ Wd.cell? ⟨xb, xo + i * 3 + 2, none⟩ = some (.slice (some ⟨d1b, d1o, none⟩) ne Dc) ∧ Wd.cell? ⟨zb, zo + i * 3 + 1, none⟩ = some (.slice (some ⟨e2b, e2o, none⟩) ne Ec2) ∧ Wd.cell? ⟨zb, zo + i * 3 + 2, none⟩ = some (.slice (some ⟨d2b, d2o, none⟩) ne Dc2)
                  ∧ Wd.cell? ⟨e1b, e1o + k * 2, none⟩ = some (.int .i64 ek.1) ∧ Wd.cell? ⟨e1b, e1o + k * 2 + 1, none⟩ = some (.bool ek.2) ∧ Wd.cell? ⟨e2b, e2o + k * 2, none⟩ = some (.int .i64 ek.1) ∧ Wd.cell? ⟨e2b, e2o + k * 2 + 1, none⟩ = some (.bool ek.2) ∧ Wd.cell? ⟨d1b, d1o + k, none⟩ = some (.string ddk) ∧ Wd.cell? ⟨d2b, d2o + k, none⟩ = some (.string ddk) :=
                ⟨_, rfl, Lib.hid (hmi.out.below (Below.refl _ _).drew), Lib.hid (hM.out.below (Below.refl _ _).drew), a1, a2, c1, c2, s0, s1, s2, s3, s4, s5⟩
              have hWdH := Lib.hid hWd
              have hh1 : wr.cell? ⟨xb, xo + i * 3 + 1, none⟩ = some (.slice (some ⟨e1b, e1o, none⟩) ne Ec) := by rw [← hE1]; exact hmi.out.a1
              clear hWd hM hmi a0 c0 hE1 hE2 hD1 hD2
              go_upto_region 25 with fail
              have hS0 : (fun V => V = Wd) Wd := rfl
              refine region_anyC (fun _ => true) (fun V => V = Wd) (by kernel_rfl) ?_
              rw [← hWdH.out]
              refine anyL_take 0 (v := ?_) rfl (by kernel_rfl) (fun _ _ _ h => h) (Or.inl ⟨by rfl, ?_⟩) hS0 ?_
              rotate_left
              focus (intro W hW; go_simp; try with_reducible rfl)
              simp only [Act.put, List.setIfInBounds_toArray, List.set_cons_zero, List.set_cons_succ]
              refine anyL_take 1 (v := ?_) rfl (by kernel_rfl) (fun _ _ _ h => h) (Or.inl ⟨by rfl, ?_⟩) hS0 ?_
              rotate_left
              focus (intro W hW; go_simp; try with_reducible rfl)
              simp only [Act.put, List.setIfInBounds_toArray, List.set_cons_zero, List.set_cons_succ]
              refine anyL_take 2 (v := ?_) rfl (by kernel_rfl) (fun _ _ _ h => h) (Or.inl ⟨by rfl, ?_⟩) hS0 ?_
              rotate_left
              focus (intro W hW; go_simp; try with_reducible rfl)
              simp only [Act.put, List.setIfInBounds_toArray, List.set_cons_zero, List.set_cons_succ]
              refine anyL_take 3 (v := ?_) rfl (by kernel_rfl) (fun _ _ _ h => h) (Or.inl ⟨by rfl, ?_⟩) hS0 ?_
              rotate_left
              focus (intro W hW; go_simp; try with_reducible rfl)
              simp only [Act.put, List.setIfInBounds_toArray, List.set_cons_zero, List.set_cons_succ]
              refine anyL_take 4 (v := ?_) rfl (by kernel_rfl) (fun _ _ _ h => h) (Or.inl ⟨by rfl, ?_⟩) hS0 ?_
              rotate_left
              focus (intro W hW; obtain rfl := hW; go_simp; try with_reducible rfl)
              simp only [Act.put, List.setIfInBounds_toArray, List.set_cons_zero, List.set_cons_succ]
              refine anyL_take 5 (v := ?_) rfl (by kernel_rfl) (fun _ _ _ h => h) (Or.inl ⟨by rfl, ?_⟩) hS0 ?_
              rotate_left
              focus (intro W hW; go_simp; try with_reducible rfl)
              simp only [Act.put, List.setIfInBounds_toArray, List.set_cons_zero, List.set_cons_succ]
              refine anyL_take 6 (v := ?_) rfl (by kernel_rfl) (fun _ _ _ h => h) (Or.inl ⟨by rfl, ?_⟩) hS0 ?_
              rotate_left
              focus (intro W hW; go_simp; try with_reducible rfl)
              simp only [Act.put, List.setIfInBounds_toArray, List.set_cons_zero, List.set_cons_succ]
              refine anyL_take 7 (v := ?_) rfl (by kernel_rfl) (fun _ _ _ h => h) (Or.inl ⟨by rfl, ?_⟩) hS0 ?_
              rotate_left
              focus (intro W hW; obtain rfl := hW; go_simp; try with_reducible rfl)
              simp only [Act.put, List.setIfInBounds_toArray, List.set_cons_zero, List.set_cons_succ]
              refine anyL_take 8 (v := ?_) rfl (by kernel_rfl) (fun _ _ _ h => h) (Or.inl ⟨by rfl, ?_⟩) hS0 ?_
              rotate_left
              focus (intro W hW; go_simp; try with_reducible rfl)
              simp only [Act.put, List.setIfInBounds_toArray, List.set_cons_zero, List.set_cons_succ]
              refine anyL_take 9 (v := ?_) rfl (by kernel_rfl) (fun _ _ _ h => h) (Or.inl ⟨by rfl, ?_⟩) hS0 ?_
              rotate_left
              focus (intro W hW; go_simp; try with_reducible rfl)
              simp only [Act.put, List.setIfInBounds_toArray, List.set_cons_zero, List.set_cons_succ]
              refine anyL_take 10 (v := ?_) rfl (by kernel_rfl) (fun _ _ _ h => h) (Or.inl ⟨by rfl, ?_⟩) hS0 ?_
              rotate_left
              focus (intro W hW; go_simp; try with_reducible rfl)
              simp only [Act.put, List.setIfInBounds_toArray, List.set_cons_zero, List.set_cons_succ]
              refine anyL_take 11 (v := ?_) rfl (by kernel_rfl) (fun _ _ _ h => h) (Or.inl ⟨by rfl, ?_⟩) hS0 ?_
              rotate_left
              focus (intro W hW; go_simp; try with_reducible rfl)
              simp only [Act.put, List.setIfInBounds_toArray, List.set_cons_zero, List.set_cons_succ]
              refine anyL_take 12 (v := ?_) rfl (by kernel_rfl) (fun _ _ _ h => h) (Or.inl ⟨by rfl, ?_⟩) hS0 ?_
              rotate_left
              focus (intro W hW; obtain rfl := hW; go_simp; try with_reducible rfl)
              simp only [Act.put, List.setIfInBounds_toArray, List.set_cons_zero, List.set_cons_succ]
              refine anyL_take 13 (v := ?_) rfl (by kernel_rfl) (fun _ _ _ h => h) (Or.inl ⟨by rfl, ?_⟩) hS0 ?_
              rotate_left
              focus (intro W hW; go_simp; try with_reducible rfl)
              simp only [Act.put, List.setIfInBounds_toArray, List.set_cons_zero, List.set_cons_succ]
              refine anyL_take 14 (v := ?_) rfl (by kernel_rfl) (fun _ _ _ h => h) (Or.inl ⟨by rfl, ?_⟩) hS0 ?_
              rotate_left
              focus (intro W hW; go_simp; try with_reducible rfl)
              simp only [Act.put, List.setIfInBounds_toArray, List.set_cons_zero, List.set_cons_succ]
              refine anyL_take 15 (v := ?_) rfl (by kernel_rfl) (fun _ _ _ h => h) (Or.inl ⟨by rfl, ?_⟩) hS0 ?_
              rotate_left
              focus (intro W hW; obtain rfl := hW; go_simp; try with_reducible rfl)
              simp only [Act.put, List.setIfInBounds_toArray, List.set_cons_zero, List.set_cons_succ]
              refine anyL_take 16 (v := ?_) rfl (by kernel_rfl) (fun _ _ _ h => h) (Or.inl ⟨by rfl, ?_⟩) hS0 ?_
              rotate_left
              focus (intro W hW; have h16 := hq W; go_simp; try with_reducible rfl)
              simp only [Act.put, List.setIfInBounds_toArray, List.set_cons_zero, List.set_cons_succ]
              refine anyL_take 17 (v := ?_) rfl (by kernel_rfl) (fun _ _ _ h => h) (Or.inl ⟨by rfl, ?_⟩) hS0 ?_
              rotate_left
              focus (intro W hW; go_simp; try with_reducible rfl)
              simp only [Act.put, List.setIfInBounds_toArray, List.set_cons_zero, List.set_cons_succ]
              refine anyL_take 18 (v := ?_) rfl (by kernel_rfl) (fun _ _ _ h => h) (Or.inl ⟨by rfl, ?_⟩) hS0 ?_
              rotate_left
              focus (intro W hW; go_simp; try with_reducible rfl)
              simp only [Act.put, List.setIfInBounds_toArray, List.set_cons_zero, List.set_cons_succ]
              refine anyL_take 19 (v := ?_) rfl (by kernel_rfl) (fun _ _ _ h => h) (Or.inl ⟨by rfl, ?_⟩) hS0 ?_
              rotate_left
              focus (intro W hW; go_simp; try with_reducible rfl)
              simp only [Act.put, List.setIfInBounds_toArray, List.set_cons_zero, List.set_cons_succ]
              refine anyL_take 20 (v := ?_) rfl (by kernel_rfl) (fun _ _ _ h => h) (Or.inl ⟨by rfl, ?_⟩) hS0 ?_
              rotate_left
              focus (intro W hW; go_simp; try with_reducible rfl)
              simp only [Act.put, List.setIfInBounds_toArray, List.set_cons_zero, List.set_cons_succ]
              refine anyL_take 21 (v := ?_) rfl (by kernel_rfl) (fun _ _ _ h => h) (Or.inl ⟨by rfl, ?_⟩) hS0 ?_
              rotate_left
              focus (intro W hW; go_simp; try with_reducible rfl)
              simp only [Act.put, List.setIfInBounds_toArray, List.set_cons_zero, List.set_cons_succ]
              refine anyL_take 22 (v := ?_) rfl (by kernel_rfl) (fun _ _ _ h => h) (Or.inl ⟨by rfl, ?_⟩) hS0 ?_
              rotate_left
              focus (intro W hW; obtain rfl := hW; go_simp; try with_reducible rfl)
              simp only [Act.put, List.setIfInBounds_toArray, List.set_cons_zero, List.set_cons_succ]
              refine anyL_take 23 (v := ?_) rfl (by kernel_rfl) (fun _ _ _ h => h) (Or.inl ⟨by rfl, ?_⟩) hS0 ?_
              rotate_left
              focus (intro W hW; go_simp; try with_reducible rfl)
              simp only [Act.put, List.setIfInBounds_toArray, List.set_cons_zero, List.set_cons_succ]
              refine anyL_take 24 (v := ?_) rfl (by kernel_rfl) (fun _ _ _ h => h) (Or.inl ⟨by rfl, ?_⟩) hS0 ?_
              rotate_left
              focus (intro W hW; go_simp; try with_reducible rfl)
              simp only [Act.put, List.setIfInBounds_toArray, List.set_cons_zero, List.set_cons_succ]
              refine anyL_take 25 (v := ?_) rfl (by kernel_rfl) (fun _ _ _ h => h) (Or.inl ⟨by rfl, ?_⟩) hS0 ?_
              rotate_left
              focus (intro W hW; obtain rfl := hW; go_simp; try with_reducible rfl)
              simp only [Act.put, List.setIfInBounds_toArray, List.set_cons_zero, List.set_cons_succ]
              refine anyL_take 26 (v := ?_) rfl (by kernel_rfl) (fun _ _ _ h => h) (Or.inl ⟨by rfl, ?_⟩) hS0 ?_
              rotate_left
              focus (intro W hW; go_simp; try with_reducible rfl)
              simp only [Act.put, List.setIfInBounds_toArray, List.set_cons_zero, List.set_cons_succ]
              refine anyL_take 27 (v := ?_) rfl (by kernel_rfl) (fun _ _ _ h => h) (Or.inl ⟨by rfl, ?_⟩) hS0 ?_
              rotate_left
              focus (intro W hW; go_simp; try with_reducible rfl)
              simp only [Act.put, List.setIfInBounds_toArray, List.set_cons_zero, List.set_cons_succ]
              refine anyL_take 28 (v := ?_) rfl (by kernel_rfl) (fun _ _ _ h => h) (Or.inl ⟨by rfl, ?_⟩) hS0 ?_
              rotate_left
              focus (intro W hW; go_simp; try with_reducible rfl)
              simp only [Act.put, List.setIfInBounds_toArray, List.set_cons_zero, List.set_cons_succ]
              refine anyL_take 29 (v := ?_) rfl (by kernel_rfl) (fun _ _ _ h => h) (Or.inl ⟨by rfl, ?_⟩) hS0 ?_
              rotate_left
              focus (intro W hW; go_simp; try with_reducible rfl)
              simp only [Act.put, List.setIfInBounds_toArray, List.set_cons_zero, List.set_cons_succ]
              refine anyL_take 30 (v := ?_) rfl (by kernel_rfl) (fun _ _ _ h => h) (Or.inl ⟨by rfl, ?_⟩) hS0 ?_
              rotate_left
              focus (intro W hW; obtain rfl := hW; go_simp; try with_reducible rfl)
              simp only [Act.put, List.setIfInBounds_toArray, List.set_cons_zero, List.set_cons_succ]
              refine anyL_take 31 (v := ?_) rfl (by kernel_rfl) (fun _ _ _ h => h) (Or.inl ⟨by rfl, ?_⟩) hS0 ?_
              rotate_left
              focus (intro W hW; go_simp; try with_reducible rfl)
              simp only [Act.put, List.setIfInBounds_toArray, List.set_cons_zero, List.set_cons_succ]
              refine anyL_take 32 (v := ?_) rfl (by kernel_rfl) (fun _ _ _ h => h) (Or.inl ⟨by rfl, ?_⟩) hS0 ?_
              rotate_left
              focus (intro W hW; go_simp; try with_reducible rfl)
              simp only [Act.put, List.setIfInBounds_toArray, List.set_cons_zero, List.set_cons_succ]
              refine anyL_take 33 (v := ?_) rfl (by kernel_rfl) (fun _ _ _ h => h) (Or.inl ⟨by rfl, ?_⟩) hS0 ?_
              rotate_left
              focus (intro W hW; obtain rfl := hW; go_simp; try with_reducible rfl)
              simp only [Act.put, List.setIfInBounds_toArray, List.set_cons_zero, List.set_cons_succ]
              refine anyL_take 34 (v := ?_) rfl (by kernel_rfl) (fun _ _ _ h => h) (Or.inl ⟨by rfl, ?_⟩) hS0 ?_
              rotate_left
              focus (intro W hW; go_simp; try with_reducible rfl)
              simp only [Act.put, List.setIfInBounds_toArray, List.set_cons_zero, List.set_cons_succ]
              refine anyL_take 35 (v := ?_) rfl (by kernel_rfl) (fun _ _ _ h => h) (Or.inl ⟨by rfl, ?_⟩) hS0 ?_
              rotate_left
              focus (intro W hW; go_simp; try with_reducible rfl)
              simp only [Act.put, List.setIfInBounds_toArray, List.set_cons_zero, List.set_cons_succ]
              refine anyC_done (by kernel_rfl) ?_ _
              clear a1 a2 c1 c2 s0 s1 s2 s3 s4 s5 hq hst hh1
              go_wp2_with fail
              go_roundw
              case rel => exact ⟨k + 1, hlt3, by go_num, hmd, hMd⟩
              case measure => simp only [Go.RowKit.intOf]; omega
end Go.Proofs.YtbgkmppngnedlaaDoor
