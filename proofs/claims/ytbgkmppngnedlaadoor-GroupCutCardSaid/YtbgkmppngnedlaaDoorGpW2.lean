/- The walk of GroupCut. -/
import Derived.Test.YtbgkmppngnedlaaDoorGpV
import Derived.Test.YtbgkmppngnedlaaDoorOTold
namespace Go.Proofs.YtbgkmppngnedlaaDoor
open Go.RowKit Rec Crc Num Xor

theorem row_capC {α : Type} {E : Enc α} {W : World} {base : Nat} {t : TypeId} {A : Option Addr} {c : Nat} {xs : List α} (h : E.Row W base t A c xs) : xs.length ≤ c := by
  rcases h.form with ⟨_, h1, h2⟩ | ⟨_, _, _, _, h⟩
  · rw [h2]; exact Nat.zero_le _
  · exact h
theorem endG_get (gs : List Gp) {j : Nat} (h : j < gs.length) : ∃ h2 : j < (endG gs).length, (endG gs)[j] = 64 * blkG (gs.take (j + 1)) := ⟨by rw [endG_len]; exact h, endG_at _⟩
theorem gD_sizeC (ds : List ByteArray) (k : Nat) : ∀ d ∈ gD ds k, d.size ≤ maxLen := fun d h => by
  unfold gD at h
  obtain ⟨i, _, rfl⟩ := List.mem_map.1 h
  unfold dFix maxLen
  rw [ByteArray.size_extract]
  omega
/-- given and Encode of one group: what is left. -/
structure CtB (w W : World) (X : Nat) (q : Int) (EA DA : Option Addr) (Ec Dc : Nat) (es : List (Int × Bool)) (ds : List ByteArray) : Prop where
  x0 : W.cell? ⟨X, 0, none⟩ = some (.int .i64 q)
  x1 : W.cell? ⟨X, 1, none⟩ = some (.slice EA es.length Ec)
  x2 : W.cell? ⟨X, 2, none⟩ = some (.slice DA ds.length Dc)
  e : geE.In W EA es
  d : stE.In W DA ds
  cd : ds.length ≤ Dc
theorem text_size {t : ByteArray} {l : List UInt8} (h : TextOf t l) : t.size = l.length := h.size
theorem text_take {t : ByteArray} {l : List UInt8} (h : TextOf t l) (c : Nat) : TextOf (t.extract 0 c) (l.take c) := by
  show (t.extract 0 c).data.toList = l.take c
  have h1 : t.data.toList = l := h
  rw [ByteArray.data_extract, Array.toList_extract, h1]
  simp [List.extract]
set_option maxRecDepth 100000 in
set_option maxHeartbeats 16000000 in
theorem cut_lawG (A : Option Addr) (cap : Nat) (l : List Gx) (ct nz : Int) (w : World) (hT : Tab w) (hI : GxIn w A l) (hds : ∀ g ∈ l, ∀ s ∈ g.ds, s.size ≤ maxLen) (hlen : l.length ≤ 9223372036854775807) :
    Calls Tryd.prog 4 #[.slice A l.length cap, .int .i64 ct, .int .i64 nz] w fun e w' => e = .returned (.bool true) ∧ Below w.heap.size w w' := by
  have hTA := Lib.hid (fun W (h : Below w.heap.size w W) => hT.below h)
  have hIH := Lib.hid (fun W (h : Below w.heap.size w W) => hI.below h)
  have hdsH := Lib.hid hds
  obtain ⟨n, hn⟩ : ∃ n, l.length = n := ⟨_, rfl⟩
  rw [hn] at hlen ⊢
  have hnH := Lib.hid hn
  clear hI hds hn
  have hsp := Lib.hid (speaks18 w hT)
  clear hT
  go_enter Tryd.func4, Tryd.ntmps4
  go_wp2_with fail
  refine hsp.out.mono ?_
  rintro e w1 ⟨rfl, hb1⟩
  have hB1 := Lib.hid hb1
  have hR1 : Hid (ixG.Row w1 w.heap.size 3 none 0 (endG [])) := Lib.hid (Enc.Row.nil _ _ _)
  have hs1 : Hid (TextOf ⟨#[]⟩ (catG (gsK l 0))) := Lib.hid rfl
  clear hb1 hsp
  go_wp2_with fail
  go_loopw [7, 8, 9] (fun sv ev iv wr => ∃ (k m : Nat) (s : ByteArray) (EA : Option Addr) (ec : Nat), k ≤ n ∧ iv = .int .i64 (k : Int) ∧ sv = .string s ∧ ev = .slice EA m ec ∧ Hid (k ≤ 20 ∧ m = (gsK l k).length) ∧ Hid (TextOf s (catG (gsK l k))) ∧ Hid (ixG.Row wr w.heap.size 3 EA ec (endG (gsK l k))) ∧ Hid (Below w.heap.size w wr)) (fun _ _ iv _ => n - (Go.RowKit.intOf iv).toNat)
  case atStart => exact ⟨0, 0, ⟨#[]⟩, none, 0, Nat.zero_le _, rfl, rfl, rfl, Lib.hid ⟨by omega, rfl⟩, hs1, hR1, hB1⟩
  case round =>
    clear hs1 hR1 hB1
    obtain ⟨k, m, s, EA, ec, hkn, rfl, rfl, rfl, hk20, hs, hR, hB⟩ := hrel
    obtain ⟨hk2, hm⟩ := hk20.out
    have hgs := gsK_all l k
    have hsz : Hid (s.size = 64 * blkG (gsK l k) ∧ s.size ≤ 10000) := Lib.hid (by
      have h1 := text_size hs.out
      rw [catG_len hgs.1] at h1
      have h2 := blkG_le hgs.1
      have h3 := hgs.2
      omega)
    have hm20 : m ≤ 20 := by rw [hm]; omega
    have hmH := Lib.hid hm
    clear hm
    obtain ⟨t, ht⟩ : ∃ t, decide (k < n ∧ k < 20) = t := ⟨_, rfl⟩
    have htH := Lib.hid ht
    go_upto_region 6 with fail
    go_cut [28] from 21 to 28 (fun c wx => c = .bool t ∧ wx = wr)
    case first =>
      by_cases g1 : k < n
      case pos =>
        have g1I : (k : Int) < (n : Int) := by omega
        by_cases g2 : k < 20
        case pos =>
          have g2I : (k : Int) < 20 := by omega
          have e1 : t = true := by rw [← ht]; exact decide_eq_true ⟨g1, g2⟩
          subst e1
          clear ht g1 g2
          go_wp2_with fail
          go_meet
          exact ⟨rfl, rfl⟩
        case neg =>
          have g2I : ¬ (k : Int) < 20 := by omega
          have e1 : t = false := by rw [← ht]; exact decide_eq_false (fun h => g2 h.2)
          subst e1
          clear ht g1 g2
          go_wp2_with fail
          go_meet
          exact ⟨rfl, rfl⟩
      case neg =>
        have g1I : ¬ (k : Int) < (n : Int) := by omega
        have e1 : t = false := by rw [← ht]; exact decide_eq_false (fun h => g1 h.1)
        subst e1
        clear ht g1
        go_wp2_with fail
        go_meet
        exact ⟨rfl, rfl⟩
    obtain ⟨rfl, hwx⟩ := hcut
    rw [hwx]
    clear hwx ht
    cases t with
    | true =>
      obtain ⟨hlt, hlt20⟩ := of_decide_eq_true htH.out
      have hkl : k < l.length := by rw [hnH.out]; exact hlt
      have hkI : (k : Int) < (n : Int) := by omega
      have hkw : IntKind.i64.wrap ((k : Int) + 1) = (k : Int) + 1 := IntWalk.i64_in _ (by omega)
      obtain ⟨gb, go_, rfl, -, ⟨y0, y1, y2, y3⟩, hgin⟩ := (hIH.out wr hB.out).at_ hkl
      have hgv := Lib.hid (given18 wr l[k].q l[k].AB l[k].kb l[k].bl l[k].AT l[k].kt l[k].tr l[k].AD l[k].kd l[k].ds hgin (hdsH.out _ (List.getElem_mem hkl)))
      have hgood := Lib.hid (fun h => gsK_good hkl h)
      have hbad := Lib.hid (fun h => gsK_bad hkl h)
      have hgg : Hid (l[k].g = givG l[k].q l[k].bl l[k].tr l[k].ds) := Lib.hid rfl
      have hkl2 := Lib.hid hkl
      clear hgin
      generalize l[k] = x at y0 y1 y2 y3 hgv hgood hbad hgg
      clear hkl hlt
      go_wp2_with fail
      refine hgv.out.mono ?_
      rintro e w2 ⟨E, B, T, D, F, rfl, hxs, hRr, hb2⟩
      have hal1 := (Below.refl w2.heap.size w2).alloc (Nat.le_refl _) (.cells #[.int .i64 x.q, .slice E.A E.xs.length E.c, .slice D.A D.xs.length D.c] 30)
      have hal2 := (hal1).alloc (by simp) (.cells #[.int .i64 x.q, .slice B.A B.xs.length B.c, .slice T.A T.xs.length T.c, .slice F.A F.xs.length F.c] 31)
      have hR2 := hRr.below hal2
      have hB2 := hB.out.trans ((hb2.trans (hal2.mono hb2.size)).mono hB.out.size)
      have hRow2 := hR.out.below (hb2.trans (hal2.mono hb2.size))
      have hgx : Hid (x.g = ⟨x.q, E.xs, D.xs⟩) := Lib.hid (by rw [hgg.out, hxs.1, hxs.2.2.2.1]; rfl)
      have hlE : Hid (E.xs.length ≤ 1000 ∧ D.xs.length ≤ 1000) := Lib.hid (by rw [hxs.1, hxs.2.2.2.1, gE_len, gD_len]; omega)
      have hall := Lib.hid (show CtB w ((w2.alloc (.cells #[.int .i64 x.q, .slice E.A E.xs.length E.c, .slice D.A D.xs.length D.c] 30)).alloc (.cells #[.int .i64 x.q, .slice B.A B.xs.length B.c, .slice T.A T.xs.length T.c, .slice F.A F.xs.length F.c] 31)) w2.heap.size x.q E.A D.A E.c D.c E.xs D.xs ∧ _ ∧ _ from ⟨⟨by go_simp, by go_simp, by go_simp, hR2.rE.in_, hR2.rD.in_, row_capC hR2.rD⟩, hRow2, hB2⟩)
      clear hgv hxs hRr hb2 hal1 hal2 hR2 hB2 hRow2 hR hB y0 y1 y2 y3 hgg
      go_upto_region 9 with fail
      obtain ⟨Z, hZ⟩ : ∃ Z, w2.heap.size = Z := ⟨_, rfl⟩
      refine fresh_world (fun W => CtB w W w2.heap.size x.q E.A D.A E.c D.c E.xs D.xs ∧ ixG.Row W w.heap.size 3 EA ec (endG (gsK l k)) ∧ Below w.heap.size w W) hall.out ?_
      rw [hZ]
      clear hall hZ
      obtain ⟨EEA, Ec, es⟩ := E
      obtain ⟨DA, Dc, dd⟩ := D
      dsimp only at hgx hlE ⊢
      rintro W4 ⟨hC4, hR4, hB4⟩
      have hR4H := Lib.hid hR4
      have hB4H := Lib.hid hB4
      have hC4H := Lib.hid hC4
      obtain ⟨x0, x1, x2, -, -, -⟩ := hC4
      by_cases hg : GoodG ⟨x.q, es, dd⟩
      case neg =>
        have henc := Lib.hid (encode_badG W4 ⟨x.q, es, dd⟩ EEA DA Ec Dc ⟨hC4H.out.e, hC4H.out.d⟩ hlE.out.1 hlE.out.2 hg)
        have hsk : Hid (gsK l (k + 1) = gsK l k) := Lib.hid (hbad.out (by rw [hgx.out]; exact hg))
        dsimp only at henc
        generalize es.length = ne at henc x1
        generalize dd.length = nd at henc x2
        clear hg hbad hgood hR4 hB4 hC4H hgx hlE
        go_wp2_with fail
        refine henc.out.mono ?_
        rintro e w3 ⟨rfl, hb3⟩
        have hR3 := Lib.hid (hR4H.out.below hb3)
        have hB3 := Lib.hid (hB4H.out.trans (hb3.mono hB4H.out.size))
        clear hb3 henc x0 x1 x2
        go_wp2_with fail
        go_roundw
        case rel => exact ⟨k + 1, m, s, EA, ec, by have := hkl2.out; have := hnH.out; omega, by go_num, rfl, rfl, Lib.hid ⟨by omega, by rw [hsk.out]; exact hmH.out⟩, by rw [hsk.out]; exact hs, by rw [hsk.out]; exact hR3, hB3⟩
        case measure => simp only [Go.RowKit.intOf]; have := hkl2.out; have := hnH.out; omega
      case pos =>
        have henc := Lib.hid (encode_goodG W4 ⟨x.q, es, dd⟩ EEA DA Ec Dc ⟨hC4H.out.e, hC4H.out.d⟩ hC4H.out.cd hg (hTA.out _ hB4))
        have hsk : Hid (gsK l (k + 1) = gsK l k ++ [⟨x.q, es, dd⟩]) := Lib.hid (by rw [hgood.out (by rw [hgx.out]; exact hg), hgx.out])
        have hlg := encG_len hg
        have hbe := blkE_le es
        have hn6 : es.length ≤ 6 := hg.1.2.2
        have hs2 : Hid (TextOf (s ++ ⟨(encG ⟨x.q, es, dd⟩).toArray⟩) (catG (gsK l (k + 1)))) := Lib.hid (by
          rw [hsk.out, catG_snoc]
          exact hs.out.append rfl)
        have hbl : blkG (gsK l (k + 1)) = blkG (gsK l k) + blkE es := by
          rw [hsk.out, blkG_append]
          show _ = _
          simp [blkG]
        obtain ⟨ee, hee⟩ : ∃ ee : ByteArray, ⟨(encG ⟨x.q, es, dd⟩).toArray⟩ = ee := ⟨_, rfl⟩
        have hes : ee.size = 64 * blkE es := by rw [← hee]; exact (ofList_size _).trans hlg
        rw [hee] at henc hs2
        dsimp only at henc
        have hsum : (s ++ ee).size = 64 * blkG (gsK l (k + 1)) := by rw [ByteArray.size_append, hes, hsz.out.1, hbl]; omega
        have q1 : ¬ 9223372036854775807 < s.size + ee.size := by have := hsz.out.2; omega
        have hendG : Hid (endG (gsK l (k + 1)) = endG (gsK l k) ++ [64 * blkG (gsK l (k + 1))]) := Lib.hid (by rw [hsk.out, endG_snoc])
        have hm3 : Hid (m + 1 = (gsK l (k + 1)).length) := Lib.hid (by rw [hsk.out, List.length_append, ← hmH.out]; rfl)
        have hsumH := Lib.hid hsum
        generalize es.length = ne at henc x1
        generalize dd.length = nd at henc x2
        clear hg hbad hgood hR4 hB4 hC4H hgx hlE hlg hbe hn6 hbl hee hes hsum
        go_wp2_with fail
        refine henc.out.mono ?_
        rintro e w3 ⟨rfl, hb3⟩
        have hR3 := hR4H.out.below hb3
        have hB3 := Lib.hid (hB4H.out.trans (hb3.mono hB4H.out.size))
        obtain ⟨s2, hs2e⟩ : ∃ s2, s ++ ee = s2 := ⟨_, rfl⟩
        rw [hs2e] at hs2 hsumH
        have hal := (Below.refl w3.heap.size w3).alloc (Nat.le_refl _) (.cells #[.int .i64 (s2.size : Int)] 3)
        have hR3a := hR3.below hal
        obtain ⟨A', cap', W7, hrun, hrow, hgr, hor⟩ := hR3a.append (P := Tryd.prog) Tryd.underlying22 infIxG (by decide) (by decide) (m := w3.heap.size) (x := s2.size) (fun j hj => by
          rw [World.cell?_alloc_new]
          have h1 : j < 1 := hj
          obtain rfl : j = 0 := by omega
          rfl) (by rw [endG_len, ← hmH.out]; omega) (by have := hB3.out.size; simp; omega) 22
        rw [endG_len, ← hmH.out] at hrun
        have hB7 := Lib.hid (show Below w.heap.size w W7 from (hB3.out.alloc hB3.out.size _).trans (hR3a.grown hgr (by have := hB3.out.size; simp; omega)))
        have hrow7 : Hid (ixG.Row W7 w.heap.size 3 A' cap' (endG (gsK l (k + 1)))) := Lib.hid (by rw [hendG.out, ← hsumH.out]; exact hrow)
        have hrunH := Lib.hid hrun
        clear hb3 henc x0 x1 x2 hR3 hal hR3a hrow hgr hor hrun hB3 hR4H hB4H hendG hsk
        go_upto_region 12 with fail
        clear q1
        clear hs2e
        go_wp2_with (at_builtin; refine append_run_wp rfl _ _ _ rfl rfl rfl hrunH.out ?_; clear hrunH)
        go_roundw
        case rel => exact ⟨k + 1, m + 1, s2, A', cap', by have := hkl2.out; have := hnH.out; omega, by go_num, rfl, by go_num, Lib.hid ⟨by omega, hm3.out⟩, hs2, hrow7, hB7⟩
        case measure => simp only [Go.RowKit.intOf]; have := hkl2.out; have := hnH.out; omega
    | false =>
      clear htH hk20 hIH hdsH hnH
      have hall : Hid (∀ g ∈ gsK l k, GoodG g) := Lib.hid hgs.1
      clear hgs
      generalize gsK l k = gs at hs hR hsz hmH hall
      obtain ⟨S, hS⟩ : ∃ S, s.size = S := ⟨_, rfl⟩
      have hSI : (s.size : Int) = (S : Int) := by omega
      have hS1 := hsz.out
      rw [hS] at hS1
      have hszH := Lib.hid hS1
      obtain ⟨Mo, hMo⟩ : ∃ Mo : Int, Mo = (S : Int) + 1 := ⟨_, rfl⟩
      obtain ⟨t0, y0, ht0, hy0, b0, b1, b2, b3, w1', w2', w3'⟩ := mod_in ct Mo (by omega) (by omega)
      obtain ⟨c, hc⟩ : ∃ c : Nat, y0 = (c : Int) := ⟨y0.toNat, by omega⟩
      subst hc
      have hcS : Hid (c ≤ S) := Lib.hid (by omega)
      have hcI : (c : Int) ≤ (S : Int) := by omega
      have hcN : c ≤ S := by omega
      have v1 : IntKind.i64.wrap ((S : Int) + 1) = Mo := by rw [← hMo]; exact IntWalk.i64_in _ (by omega)
      have v2 : IntKind.i64.wrap (t0 + (S : Int)) = t0 + (S : Int) := IntWalk.i64_in _ (by omega)
      have v3 : IntKind.i64.wrap (t0 + (S : Int) + 1) = t0 + Mo := by rw [show t0 + (S : Int) + 1 = t0 + Mo by omega]; exact IntWalk.i64_in _ (by omega)
      have hM0 : ¬ Mo = 0 := by omega
      have hMw : IntKind.i64.wrap Mo = Mo := IntWalk.i64_in _ (by omega)
      have hk0 : Hid (64 * blkG (gs.take 0) ≤ c) := Lib.hid (by rw [List.take_zero]; exact Nat.zero_le _)
      have hSH := Lib.hid hS
      clear hS1 hsz b0 b1 b2 b3 hMo hS
      go_upto_region 14 with fail
      clear ht0 hy0 w1' w2' w3' v1 v2 v3 hM0 hMw hSI hcI
      go_wp2_with fail
      go_loopw [14] (fun kv wq => ∃ j : Nat, j ≤ m ∧ kv = .int .i64 (j : Int) ∧ Hid (64 * blkG (gs.take j) ≤ c) ∧ Hid (ixG.Row wq w.heap.size 3 EA ec (endG gs)) ∧ Hid (Below w.heap.size w wq)) (fun kv _ => m - (Go.RowKit.intOf kv).toNat)
      case atStart => exact ⟨0, Nat.zero_le _, rfl, hk0, hR, hB⟩
      case round =>
        clear hk0 hR hB
        obtain ⟨j, hjm, rfl, hj, hR, hB⟩ := hrel
        obtain ⟨t2, ht2⟩ : ∃ t2, decide (j < m ∧ 64 * blkG (gs.take (j + 1)) ≤ c) = t2 := ⟨_, rfl⟩
        have ht2H := Lib.hid ht2
        go_upto_region 15 with fail
        go_cut [78] from 67 to 78 (fun c wx => c = .bool t2 ∧ wx = wr)
        case first =>
          by_cases g1 : j < m
          case neg =>
            have g1I : ¬ (j : Int) < (m : Int) := by omega
            have e1 : t2 = false := by rw [← ht2]; exact decide_eq_false (fun h => g1 h.1)
            subst e1
            clear ht2 g1
            go_wp2_with fail
            go_meet
            exact ⟨rfl, rfl⟩
          case pos =>
            have g1I : (j : Int) < (m : Int) := by omega
            obtain ⟨hje, hjv⟩ := endG_get gs (j := j) (by rw [← hmH.out]; exact g1)
            obtain ⟨eb, eo, rfl, -, z0⟩ := ixg_at hR.out.in_ hje
            rw [hjv] at z0
            generalize 64 * blkG (gs.take (j + 1)) = ev at z0 ht2
            clear hjv hje
            by_cases g2 : ev ≤ c
            case pos =>
              have g2I : decide ((ev : Int) ≤ (c : Int)) = true := decide_eq_true (by omega)
              have g2N : decide (ev ≤ c) = true := decide_eq_true g2
              have e1 : t2 = true := by rw [← ht2]; exact decide_eq_true ⟨g1, g2⟩
              subst e1
              clear ht2 g1 g2
              go_wp2_with fail
              go_meet
              exact ⟨rfl, rfl⟩
            case neg =>
              have g2I : decide ((ev : Int) ≤ (c : Int)) = false := decide_eq_false (by omega)
              have g2N : decide (ev ≤ c) = false := decide_eq_false g2
              have e1 : t2 = false := by rw [← ht2]; exact decide_eq_false (fun h => g2 h.2)
              subst e1
              clear ht2 g1 g2
              go_wp2_with fail
              go_meet
              exact ⟨rfl, rfl⟩
        obtain ⟨rfl, hwx⟩ := hcut
        rw [hwx]
        clear hwx ht2
        cases t2 with
        | true =>
          obtain ⟨g1, g2⟩ := of_decide_eq_true ht2H.out
          have g2H := Lib.hid g2
          have hjw : IntKind.i64.wrap ((j : Int) + 1) = (j : Int) + 1 := IntWalk.i64_in _ (by omega)
          clear ht2H g2
          go_wp2_with fail
          go_roundw
          case rel => exact ⟨j + 1, g1, by go_num, g2H, hR, hB⟩
          case measure => simp only [Go.RowKit.intOf]; omega
        | false =>
          have hno := of_decide_eq_false ht2H.out
          have hsc1 : ScansG (s.extract 0 c) (gs.take j) (begsG 0 (gs.take j)) 0 := scanG_cat gs j c _ 0 hall.out (by rw [← hmH.out]; exact hjm) hj.out (fun h => by
            rw [← hmH.out] at h
            omega) (fun h => by
            have h1 := hszH.out.1
            have h2 := hcS.out
            omega) (text_take hs.out c)
          have hsc1H := Lib.hid hsc1
          have htl : Hid ((gs.take j).length = j) := Lib.hid (by rw [List.length_take, ← hmH.out]; omega)
          have hcs : (c : Int) ≤ (s.size : Int) := by have := hSH.out; omega
          have hcsN : c ≤ s.size := by have := hSH.out; omega
          have hx1 := Lib.hid (scan_anyG (s.extract 0 c) wr (by rw [ByteArray.size_extract]; have := hSH.out; have := hszH.out.2; omega) (hTA.out _ hB.out))
          unfold ScanPost at hx1
          obtain ⟨z8, hz8, hzm⟩ := mask_nat2 nz 3 7 rfl (by decide)
          have hzm' : bits .and .i64 nz 7 = (z8 : Int) := hzm
          obtain ⟨Z, hZ⟩ : ∃ Z, 64 * z8 = Z := ⟨_, rfl⟩
          have hZ5 : Z ≤ 1000 := by rw [← hZ]; have : z8 < 8 := hz8; omega
          have hzw : IntKind.i64.wrap (64 * (z8 : Int)) = (Z : Int) := by rw [show 64 * (z8 : Int) = (Z : Int) by omega]; exact IntWalk.i64_in _ (by omega)
          have hmk := fun W => mkN Z hZ5 W
          have hcb := fun W => zeros_text W Z
          have hsc2 : ScansG (s ++ zeroB Z) gs (begsG 0 gs) 0 := scanG_zeros gs Z _ 0 hall.out (by
            have h0 : TextOf (zeroB Z) (List.replicate Z 0) := by show (List.replicate Z (0 : UInt8)).toArray.toList = _; simp
            exact hs.out.append h0)
          have hzs := zeroB_size Z
          generalize zeroB Z = zb at hcb hsc2 hzs
          have q1 : ¬ 9223372036854775807 < s.size + zb.size := by have := hSH.out; have := hszH.out.2; omega
          have hsc2H := Lib.hid hsc2
          have hx2 := Lib.hid (fun W (h : Below w.heap.size w W) => scan_anyG (s ++ zb) W (by rw [ByteArray.size_append]; have := hSH.out; have := hszH.out.2; omega) (hTA.out _ h))
          unfold ScanPost at hx2
          clear hsc1 hsc2 hno ht2H hzm hZ hj hR hzs
          go_wp2_with fail
          refine hx1.out.mono ?_
          rintro e w5 ⟨X, Y, rfl, -, hSX, hb5⟩
          have hXl : X.xs.length = j := by
            have h1 := (hSX.uniq hsc1H.out).1
            have h2 := congrArg List.length h1
            rw [List.length_map, htl.out] at h2
            exact h2
          rw [hXl]
          have hB5 := Lib.hid (hB.out.trans (hb5.mono hB.out.size))
          have hB6 := Lib.hid (hB5.out.alloc hB5.out.size (.cells (madeCells #[.int .u8 0] Z) 5))
          clear hx1 hSX hb5 hXl hsc1H htl
          go_wp2_with fail
          refine (hx2.out _ hB6.out).mono ?_
          rintro e w7 ⟨X2, Y2, rfl, -, hSX2, hb7⟩
          have hXl2 : X2.xs.length = m := by
            have h1 := (hSX2.uniq hsc2H.out).1
            have h2 := congrArg List.length h1
            rw [List.length_map, ← hmH.out] at h2
            exact h2
          rw [hXl2]
          have hB7 := Lib.hid (hB6.out.trans (hb7.mono hB6.out.size))
          have qj : ((j : Int) == (j : Int)) = true := by simp
          have qm : ((m : Int) == (m : Int)) = true := by simp
          clear hx2 hSX2 hb7 hXl2 hsc2H
          go_wp2_with fail
          go_ret
          exact ⟨rfl, hB7.out⟩
end Go.Proofs.YtbgkmppngnedlaaDoor
