/- The document's Encode of a group. -/
import Derived.Test.YtbgkmppngnedlaaDoorGpK
import Derived.Test.YtbgkmppngnedlaaDoorORef
namespace Go.Proofs.YtbgkmppngnedlaaDoor
open Go.RowKit Rec Crc Num Xor

theorem refput_fieldG (v : Int) (k : Nat) (M : Int) (hv : 0 ≤ v ∧ v ≤ M) (h1 : 1 ≤ k) (h7 : k ≤ 7) (hM : M < ((256 ^ k : Nat) : Int)) (hM2 : M ≤ 9223372036854775807) (W : World) :
    Calls Tryd.prog 19 #[.int .i64 v, .int .i64 (k : Int)] W fun e w' => ∃ t, e = .returned (.string t) ∧ TextOf t (putL v.toNat k) ∧ Below W.heap.size W w' := by
  have h := refput_any v k W (by omega)
  have e : putS v k = ⟨(putL v.toNat k).toArray⟩ := by
    unfold putS
    rw [if_pos ⟨by omega, by omega, hv.1, by rw [Int.toNat_natCast]; omega⟩, Int.toNat_natCast]
  rw [e] at h
  exact h.mono fun e w' ⟨h1, h2⟩ => ⟨_, h1, rfl, h2⟩
/-- A group's box in the document's words. -/
structure RgB (w W : World) (q : Int) (AB : Option Addr) (n cb : Nat) (AT : Option Addr) (ct : Nat) (AF : Option Addr) (nf cf : Nat) : Prop where
  x0 : W.cell? ⟨w.heap.size, 0, none⟩ = some (.int .i64 q)
  x1 : W.cell? ⟨w.heap.size, 1, none⟩ = some (.slice AB n cb)
  x2 : W.cell? ⟨w.heap.size, 2, none⟩ = some (.slice AT n ct)
  x3 : W.cell? ⟨w.heap.size, 3, none⟩ = some (.slice AF nf cf)
  b : Below w.heap.size w W
theorem RgB.below {w W W' : World} {q : Int} {AB : Option Addr} {n cb : Nat} {AT : Option Addr} {ct : Nat} {AF : Option Addr} {nf cf : Nat} (h : RgB w W q AB n cb AT ct AF nf cf) (hb : Below W.heap.size W W') : RgB w W' q AB n cb AT ct AF nf cf :=
  ⟨(hb.cell (lt_of_cell h.x0)).trans h.x0, (hb.cell (lt_of_cell h.x1)).trans h.x1, (hb.cell (lt_of_cell h.x2)).trans h.x2, (hb.cell (lt_of_cell h.x3)).trans h.x3, h.b.trans (hb.mono h.b.size)⟩
theorem fits_snoc : ∀ {t : List (Int × Bool)} {u : List ByteArray} {x : Int × Bool} {d : ByteArray}, fits t u = true → fit1 x d → fits (t ++ [x]) (u ++ [d]) = true
  | [], [], x, d, _, h => by
    show (decide (fit1 x d) && true) = true
    rw [decide_eq_true h]
    rfl
  | y :: t, e :: u, x, d, h, h1 => by
    unfold fits at h
    rw [Bool.and_eq_true] at h
    show (decide (fit1 y e) && fits (t ++ [x]) (u ++ [d])) = true
    rw [h.1, fits_snoc h.2 h1]
    rfl
theorem flatG_snoc (u : List ByteArray) (d : ByteArray) : flat (u ++ [d]) = flat u ++ d.data.toList := by
  induction u with
  | nil => show d.data.toList ++ flat [] = flat [] ++ d.data.toList; simp [flat]
  | cons e u ih => rw [List.cons_append, flat_cons, flat_cons, ih, List.append_assoc]
theorem flat_le : ∀ {t : List (Int × Bool)} {u : List ByteArray}, fits t u = true → (flat u).length ≤ 64 * t.length
  | t, u, h => by
    have h1 := flat_len h
    have h2 := (blkE_le t).2
    omega
theorem ba_empty (x : ByteArray) : x.toList.isEmpty = decide (x.size = 0) := by
  rw [ByteArray.toList_eq]
  show x.data.toList.isEmpty = decide (x.data.size = 0)
  cases h : x.data.toList with
  | nil =>
    have e : x.data.size = 0 := by rw [← Array.length_toList, h]; rfl
    rw [decide_eq_true e]; rfl
  | cons a t =>
    have e : ¬ x.data.size = 0 := by rw [← Array.length_toList, h]; simp
    rw [decide_eq_false e]; rfl
def szOfG : Value → Nat | .string s => s.size | _ => 0
theorem len1_t (b : Int) : len1 (b, true) = 0 := rfl
theorem len1_f (b : Int) : len1 (b, false) = 64 := rfl
set_option maxRecDepth 100000 in
set_option maxHeartbeats 16000000 in
theorem rencode_anyG (w : World) (q : Int) (es : List (Int × Bool)) (ds : List ByteArray) (AB : Option Addr) (cb : Nat) (AT : Option Addr) (ct : Nat) (AF : Option Addr) (cf : Nat) (hB : inE.In w AB (es.map (·.1))) (hT : boE.In w AT (es.map (·.2))) (hF : stE.In w AF ds) (hds : ∀ d ∈ ds, d.size ≤ maxLen) :
    Calls Tryd.prog 9 #[.agg #[.int .i64 q, .slice AB es.length cb, .slice AT es.length ct, .slice AF ds.length cf]] w fun e w' => e = .returned (.string (encGS ⟨q, es, ds⟩)) ∧ Below w.heap.size w w' := by
  have hIH := Lib.hid (show ∀ W, Below w.heap.size w W → inE.In W AB (es.map (·.1)) ∧ boE.In W AT (es.map (·.2)) ∧ stE.In W AF ds from fun W hb => ⟨hB.below hb, hT.below hb, hF.below hb⟩)
  have hdsH := Lib.hid hds
  have hX : Hid (RgB w (w.alloc (.cells #[.int .i64 q, .slice AB es.length cb, .slice AT es.length ct, .slice AF ds.length cf] 31)) q AB es.length cb AT ct AF ds.length cf) := Lib.hid ⟨by go_simp, by go_simp, by go_simp, by go_simp, (Below.refl _ _).alloc (Nat.le_refl _) _⟩
  obtain ⟨R, hR⟩ : ∃ R, encGS ⟨q, es, ds⟩ = R := ⟨_, rfl⟩
  have hRH := Lib.hid hR
  obtain ⟨n, hn⟩ : ∃ n, es.length = n := ⟨_, rfl⟩
  obtain ⟨nf, hnf⟩ : ∃ nf, ds.length = nf := ⟨_, rfl⟩
  rw [hR]
  rw [hn, hnf] at hX ⊢
  have hnH := Lib.hid (And.intro hn hnf)
  obtain ⟨bad, hbad⟩ : ∃ bad, decide (¬ (permOk q n ∧ nf = n)) = bad := ⟨_, rfl⟩
  have hbd := Lib.hid hbad.symm
  clear hB hT hF hds hR hn hnf hbad
  go_enter Tryd.func9, Tryd.ntmps9
  go_upto_region 1 with fail
  refine fresh_world (fun W => RgB w W q AB n cb AT ct AF nf cf) hX.out ?_
  clear hX
  rintro W1 hX1
  have hX := Lib.hid hX1
  obtain ⟨x0, x1, x2, x3, -⟩ := hX1
  go_upto_region 2 with fail
  go_cut [41] from 12 to 41 (fun c wx => c = .bool bad ∧ wx = W1)
  case first =>
    have hun : bad = true ↔ ¬ (permOk q n ∧ nf = n) := by rw [hbd.out, decide_eq_true_eq]
    unfold permOk at hun
    by_cases g1 : q < 0
    · have g1I : decide (q < 0) = true := decide_eq_true g1
      have hb : bad = true := hun.2 (by omega)
      subst hb
      clear hun hbd
      go_wp2_with fail
      go_meet
      exact ⟨rfl, rfl⟩
    have g1I : decide (q < 0) = false := decide_eq_false g1
    by_cases g2 : 1099511627776 < q
    · have g2I : decide (q > 1099511627776) = true := decide_eq_true g2
      have hb : bad = true := hun.2 (by omega)
      subst hb
      clear hun hbd
      go_wp2_with fail
      go_meet
      exact ⟨rfl, rfl⟩
    have g2I : decide (q > 1099511627776) = false := decide_eq_false g2
    by_cases g3 : n < 1
    · have g3I : decide ((n : Int) < 1) = true := decide_eq_true (by omega)
      have g3N : n = 0 := by omega
      have hb : bad = true := hun.2 (by omega)
      subst hb
      clear hun hbd
      subst g3N
      go_wp2_with fail
      go_meet
      exact ⟨rfl, rfl⟩
    have g3I : decide ((n : Int) < 1) = false := decide_eq_false (by omega)
    have g3J : ¬ (n : Int) < 1 := by omega
    by_cases g4 : 6 < n
    · have g4I : decide ((n : Int) > 6) = true := decide_eq_true (by omega)
      have g4J : (6 : Int) < (n : Int) := by omega
      have hb : bad = true := hun.2 (by omega)
      subst hb
      clear hun hbd
      go_wp2_with fail
      go_meet
      exact ⟨rfl, rfl⟩
    have g4I : decide ((n : Int) > 6) = false := decide_eq_false (by omega)
    have g4J : ¬ (6 : Int) < (n : Int) := by omega
    have g5 : ((n : Int) != (n : Int)) = false := by simp
    by_cases g6 : nf = n
    · have g6I : ((nf : Int) != (n : Int)) = false := by simp [g6]
      have hb : bad = false := by rw [hbd.out]; exact decide_eq_false (by unfold permOk; omega)
      subst hb
      clear hun hbd g6
      go_wp2_with fail
      go_meet
      exact ⟨rfl, rfl⟩
    · have g6I : ((nf : Int) != (n : Int)) = true := by simp; omega
      have hb : bad = true := hun.2 (by omega)
      subst hb
      clear hun hbd
      go_wp2_with fail
      go_meet
      exact ⟨rfl, rfl⟩
  obtain ⟨rfl, hwx⟩ := hcut
  rw [hwx]
  clear hwx
  cases bad with
  | true =>
    have hbadH : Hid (R = ⟨#[]⟩) := Lib.hid (by
      rw [← hRH.out]
      have h := of_decide_eq_true hbd.out.symm
      refine encGS_bad fun hg => h ⟨?_, ?_⟩
      · have := hg.1; rw [← hnH.out.1]; exact this
      · have := fits_len hg.2; rw [← hnH.out.1, ← hnH.out.2]; exact this)
    clear hbd
    go_wp2_with fail
    go_ret
    exact ⟨by rw [hbadH.out]; rfl, hX.out.b⟩
  | false =>
    have hgood := Classical.not_not.1 (of_decide_eq_false hbd.out.symm)
    obtain ⟨hpm, hnfn⟩ := hgood
    subst hnfn
    have hpmH := Lib.hid hpm
    unfold permOk at hpm
    have hp1 := Lib.hid (fun W => refput_fieldG q 6 1099511627776 hpm.1 (by omega) (by omega) (by decide) (by decide) W)
    have hp2 := Lib.hid (fun W => refput_fieldG (nf : Int) 1 255 (by omega) (by omega) (by omega) (by decide) (by decide) W)
    have hn6 : nf ≤ 6 := hpm.2.2
    clear hbd hpm
    go_wp2_with fail
    refine (hp1.out _).mono ?_
    rintro e w2 ⟨t1, rfl, ht1, hb2⟩
    have hX2 := Lib.hid (hX.out.below hb2)
    have s1 : t1.size = 6 := by rw [ht1.size, putL_length]
    have s1a : ¬ 9223372036854775807 < 2 + t1.size := by omega
    have s1H := Lib.hid s1
    have ht1H := Lib.hid ht1
    clear hb2 hX x0 x1 x2 x3 hp1 s1 ht1
    go_wp2_with fail
    obtain ⟨h1, hh1⟩ : ∃ h1, (⟨#[67, 71]⟩ : ByteArray) ++ t1 = h1 := ⟨_, rfl⟩
    rw [hh1]
    have hh1T : Hid (TextOf h1 ([67, 71] ++ putL q.toNat 6)) := Lib.hid (by
      have h0 : TextOf ⟨#[67, 71]⟩ [67, 71] := rfl
      rw [← hh1]
      exact h0.append ht1H.out)
    have hh1s : Hid (h1.size = 8) := Lib.hid (by rw [hh1T.out.size, List.length_append, putL_length]; rfl)
    clear hh1 ht1H s1a s1H
    refine (hp2.out _).mono ?_
    rintro e w3 ⟨t2, rfl, ht2, hb3⟩
    have hX3 := Lib.hid (hX2.out.below hb3)
    have s2 : t2.size = 1 := by rw [ht2.size, putL_length]
    have s2a : ¬ 9223372036854775807 < h1.size + t2.size := by rw [hh1s.out, s2]; decide
    have hh0 : Hid (TextOf (h1 ++ t2) ([67, 71] ++ putL q.toNat 6 ++ putL nf 1 ++ numsL (es.take 0))) := Lib.hid (by
      rw [List.take_zero, numsL_nil, List.append_nil]
      have h2 : TextOf t2 (putL nf 1) := by have := ht2; rwa [Int.toNat_natCast] at this
      exact hh1T.out.append h2)
    have hd0 : Hid (TextOf ⟨#[]⟩ (flat (ds.take 0))) := Lib.hid rfl
    have hf0 : Hid (fits (es.take 0) (ds.take 0) = true) := Lib.hid rfl
    clear hb3 hX2 hp2 ht2 s2
    go_upto_region 5 with fail
    clear s2a
    obtain ⟨hd, hhd⟩ : ∃ hd, h1 ++ t2 = hd := ⟨_, rfl⟩
    rw [hhd] at hh0 ⊢
    clear hhd hh1T hh1s
    go_wp2_with fail
    go_loopw [4, 5, 6] (fun hv dv iv wr => ∃ (k : Nat) (h d : ByteArray), k ≤ nf ∧ iv = .int .i64 (k : Int) ∧ hv = .string h ∧ dv = .string d ∧ Hid (TextOf h ([67, 71] ++ putL q.toNat 6 ++ putL nf 1 ++ numsL (es.take k))) ∧ Hid (TextOf d (flat (ds.take k))) ∧ Hid (fits (es.take k) (ds.take k) = true) ∧ Hid (RgB w wr q AB nf cb AT ct AF nf cf)) (fun _ _ iv _ => nf - (Go.RowKit.intOf iv).toNat)
    case atStart => exact ⟨0, hd, ⟨#[]⟩, Nat.zero_le _, rfl, rfl, rfl, hh0, hd0, hf0, hX3⟩
    case round =>
      clear hh0 hd0 hf0 hX3
      obtain ⟨k, h, d, hkn, rfl, rfl, rfl, hh, hd, hf, hX⟩ := hrel
      have hhs : Hid (h.size = 9 + 4 * k) := Lib.hid (by
        rw [hh.out.size]
        simp only [List.length_append, putL_length, numsL_len, List.length_take, hnH.out.1]
        rw [Nat.min_eq_left hkn]
        show 2 + 6 + 1 + 4 * k = _
        omega)
      have hdz : Hid (d.size ≤ 64 * k) := Lib.hid (by
        rw [hd.out.size]
        have := flat_le hf.out
        rw [List.length_take, hnH.out.1, Nat.min_eq_left hkn] at this
        exact this)
      by_cases hlt : k < nf
      case pos =>
        have hkI : (k : Int) < (nf : Int) := by omega
        have hkw : IntKind.i64.wrap ((k : Int) + 1) = (k : Int) + 1 := IntWalk.i64_in _ (by omega)
        have hke : k < es.length := by rw [hnH.out.1]; exact hlt
        have hkd : k < ds.length := by rw [hnH.out.2]; exact hlt
        obtain ⟨b1, o1, rfl, -, y1⟩ := one_at rfl (hIH.out wr hX.out.b).1 (i := k) (by rw [List.length_map]; exact hke)
        obtain ⟨b2, o2, rfl, -, y2⟩ := one_at rfl (hIH.out wr hX.out.b).2.1 (i := k) (by rw [List.length_map]; exact hke)
        obtain ⟨b3, o3, rfl, -, y3⟩ := st_at (hIH.out wr hX.out.b).2.2 hkd
        rw [List.getElem_map] at y1 y2
        replace y1 : wr.cell? ⟨b1, o1 + k, none⟩ = some (.int .i64 es[k].1) := y1
        replace y2 : wr.cell? ⟨b2, o2 + k, none⟩ = some (.bool es[k].2) := y2
        obtain ⟨x0, x1, x2, x3, -⟩ := hX.out
        have hbadk : Hid (¬ fit1 es[k] ds[k] → R = ⟨#[]⟩) := Lib.hid (fun hnf => by
          rw [← hRH.out]
          exact encGS_bad fun hg => hnf (fits_at hg.2 k hke hkd))
        have hnx : Hid (fit1 es[k] ds[k] → fits (es.take (k + 1)) (ds.take (k + 1)) = true) := Lib.hid (fun h1 => by
          rw [List.take_succ_eq_append_getElem hke, List.take_succ_eq_append_getElem hkd]
          exact fits_snoc hf.out h1)
        have hnm : Hid (numsL (es.take (k + 1)) = numsL (es.take k) ++ putL (num1 es[k]).toNat 4) := Lib.hid (by rw [List.take_succ_eq_append_getElem hke, numsL_snoc])
        have hfl : Hid (flat (ds.take (k + 1)) = flat (ds.take k) ++ ds[k].data.toList) := Lib.hid (by rw [List.take_succ_eq_append_getElem hkd, flatG_snoc])
        have hdm : Hid (ds[k].size ≤ maxLen) := Lib.hid (hdsH.out _ (List.getElem_mem hkd))
        generalize ds[k] = x at y3 hbadk hnx hfl hdm
        obtain ⟨⟨bk, tk⟩, he⟩ : ∃ p, es[k] = p := ⟨_, rfl⟩
        rw [he] at y1 y2 hbadk hnx hnm
        dsimp only at y1 y2
        unfold fit1 at hbadk hnx
        dsimp only at hbadk hnx
        clear he hke hkd
        by_cases g1 : bk < 0
        case pos =>
          have g1I : decide (bk < 0) = true := decide_eq_true g1
          have hbadH : Hid (R = ⟨#[]⟩) := Lib.hid (hbadk.out (by omega))
          clear hbadk hnx hnm hfl
          go_wp2_with fail
          go_ret
          exact ⟨by rw [hbadH.out]; rfl, hX.out.b⟩
        case neg =>
          have g1I : decide (bk < 0) = false := decide_eq_false g1
          by_cases g2 : 2147483647 < bk
          case pos =>
            have g2I : decide (bk > 2147483647) = true := decide_eq_true g2
            have hbadH : Hid (R = ⟨#[]⟩) := Lib.hid (hbadk.out (by omega))
            clear hbadk hnx hnm hfl
            go_wp2_with fail
            go_ret
            exact ⟨by rw [hbadH.out]; rfl, hX.out.b⟩
          case neg =>
            have g2I : decide (bk > 2147483647) = false := decide_eq_false g2
            have hbw : IntKind.i64.wrap (bk + 2147483648) = bk + 2147483648 := IntWalk.i64_in _ (by omega)
            obtain ⟨nm, hnme⟩ : ∃ nm, num1 (bk, tk) = nm := ⟨_, rfl⟩
            have hnmb : 0 ≤ nm ∧ nm ≤ 4294967295 := by rw [← hnme]; unfold num1; split <;> (dsimp only; omega)
            have hput := Lib.hid (fun W => refput_fieldG nm 4 4294967295 hnmb (by omega) (by omega) (by decide) (by decide) W)
            rw [hnme] at hnm
            unfold num1 at hnme
            dsimp only at hnme
            clear hnmb
            cases tk with
            | true =>
              rw [if_pos rfl] at hnme
              rw [len1_t] at hbadk hnx
              replace hbw := hbw.trans hnme
              by_cases gx : x.size = 0
              case neg =>
                have hbadH : Hid (R = ⟨#[]⟩) := Lib.hid (hbadk.out (by omega))
                have gxI : x.toList.isEmpty = false := by rw [ba_empty]; simp [gx]
                clear hbadk hnx hnm hfl hnme
                go_wp2_with fail
                go_ret
                exact ⟨by rw [hbadH.out]; rfl, hX.out.b⟩
              case pos =>
                have hfit := Lib.hid (hnx.out ⟨by omega, by omega⟩)
                have gxI : x.toList.isEmpty = true := by rw [ba_empty]; simp [gx]
                have gxH := Lib.hid (show x.size ≤ 64 by omega)
                clear hbadk hnx hnme gx
                go_wp2_with fail
                refine (hput.out _).mono ?_
                rintro e w5 ⟨t4, rfl, ht4, hb5⟩
                have hX5 := Lib.hid (hX.out.below hb5)
                have z3 := (hb5.cell (lt_of_cell y3)).trans y3
                have s4 : t4.size = 4 := by rw [ht4.size, putL_length]
                have s4a : ¬ 9223372036854775807 < h.size + t4.size := by have := hhs.out; omega
                have s4b : ¬ 9223372036854775807 < d.size + x.size := by have := hdz.out; have := gxH.out; omega
                have hh2 : Hid (TextOf (h ++ t4) ([67, 71] ++ putL q.toNat 6 ++ putL nf 1 ++ numsL (es.take (k + 1)))) := Lib.hid (by
                  rw [hnm.out, ← List.append_assoc]
                  exact hh.out.append ht4)
                have hd2 : Hid (TextOf (d ++ x) (flat (ds.take (k + 1)))) := Lib.hid (by
                  rw [hfl.out]
                  have h1 : TextOf x x.data.toList := rfl
                  exact hd.out.append h1)
                clear hput ht4 hb5 hX x0 x1 x2 x3 y1 y2 y3 hnm hfl hf hh hd s4
                obtain ⟨x0, x1, x2, x3, -⟩ := hX5.out
                go_wp2_with fail
                go_roundw
                case rel => exact ⟨k + 1, h ++ t4, d ++ x, hlt, by go_num, rfl, rfl, hh2, hd2, hfit, hX5⟩
                case measure => simp only [Go.RowKit.intOf]; omega
            | false =>
              rw [if_neg (by simp)] at hnme
              rw [len1_f] at hbadk hnx
              subst hnme
              by_cases gx : x.size = 64
              case neg =>
                have hbadH : Hid (R = ⟨#[]⟩) := Lib.hid (hbadk.out (by omega))
                have gxI : ((x.size : Int) != 64) = true := by simp; omega
                clear hbadk hnx hnm hfl
                go_wp2_with fail
                go_ret
                exact ⟨by rw [hbadH.out]; rfl, hX.out.b⟩
              case pos =>
                have hfit := Lib.hid (hnx.out ⟨by omega, by omega⟩)
                have gxI : ((x.size : Int) != 64) = false := by simp; omega
                have gxH := Lib.hid (show x.size ≤ 64 by omega)
                clear hbadk hnx gx
                go_wp2_with fail
                refine (hput.out _).mono ?_
                rintro e w5 ⟨t4, rfl, ht4, hb5⟩
                have hX5 := Lib.hid (hX.out.below hb5)
                have z3 := (hb5.cell (lt_of_cell y3)).trans y3
                have s4 : t4.size = 4 := by rw [ht4.size, putL_length]
                have s4a : ¬ 9223372036854775807 < h.size + t4.size := by have := hhs.out; omega
                have s4b : ¬ 9223372036854775807 < d.size + x.size := by have := hdz.out; have := gxH.out; omega
                have hh2 : Hid (TextOf (h ++ t4) ([67, 71] ++ putL q.toNat 6 ++ putL nf 1 ++ numsL (es.take (k + 1)))) := Lib.hid (by
                  rw [hnm.out, ← List.append_assoc]
                  exact hh.out.append ht4)
                have hd2 : Hid (TextOf (d ++ x) (flat (ds.take (k + 1)))) := Lib.hid (by
                  rw [hfl.out]
                  have h1 : TextOf x x.data.toList := rfl
                  exact hd.out.append h1)
                clear hput ht4 hb5 hX x0 x1 x2 x3 y1 y2 y3 hnm hfl hf hh hd s4
                obtain ⟨x0, x1, x2, x3, -⟩ := hX5.out
                go_wp2_with fail
                go_roundw
                case rel => exact ⟨k + 1, h ++ t4, d ++ x, hlt, by go_num, rfl, rfl, hh2, hd2, hfit, hX5⟩
                case measure => simp only [Go.RowKit.intOf]; omega
      case neg =>
        have hke : k = nf := by omega
        subst hke
        have hkI : ¬ (k : Int) < (k : Int) := by omega
        rw [List.take_of_length_le (by rw [hnH.out.1]; exact Nat.le_refl _)] at hh hf
        rw [List.take_of_length_le (by rw [hnH.out.2]; exact Nat.le_refl _)] at hd hf
        have hgG : GoodG ⟨q, es, ds⟩ := ⟨by show permOk q es.length; rw [hnH.out.1]; exact hpmH.out, hf.out⟩
        have hRe : Hid (R = ⟨(encG ⟨q, es, ds⟩).toArray⟩) := Lib.hid (by rw [← hRH.out]; exact encGS_good hgG)
        have hhG : Hid (TextOf h (headG ⟨q, es, ds⟩)) := Lib.hid (by
          unfold headG
          dsimp only
          rw [hnH.out.1]
          exact hh.out)
        have hdG : Hid (TextOf d (dataG ⟨q, es, ds⟩)) := hd
        have hll : Hid ((headG ⟨q, es, ds⟩ ++ sumB (headG ⟨q, es, ds⟩ ++ dataG ⟨q, es, ds⟩)).length = 13 + 4 * k) := Lib.hid (by rw [List.length_append, headG_len, sumB_len, hnH.out.1]; omega)
        have henc : Hid (encG ⟨q, es, ds⟩ = headG ⟨q, es, ds⟩ ++ sumB (headG ⟨q, es, ds⟩ ++ dataG ⟨q, es, ds⟩) ++ List.replicate (51 - 4 * k) 0 ++ dataG ⟨q, es, ds⟩) := Lib.hid (by unfold encG; rw [hnH.out.1])
        generalize encG ⟨q, es, ds⟩ = EL at hRe henc
        generalize headG ⟨q, es, ds⟩ = HL at hhG hll henc
        generalize dataG ⟨q, es, ds⟩ = DL at hdG hll henc
        have hsum := Lib.hid (fun W => ref_any (h ++ d) W (by unfold maxLen; rw [ByteArray.size_append]; have := hhs.out; have := hdz.out; omega))
        have hhd : (h ++ d).data.toList = HL ++ DL := hhG.out.append hdG.out
        rw [hhd] at hsum
        clear hhd
        have hlt2 := (sumW (HL ++ DL)).isLt
        have hput := Lib.hid (fun W => refput_fieldG ((sumW (HL ++ DL)).toNat : Int) 4 4294967295 (by omega) (by omega) (by omega) (by decide) (by decide) W)
        rw [Int.toNat_natCast] at hput
        rw [show putL (sumW (HL ++ DL)).toNat 4 = sumB (HL ++ DL) from rfl] at hput
        unfold sumI at hsum
        generalize (sumW (HL ++ DL)).toNat = sm at hsum hput hlt2
        have hcz : IntKind.i64.wrap (sm : Int) = (sm : Int) := IntWalk.i64_in _ (by omega)
        have q1 : ¬ 9223372036854775807 < h.size + d.size := by have := hhs.out; have := hdz.out; omega
        clear hgG hh hd hf hlt2
        go_wp2_with fail
        refine (hsum.out _).mono ?_
        rintro e w5 ⟨rfl, rfl⟩
        clear q1
        go_wp2_with fail
        refine (hput.out _).mono ?_
        rintro e w6 ⟨cx, rfl, hct, hb6⟩
        have hX6 := Lib.hid (hX.out.below hb6)
        have hcs : cx.size = 4 := by rw [hct.size, sumB_len]
        have q2 : ¬ 9223372036854775807 < h.size + cx.size := by have := hhs.out; omega
        have hth2 : Hid (TextOf (h ++ cx) (HL ++ sumB (HL ++ DL) ++ List.replicate 0 0)) := Lib.hid (by rw [List.replicate_zero, List.append_nil]; exact hhG.out.append hct)
        clear hput hsum hct hcs hb6 hX hhG hhs
        go_upto_region 20 with fail
        clear q2
        obtain ⟨h2, hh2⟩ : ∃ h2, h ++ cx = h2 := ⟨_, rfl⟩
        rw [hh2] at hth2 ⊢
        clear hh2
        go_wp2_with fail
        go_loopw [4] (fun st wr => ∃ (j : Nat) (t : ByteArray), j ≤ 51 - 4 * k ∧ st = .string t ∧ Hid (TextOf t (HL ++ sumB (HL ++ DL) ++ List.replicate j 0)) ∧ Hid (RgB w wr q AB k cb AT ct AF k cf)) (fun st _ => 64 - szOfG st)
        case atStart => exact ⟨0, h2, Nat.zero_le _, rfl, hth2, hX6⟩
        case round =>
          clear hth2 hX6
          obtain ⟨j, t, hj, rfl, htt, hX⟩ := hrel
          have hts := Lib.hid htt.out.size
          rw [List.length_append, hll.out, List.length_replicate] at hts
          by_cases hjl : j < 51 - 4 * k
          case pos =>
            have h64 : (t.size : Int) < 64 := by have := hts.out; omega
            have q3 : ¬ 9223372036854775807 < t.size + 1 := by have := hts.out; omega
            have hnx : Hid (TextOf (t ++ ⟨#[0]⟩) (HL ++ sumB (HL ++ DL) ++ List.replicate (j + 1) 0)) := Lib.hid (by
              have h0 : TextOf ⟨#[0]⟩ [0] := rfl
              rw [List.replicate_succ', ← List.append_assoc]
              exact htt.out.append h0)
            have hms := Lib.hid (show 64 - (t ++ ⟨#[0]⟩).size < 64 - t.size by rw [ByteArray.size_append]; show 64 - (t.size + 1) < _; omega)
            go_wp2_with fail
            go_roundw
            case rel => exact ⟨j + 1, _, by omega, rfl, hnx, hX⟩
            case measure => exact hms.out
          case neg =>
            have h64 : ¬ (t.size : Int) < 64 := by have := hts.out; omega
            have q3 : ¬ 9223372036854775807 < t.size + d.size := by have := hts.out; have := hdz.out; omega
            have hfin : Hid (t ++ d = R) := Lib.hid (by
              have h2 := htt.out.append hdG.out
              rw [show j = 51 - 4 * k by omega, ← henc.out] at h2
              rw [hRe.out]
              exact h2.eq)
            clear hts hjl
            go_wp2_with fail
            go_ret
            exact ⟨by rw [← hfin.out]; rfl, hX.out.b⟩
end Go.Proofs.YtbgkmppngnedlaaDoor
