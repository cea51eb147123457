/- What the law DriveKeeps does. -/
import Derived.Test.YtncbkegflkjlfaaDrvRdW
import Derived.Test.YtncbkegflkjlfaaDRows
namespace Go.Proofs.Ytncbkegflkjlfaa
open Go.RowKit Zon Drv

/-- The state of the loop: so many blocks, of which so many last. -/
structure Kp (w W : World) (d : Nat) (l n : Nat) (S : ByteArray) : Prop where
  sz : S.size = 64 * l
  nl : n ≤ l
  at_ : ∃ s : Int, ((s = 0 ∧ (l : Int) = 0) ∨ s = 1 ∨ s = 3) ∧ Own w W d (zD 0 200 1 1 s l S.data.toList n) ∧ (zD 0 200 1 1 s l S.data.toList n).Ok
theorem Kp.b {w W : World} {d l n : Nat} {S : ByteArray} (h : Kp w W d l n S) : Below w.heap.size w W := by
  obtain ⟨_, _, s, _, h, _⟩ := h
  exact h.b
theorem Kp.below {w W W' : World} {d l n : Nat} {S : ByteArray} (h : Kp w W d l n S) (hb : Below W.heap.size W W') : Kp w W' d l n S := by
  obtain ⟨h1, h2, s, h3, h4, h5⟩ := h
  exact ⟨h1, h2, s, h3, h4.below hb, h5⟩
theorem kp_append {w W : World} {d l n : Nat} {S : ByteArray} (h : Kp w W d l n S) (m : Nat) (T : ByteArray) (hT : T.size = 64 * (1 + m)) (hm : m < 4) (hl : l ≤ 156) :
    Calls Try.prog 21 #[.pointer (some ⟨d, 0, none⟩), .agg #[.int .i64 2, .int .i64 0, .int .i64 0, .int .i64 (1 + (m : Int))], .string T] W fun e w' => e = .returned (.tuple #[.string ⟨#[]⟩, .int .i64 (l : Int), .int .i64 0]) ∧ Kp w w' d (l + (1 + m)) n (S ++ T) := by
  obtain ⟨h1, h2, s, h3, h4, h5⟩ := h
  have hd : (T.data.toList.length : Int) = 64 * (1 + (m : Int)) := by rw [show T.data.toList.length = T.size from rfl]; omega
  have hap := doD_append 0 200 1 1 s l (1 + (m : Int)) S.data.toList n T.data.toList (by omega) (by decide) (by decide) (by omega) (by omega) (by omega) hd
  have hok := doD_ok h5 2 0 0 (1 + (m : Int)) T.data.toList
  rw [hap] at hok
  have hc := own_do W d _ 2 0 0 (1 + (m : Int)) T h4 h5 (by decide) (by omega)
  rw [hap] at hc
  refine hc.mono ?_
  rintro e w1 ⟨h6, h7⟩
  have eD : (S ++ T).data.toList = S.data.toList ++ T.data.toList := by rw [ByteArray.data_append, Array.toList_append]
  have el : ((l + (1 + m) : Nat) : Int) = (l : Int) + (1 + (m : Int)) := by omega
  refine ⟨h6, by rw [ByteArray.size_append]; omega, by omega, 1, .inr (.inl rfl), ?_, ?_⟩
  · rw [eD, el]; exact h7
  · rw [eD, el]; exact hok
theorem kp_flush {w W : World} {d l n : Nat} {S : ByteArray} (h : Kp w W d l n S) :
    Calls Try.prog 15 #[.pointer (some ⟨d, 0, none⟩)] W fun e w' => e = .returned (.int .i64 0) ∧ Kp w w' d l l S := by
  obtain ⟨h1, h2, s, h3, h4, h5⟩ := h
  have hq : S.data.toList.length / 64 = l := by rw [show S.data.toList.length = S.size from rfl]; omega
  have hok := flushD_ok h5
  rw [flush_z, hq] at hok
  have hc := own_flush W d _ h4 h5
  rw [flush_z, hq] at hc
  refine hc.mono ?_
  rintro e w1 ⟨h6, h7⟩
  exact ⟨h6, h1, Nat.le_refl _, s, h3, h7, hok⟩
theorem kp_lose {w W1 W : World} {d l n : Nat} {S : ByteArray} (h : Kp w W1 d l n S) (hb : Below W1.heap.size W1 W) (A : Option Addr) (cap : Nat) (ks : List Int) (hI : IntsIn W A ks) (hA : ks ≠ [] → ∀ b off, A = some ⟨b, off, none⟩ → b < w.heap.size ∨ W1.heap.size ≤ b) (hk : ∀ x ∈ ks, Rng x) (hl : ks.length ≤ maxLen) :
    Calls Try.prog 17 #[.pointer (some ⟨d, 0, none⟩), .slice A ks.length cap] W fun e w' => e = .returned (.tuple #[]) ∧ ∃ r : Nat, n ≤ r ∧ r ≤ l ∧ Kp w w' d r r (S.extract 0 (64 * r)) := by
  obtain ⟨h1, h2, s, h3, h4, h5⟩ := h
  have hcl : (S.data.toList.length : Int) = 64 * (l : Int) := by rw [show S.data.toList.length = S.size from rfl]; omega
  obtain ⟨r, _, hr1, hr2, hr3⟩ := lose_z 200 1 1 s l S.data.toList n ks h3 hcl (by omega)
  have hok := loseD_ok h5 ks
  rw [hr3] at hok
  have hc := own_lose W1 W d _ A cap ks h4 hb h5 hI hA hk hl
  rw [hr3] at hc
  refine hc.mono ?_
  rintro e w1 ⟨h6, h7⟩
  have eD : (S.extract 0 (64 * r)).data.toList = S.data.toList.take (64 * r) := by rw [ByteArray.data_extract, Array.toList_extract, List.extract_eq_take_drop]; simp
  refine ⟨h6, r, hr1, by omega, by rw [ByteArray.size_extract]; omega, Nat.le_refl _, _, ?_, by rw [eD]; exact h7, by rw [eD]; exact hok⟩
  by_cases h0 : (r : Int) = 0
  · rw [if_pos h0]; exact .inl ⟨rfl, h0⟩
  · rw [if_neg h0]; exact .inr (.inr rfl)
theorem kp_zone {w W : World} {d l n : Nat} {S : ByteArray} (h : Kp w W d l n S) :
    Calls Try.prog 24 #[.pointer (some ⟨d, 0, none⟩), .int .i64 0] W fun e w' => ∃ s : Int, e = .returned (.tuple #[.agg #[.int .i64 s, .int .i64 (l : Int)], .bool true]) ∧ Below W.heap.size W w' := by
  obtain ⟨h1, h2, s, h3, h4, h5⟩ := h
  refine (own_zone W d _ 0 h4).mono ?_
  rintro e w1 ⟨h6, h7⟩
  exact ⟨s, h6, h7⟩
theorem kp_lasts {w W : World} {d l n : Nat} {S : ByteArray} (h : Kp w W d l n S) :
    Calls Try.prog 25 #[.pointer (some ⟨d, 0, none⟩), .int .i64 0] W fun e w' => e = .returned (.int .i64 (n : Int)) ∧ W = w' := by
  obtain ⟨h1, h2, s, h3, h4, h5⟩ := h
  exact own_lasts W d _ 0 h4
/-- All is read, where there is something. -/
theorem kp_read {w W : World} {d l n : Nat} {S : ByteArray} (h : Kp w W d l n S) :
    Calls Try.prog 21 #[.pointer (some ⟨d, 0, none⟩), .agg #[.int .i64 7, .int .i64 0, .int .i64 0, .int .i64 (if l = 0 then 1 else (l : Int))], .string ⟨#[]⟩] W fun e w' =>
      ∃ er : Int, (l ≠ 0 → er = 0) ∧ e = .returned (.tuple #[.string (if l = 0 then ⟨#[]⟩ else S), .int .i64 0, .int .i64 er]) ∧ Kp w w' d l n S := by
  obtain ⟨h1, h2, s, h3, h4, h5⟩ := h
  have hcl : (S.data.toList.length : Int) = 64 * (l : Int) := by rw [show S.data.toList.length = S.size from rfl]; omega
  by_cases h0 : l = 0
  · rw [if_pos h0]
    have hc := own_do W d _ 7 0 0 1 ByteArray.empty h4 h5 (by decide) (by decide)
    rw [show ByteArray.empty.data.toList = [] from rfl, doD_read, if_neg (show ¬ withinB 0 1 (l : Int) = true from fun h => by have := Zon.within_iff.1 h; omega)] at hc
    refine hc.mono ?_
    rintro e w1 ⟨h6, h7⟩
    exact ⟨2, fun h => absurd h0 h, by rw [if_pos h0]; exact h6, h1, h2, s, h3, h7, h5⟩
  · rw [if_neg h0]
    have hc := own_do W d _ 7 0 0 (l : Int) ByteArray.empty h4 h5 (by decide) (by decide)
    rw [show ByteArray.empty.data.toList = [] from rfl, doD_read, if_pos (show withinB 0 (l : Int) (l : Int) = true from Zon.within_iff.2 (by omega)), cut_all _ _ hcl] at hc
    refine hc.mono ?_
    rintro e w1 ⟨h6, h7⟩
    exact ⟨0, fun _ => rfl, by rw [if_neg h0]; exact h6, h1, h2, s, h3, h7, h5⟩

set_option maxRecDepth 100000 in
set_option maxHeartbeats 4000000 in
theorem drvkeeps_law (A A2 : Option Addr) (cap cap2 : Nat) (cs : List DA) (rs : List IRow) (w : World) (hI : DActsIn w A cs) (hl : cs.length ≤ maxLen) (hR : RowsIn w A2 rs) (hRk : ∀ x ∈ rs, ∀ z ∈ x.zs, Rng z) :
    Calls Try.prog 4 #[.slice A cs.length cap, .slice A2 rs.length cap2] w fun e w' => e = .returned (.bool true) ∧ Below w.heap.size w w' := by
  unfold maxLen at hl
  have hIH := Lib.hid hI
  have hRH := Lib.hid hR
  have hRkH := Lib.hid hRk
  clear hI hR hRk
  have hnew := Lib.hid (fun W (hb : Below w.heap.size w W) => own_new W 1 200 1 1 hb (by decide))
  rw [show newD 1 200 1 1 = zD 0 200 1 1 0 0 [] 0 from newD_zD 0 200 1 1] at hnew
  have ok0 : (zD 0 200 1 1 0 0 [] 0).Ok := newD_ok (show newOk 1 200 1 1 = true by decide)
  go_enter Try.func4, Try.ntmps4
  go_wp2_with fail
  refine (speaks7 _).mono ?_
  rintro e w1 ⟨rfl, hB1⟩
  go_wp2_with fail
  refine (hnew.out _ hB1).mono ?_
  rintro e w2 ⟨d, rfl, hD2, _⟩
  have hK2 : Kp w w2 d 0 0 ⟨#[]⟩ := ⟨rfl, Nat.le_refl _, 0, .inl ⟨rfl, rfl⟩, hD2, ok0⟩
  clear hB1 hnew hD2 ok0
  go_wp2_with fail
  go_loopw [7, 8, 9] (fun al su i wr => ∃ (k l n : Nat) (S : ByteArray) (q : Int), k ≤ cs.length ∧ k ≤ 40 ∧ i = .int .i64 (k : Int) ∧ al = .string S ∧ su = .int .i64 q ∧ q = ((64 * n : Nat) : Int) ∧ l ≤ 4 * k ∧ Kp w wr d l n S) (fun _ _ i _ => cs.length - (intOf i).toNat)
  case atStart => exact ⟨0, 0, 0, ⟨#[]⟩, 0, by omega, by omega, rfl, rfl, rfl, rfl, by omega, hK2⟩
  case round =>
    clear hK2
    obtain ⟨k, l, n, S, q, hk, hk2, rfl, rfl, rfl, hq, hl4, hK⟩ := hrel
    have hqH := Lib.hid hq
    clear hq
    by_cases hrun : k < cs.length ∧ k < 40
    · obtain ⟨hlt, hlt2⟩ := hrun
      obtain ⟨b, off, rfl, hltb, hAt, _⟩ := hIH.out.at_ hlt
      generalize cs[k] = c at hAt
      have hAtW := Lib.hid (fun W (hb : Below w.heap.size w W) => (⟨hAt.below hb hltb, Nat.lt_of_lt_of_le hltb hb.size⟩ : DA.At W b (off + k * 7) c ∧ b < W.heap.size))
      obtain ⟨m, hm, hmask⟩ := act_two c
      obtain ⟨mz, _, hmz⟩ := mask_nat2 c.q 2 3 rfl (by omega)
      obtain ⟨mr, _, hmr⟩ := mask_nat2 c.r 2 3 rfl (by omega)
      have hmz' : bits .and .i64 c.q 3 = (mz : Int) := hmz
      have hmr' : bits .and .i64 c.r 3 = (mr : Int) := hmr
      obtain ⟨⟨c0, c1, c2, c3, c4, c5, c6⟩, hltb2⟩ := hAtW.out wr hK.b
      have htx := Lib.hid (fun W => text_two 2 c.q c.r (1 + (m : Int)) 0 c.u (k : Int) (.slice c.ks.A c.ks.zs.length c.ks.cap) W rfl (by omega) (by omega))
      rw [textN_two _ (by omega) (by omega)] at htx
      have hS := hK.sz
      have hKH := Lib.hid hK
      have hSH := Lib.hid hS
      clear hK hAt hS hmz hmr
      go_wp2_with fail
      refine (htx.out _).mono ?_
      rintro e w4 ⟨T, hT0, rfl, hb4⟩
      have hT : T.size = 64 * (1 + m) := by omega
      have hK4 := (hKH.out.below ((Below.refl _ _).alloc (Nat.le_refl _) (.cells #[.int .i64 2, .int .i64 c.q, .int .i64 c.r, .int .i64 (1 + (m : Int)), .int .i64 0, .int .u8 c.u, .slice c.ks.A c.ks.zs.length c.ks.cap] 33))).below hb4
      have x3 : w4.cell? ⟨wr.heap.size, 3, none⟩ = some (.int .i64 (1 + (m : Int))) := (hb4.cell (p := ⟨wr.heap.size, 3, none⟩) (by simp)).trans (by go_simp)
      have hap := Lib.hid (kp_append hK4 m T hT hm (by omega))
      clear hb4 htx hKH c0 c1 c2 c3 c4 c5 c6 hT0 hK4 hmask
      have hcat : ¬ 9223372036854775807 < S.size + T.size := by have := hSH.out; omega
      have hTH := Lib.hid hT
      clear hT
      go_wp2_with fail
      refine hap.out.mono ?_
      rintro e w5 ⟨rfl, hK5⟩
      clear hap x3
      have hlen : (l : Int) * 64 = (S.size : Int) := by have := hSH.out; omega
      have hln : l + (1 + m) ≤ 4 * (k + 1) := by omega
      obtain ⟨⟨c0, c1, c2, c3, c4, c5, c6⟩, hltb2⟩ := hAtW.out w5 hK5.b
      have hUs : (S ++ T).size = 64 * (l + (1 + m)) := by have := hSH.out; have := hTH.out; rw [ByteArray.size_append]; omega
      have hUsH := Lib.hid hUs
      have hK5H := Lib.hid hK5
      clear c0 c3 c4 c5 c6 hUs hK5
      go_upto_region 16 with fail
      generalize S ++ T = U at hK5H hUsH ⊢
      by_cases hz0 : mz = 0
      · subst hz0
        go_wp2_with fail
        refine (kp_flush hK5H.out).mono ?_
        rintro e w6 ⟨rfl, hK6⟩
        obtain ⟨⟨_, _, c2, _, _, _, _⟩, hltb2⟩ := hAtW.out w6 hK6.b
        have hUlen : (U.size : Int) = ((64 * (l + (1 + m)) : Nat) : Int) := by have := hUsH.out; omega
        have hUlenH := Lib.hid hUlen
        have hKc := hK6
        clear hK6 hK5H c1 hUlen
        by_cases hkr : k < rs.length
        · by_cases hr0 : mr = 0
          · subst hr0
            obtain ⟨rb, roff, rfl, hltr, rc, hIn⟩ := hRH.out.at_ hkr
            have hRz := hRkH.out _ (List.getElem_mem hkr)
            generalize rs[k] = row at rc hIn hRz
            obtain ⟨Ar, capr, ls⟩ := row
            obtain ⟨hIr, hlr, hnr⟩ := hIn
            simp only at rc hIr hlr hnr hRz
            have rcx := (hKc.b.cell (p := ⟨rb, roff + k, none⟩) hltr).trans rc
            have hrlt := Nat.lt_of_lt_of_le hltr hKc.b.size
            obtain ⟨Ac, capc, wc, hrun, hIc, hbc, hAc⟩ := copy_ints w6 Ar capr ls (hIr.below hKc.b) hnr hlr
            have hlo := Lib.hid (kp_lose hKc hbc Ac capc ls hIc (fun h0 b off e => .inr (hAc h0 b off e)) hRz (by unfold maxLen; omega))
            have hrunH := Lib.hid hrun
            clear hrun hIc hbc hAc hIr rc hRz hlr hnr hKc
            go_wp2_with (at_builtin; refine append_run_wp rfl _ _ _ rfl rfl rfl hrunH.out ?_)
            refine hlo.out.mono ?_
            rintro e w7 ⟨rfl, r, hr1, hr2, hK7⟩
            have hzo := Lib.hid (kp_zone hK7)
            have hV : (U.extract 0 (64 * r)).size = 64 * r := by have := hUsH.out; rw [ByteArray.size_extract]; omega
            have hVH := Lib.hid hV
            have hK7H := Lib.hid hK7
            clear hlo hrunH rcx hrlt hV hK7
            go_wp2_with fail
            refine hzo.out.mono ?_
            rintro e w8 ⟨s8, rfl, hb8⟩
            have hK8 := hK7H.out.below hb8
            have hK8H := Lib.hid hK8
            clear hzo hb8 hK8 hK7H
            go_wp2_with fail
            obtain ⟨E6, hE6⟩ : ∃ x, x = 64 * r := ⟨_, rfl⟩
            have hw1 : IntKind.i64.wrap ((r : Int) * 64) = (r : Int) * 64 := IntWalk.i64_in _ (by omega)
            have he1 := Lib.hid (show (r : Int) * 64 = (E6 : Int) by omega)
            have hEU : E6 ≤ U.size := by have := hUsH.out; omega
            have hg1 : decide ((r : Int) * 64 < (U.size : Int)) = false := decide_eq_false (by have := hUsH.out; omega)
            have hg2 : decide ((U.size : Int) < (r : Int) * 64) = false := decide_eq_false (by have := hUsH.out; omega)
            rw [← hE6] at hK8H hVH
            have hE6H := Lib.hid hE6
            clear hE6
            have hla := Lib.hid (fun j => kp_lasts ((hK8H.out.below ((Below.refl _ _).alloc (Nat.le_refl _) (.cells #[.int .i64 s8, .int .i64 (r : Int)] 54))).below (below_drewN (Below.refl _ _) j)))
            go_quiet ((go_at_call 25; exact quiet_left (hla.out _)))
            refine fresh_K (fun W => Kp w W d r r (U.extract 0 E6) ∧ W.cell? ⟨w8.heap.size, 0, none⟩ = some (.int .i64 s8) ∧ W.cell? ⟨w8.heap.size, 1, none⟩ = some (.int .i64 (r : Int))) ⟨(hK8H.out.below ((Below.refl _ _).alloc (Nat.le_refl _) (.cells #[.int .i64 s8, .int .i64 (r : Int)] 54))).below (below_drewN (Below.refl _ _) _), by go_simp⟩ ?_
            rintro W9 ⟨hK9, z0, z1⟩
            have hrd := Lib.hid (kp_read hK9)
            clear hg1 hg2 hla hK8H hK9 hw1
            have he2 := he1.out
            have hVs : (U.extract 0 E6).size = E6 := by rw [hVH.out]
            have hE6p := hE6H.out
            have hsur : (E6 : Int) = ((64 * r : Nat) : Int) := by rw [← hE6p]
            have hsurH := Lib.hid hsur
            clear hsur
            generalize hVg : U.extract 0 E6 = V at hrd hVs
            have hVgH := Lib.hid hVg
            clear hVg
            by_cases hr00 : r = 0
            · exact absurd hr00 (by omega)
            · rw [if_neg hr00, if_neg hr00] at hrd
              have hdiv : (E6 : Int) / 64 = (r : Int) := by omega
              have hmax : max (r : Int) 1 = (r : Int) := by omega
              have hpos : (0 : Int) < (E6 : Int) := by omega
              have hrp : 0 < r := by omega
              clear hE6p hr00
              go_wp2_with fail
              refine hrd.out.mono ?_
              rintro e w9 ⟨er, her, rfl, hK9⟩
              have her0 : er = 0 := her (by omega)
              subst her0
              have hK9H := Lib.hid hK9
              clear hrd hK9 her
              rw [hVgH.out]
              go_wp2_with fail
              go_roundw
              case rel => exact ⟨k + 1, r, r, V, _, by omega, by omega, by simp, rfl, rfl, hsurH.out, by omega, hK9H.out⟩
              case measure =>
                show cs.length - (intOf (Value.int .i64 _)).toNat < cs.length - (intOf (Value.int .i64 _)).toNat
                simp only [intOf]
                omega
          · have hr0' : ¬ (mr : Int) = 0 := by omega
            have hr0'' : ((mr : Int) == 0) = false := by simp [hr0]
            have hrdC := Lib.hid (kp_read hKc)
            rw [if_neg (show ¬ (l + (1 + m)) = 0 by omega), if_neg (show ¬ (l + (1 + m)) = 0 by omega)] at hrdC
            have hdiv : (U.size : Int) / 64 = ((l + (1 + m) : Nat) : Int) := by have := hUsH.out; omega
            have hmax : max ((l + (1 + m) : Nat) : Int) 1 = ((l + (1 + m) : Nat) : Int) := by omega
            have hpos : (0 : Int) < (U.size : Int) := by have := hUsH.out; omega
            generalize hL : l + (1 + m) = L at hrdC hdiv hmax hln hUsH
            have hLH := Lib.hid hL
            clear hL hKc
            go_wp2_with fail
            refine hrdC.out.mono ?_
            rintro e w9 ⟨er, her, rfl, hK9⟩
            have her0 : er = 0 := her (by have := hLH.out; omega)
            subst her0
            have hK9H := Lib.hid hK9
            clear hrdC hK9 her
            go_wp2_with fail
            go_roundw
            case rel => exact ⟨k + 1, L, L, U, _, by omega, by omega, by simp, rfl, rfl, by have := hUlenH.out; rw [hLH.out] at this; exact this, by omega, hK9H.out⟩
            case measure =>
              show cs.length - (intOf (Value.int .i64 _)).toNat < cs.length - (intOf (Value.int .i64 _)).toNat
              simp only [intOf]
              omega
        · skip
          have hrdC := Lib.hid (kp_read hKc)
          rw [if_neg (show ¬ (l + (1 + m)) = 0 by omega), if_neg (show ¬ (l + (1 + m)) = 0 by omega)] at hrdC
          have hdiv : (U.size : Int) / 64 = ((l + (1 + m) : Nat) : Int) := by have := hUsH.out; omega
          have hmax : max ((l + (1 + m) : Nat) : Int) 1 = ((l + (1 + m) : Nat) : Int) := by omega
          have hpos : (0 : Int) < (U.size : Int) := by have := hUsH.out; omega
          generalize hL : l + (1 + m) = L at hrdC hdiv hmax hln hUsH
          have hLH := Lib.hid hL
          clear hL hKc
          go_wp2_with fail
          refine hrdC.out.mono ?_
          rintro e w9 ⟨er, her, rfl, hK9⟩
          have her0 : er = 0 := her (by have := hLH.out; omega)
          subst her0
          have hK9H := Lib.hid hK9
          clear hrdC hK9 her
          go_wp2_with fail
          go_roundw
          case rel => exact ⟨k + 1, L, L, U, _, by omega, by omega, by simp, rfl, rfl, by have := hUlenH.out; rw [hLH.out] at this; exact this, by omega, hK9H.out⟩
          case measure =>
            show cs.length - (intOf (Value.int .i64 _)).toNat < cs.length - (intOf (Value.int .i64 _)).toNat
            simp only [intOf]
            omega
      · have hz0' : ¬ (mz : Int) = 0 := by omega
        have hz0'' : ((mz : Int) == 0) = false := by simp [hz0]
        have hKc := hK5H.out
        by_cases hkr : k < rs.length
        · by_cases hr0 : mr = 0
          · subst hr0
            obtain ⟨rb, roff, rfl, hltr, rc, hIn⟩ := hRH.out.at_ hkr
            have hRz := hRkH.out _ (List.getElem_mem hkr)
            generalize rs[k] = row at rc hIn hRz
            obtain ⟨Ar, capr, ls⟩ := row
            obtain ⟨hIr, hlr, hnr⟩ := hIn
            simp only at rc hIr hlr hnr hRz
            have rcx := (hKc.b.cell (p := ⟨rb, roff + k, none⟩) hltr).trans rc
            have hrlt := Nat.lt_of_lt_of_le hltr hKc.b.size
            obtain ⟨Ac, capc, wc, hrun, hIc, hbc, hAc⟩ := copy_ints w5 Ar capr ls (hIr.below hKc.b) hnr hlr
            have hlo := Lib.hid (kp_lose hKc hbc Ac capc ls hIc (fun h0 b off e => .inr (hAc h0 b off e)) hRz (by unfold maxLen; omega))
            have hrunH := Lib.hid hrun
            clear hrun hIc hbc hAc hIr rc hRz hlr hnr hKc
            go_wp2_with (at_builtin; refine append_run_wp rfl _ _ _ rfl rfl rfl hrunH.out ?_)
            refine hlo.out.mono ?_
            rintro e w7 ⟨rfl, r, hr1, hr2, hK7⟩
            have hzo := Lib.hid (kp_zone hK7)
            have hV : (U.extract 0 (64 * r)).size = 64 * r := by have := hUsH.out; rw [ByteArray.size_extract]; omega
            have hVH := Lib.hid hV
            have hK7H := Lib.hid hK7
            clear hlo hrunH rcx hrlt hV hK7
            go_wp2_with fail
            refine hzo.out.mono ?_
            rintro e w8 ⟨s8, rfl, hb8⟩
            have hK8 := hK7H.out.below hb8
            have hK8H := Lib.hid hK8
            clear hzo hb8 hK8 hK7H
            go_wp2_with fail
            obtain ⟨E6, hE6⟩ : ∃ x, x = 64 * r := ⟨_, rfl⟩
            have hw1 : IntKind.i64.wrap ((r : Int) * 64) = (r : Int) * 64 := IntWalk.i64_in _ (by omega)
            have he1 := Lib.hid (show (r : Int) * 64 = (E6 : Int) by omega)
            have hEU : E6 ≤ U.size := by have := hUsH.out; omega
            have hg1 : decide ((r : Int) * 64 < q) = false := decide_eq_false (by have := hUsH.out; have := hqH.out; omega)
            have hg2 : decide ((U.size : Int) < (r : Int) * 64) = false := decide_eq_false (by have := hUsH.out; omega)
            rw [← hE6] at hK8H hVH
            have hE6H := Lib.hid hE6
            clear hE6
            have hla := Lib.hid (fun j => kp_lasts ((hK8H.out.below ((Below.refl _ _).alloc (Nat.le_refl _) (.cells #[.int .i64 s8, .int .i64 (r : Int)] 54))).below (below_drewN (Below.refl _ _) j)))
            go_quiet ((go_at_call 25; exact quiet_left (hla.out _)))
            refine fresh_K (fun W => Kp w W d r r (U.extract 0 E6) ∧ W.cell? ⟨w8.heap.size, 0, none⟩ = some (.int .i64 s8) ∧ W.cell? ⟨w8.heap.size, 1, none⟩ = some (.int .i64 (r : Int))) ⟨(hK8H.out.below ((Below.refl _ _).alloc (Nat.le_refl _) (.cells #[.int .i64 s8, .int .i64 (r : Int)] 54))).below (below_drewN (Below.refl _ _) _), by go_simp⟩ ?_
            rintro W9 ⟨hK9, z0, z1⟩
            have hrd := Lib.hid (kp_read hK9)
            clear hg1 hg2 hla hK8H hK9 hw1
            have he2 := he1.out
            have hVs : (U.extract 0 E6).size = E6 := by rw [hVH.out]
            have hE6p := hE6H.out
            have hsur : (E6 : Int) = ((64 * r : Nat) : Int) := by rw [← hE6p]
            have hsurH := Lib.hid hsur
            clear hsur
            generalize hVg : U.extract 0 E6 = V at hrd hVs
            have hVgH := Lib.hid hVg
            clear hVg
            by_cases hr00 : r = 0
            · rw [if_pos hr00, if_pos hr00] at hrd
              have hV0 : V.size = 0 := by omega
              have hVe : V = ByteArray.empty := ByteArray.ext (Array.eq_empty_of_size_eq_zero hV0)
              clear hV0
              subst hVe
              subst hr00
              have z1' : W9.cell? ⟨w8.heap.size, 1, none⟩ = some (.int .i64 0) := z1
              have hn0 : n = 0 := by omega
              subst hn0
              clear hr1 hr2
              clear hE6p he2 hVs hsurH hVgH hVH hEU he1 hE6H z1
              go_wp2_with fail
              refine hrd.out.mono ?_
              rintro e w9 ⟨er, her, rfl, hK9⟩
              have hK9H := Lib.hid hK9
              clear hrd hK9 her
              go_wp2_with fail
              go_roundw
              case rel => exact ⟨k + 1, 0, 0, ByteArray.empty, _, by omega, by omega, by simp, rfl, rfl, rfl, by omega, hK9H.out⟩
              case measure =>
                show cs.length - (intOf (Value.int .i64 _)).toNat < cs.length - (intOf (Value.int .i64 _)).toNat
                simp only [intOf]
                omega
            · rw [if_neg hr00, if_neg hr00] at hrd
              have hdiv : (E6 : Int) / 64 = (r : Int) := by omega
              have hmax : max (r : Int) 1 = (r : Int) := by omega
              have hpos : (0 : Int) < (E6 : Int) := by omega
              have hrp : 0 < r := by omega
              clear hE6p hr00
              go_wp2_with fail
              refine hrd.out.mono ?_
              rintro e w9 ⟨er, her, rfl, hK9⟩
              have her0 : er = 0 := her (by omega)
              subst her0
              have hK9H := Lib.hid hK9
              clear hrd hK9 her
              rw [hVgH.out]
              go_wp2_with fail
              go_roundw
              case rel => exact ⟨k + 1, r, r, V, _, by omega, by omega, by simp, rfl, rfl, hsurH.out, by omega, hK9H.out⟩
              case measure =>
                show cs.length - (intOf (Value.int .i64 _)).toNat < cs.length - (intOf (Value.int .i64 _)).toNat
                simp only [intOf]
                omega
          · have hr0' : ¬ (mr : Int) = 0 := by omega
            have hr0'' : ((mr : Int) == 0) = false := by simp [hr0]
            have hrdC := Lib.hid (kp_read hKc)
            rw [if_neg (show ¬ (l + (1 + m)) = 0 by omega), if_neg (show ¬ (l + (1 + m)) = 0 by omega)] at hrdC
            have hdiv : (U.size : Int) / 64 = ((l + (1 + m) : Nat) : Int) := by have := hUsH.out; omega
            have hmax : max ((l + (1 + m) : Nat) : Int) 1 = ((l + (1 + m) : Nat) : Int) := by omega
            have hpos : (0 : Int) < (U.size : Int) := by have := hUsH.out; omega
            generalize hL : l + (1 + m) = L at hrdC hdiv hmax hln hUsH
            have hLH := Lib.hid hL
            clear hL hKc
            go_wp2_with fail
            refine hrdC.out.mono ?_
            rintro e w9 ⟨er, her, rfl, hK9⟩
            have her0 : er = 0 := her (by have := hLH.out; omega)
            subst her0
            have hK9H := Lib.hid hK9
            clear hrdC hK9 her
            go_wp2_with fail
            go_roundw
            case rel => exact ⟨k + 1, L, n, U, _, by omega, by omega, by simp, rfl, rfl, hqH.out, by omega, hK9H.out⟩
            case measure =>
              show cs.length - (intOf (Value.int .i64 _)).toNat < cs.length - (intOf (Value.int .i64 _)).toNat
              simp only [intOf]
              omega
        · skip
          have hrdC := Lib.hid (kp_read hKc)
          rw [if_neg (show ¬ (l + (1 + m)) = 0 by omega), if_neg (show ¬ (l + (1 + m)) = 0 by omega)] at hrdC
          have hdiv : (U.size : Int) / 64 = ((l + (1 + m) : Nat) : Int) := by have := hUsH.out; omega
          have hmax : max ((l + (1 + m) : Nat) : Int) 1 = ((l + (1 + m) : Nat) : Int) := by omega
          have hpos : (0 : Int) < (U.size : Int) := by have := hUsH.out; omega
          generalize hL : l + (1 + m) = L at hrdC hdiv hmax hln hUsH
          have hLH := Lib.hid hL
          clear hL hKc
          go_wp2_with fail
          refine hrdC.out.mono ?_
          rintro e w9 ⟨er, her, rfl, hK9⟩
          have her0 : er = 0 := her (by have := hLH.out; omega)
          subst her0
          have hK9H := Lib.hid hK9
          clear hrdC hK9 her
          go_wp2_with fail
          go_roundw
          case rel => exact ⟨k + 1, L, n, U, _, by omega, by omega, by simp, rfl, rfl, hqH.out, by omega, hK9H.out⟩
          case measure =>
            show cs.length - (intOf (Value.int .i64 _)).toNat < cs.length - (intOf (Value.int .i64 _)).toNat
            simp only [intOf]
            omega
    · have hrun' : ¬ (k : Int) < (cs.length : Int) ∨ ((k : Int) < (cs.length : Int) ∧ ¬ (k : Int) < 40) := by omega
      have hB := hK.b
      clear hK hrun
      rcases hrun' with hr | ⟨hr, hr2⟩
      · go_wp2_with fail
        go_ret
        exact ⟨rfl, hB⟩
      · go_wp2_with fail
        go_ret
        exact ⟨rfl, hB⟩
end Go.Proofs.Ytncbkegflkjlfaa
