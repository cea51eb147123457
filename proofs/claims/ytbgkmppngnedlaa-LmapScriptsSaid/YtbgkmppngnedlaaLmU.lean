/- The walk of made. -/
import Derived.Test.YtbgkmppngnedlaaLmT
namespace Go.Proofs.Ytbgkmppngnedlaa
open Go.RowKit

def MadePost (w : World) (l : List GA) (e : Ending) (w' : World) : Prop := ∃ (base g m n : Nat) (A : Option Addr) (ca : Nat), e = .returned (.tuple #[.pointer (some ⟨g, 0, none⟩), .slice A (adM l (min l.length 60)).length ca, .int .i64 (mdQ l (min l.length 60))]) ∧ n ≤ 600 ∧ MoW w w' base g m n (mdM l (min l.length 60)) A ca (adM l (min l.length 60))
set_option maxRecDepth 100000 in
set_option maxHeartbeats 8000000 in
theorem made_any (w : World) (Ain : Option Addr) (cap : Nat) (l : List GA) (hI : GActsIn w Ain l) (hok : ∀ c ∈ l, c.Ok) (hlen : l.length ≤ 9223372036854775807) : Calls Try.prog 28 #[.slice Ain l.length cap] w (MadePost w l) := by
  have hnew := Lib.hid (new_any w)
  have hIH := Lib.hid (fun W (hb : Below w.heap.size w W) => hI.below hb)
  have hokH := Lib.hid hok
  clear hI hok
  obtain ⟨nl, hnl⟩ : ∃ nl, l.length = nl := ⟨_, rfl⟩
  rw [hnl] at hlen ⊢
  have hnlH := Lib.hid hnl
  clear hnl
  obtain ⟨kk, hkk⟩ : ∃ kk, min nl 60 = kk := ⟨_, rfl⟩
  have hkk1 : kk ≤ nl ∧ kk ≤ 60 ∧ (kk = nl ∨ kk = 60) := by omega
  have hPH : Hid (∀ e w', (∃ (base g m n : Nat) (A : Option Addr) (ca : Nat), e = .returned (.tuple #[.pointer (some ⟨g, 0, none⟩), .slice A (adM l kk).length ca, .int .i64 (mdQ l kk)]) ∧ n ≤ 600 ∧ MoW w w' base g m n (mdM l kk) A ca (adM l kk)) → MadePost w l e w') := Lib.hid (fun e w' h => by unfold MadePost; rw [hnlH.out, hkk]; exact h)
  clear hkk
  go_enter Try.func28, Try.ntmps28
  go_wp2_with fail
  (with_reducible refine hnew.out.mono ?_)
  rintro e w1 ⟨g, m, rfl, h1, hb1, hg1, hm1⟩
  have hst := Lib.hid (MoW.start h1 hg1 hm1 hb1)
  clear hnew h1 hb1 hg1 hm1
  generalize w1.heap.size = base at hst
  go_wp2_with fail
  go_loopw [6, 7, 8] (fun sl q i wr => ∃ (k n na : Nat) (A : Option Addr) (ca : Nat), k ≤ kk ∧ i = .int .i64 (k : Int) ∧ q = .int .i64 (mdQ l k) ∧ sl = .slice A na ca ∧ Hid (na = (adM l k).length) ∧ Hid (n ≤ 10 * k ∧ MoW w wr base g m n (mdM l k) A ca (adM l k))) (fun _ _ i _ => kk - (Go.RowKit.intOf i).toNat)
  case atStart => exact ⟨0, 0, 0, none, 0, Nat.zero_le _, rfl, rfl, rfl, Lib.hid rfl, Lib.hid ⟨Nat.le_refl _, hst.out⟩⟩
  case round =>
    clear hst
    obtain ⟨k, n, na, A, ca, hkn, rfl, rfl, rfl, hna, hM⟩ := hrel
    have hkw : IntKind.i64.wrap ((k : Int) + 1) = (k : Int) + 1 := IntWalk.i64_in _ (by omega)
    by_cases hlt : k < kk
    case neg =>
      have hke : k = kk := by omega
      have hfin : MadePost w l (.returned (.tuple #[.pointer (some ⟨g, 0, none⟩), .slice A na ca, .int .i64 (mdQ l k)])) wr := hPH.out _ _ ⟨base, g, m, n, A, ca, by rw [← hke, hna.out], by have := hM.out.1; omega, by rw [← hke]; exact hM.out.2⟩
      have hfinH := Lib.hid hfin
      clear hfin hM
      generalize mdQ l k = qq at hfinH ⊢
      by_cases hkl : k < nl
      case neg =>
        have hkI : ¬ (k : Int) < (nl : Int) := by omega
        clear hlt hkl hke hkk1
        go_wp2_with fail
        refine bodyPost_ret (v := .tuple #[.pointer (some ⟨g, 0, none⟩), .slice A na ca, .int .i64 qq]) (by simp [results, Try.results28, go_sem]) rfl ?_
        exact hfinH.out
      case pos =>
        have hkI : (k : Int) < (nl : Int) := by omega
        have hk60 : ¬ (k : Int) < 60 := by omega
        clear hlt hkl hke hkk1
        go_wp2_with fail
        refine bodyPost_ret (v := .tuple #[.pointer (some ⟨g, 0, none⟩), .slice A na ca, .int .i64 qq]) (by simp [results, Try.results28, go_sem]) rfl ?_
        exact hfinH.out
    case pos =>
      have hkI : (k : Int) < (nl : Int) := by omega
      have hk60 : (k : Int) < 60 := by omega
      have hkl : k < l.length := by rw [hnlH.out]; omega
      have hsM := Lib.hid (mdM_succ hkl)
      have hsA := Lib.hid (adM_succ hkl)
      have hsQ := Lib.hid (mdQ_succ hkl)
      have hcok := Lib.hid (hokH.out l[k] (List.getElem_mem hkl))
      obtain ⟨b, off, hAin, _, _, _⟩ := (hIH.out wr hM.out.2.bw).at_ hkl
      have hfc : Hid (∀ W, Below w.heap.size w W → GA.At W b (off + k * 4) l[k] ∧ IntsIn W l[k].ks.A l[k].ks.zs) := Lib.hid (fun W hb => by
        obtain ⟨b', o', e, _, h1, h2⟩ := (hIH.out W hb).at_ hkl
        rw [hAin] at e
        injection e with e
        injection e with e1 e2 _
        rw [e1, e2]
        exact ⟨h1, h2.1⟩)
      subst hAin
      generalize l[k] = c at hsM hsA hsQ hcok hfc
      obtain ⟨q, hq⟩ : ∃ q, seqM c = q := ⟨_, rfl⟩
      rw [hq] at hsM hsA hsQ
      have hands : bits .and .i64 c.s 1099511627775 = q := by rw [← hq]; exact and_mask2 c.s 40 1099511627775 rfl (by omega)
      have handz : bits .and .i64 c.z 7 = c.z % 8 := and_mask2 c.z 3 7 rfl (by omega)
      clear hq
      have hG0 := Lib.hid (hM.out.2.group q)
      obtain ⟨a0, a1, a2, a3⟩ := (hfc.out _ hM.out.2.bw).1
      obtain ⟨zl, hzl⟩ : ∃ zl, c.ks.zs.length = zl := ⟨_, rfl⟩
      rw [hzl] at a3
      have hzlH := Lib.hid hzl
      have hlt2 := Lib.hid hlt
      have hnn := Lib.hid hM.out.1
      clear hzl hlt hkk1 hM
      go_upto_region 9 with fail
      clear a0 a1 a2 a3
      generalize wr.heap.size = G at hG0 ⊢
      refine fresh_world (fun W => MiW w W base g m n (mdM l k) A ca (adM l k) G q none 0 0 []) hG0.out ?_
      clear hG0
      rintro W9 h9
      have h9H := Lib.hid h9
      obtain ⟨_, c0, _, _, _, _, _, _, _, _, _⟩ := h9
      generalize hqq : max (mdQ l k) q = qq at hsQ
      go_wp2_with fail
      have hstart : Hid (MiW w W9 base g m n (mdM l k) A ca (adM l k ++ adL (c.z % 8) (k : Int) q 0 (esM c 0)) G q none 0 0 (esM c 0)) := Lib.hid (by
        show MiW w W9 base g m n (mdM l k) A ca (adM l k ++ []) G q none 0 0 []
        rw [List.append_nil]
        exact h9H.out)
      clear c0 h9H hqq
      have hna0 : Hid (na = (adM l k ++ adL (c.z % 8) (k : Int) q 0 (esM c 0)).length) := Lib.hid (by show na = (adM l k ++ []).length; rw [List.append_nil]; exact hna.out)
      clear hna
      have hadk := Lib.hid (adM_len l k)
      generalize adM l k = adk at hstart hna0 hsA hadk
      generalize mdM l k = mk at hstart hsM
      go_loopw [6, 10] (fun sl jv wr => ∃ (j na : Nat) (A : Option Addr) (ca nb : Nat) (B : Option Addr) (cb : Nat), j ≤ zl ∧ j ≤ 10 ∧ jv = .int .i64 (j : Int) ∧ sl = .slice A na ca ∧ Hid (na = (adk ++ adL (c.z % 8) (k : Int) q 0 (esM c j)).length) ∧ Hid (nb = j) ∧ Hid (MiW w wr base g m n mk A ca (adk ++ adL (c.z % 8) (k : Int) q 0 (esM c j)) G q B nb cb (esM c j))) (fun _ jv _ => 10 - (Go.RowKit.intOf jv).toNat)
      case atStart => exact ⟨0, na, A, ca, 0, none, 0, Nat.zero_le _, Nat.zero_le _, rfl, rfl, hna0, Lib.hid rfl, hstart⟩
      case round =>
        clear hna0 hstart
        obtain ⟨j, na2, A2, ca2, nb, B, cb, hj1, hj2, rfl, rfl, hna2, hnb, hI2⟩ := hrel
        have hjw : IntKind.i64.wrap ((j : Int) + 1) = (j : Int) + 1 := IntWalk.i64_in _ (by omega)
        obtain ⟨a0, a1, a2, a3⟩ := (hfc.out _ hI2.out.o.bw).1
        rw [hzlH.out] at a3
        by_cases hlt3 : j < zl ∧ j < 10
        case neg =>
          have hee : esM c j = esM c 10 := by
            unfold esM
            congr 1
            have := hzlH.out
            by_cases h10 : j = 10
            · rw [h10]
            · rw [List.take_of_length_le (by omega), List.take_of_length_le (by omega)]
          have hI3 := hI2.out
          rw [hee] at hI3
          rw [hee, ← hsA.out] at hna2
          rw [← hsA.out] at hI3
          have hln : Hid ((esM c 10).length = nb) := Lib.hid (by rw [← hee, hnb.out]; exact esM_len c (by have := hzlH.out; omega))
          obtain ⟨_, c0, c1, c2, _, _, _, _, _, _, _⟩ := hI3
          have hI3H := Lib.hid (show MiW w wr base g m n mk A2 ca2 (adM l (k + 1)) G q B nb cb (esM c 10) by have h := hI2.out; rw [hee, ← hsA.out] at h; exact h)
          clear hee hI2
          by_cases hjz : j < zl
          case neg =>
            have hjI : ¬ (j : Int) < (zl : Int) := by omega
            clear hlt3 hjz
            go_upto_region 18 with fail
            have hS0 : (fun W : World => W.cell? ⟨G, 0, none⟩ = some (.int .i64 q) ∧ W.cell? ⟨G, 1, none⟩ = some (.slice B nb cb) ∧ W.cell? ⟨G, 2, none⟩ = some (.slice none 0 0) ∧ W.cell? ⟨b, off + k * 4, none⟩ = some (.int .i64 c.z)) wr.drew := ⟨c0, c1, c2, a0⟩
            have h5 := hI3H.out.below (Below.refl _ _).drew
            have hcall := add_any wr.drew g m n mk (c.z % 8) (k : Int) q B none cb 0 0 (esM c 10) h5.o.lm h5.re.in_ (fun b' off' e => by
              have h1 := (row_blkG h5.re e).1
              have h2 := h5.o.gm
              omega) (by rw [hln.out, hnb.out]; omega) (by have := hnn.out; omega) (esM_wf hcok.out 10)
            rw [hln.out, ← hsM.out] at hcall
            have hcallH := Lib.hid hcall
            have h5H := Lib.hid h5
            clear c0 c1 c2 a0 a1 a2 a3 hcall h5 hI3H
            refine region_anyC (fun i => decide (i < 9)) (fun W => W.cell? ⟨G, 0, none⟩ = some (.int .i64 q) ∧ W.cell? ⟨G, 1, none⟩ = some (.slice B nb cb) ∧ W.cell? ⟨G, 2, none⟩ = some (.slice none 0 0) ∧ W.cell? ⟨b, off + k * 4, none⟩ = some (.int .i64 c.z)) (by kernel_rfl) ?_
            refine anyL_take 0 (v := ?_) rfl (by kernel_rfl) (fun _ _ _ h => h) (Or.inl ⟨by rfl, ?_⟩) hS0 ?_
            rotate_left
            focus (intro W hW; go_simp; try with_reducible rfl)
            simp only [Act.put, List.setIfInBounds_toArray, List.set_cons_zero, List.set_cons_succ]
            refine anyL_take 1 (v := ?_) rfl (by kernel_rfl) (fun _ _ _ h => h) (Or.inl ⟨by rfl, ?_⟩) hS0 ?_
            rotate_left
            focus (intro W hW; go_simp; try with_reducible rfl)
            simp only [Act.put, List.setIfInBounds_toArray, List.set_cons_zero, List.set_cons_succ]
            refine anyL_take 2 (v := ?_) rfl (by kernel_rfl) (fun _ _ _ h => h) (Or.inl ⟨by rfl, ?_⟩) hS0 ?_
            rotate_left
            focus (intro W hW; go_simp; try with_reducible rfl)
            simp only [Act.put, List.setIfInBounds_toArray, List.set_cons_zero, List.set_cons_succ]
            refine anyL_take 3 (v := ?_) rfl (by kernel_rfl) (fun _ _ _ h => h) (Or.inl ⟨by rfl, ?_⟩) hS0 ?_
            rotate_left
            focus (intro W hW; go_simp; try with_reducible rfl)
            simp only [Act.put, List.setIfInBounds_toArray, List.set_cons_zero, List.set_cons_succ]
            refine anyL_take 4 (v := ?_) rfl (by kernel_rfl) (fun _ _ _ h => h) (Or.inl ⟨by rfl, ?_⟩) hS0 ?_
            rotate_left
            focus (intro W hW; go_simp; try with_reducible rfl)
            simp only [Act.put, List.setIfInBounds_toArray, List.set_cons_zero, List.set_cons_succ]
            refine anyL_take 5 (v := ?_) rfl (by kernel_rfl) (fun _ _ _ h => h) (Or.inl ⟨by rfl, ?_⟩) hS0 ?_
            rotate_left
            focus (intro W hW; obtain ⟨c0, c1, c2, a0⟩ := hW; go_simp; try with_reducible rfl)
            simp only [Act.put, List.setIfInBounds_toArray, List.set_cons_zero, List.set_cons_succ]
            refine anyL_take 6 (v := ?_) rfl (by kernel_rfl) (fun _ _ _ h => h) (Or.inl ⟨by rfl, ?_⟩) hS0 ?_
            rotate_left
            focus (intro W hW; go_simp; try with_reducible rfl)
            simp only [Act.put, List.setIfInBounds_toArray, List.set_cons_zero, List.set_cons_succ]
            refine anyL_take 7 (v := ?_) rfl (by kernel_rfl) (fun _ _ _ h => h) (Or.inl ⟨by rfl, ?_⟩) hS0 ?_
            rotate_left
            focus (intro W hW; go_simp; try with_reducible rfl)
            simp only [Act.put, List.setIfInBounds_toArray, List.set_cons_zero, List.set_cons_succ]
            refine anyL_take 8 (v := ?_) rfl (by kernel_rfl) (fun _ _ _ h => h) (Or.inl ⟨by rfl, ?_⟩) hS0 ?_
            rotate_left
            focus (intro W hW; obtain ⟨c0, c1, c2, a0⟩ := hW; go_simp; try with_reducible rfl)
            simp only [Act.put, List.setIfInBounds_toArray, List.set_cons_zero, List.set_cons_succ]
            generalize wr.drew = Wd at hS0 hcallH h5H ⊢
            refine anyL_one 9 rfl (by kernel_rfl) (fun K hK => ?_)
            go_simp
            refine hcallH.out.mono ?_
            rintro e' w6 ⟨rfl, h6, h7⟩
            refine hK.out _ _ (fun h => absurd h (by decide)) ?_
            clear hK K hS0 hcallH
            try simp only [Act.put, List.setIfInBounds_toArray, List.set_cons_zero, List.set_cons_succ]
            refine anyC_done (by kernel_rfl) ?_ _
            have hfin := Lib.hid (show n + nb ≤ 10 * (k + 1) ∧ MoW w w6 base g m (n + nb) (mdM l (k + 1)) A2 ca2 (adM l (k + 1)) from ⟨by have := hnn.out; have := hnb.out; omega, h5H.out.o.again h6 h7⟩)
            clear h6 h7 h5H
            go_wp2_with fail
            go_roundw
            case rel => exact ⟨k + 1, n + nb, na2, A2, ca2, hlt2.out, by go_num, by rw [hsQ.out], rfl, hna2, hfin⟩
            case measure => simp only [Go.RowKit.intOf]; have := hlt2.out; omega
          case pos =>
            have hjI : (j : Int) < (zl : Int) := by omega
            have hj10 : ¬ (j : Int) < 10 := by omega
            clear hlt3 hjz
            go_upto_region 18 with fail
            have hS0 : (fun W : World => W.cell? ⟨G, 0, none⟩ = some (.int .i64 q) ∧ W.cell? ⟨G, 1, none⟩ = some (.slice B nb cb) ∧ W.cell? ⟨G, 2, none⟩ = some (.slice none 0 0) ∧ W.cell? ⟨b, off + k * 4, none⟩ = some (.int .i64 c.z)) wr.drew := ⟨c0, c1, c2, a0⟩
            have h5 := hI3H.out.below (Below.refl _ _).drew
            have hcall := add_any wr.drew g m n mk (c.z % 8) (k : Int) q B none cb 0 0 (esM c 10) h5.o.lm h5.re.in_ (fun b' off' e => by
              have h1 := (row_blkG h5.re e).1
              have h2 := h5.o.gm
              omega) (by rw [hln.out, hnb.out]; omega) (by have := hnn.out; omega) (esM_wf hcok.out 10)
            rw [hln.out, ← hsM.out] at hcall
            have hcallH := Lib.hid hcall
            have h5H := Lib.hid h5
            clear c0 c1 c2 a0 a1 a2 a3 hcall h5 hI3H
            refine region_anyC (fun i => decide (i < 9)) (fun W => W.cell? ⟨G, 0, none⟩ = some (.int .i64 q) ∧ W.cell? ⟨G, 1, none⟩ = some (.slice B nb cb) ∧ W.cell? ⟨G, 2, none⟩ = some (.slice none 0 0) ∧ W.cell? ⟨b, off + k * 4, none⟩ = some (.int .i64 c.z)) (by kernel_rfl) ?_
            refine anyL_take 0 (v := ?_) rfl (by kernel_rfl) (fun _ _ _ h => h) (Or.inl ⟨by rfl, ?_⟩) hS0 ?_
            rotate_left
            focus (intro W hW; go_simp; try with_reducible rfl)
            simp only [Act.put, List.setIfInBounds_toArray, List.set_cons_zero, List.set_cons_succ]
            refine anyL_take 1 (v := ?_) rfl (by kernel_rfl) (fun _ _ _ h => h) (Or.inl ⟨by rfl, ?_⟩) hS0 ?_
            rotate_left
            focus (intro W hW; go_simp; try with_reducible rfl)
            simp only [Act.put, List.setIfInBounds_toArray, List.set_cons_zero, List.set_cons_succ]
            refine anyL_take 2 (v := ?_) rfl (by kernel_rfl) (fun _ _ _ h => h) (Or.inl ⟨by rfl, ?_⟩) hS0 ?_
            rotate_left
            focus (intro W hW; go_simp; try with_reducible rfl)
            simp only [Act.put, List.setIfInBounds_toArray, List.set_cons_zero, List.set_cons_succ]
            refine anyL_take 3 (v := ?_) rfl (by kernel_rfl) (fun _ _ _ h => h) (Or.inl ⟨by rfl, ?_⟩) hS0 ?_
            rotate_left
            focus (intro W hW; go_simp; try with_reducible rfl)
            simp only [Act.put, List.setIfInBounds_toArray, List.set_cons_zero, List.set_cons_succ]
            refine anyL_take 4 (v := ?_) rfl (by kernel_rfl) (fun _ _ _ h => h) (Or.inl ⟨by rfl, ?_⟩) hS0 ?_
            rotate_left
            focus (intro W hW; go_simp; try with_reducible rfl)
            simp only [Act.put, List.setIfInBounds_toArray, List.set_cons_zero, List.set_cons_succ]
            refine anyL_take 5 (v := ?_) rfl (by kernel_rfl) (fun _ _ _ h => h) (Or.inl ⟨by rfl, ?_⟩) hS0 ?_
            rotate_left
            focus (intro W hW; obtain ⟨c0, c1, c2, a0⟩ := hW; go_simp; try with_reducible rfl)
            simp only [Act.put, List.setIfInBounds_toArray, List.set_cons_zero, List.set_cons_succ]
            refine anyL_take 6 (v := ?_) rfl (by kernel_rfl) (fun _ _ _ h => h) (Or.inl ⟨by rfl, ?_⟩) hS0 ?_
            rotate_left
            focus (intro W hW; go_simp; try with_reducible rfl)
            simp only [Act.put, List.setIfInBounds_toArray, List.set_cons_zero, List.set_cons_succ]
            refine anyL_take 7 (v := ?_) rfl (by kernel_rfl) (fun _ _ _ h => h) (Or.inl ⟨by rfl, ?_⟩) hS0 ?_
            rotate_left
            focus (intro W hW; go_simp; try with_reducible rfl)
            simp only [Act.put, List.setIfInBounds_toArray, List.set_cons_zero, List.set_cons_succ]
            refine anyL_take 8 (v := ?_) rfl (by kernel_rfl) (fun _ _ _ h => h) (Or.inl ⟨by rfl, ?_⟩) hS0 ?_
            rotate_left
            focus (intro W hW; obtain ⟨c0, c1, c2, a0⟩ := hW; go_simp; try with_reducible rfl)
            simp only [Act.put, List.setIfInBounds_toArray, List.set_cons_zero, List.set_cons_succ]
            generalize wr.drew = Wd at hS0 hcallH h5H ⊢
            refine anyL_one 9 rfl (by kernel_rfl) (fun K hK => ?_)
            go_simp
            refine hcallH.out.mono ?_
            rintro e' w6 ⟨rfl, h6, h7⟩
            refine hK.out _ _ (fun h => absurd h (by decide)) ?_
            clear hK K hS0 hcallH
            try simp only [Act.put, List.setIfInBounds_toArray, List.set_cons_zero, List.set_cons_succ]
            refine anyC_done (by kernel_rfl) ?_ _
            have hfin := Lib.hid (show n + nb ≤ 10 * (k + 1) ∧ MoW w w6 base g m (n + nb) (mdM l (k + 1)) A2 ca2 (adM l (k + 1)) from ⟨by have := hnn.out; have := hnb.out; omega, h5H.out.o.again h6 h7⟩)
            clear h6 h7 h5H
            go_wp2_with fail
            go_roundw
            case rel => exact ⟨k + 1, n + nb, na2, A2, ca2, hlt2.out, by go_num, by rw [hsQ.out], rfl, hna2, hfin⟩
            case measure => simp only [Go.RowKit.intOf]; have := hlt2.out; omega
        case pos =>
          have hjI : (j : Int) < (zl : Int) := by omega
          have hj10 : (j : Int) < 10 := by omega
          have hjz : j < c.ks.zs.length := by rw [hzlH.out]; exact hlt3.1
          obtain ⟨kb, ko, hkA, hx1, hx2⟩ := (hfc.out _ hI2.out.o.bw).2.at_ hjz
          clear hx1 hx2
          have hcell : Hid (∀ W, Below w.heap.size w W → W.cell? ⟨kb, ko + j, none⟩ = some (.int .i64 c.ks.zs[j])) := Lib.hid (fun W hb => by
            obtain ⟨b', o', e, _, h1⟩ := (hfc.out W hb).2.at_ hjz
            rw [hkA] at e
            injection e with e
            injection e with e1 e2 _
            rw [e1, e2]
            exact h1)
          have hsu := Lib.hid (esM_succ c hjz)
          have hrng := Lib.hid (hcok.out.ks c.ks.zs[j] (List.getElem_mem hjz))
          rw [hkA] at a3
          have hza : Hid (∀ W, Below w.heap.size w W → W.cell? ⟨b, off + k * 4, none⟩ = some (.int .i64 c.z)) := Lib.hid (fun W hb => (hfc.out W hb).1.z)
          generalize c.ks.zs[j] = bk at hcell hsu hrng
          have hs1 := Lib.hid (show adk ++ adL (c.z % 8) (k : Int) q 0 (esM c (j + 1)) = (adk ++ adL (c.z % 8) (k : Int) q 0 (esM c j)) ++ [⟨c.z % 8, (k : Int), (j : Int), q, (blkM bk).1, (blkM bk).2⟩] by
            rw [hsu.out, adL_snoc, Nat.zero_add, esM_len c (Nat.le_of_lt hjz), List.append_assoc])
          have hel := Lib.hid (esM_len c (Nat.le_of_lt hjz))
          have hal2 : Hid ((adk ++ adL (c.z % 8) (k : Int) q 0 (esM c j)).length ≤ 1000) := Lib.hid (by rw [List.length_append, adL_len, hel.out]; have := hadk.out; have := hlt2.out; omega)
          have hlt4 := Lib.hid hlt3
          have hce := hcell.out _ hI2.out.o.bw
          obtain ⟨_, _, c1, _, _, z1, _, _, _, _, _⟩ := hI2.out
          generalize hads : adk ++ adL (c.z % 8) (k : Int) q 0 (esM c j) = ads at hI2 hs1 hna2 hal2
          clear hads
          obtain ⟨y, hy⟩ : ∃ y, blkM bk = y := ⟨_, rfl⟩
          rw [hy] at hsu hs1
          have hyH := Lib.hid hy
          clear hy hlt3 hkA
          go_upto_if 58 with fail
          go_cut [11, 12] from 57 to 61 (fun v11 v12 wx => v11 = .int .i64 y.1 ∧ v12 = .bool y.2 ∧ wx = wr)
          case first =>
            by_cases hneg : bk < 0
            case pos =>
              have hb1 : IntKind.i64.wrap (bk + 1) = bk + 1 := IntWalk.i64_in _ (by have := hrng.out; unfold Rng at this; omega)
              have hb2 : IntKind.i64.wrap (-(bk + 1)) = -(bk + 1) := IntWalk.i64_in _ (by have := hrng.out; unfold Rng at this; omega)
              have e1 : y = (-(bk + 1), true) := by rw [← hyH.out]; unfold blkM; rw [if_pos hneg]
              subst e1
              go_wp2_with fail
              go_meet
              exact ⟨rfl, rfl, rfl⟩
            case neg =>
              have e1 : y = (bk, false) := by rw [← hyH.out]; unfold blkM; rw [if_neg hneg]
              subst e1
              go_wp2_with fail
              go_meet
              exact ⟨rfl, rfl, rfl⟩
          case rest =>
            obtain ⟨rfl, rfl, hwx⟩ := hcut
            rw [hwx]
            clear hwx hce a0 a1 a2 a3
            have hal := (Below.refl wr.heap.size wr).alloc (Nat.le_refl _) (.cells #[.int .i64 y.1, .bool y.2] 110)
            obtain ⟨B', cb', W1, hrun, d1, y1, hI4⟩ := (hI2.out.below hal).push (by rw [hnb.out]; exact hel.out.symm) (by rw [hnb.out]; omega) (k := wr.heap.size) (y := y) (fun i hi => by
              rw [World.cell?_alloc_new]
              rcases (by omega : i = 0 ∨ i = 1) with rfl | rfl <;> rfl)
            have hrunH := Lib.hid hrun
            have hI4H := Lib.hid hI4
            clear hI2 hal hrun hI4
            go_upto_region 17 with (at_builtin; refine append_run_wp rfl _ _ _ rfl rfl rfl hrunH.out ?_; clear hrunH)
            clear c1 z1 d1 y1
            refine fresh_world (fun W => MiW w W base g m n mk A2 ca2 ads G q B' (nb + 1) cb' (esM c j ++ [y])) hI4H.out ?_
            clear hI4H
            rintro W7 h7
            have hc0 := h7.c0
            have hS0 : (fun W : World => W.cell? ⟨G, 0, none⟩ = some (.int .i64 q) ∧ W.cell? ⟨b, off + k * 4, none⟩ = some (.int .i64 c.z)) W7.drew := ⟨hc0, hza.out _ h7.o.bw.drew⟩
            have h7H := Lib.hid (h7.below (Below.refl _ _).drew)
            clear hc0 h7
            refine region_anyC (fun i => decide (i < 15)) (fun W => W.cell? ⟨G, 0, none⟩ = some (.int .i64 q) ∧ W.cell? ⟨b, off + k * 4, none⟩ = some (.int .i64 c.z)) (by kernel_rfl) ?_
            refine anyL_take 0 (v := ?_) rfl (by kernel_rfl) (fun _ _ _ h => h) (Or.inl ⟨by rfl, ?_⟩) hS0 ?_
            rotate_left
            focus (intro W hW; go_simp; try with_reducible rfl)
            simp only [Act.put, List.setIfInBounds_toArray, List.set_cons_zero, List.set_cons_succ]
            refine anyL_take 1 (v := ?_) rfl (by kernel_rfl) (fun _ _ _ h => h) (Or.inl ⟨by rfl, ?_⟩) hS0 ?_
            rotate_left
            focus (intro W hW; go_simp; try with_reducible rfl)
            simp only [Act.put, List.setIfInBounds_toArray, List.set_cons_zero, List.set_cons_succ]
            refine anyL_take 2 (v := ?_) rfl (by kernel_rfl) (fun _ _ _ h => h) (Or.inl ⟨by rfl, ?_⟩) hS0 ?_
            rotate_left
            focus (intro W hW; go_simp; try with_reducible rfl)
            simp only [Act.put, List.setIfInBounds_toArray, List.set_cons_zero, List.set_cons_succ]
            refine anyL_take 3 (v := ?_) rfl (by kernel_rfl) (fun _ _ _ h => h) (Or.inl ⟨by rfl, ?_⟩) hS0 ?_
            rotate_left
            focus (intro W hW; go_simp; try with_reducible rfl)
            simp only [Act.put, List.setIfInBounds_toArray, List.set_cons_zero, List.set_cons_succ]
            refine anyL_take 4 (v := ?_) rfl (by kernel_rfl) (fun _ _ _ h => h) (Or.inl ⟨by rfl, ?_⟩) hS0 ?_
            rotate_left
            focus (intro W hW; go_simp; try with_reducible rfl)
            simp only [Act.put, List.setIfInBounds_toArray, List.set_cons_zero, List.set_cons_succ]
            refine anyL_take 5 (v := ?_) rfl (by kernel_rfl) (fun _ _ _ h => h) (Or.inl ⟨by rfl, ?_⟩) hS0 ?_
            rotate_left
            focus (intro W hW; obtain ⟨c0, a0⟩ := hW; go_simp; try with_reducible rfl)
            simp only [Act.put, List.setIfInBounds_toArray, List.set_cons_zero, List.set_cons_succ]
            refine anyL_take 6 (v := ?_) rfl (by kernel_rfl) (fun _ _ _ h => h) (Or.inl ⟨by rfl, ?_⟩) hS0 ?_
            rotate_left
            focus (intro W hW; go_simp; try with_reducible rfl)
            simp only [Act.put, List.setIfInBounds_toArray, List.set_cons_zero, List.set_cons_succ]
            refine anyL_take 7 (v := ?_) rfl (by kernel_rfl) (fun _ _ _ h => h) (Or.inl ⟨by rfl, ?_⟩) hS0 ?_
            rotate_left
            focus (intro W hW; go_simp; try with_reducible rfl)
            simp only [Act.put, List.setIfInBounds_toArray, List.set_cons_zero, List.set_cons_succ]
            refine anyL_take 8 (v := ?_) rfl (by kernel_rfl) (fun _ _ _ h => h) (Or.inl ⟨by rfl, ?_⟩) hS0 ?_
            rotate_left
            focus (intro W hW; go_simp; try with_reducible rfl)
            simp only [Act.put, List.setIfInBounds_toArray, List.set_cons_zero, List.set_cons_succ]
            refine anyL_take 9 (v := ?_) rfl (by kernel_rfl) (fun _ _ _ h => h) (Or.inl ⟨by rfl, ?_⟩) hS0 ?_
            rotate_left
            focus (intro W hW; go_simp; try with_reducible rfl)
            simp only [Act.put, List.setIfInBounds_toArray, List.set_cons_zero, List.set_cons_succ]
            refine anyL_take 10 (v := ?_) rfl (by kernel_rfl) (fun _ _ _ h => h) (Or.inl ⟨by rfl, ?_⟩) hS0 ?_
            rotate_left
            focus (intro W hW; obtain ⟨c0, a0⟩ := hW; go_simp; try with_reducible rfl)
            simp only [Act.put, List.setIfInBounds_toArray, List.set_cons_zero, List.set_cons_succ]
            refine anyL_take 11 (v := ?_) rfl (by kernel_rfl) (fun _ _ _ h => h) (Or.inl ⟨by rfl, ?_⟩) hS0 ?_
            rotate_left
            focus (intro W hW; go_simp; try with_reducible rfl)
            simp only [Act.put, List.setIfInBounds_toArray, List.set_cons_zero, List.set_cons_succ]
            refine anyL_take 12 (v := ?_) rfl (by kernel_rfl) (fun _ _ _ h => h) (Or.inl ⟨by rfl, ?_⟩) hS0 ?_
            rotate_left
            focus (intro W hW; go_simp; try with_reducible rfl)
            simp only [Act.put, List.setIfInBounds_toArray, List.set_cons_zero, List.set_cons_succ]
            refine anyL_take 13 (v := ?_) rfl (by kernel_rfl) (fun _ _ _ h => h) (Or.inl ⟨by rfl, ?_⟩) hS0 ?_
            rotate_left
            focus (intro W hW; go_simp; try with_reducible rfl)
            simp only [Act.put, List.setIfInBounds_toArray, List.set_cons_zero, List.set_cons_succ]
            generalize W7.drew = Wd at hS0 h7H ⊢
            have hal := (Below.refl Wd.heap.size Wd).alloc (Nat.le_refl _) (.cells #[.int .i64 (c.z % 8), .int .i64 (k : Int), .int .i64 (j : Int), .int .i64 q, .int .i64 y.1, .bool y.2] 60)
            have h8 := h7H.out.below hal
            refine anyL_one 14 rfl (by kernel_rfl) (fun K hK => ?_)
            go_simp
            refine hK.out _ _ (fun _ => ⟨(hal.cell (lt_of_cell hS0.1)).trans hS0.1, (hal.cell (lt_of_cell hS0.2)).trans hS0.2⟩) ?_
            clear hK K hS0 h7H
            try simp only [Act.put, List.setIfInBounds_toArray, List.set_cons_zero, List.set_cons_succ]
            obtain ⟨A', ca', W9, hrun, hI9⟩ := h8.note hal2.out (k := Wd.heap.size) (y := ⟨c.z % 8, (k : Int), (j : Int), q, y.1, y.2⟩) (fun i hi => by
              rw [World.cell?_alloc_new]
              rcases (by omega : i = 0 ∨ i = 1 ∨ i = 2 ∨ i = 3 ∨ i = 4 ∨ i = 5) with rfl | rfl | rfl | rfl | rfl | rfl <;> rfl)
            rw [← hna2.out] at hrun
            rw [← hs1.out, ← hsu.out] at hI9
            have hI9H := Lib.hid hI9
            clear h8 hal hI9
            refine anyL_one 15 rfl (by kernel_rfl) (fun K hK => ?_)
            refine append_run_step rfl (.tmp 70) (.tmp 84) 56 rfl rfl rfl hrun ?_
            refine hK.out _ _ (fun h => absurd h (by decide)) ?_
            clear hK K hrun
            try simp only [Act.put, List.setIfInBounds_toArray, List.set_cons_zero, List.set_cons_succ]
            refine anyL_one 16 rfl (by kernel_rfl) (fun K hK => ?_)
            go_simp
            refine hK.out _ _ (fun h => absurd h (by decide)) ?_
            clear hK K
            try simp only [Act.put, List.setIfInBounds_toArray, List.set_cons_zero, List.set_cons_succ]
            refine anyC_done (by kernel_rfl) ?_ _
            have hlen9 : Hid (na2 + 1 = (adk ++ adL (c.z % 8) (k : Int) q 0 (esM c (j + 1))).length) := Lib.hid (by rw [hs1.out, List.length_append, hna2.out]; rfl)
            go_wp2_with fail
            go_roundw
            case rel => exact ⟨j + 1, na2 + 1, A', ca', nb + 1, B', cb', hlt4.out.1, hlt4.out.2, by go_num, rfl, hlen9, Lib.hid (by rw [hnb.out]), hI9H⟩
            case measure => simp only [Go.RowKit.intOf]; have := hlt4.out; omega
end Go.Proofs.Ytbgkmppngnedlaa
