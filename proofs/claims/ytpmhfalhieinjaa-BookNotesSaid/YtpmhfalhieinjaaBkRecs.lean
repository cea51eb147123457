/- The records of a book. -/
import Derived.Test.YtpmhfalhieinjaaBkRecN
import Derived.IntWalk
import Derived.LoopTactic
namespace Go.Proofs.Ytpmhfalhieinjaa
open Go.RowKit Rec Bk

def RecPost (w : World) (b : Bo) (e : Ending) (w' : World) : Prop := ∃ A cap A1 c1 A2 c2, e = .returned (.tuple #[.slice A (recsB b).length cap, .agg #[.int .i64 (nextB b).q, .slice A1 (nextB b).zs.length c1, .slice A2 (nextB b).ms.length c2, .int .i64 (nextB b).sl, .int .i64 (nextB b).cu]]) ∧ RRow w' w.heap.size 53 A cap (recsB b) ∧ BkO w' w.heap.size A1 c1 A2 c2 (nextB b) ∧ Below w.heap.size w w'
theorem mems_take {l : List Int} {k : Nat} (h : k < l.length) : mems 0 (l.take (k + 1)) = mems 0 (l.take k) ++ [⟨5, 0, (k : Int), l[k], 0, 0, ⟨#[]⟩⟩] := by
  rw [List.take_succ_eq_append_getElem h, mems_snoc, List.length_take, show 0 + min k l.length = k by omega]
theorem maps_take {l : List Zo} {k : Nat} (h : k < l.length) : maps 0 (l.take (k + 1)) = maps 0 (l.take k) ++ [⟨3, 0, (k : Int), l[k].p, l[k].g, l[k].s, ⟨#[]⟩⟩] := by
  rw [List.take_succ_eq_append_getElem h, maps_snoc, List.length_take, show 0 + min k l.length = k by omega]
theorem recN_out {w W : World} {A1 : Option Addr} {c1 : Nat} {A2 : Option Addr} {c2 : Nat} {b : Bo} {A : Option Addr} {cap : Nat} {rs : List Rc} (h : RecN w W A1 c1 A2 c2 b A cap rs) :
    (fun W' => BkAt W' (w.heap.size + 1) A1 c1 A2 c2 b ∧ BkO W' w.heap.size A1 c1 A2 c2 b ∧ RRow W' w.heap.size 53 A cap rs ∧ Below w.heap.size w W') (((((W.setCell ⟨w.heap.size + 1, 0, none⟩ (.int .i64 b.q)).setCell ⟨w.heap.size + 1, 1, none⟩ (.slice A1 b.zs.length c1)).setCell ⟨w.heap.size + 1, 2, none⟩ (.slice A2 b.ms.length c2)).setCell ⟨w.heap.size + 1, 3, none⟩ (.int .i64 b.sl)).setCell ⟨w.heap.size + 1, 4, none⟩ (.int .i64 b.cu)).drew := by
  obtain ⟨h1, h2, h3⟩ := book_out h.o h.k.o (show w.heap.size + 1 < w.heap.size + 1 + 1 by omega) (show w.heap.size ≤ w.heap.size + 1 by omega) h.bw
  have hg := grownBy_put W (w.heap.size + 1) (.int .i64 b.q) (.slice A1 b.zs.length c1) (.slice A2 b.ms.length c2) (.int .i64 b.sl) (.int .i64 b.cu)
  have hr := h.r.far hg (fun g e e' => by
    rcases h.r.form with ⟨e2, _⟩ | ⟨g2, e2, hb2, _⟩
    · rw [e2] at e; cases e
    · rw [e2] at e; injection e with e; injection e with e; injection e' with e'; omega)
  exact ⟨h1.below (Below.refl _ _).drew, h2.below (Below.refl _ _).drew, (hr.mono (by omega)).below (Below.refl _ _).drew, h3.drew⟩
set_option maxRecDepth 100000 in
set_option maxHeartbeats 4000000 in
theorem records_any (w : World) (A1 : Option Addr) (c1 : Nat) (A2 : Option Addr) (c2 : Nat) (b : Bo) (h : BkIn w A1 c1 A2 c2 b) (hq : 0 ≤ b.q ∧ b.q ≤ 4611686018427387904) :
    Calls Try.prog 12 #[.agg #[.int .i64 b.q, .slice A1 b.zs.length c1, .slice A2 b.ms.length c2, .int .i64 b.sl, .int .i64 b.cu]] w (RecPost w b) := by
  have hst := Lib.hid (recW_start w A1 c1 A2 c2 b h)
  have hcl := Lib.hid (fun W A1 c1 A2 c2 (h : BkIn W A1 c1 A2 c2 b) => bclone_any W A1 c1 A2 c2 b h)
  have hcu0 : ∀ W A1 c1 A2 c2, Calls Try.prog 27 #[.agg #[.int .i64 b.q, .slice A1 b.zs.length c1, .slice A2 b.ms.length c2, .int .i64 b.sl, .int .i64 b.cu]] W fun e w' => e = .returned (.agg #[.int .i64 (curR b).k, .int .i64 (curR b).s, .int .i64 (curR b).a, .int .i64 (curR b).b, .int .i64 (curR b).c, .int .i64 (curR b).d, .string (curR b).body]) ∧ Below W.heap.size W w' := fun W A1 c1 A2 c2 => cursor_any W A1 c1 A2 c2 b
  have hcu := Lib.hid hcu0
  clear hcu0
  obtain ⟨x, hx⟩ : ∃ x, x = curR b := ⟨_, rfl⟩
  rw [← hx] at hcu
  have hxH := Lib.hid hx
  clear hx
  have hzl := h.zl
  have hml := h.ml
  clear h
  go_enter Try.func12, Try.ntmps12
  go_wp2_with fail
  refine fresh_world (fun W => RecW w W A1 c1 A2 c2 b none 0 []) hst.out ?_
  clear hst
  rintro W hN
  have hNH := Lib.hid hN
  obtain ⟨b0, b1, b2, b3, b4, bf⟩ := hN.a
  clear hN
  go_wp2_with fail
  clear b0 b1 b2 b3 b4 bf
  go_loopw [4, 13] (fun s i wr => ∃ (k : Nat) (A : Option Addr) (cap : Nat), k ≤ b.ms.length ∧ i = .int .i64 (k : Int) ∧ s = .slice A k cap ∧ RecW w wr A1 c1 A2 c2 b A cap (mems 0 (b.ms.take k))) (fun _ i _ => b.ms.length - (intOf i).toNat)
  case atStart => exact ⟨0, none, 0, Nat.zero_le _, rfl, rfl, hNH.out⟩
  case round =>
    clear hNH
    obtain ⟨k, A, cap, hkn, rfl, rfl, hN⟩ := hrel
    have hlen : (mems 0 (b.ms.take k)).length = k := by rw [mems_len, List.length_take]; omega
    by_cases hlt : k < b.ms.length
    case pos =>
      obtain ⟨g, off, rfl, hgl, hc⟩ := hN.i.m.at_ hlt
      obtain ⟨A', cap', W2, hrun, hN'⟩ := hN.app ⟨5, 0, (k : Int), b.ms[k], 0, 0, ⟨#[]⟩⟩ (by omega)
      dsimp only at hrun
      rw [hlen] at hrun
      rw [← mems_take hlt] at hN'
      have hrunH := Lib.hid hrun
      have hNH := Lib.hid hN'
      have hkw : IntKind.i64.wrap ((k : Int) + 1) = (k : Int) + 1 := IntWalk.i64_in _ (by omega)
      clear hrun hN' hN hlen
      go_wp2_with (at_builtin; refine append_run_wp (by first | rfl | (simp [Region.wanted, yielded])) (.tmp 18) (.tmp 22) 46 rfl rfl rfl hrunH.out ?_; clear hrunH)
      go_roundw
      case rel => exact ⟨k + 1, A', cap', by omega, by go_num, rfl, hNH.out⟩
      case measure => simp only [intOf]; omega
    case neg =>
      have hke : k = b.ms.length := by omega
      rw [hke, List.take_length] at hN
      rw [hke, List.take_length] at hlen
      have hNH := Lib.hid hN
      obtain ⟨b0, b1, b2, b3, b4, bf⟩ := hN.a
      have hlenH := Lib.hid hlen
      clear hN hlen
      go_wp2_with fail
      clear b0 b1 b2 b3 b4 bf
      have hkH := Lib.hid hke
      clear hke hkn hlt
      go_loopw [4, 28] (fun s i wr => ∃ (j n : Nat) (A : Option Addr) (cap : Nat), j ≤ b.zs.length ∧ n = k + j ∧ i = .int .i64 (j : Int) ∧ s = .slice A n cap ∧ RecW w wr A1 c1 A2 c2 b A cap (mems 0 b.ms ++ maps 0 (b.zs.take j))) (fun _ i _ => b.zs.length - (intOf i).toNat)
      case atStart => exact ⟨0, k, A, cap, Nat.zero_le _, rfl, rfl, rfl, by rw [List.take_zero]; show RecW w _ A1 c1 A2 c2 b A cap (mems 0 b.ms ++ []); rw [List.append_nil]; exact hNH.out⟩
      case round =>
        clear hNH
        obtain ⟨j, n, A, cap, hjn, hn, rfl, rfl, hN⟩ := hrel
        have hlen : (mems 0 b.ms ++ maps 0 (b.zs.take j)).length = n := by rw [List.length_append, mems_len, maps_len, List.length_take, ← hkH.out]; omega
        have hn128 : n ≤ 128 := by have := hkH.out; omega
        by_cases hlt : j < b.zs.length
        case pos =>
          obtain ⟨g, off, rfl, hgl, z0, z1, z2⟩ := zo_at hN.i.z hlt
          have h1 := hN.below (W' := wr.alloc (.cells #[.int .i64 b.zs[j].p, .int .i64 b.zs[j].g, .int .i64 b.zs[j].s] 60)) ((Below.refl _ _).alloc (Nat.le_refl _) _)
          obtain ⟨A', cap', W2, hrun, hN'⟩ := h1.app ⟨3, 0, (j : Int), b.zs[j].p, b.zs[j].g, b.zs[j].s, ⟨#[]⟩⟩ (by omega)
          dsimp only at hrun
          rw [hlen, World.size_alloc] at hrun
          rw [List.append_assoc, ← maps_take hlt] at hN'
          have hrunH := Lib.hid hrun
          have hNH := Lib.hid hN'
          have hkw : IntKind.i64.wrap ((j : Int) + 1) = (j : Int) + 1 := IntWalk.i64_in _ (by omega)
          have hnH := Lib.hid hn
          clear hrun hN' hN hlen h1 hn
          generalize b.zs[j] = z at z0 z1 z2 hrunH
          go_wp2_with (at_builtin; refine append_run_wp (by first | rfl | (simp [Region.wanted, yielded])) (.tmp 33) (.tmp 42) 46 rfl rfl rfl hrunH.out ?_; clear hrunH)
          go_roundw
          case rel => exact ⟨j + 1, n + 1, A', cap', by omega, by have := hnH.out; omega, by go_num, rfl, hNH.out⟩
          case measure => simp only [intOf]; omega
        case neg =>
          have hje : j = b.zs.length := by omega
          rw [hje, List.take_length] at hN hlen
          have hNH := Lib.hid hN
          obtain ⟨b0, b1, b2, b3, b4, bf⟩ := hN.a
          have hlenH := Lib.hid hlen
          have hnH := Lib.hid hn
          clear hN hlen hje hn hjn
          go_wp2_with fail
          refine (hcu.out _ _ _ _ _).mono ?_
          rintro e w1 ⟨rfl, hb1⟩
          have hN1 := hNH.out.below hb1
          obtain ⟨A', cap', W2, hrun, hN2⟩ := hN1.app x (by rw [hlenH.out]; omega)
          rw [hlenH.out] at hrun
          have hrunH := Lib.hid hrun
          have hN2H := Lib.hid hN2
          obtain ⟨b0, b1, b2, b3, b4, bf⟩ := hN2.a
          clear hN1 hrun hN2 hb1 hNH hcu hlt
          go_wp2_with (at_builtin; refine append_run_wp (by first | rfl | (simp [Region.wanted, yielded])) (.tmp 45) (.tmp 48) 46 rfl rfl rfl hrunH.out ?_; clear hrunH)
          refine (hcl.out _ _ _ _ _ hN2H.out.i).mono ?_
          rintro e w3 ⟨A1', c1', A2', c2', rfl, hO3, hb3⟩
          obtain ⟨hbb, hR⟩ := hN2H.out.cloned hO3 hb3
          have hRH := Lib.hid hR
          clear b0 b1 b2 b3 b4 bf
          obtain ⟨b0, b1, b2, b3, b4, bf⟩ := hbb
          clear hR hO3 hb3 hN2H hcl
          go_upto_region 14 with fail
          refine fresh_world (fun W => RecN w W A1' c1' A2' c2' b A' cap' (mems 0 b.ms ++ maps 0 b.zs ++ [x])) hRH.out ?_
          clear hRH b0 b1 b2 b3 b4 bf
          rintro W4 hR
          have hRH := Lib.hid hR
          clear hR
          obtain ⟨L, hL⟩ : ∃ L, L = mems 0 b.ms ++ maps 0 b.zs ++ [x] := ⟨_, rfl⟩
          rw [← hL] at hRH
          have hLn : L.length = n + 1 := by rw [hL, List.length_append, hlenH.out]; rfl
          have hLb : L = bare b := by rw [hL, hxH.out]; rfl
          have hLnH := Lib.hid hLn
          have hLbH := Lib.hid hLb
          clear hL hLn hLb hlenH hxH
          go_wp2_with fail
          go_loopw [54] (fun i wr => ∃ j : Nat, j ≤ n + 1 ∧ i = .int .i64 (j : Int) ∧ RecN w wr A1' c1' A2' c2' { b with q := b.q + j } A' cap' (nst b.q L j)) (fun i _ => n + 1 - (intOf i).toNat)
          case atStart => exact ⟨0, Nat.zero_le _, rfl, by rw [nst_zero]; have e : ({ b with q := b.q + ((0 : Nat) : Int) } : Bo) = b := by rw [show b.q + ((0 : Nat) : Int) = b.q by omega]
                                                           rw [e]; exact hRH.out⟩
          case round =>
            clear hRH
            obtain ⟨j2, hj2, rfl, hR⟩ := hrel
            have hnl := nst_len b.q L j2
            rw [hLnH.out] at hnl
            obtain ⟨g, rfl, hgb, hgl, hcap⟩ : ∃ g, A' = some ⟨g, 0, none⟩ ∧ w.heap.size + 1 + 1 ≤ g ∧ g < wr.heap.size ∧ n + 1 ≤ cap' := by
              rcases hR.r.form with ⟨_, _, e⟩ | ⟨g, e, h1, h2, h3⟩
              · rw [e] at hnl; simp at hnl
              · exact ⟨g, e, h1, h2, by omega⟩
            by_cases hlt : j2 < n + 1
            case pos =>
              have hjl : j2 < (nst b.q L j2).length := by rw [hnl]; exact hlt
              have hfin := hR.set_q (b.q + j2 + 1)
              have hfin2 := hfin.set_s hjl (b.q + j2 + 1)
              have hst2 : (nst b.q L j2).set j2 { (nst b.q L j2)[j2] with s := b.q + j2 + 1 } = nst b.q L (j2 + 1) := by
                rw [nst_at b.q L j2 (by rw [hLnH.out]; exact hlt)]
                exact nst_step b.q L j2 (by rw [hLnH.out]; exact hlt)
              rw [hst2] at hfin2
              have hqe : b.q + (j2 : Int) + 1 = b.q + ((j2 + 1 : Nat) : Int) := by push_cast; omega
              have hq0 := hR.k.a.c0
              have hf0 := hR.k.a.fr 0
              obtain ⟨g', e', -, -, d1, -, -, -, -, -⟩ := hR.r.recs.at_ hjl
              injection e' with e'
              injection e' with e'
              subst e'
              have hfg := World.ownsRow.frozenAt hR.r (j2 * 7 + 1)
              have hng : ¬ w.heap.size = g := by omega
              have hng2 : ¬ g = w.heap.size := by omega
              have hl1 : (j2 : Int) < ((n + 1 : Nat) : Int) := by omega
              have hq1 : b.q + (j2 : Int) + 1 ≤ 9223372036854775807 := by omega
              have hq2 : 0 ≤ b.q + (j2 : Int) := by omega
              have hkw : IntKind.i64.wrap ((j2 : Int) + 1) = (j2 : Int) + 1 := IntWalk.i64_in _ (by omega)
              generalize (nst b.q L j2)[j2].s = sv at d1
              have hfH := Lib.hid hfin2
              have hqH := Lib.hid hqe
              clear hfin hfin2 hst2 hR hqe hjl hnl
              go_wp2_with fail
              go_roundw
              case rel => exact ⟨j2 + 1, by omega, by go_num, by rw [← hqH.out]; exact hfH.out⟩
              case measure => simp only [intOf]; omega
            case neg =>
              have hje : j2 = n + 1 := by omega
              have e1 : nst b.q L j2 = recsB b := by rw [hje, ← hLnH.out, nst_all, hLbH.out]; rfl
              have e2 : ({ b with q := b.q + (j2 : Int) } : Bo) = nextB b := by
                unfold nextB
                rw [hje, ← hLnH.out, hLbH.out]
              rw [e1, e2] at hR
              rw [e1] at hnl
              have hl1 : ¬ (j2 : Int) < ((n + 1 : Nat) : Int) := by omega
              have hRH := Lib.hid hR
              have hnlH := Lib.hid hnl
              clear hR e1 e2 hnl hje hlt hj2
              go_wp2_with fail
              refine fresh_world (fun W => RecN w W A1' c1' A2' c2' (nextB b) (some ⟨g, 0, none⟩) cap' (recsB b)) hRH.out ?_
              clear hRH
              rintro W5 hR
              have hbase := Lib.hid (recN_out hR)
              obtain ⟨b0, b1, b2, b3, b4, bf⟩ := hR.k.a
              obtain ⟨x0, x1, x2, x3, x4, xf⟩ := hR.o
              clear hR
              go_region
              go_wp2_with fail
              refine fresh_post (fun W' => BkAt W' (w.heap.size + 1) A1' c1' A2' c2' (nextB b) ∧ BkO W' w.heap.size A1' c1' A2' c2' (nextB b) ∧ RRow W' w.heap.size 53 (some ⟨g, 0, none⟩) cap' (recsB b) ∧ Below w.heap.size w W') hbase.out ?_
              rintro W10 ⟨⟨z0, z1, z2, z3, z4, _⟩, hO10, hr10, hb10⟩
              refine bodyPost_ret (v := .tuple #[.slice (some ⟨g, 0, none⟩) (n + 1) cap', .agg #[.int .i64 (nextB b).q, .slice A1' (nextB b).zs.length c1', .slice A2' (nextB b).ms.length c2', .int .i64 (nextB b).sl, .int .i64 (nextB b).cu]]) (by simp [results, Try.results12, go_sem, z0, z1, z2, z3, z4]) rfl ⟨some ⟨g, 0, none⟩, cap', A1', c1', A2', c2', by rw [hnlH.out], hr10, hO10, hb10⟩
end Go.Proofs.Ytpmhfalhieinjaa
