/- given, walked. -/
import Derived.Test.YtpmhfalhieinjaaBkGivI
import Derived.Test.YtpmhfalhieinjaaMask
import Derived.IntWalk
import Derived.LoopTactic
namespace Go.Proofs.Ytpmhfalhieinjaa
open Go.RowKit Rec Bk

def GivPost (w : World) (ls : List PRow) (e : Ending) (w' : World) : Prop := ∃ Aa ca la Ab cb lb, e = .returned (.tuple #[.slice Aa la.length ca, .slice Ab lb.length cb]) ∧ la.map LRow.rs = givL ls ∧ lb.map LRow.rs = givL ls ∧ GvO w w' Aa ca la Ab cb lb
set_option maxRecDepth 100000 in
set_option maxHeartbeats 4000000 in
theorem given10 (w : World) (A : Option Addr) (cap : Nat) (ls : List PRow) (hI : PIn w A ls) :
    Calls Try.prog 8 #[.slice A ls.length cap] w (GivPost w ls) := by
  have hIH := Lib.hid (fun W (hb : Below w.heap.size w W) => hI.below hb)

  clear hI
  go_enter Try.func8, Try.ntmps8
  go_wp2_with fail
  go_loopw [4, 5, 6] (fun a b i wr => ∃ (k : Nat) (Aa : Option Addr) (ca : Nat) (la : List LRow) (Ab : Option Addr) (cb : Nat) (lb : List LRow), k ≤ 8 ∧ k ≤ ls.length ∧ i = .int .i64 (k : Int) ∧ a = .slice Aa k ca ∧ b = .slice Ab k cb ∧ la.map LRow.rs = (ls.take k).map (fun l => giv1 l.xs) ∧ lb.map LRow.rs = (ls.take k).map (fun l => giv1 l.xs) ∧ GvO w wr Aa ca la Ab cb lb) (fun _ _ i _ => 8 - (intOf i).toNat)
  case atStart => exact ⟨0, none, 0, [], none, 0, [], by omega, Nat.zero_le _, rfl, rfl, rfl, rfl, rfl, GvO.start w⟩
  case round =>
    obtain ⟨k, Aa, ca, la, Ab, cb, lb, hk8, hkl, rfl, rfl, rfl, hla, hlb, hO⟩ := hrel
    have hOH := Lib.hid hO
    have hlaH := Lib.hid hla
    have hlbH := Lib.hid hlb
    by_cases hlt : k < ls.length ∧ k < 8
    case pos =>
      obtain ⟨h1, h2⟩ := hlt
      have g1 : (k : Int) < (ls.length : Int) := by omega
      have g2 : (k : Int) < 8 := by omega
      have hbw := hO.bw
      obtain ⟨_, _, -, -, -, hX⟩ := (hIH.out w (Below.refl _ _)).at_ h1
      obtain ⟨b0, off, rfl, -, -, -⟩ := (hIH.out w (Below.refl _ _)).at_ h1
      have hc := Lib.hid (fun W (hb : Below w.heap.size w W) => (by
        obtain ⟨b', off', e, -, hc, -⟩ := (hIH.out W hb).at_ h1
        injection e with e
        injection e with e1 e2
        subst e1
        subst e2
        exact hc : W.cell? ⟨b0, off + k, none⟩ = some (.slice ls[k].A ls[k].xs.length ls[k].cap)))
      have hXH := Lib.hid (fun W (hb : Below w.heap.size w W) => hX.below hb)

      have htk := Lib.hid (show (ls.take (k + 1)).map (fun l => giv1 l.xs) = (ls.take k).map (fun l => giv1 l.xs) ++ [giv1 ls[k].xs] by rw [List.take_succ_eq_append_getElem h1, List.map_append]; rfl)
      have hbH := Lib.hid hbw
      clear hO hla hlb hX hbw
      generalize ls[k] = p at hc hXH htk
      obtain ⟨Ap, capp, xs⟩ := p
      dsimp only at hc hXH htk
      obtain ⟨wo, rfl⟩ : ∃ wo, wo = wr := ⟨_, rfl⟩
      go_wp2_with fail
      go_loopw [7, 8, 9] (fun x y i wr => ∃ (j : Nat) (Ax : Option Addr) (cx : Nat) (Ay : Option Addr) (cy : Nat), j ≤ 100 ∧ j ≤ xs.length ∧ i = .int .i64 (j : Int) ∧ x = .slice Ax j cx ∧ y = .slice Ay j cy ∧ GvI wo wr Ax cx ((xs.take j).map turnR) Ay cy ((xs.take j).map turnR)) (fun _ _ i _ => 100 - (intOf i).toNat)
      case atStart => exact ⟨0, none, 0, none, 0, by omega, Nat.zero_le _, rfl, rfl, rfl, GvI.start wo⟩
      case round =>
        obtain ⟨j, Ax, cx, Ay, cy, hj1, hj2, rfl, rfl, rfl, hN⟩ := hrel
        have hNH := Lib.hid hN
        have hWb : Below w.heap.size w wr := hbH.out.trans (hN.bo.mono hbH.out.size)
        have hcc := hc.out _ hWb
        by_cases hlt : j < xs.length ∧ j < 100
        case pos =>
          obtain ⟨h3, h4⟩ := hlt
          have g3 : (j : Int) < (xs.length : Int) := by omega
          have g4 : (j : Int) < 100 := by omega
          obtain ⟨b2, off2, rfl, -, x0, x1, x2, x3, x4, x5⟩ := pr_at (hXH.out _ hWb) h3
          clear hN
          have hst := Lib.hid (show (xs.take (j + 1)).map turnR = (xs.take j).map turnR ++ [turnR xs[j]] by rw [List.take_succ_eq_append_getElem h3, List.map_append]; rfl)
          generalize xs[j] = e at x0 x1 x2 x3 x4 x5 hst
          go_upto_region 12 with fail
          have hbx := (Below.refl wr.heap.size wr).alloc (Nat.le_refl _) (.cells #[.int .i64 e.k, .int .i64 e.s, .int .i64 e.a, .int .i64 e.b, .int .i64 e.c, .int .i64 e.d] 67)
          refine fresh_world (fun W => GvI wo W Ax cx ((xs.take j).map turnR) Ay cy ((xs.take j).map turnR) ∧ W.cell? ⟨wr.heap.size, 0, none⟩ = some (.int .i64 e.k) ∧ W.cell? ⟨wr.heap.size, 1, none⟩ = some (.int .i64 e.s) ∧ W.cell? ⟨wr.heap.size, 2, none⟩ = some (.int .i64 e.a) ∧ W.cell? ⟨wr.heap.size, 3, none⟩ = some (.int .i64 e.b) ∧ W.cell? ⟨wr.heap.size, 4, none⟩ = some (.int .i64 e.c) ∧ W.cell? ⟨wr.heap.size, 5, none⟩ = some (.int .i64 e.d)) ⟨hNH.out.below hbx, by simp [World.cell?_alloc_new], by simp [World.cell?_alloc_new], by simp [World.cell?_alloc_new], by simp [World.cell?_alloc_new], by simp [World.cell?_alloc_new], by simp [World.cell?_alloc_new]⟩ ?_
          clear hNH hcc x0 x1 x2 x3 x4 x5 hbx
          generalize wr.heap.size = X
          rintro W3 ⟨hN, x0, x1, x2, x3, x4, x5⟩
          have hlen : ((xs.take j).map turnR).length = j := by rw [List.length_map, List.length_take]; omega
          obtain ⟨A', cap', W4, hrun, hN4⟩ := hN.pushX (turnR e) (by omega)
          rw [hlen] at hrun
          have m0 : bits .and .i64 e.k 3 = e.k % 4 := and_mask2 e.k 2 3 rfl (by decide)
          have m1 : bits .and .i64 e.s 1099511627775 = e.s % 1099511627776 := and_mask2 e.s 40 1099511627775 rfl (by decide)
          have m2 : bits .and .i64 e.a 65535 = e.a % 65536 := and_mask2 e.a 16 65535 rfl (by decide)
          have m3 : bits .and .i64 e.b 65535 = e.b % 65536 := and_mask2 e.b 16 65535 rfl (by decide)
          have m4 : bits .and .i64 e.c 1099511627775 = e.c % 1099511627776 := and_mask2 e.c 40 1099511627775 rfl (by decide)
          have m5 : bits .and .i64 e.d 65535 = e.d % 65536 := and_mask2 e.d 16 65535 rfl (by decide)
          have mw : IntKind.i64.wrap (3 + e.k % 4) = 3 + e.k % 4 := IntWalk.i64_in _ (by omega)
          have hrunH := Lib.hid hrun
          have hN4H := Lib.hid hN4
          clear hrun hN4 hN hlen
          go_upto_region 14 with (at_builtin; refine append_run_wp (by first | rfl | (simp [Region.wanted, yielded])) (.tmp 46) (.tmp 64) 46 rfl rfl rfl hrunH.out ?_; clear hrunH)
          clear x0 x1 x2 x3 x4 x5 m0 m1 m2 m3 m4 m5 mw
          have hN4 := hN4H.out
          rw [← hst.out] at hN4
          have hl5 : ((xs.take (j + 1)).map turnR).length = j + 1 := by rw [List.length_map, List.length_take]; omega
          obtain ⟨b5, e5, -, x0, x1, x2, x3, x4, x5, x6⟩ := hN4.x.recs.at_ (i := j) (by omega)
          have he : ((xs.take (j + 1)).map turnR)[j]'(by omega) = turnR e := by
            have := hst.out
            simp only [this]
            rw [List.getElem_append_right (by rw [List.length_map, List.length_take]; omega)]
            simp
          rw [he] at x0 x1 x2 x3 x4 x5 x6
          subst e5
          have hcp : j + 1 ≤ cap' := by
            rcases hN4.x.form with ⟨e6, _⟩ | ⟨g', _, _, _, hc6⟩
            · cases e6
            · omega
          have hl4 : ((xs.take j).map turnR).length = j := by rw [List.length_map, List.length_take]; omega
          obtain ⟨A6, cap6, W6, hrun6, hN6⟩ := hN4.pushY (turnR e) (by omega)
          rw [hl4] at hrun6
          rw [← hst.out] at hN6
          have hrunH := Lib.hid hrun6
          have hN6H := Lib.hid hN6
          have hkw : IntKind.i64.wrap ((j : Int) + 1) = (j : Int) + 1 := IntWalk.i64_in _ (by omega)
          clear hrun6 hN6 hN4 hN4H he hl4 hl5
          generalize turnR e = r at x0 x1 x2 x3 x4 x5 x6 hrunH hN6H
          go_wp2_with (at_builtin; refine append_run_wp (by first | rfl | (simp [Region.wanted, yielded])) (.tmp 66) (.tmp 71) 49 rfl rfl rfl hrunH.out ?_; clear hrunH)
          go_roundw
          case rel => exact ⟨j + 1, some ⟨b5, 0, none⟩, cap', A6, cap6, by omega, by omega, by go_num, rfl, rfl, hN6H.out⟩
          case measure => simp only [intOf]; omega
        case neg =>
          have hrs : (xs.take j).map turnR = giv1 xs := by
            unfold giv1
            rcases (by omega : j = 100 ∨ j = xs.length) with h | h
            · rw [h]
            · rw [h, List.take_length, List.take_of_length_le (by omega)]
          have hjl : (giv1 xs).length = j := by rw [← hrs, List.length_map, List.length_take]; omega
          rw [hrs] at hN
          have hO1 := hOH.out.below hN.bo
          obtain ⟨fx, fy⟩ := hN.fins hOH.out
          have hlal : la.length = k := by have := congrArg List.length hlaH.out; rw [List.length_map, List.length_map, List.length_take] at this; omega
          have hlbl : lb.length = k := by have := congrArg List.length hlbH.out; rw [List.length_map, List.length_map, List.length_take] at this; omega
          have hb1 := (Below.refl wr.heap.size wr).alloc (Nat.le_refl _) (.cells #[.slice Ax j cx] 46)
          obtain ⟨A', ca', W2, hrunA, hO2, hkA, -⟩ := (hO1.below hb1).pushA ⟨Ax, cx, giv1 xs⟩ (fx.below hb1) (by omega) (m := wr.heap.size) (by simp [World.cell?_alloc_new, hjl])
          have hb2 := (Below.refl W2.heap.size W2).alloc (Nat.le_refl _) (.cells #[.slice Ay j cy] 69)
          obtain ⟨B', cb', W3, hrunB, hO3, -, -⟩ := (hO2.below hb2).pushB ⟨Ay, cy, giv1 xs⟩ ((hkA _ (fy.below hb1)).below hb2) (by omega) (m := W2.heap.size) (by simp [World.cell?_alloc_new, hjl])
          rw [hlal] at hrunA
          rw [hlbl] at hrunB
          have hrunAH := Lib.hid hrunA
          have hrunBH := Lib.hid hrunB
          have hO3H := Lib.hid hO3
          have hkw : IntKind.i64.wrap ((k : Int) + 1) = (k : Int) + 1 := IntWalk.i64_in _ (by omega)
          have hma : (la ++ [(⟨Ax, cx, giv1 xs⟩ : LRow)]).map LRow.rs = (ls.take (k + 1)).map (fun l => giv1 l.xs) := by rw [List.map_append, hlaH.out, htk.out]; rfl
          have hmb : (lb ++ [(⟨Ay, cy, giv1 xs⟩ : LRow)]).map LRow.rs = (ls.take (k + 1)).map (fun l => giv1 l.xs) := by rw [List.map_append, hlbH.out, htk.out]; rfl
          have hmaH := Lib.hid hma
          have hmbH := Lib.hid hmb
          clear hma hmb hrunA hrunB hO3 hO2 hkA hO1 fx fy hb1 hb2 hN hrs hlal hlbl
          have hE : ¬ (j : Int) < (xs.length : Int) ∨ ((j : Int) < (xs.length : Int) ∧ ¬ (j : Int) < 100) := by omega
          rcases hE with g3 | ⟨g3, g4⟩ <;>
          · go_wp2_with (first | (at_builtin; refine append_run_wp (by first | rfl | (simp [Region.wanted, yielded])) (.tmp 73) (.tmp 75) 26 rfl rfl rfl hrunAH.out ?_) | (at_builtin; refine append_run_wp (by first | rfl | (simp [Region.wanted, yielded])) (.tmp 77) (.tmp 80) 27 rfl rfl rfl hrunBH.out ?_))
            go_roundw
            case rel => exact ⟨k + 1, A', ca', _, B', cb', _, by omega, by omega, by go_num, rfl, rfl, hmaH.out, hmbH.out, hO3H.out⟩
            case measure => simp only [intOf]; omega
    case neg =>
      have hke : givL ls = (ls.take k).map (fun l => giv1 l.xs) := by
        unfold givL
        rcases (by omega : k = 8 ∨ k = ls.length) with h | h
        · rw [h]
        · rw [h, List.take_length, List.take_of_length_le (by omega)]
      have hlal : la.length = k := by have := congrArg List.length hla; rw [List.length_map, List.length_map, List.length_take] at this; omega
      have hlbl : lb.length = k := by have := congrArg List.length hlb; rw [List.length_map, List.length_map, List.length_take] at this; omega
      have hfin := Lib.hid (show GivPost w ls (.returned (.tuple #[.slice Aa k ca, .slice Ab k cb])) wr from ⟨Aa, ca, la, Ab, cb, lb, by rw [hlal, hlbl], by rw [hke]; exact hla, by rw [hke]; exact hlb, hO⟩)
      clear hO hla hlb hke hlal hlbl
      have hE : ¬ (k : Int) < (ls.length : Int) ∨ ((k : Int) < (ls.length : Int) ∧ ¬ (k : Int) < 8) := by omega
      rcases hE with g3 | ⟨g3, g4⟩ <;>
      · go_wp2_with fail
        exact bodyPost_ret (v := .tuple #[.slice Aa k ca, .slice Ab k cb]) (by simp [results, Try.results8, go_sem]) rfl hfin.out
end Go.Proofs.Ytpmhfalhieinjaa
