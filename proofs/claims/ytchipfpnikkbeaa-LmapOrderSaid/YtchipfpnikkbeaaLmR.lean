/- LmapOrder: the walk. -/
import Derived.Test.YtchipfpnikkbeaaLmQ
namespace Go.Proofs.Ytchipfpnikkbeaa
open Go.RowKit

/-- Two maps of the call's own. -/
structure TwoM (w W : World) (g m g' m' n : Nat) (x y : Lm) : Prop where
  a : LmAt W g m n x
  b : LmAt W g' m' n y
  bw : Below w.heap.size w W
  lo : w.heap.size ≤ g ∧ w.heap.size ≤ m ∧ w.heap.size ≤ g' ∧ w.heap.size ≤ m'
  ne : (g ≠ g' ∧ g ≠ m') ∧ (m ≠ g' ∧ m ≠ m')
theorem TwoM.below {w W W' : World} {g m g' m' n : Nat} {x y : Lm} (h : TwoM w W g m g' m' n x y) (hb : Below W.heap.size W W') : TwoM w W' g m g' m' n x y := ⟨h.a.below hb, h.b.below hb, bmore h.bw hb, h.lo, h.ne⟩
theorem TwoM.one {w W W' : World} {g m g' m' n n' : Nat} {x x' y : Lm} (h : TwoM w W g m g' m' n x y) (hn : n ≤ n') (hl : LmAt W' g m n' x') (hb : But2 W W' g m) : TwoM w W' g m g' m' n' x' y :=
  ⟨hl, (h.b.far hb (fun e => h.ne.1.1 e.symm) (fun e => h.ne.2.1 e.symm) (fun e => h.ne.1.2 e.symm) (fun e => h.ne.2.2 e.symm)).mono hn, h.bw.trans (hb.below h.lo.1 h.lo.2.1 h.bw.size), h.lo, h.ne⟩
theorem TwoM.two {w W W' : World} {g m g' m' n n' : Nat} {x y y' : Lm} (h : TwoM w W g m g' m' n x y) (hn : n ≤ n') (hl : LmAt W' g' m' n' y') (hb : But2 W W' g' m') : TwoM w W' g m g' m' n' x y' :=
  ⟨(h.a.far hb h.ne.1.1 h.ne.1.2 h.ne.2.1 h.ne.2.2).mono hn, hl, h.bw.trans (hb.below h.lo.2.2.1 h.lo.2.2.2 h.bw.size), h.lo, h.ne⟩
def gaG (l : List GA) (i : Nat) : Int × List (Int × Bool) := match l[i]? with
  | some c => (c.z % 4, esO c 10)
  | none => (0, [])
theorem gaG_at {l : List GA} {i : Nat} (h : i < l.length) : gaG l i = (l[i].z % 4, esO l[i] 10) := by unfold gaG; rw [List.getElem?_eq_getElem h]
def loopF (l : List GA) (k : Nat) : Lm := Lm.all (gaG l) Lm.new (List.range k)
def loopT (l : List GA) (r k : Nat) : Lm := Lm.all (gaG l) Lm.new (turnL r l.length k)
theorem loopF_succ (l : List GA) {k : Nat} (h : k < l.length) : loopF l (k + 1) = (loopF l k).add (l[k].z % 4) (k : Int) (7 * (k : Int) + 3) (esO l[k] 10) := by
  unfold loopF
  rw [List.range_succ, Lm.all_snoc, gaG_at h]
theorem loopT_succ (l : List GA) {r k j : Nat} (hj : (k + r) % l.length = j) (h : j < l.length) : loopT l r (k + 1) = (loopT l r k).add (l[j].z % 4) (j : Int) (7 * (j : Int) + 3) (esO l[j] 10) := by
  unfold loopT
  rw [turnL_succ, Lm.all_snoc, hj, gaG_at h]
theorem loop_end (l : List GA) {r : Nat} (h : r < l.length) : loopT l r l.length = loopF l l.length := Lm.all_perm _ _ (turnL_perm h)
set_option maxRecDepth 100000 in
set_option maxHeartbeats 4000000 in
theorem order_law (w : World) (A : Option Addr) (cap : Nat) (l : List GA) (by_ : Int) (hI : GActsIn w A l) (hlen : l.length ≤ 9223372036854775807) :
    Calls Try.prog 4 #[.slice A l.length cap, .int .i64 by_] w fun e w' => e = .returned (.bool true) ∧ Below w.heap.size w w' := by
  have hsp := Lib.hid (speaks19 w)
  have hnew := Lib.hid new_any
  have hIH := Lib.hid (fun W (hb : Below w.heap.size w W) => hI.below hb)
  clear hI
  obtain ⟨nl, hnl⟩ : ∃ nl, l.length = nl := ⟨_, rfl⟩
  rw [hnl] at hlen ⊢
  have hnlH := Lib.hid hnl
  clear hnl
  by_cases h40 : 40 < nl
  case pos =>
    have h40I : (40 : Int) < (nl : Int) := by omega
    clear hnew hIH
    go_enter Try.func4, Try.ntmps4
    go_wp2_with fail
    (with_reducible refine hsp.out.mono ?_)
    rintro e w1 ⟨rfl, hb1⟩
    have hbH := Lib.hid hb1
    clear hb1 hsp
    go_wp2_with fail
    go_ret
    exact ⟨rfl, hbH.out⟩
  case neg =>
    have h40I : ¬ (40 : Int) < (nl : Int) := by omega
    by_cases h0 : nl = 0
    case pos =>
      subst h0
      clear hnew hIH
      go_enter Try.func4, Try.ntmps4
      go_wp2_with fail
      (with_reducible refine hsp.out.mono ?_)
      rintro e w1 ⟨rfl, hb1⟩
      have hbH := Lib.hid hb1
      clear hb1 hsp
      go_wp2_with fail
      go_ret
      exact ⟨rfl, hbH.out⟩
    case neg =>
      have h0b : ((nl : Int) == 0) = false := by simp [h0]
      have h0I : ¬ (nl : Int) = 0 := by omega
      have h40b : decide ((nl : Int) > 40) = false := by simp; omega
      obtain ⟨t, y, ht, hy, y0, y1, t0, t1, wt, wtn, wy⟩ := mod_in by_ (nl : Int) (by omega) (by omega)
      obtain ⟨r, hr⟩ : ∃ r : Nat, y = (r : Int) := ⟨y.toNat, by omega⟩
      subst hr
      have hrn : Hid (r < nl) := Lib.hid (by omega)
      clear y0 y1
      go_enter Try.func4, Try.ntmps4
      go_wp2_with fail
      (with_reducible refine hsp.out.mono ?_)
      rintro e w1 ⟨rfl, hb1⟩
      have hB1 := Lib.hid hb1
      clear hb1 hsp
      go_wp2_with fail
      (with_reducible refine (hnew.out _).mono ?_)
      rintro e w2 ⟨g, m, rfl, h2, hb2, hg2, hm2⟩
      have hB2 := Lib.hid (hB1.out.trans (hb2.mono hB1.out.size))
      have h2H := Lib.hid h2
      have hgm := Lib.hid (And.intro (Nat.le_trans hB1.out.size hg2) (Nat.le_trans hB1.out.size hm2))
      clear h2 hb2 hg2 hm2 hB1
      go_wp2_with fail
      (with_reducible refine (hnew.out _).mono ?_)
      rintro e w3 ⟨g', m', rfl, h3, hb3, hg3, hm3⟩
      have hT : Hid (TwoM w w3 g m g' m' 0 (loopF l 0) (loopT l r 0)) := Lib.hid ⟨h2H.out.below hb3, h3, hB2.out.trans (hb3.mono hB2.out.size), ⟨hgm.out.1, hgm.out.2, Nat.le_trans hB2.out.size hg3, Nat.le_trans hB2.out.size hm3⟩, by have := h2H.out.lt; omega⟩
      clear h3 hb3 hg3 hm3 hgm h2H hB2 hnew
      go_wp2_with fail
      go_loopw [7] (fun i wr => ∃ k : Nat, k ≤ nl ∧ i = .int .i64 (k : Int) ∧ Hid (TwoM w wr g m g' m' (k * 20) (loopF l k) (loopT l r k))) (fun i _ => nl - (Go.RowKit.intOf i).toNat)
      case atStart => exact ⟨0, Nat.zero_le _, rfl, hT⟩
      case round =>
        clear hT
        obtain ⟨k, hkn, rfl, hT⟩ := hrel
        by_cases hlt : k < nl
        case pos =>
          have hlI : (k : Int) < (nl : Int) := by omega
          have hkw : IntKind.i64.wrap ((k : Int) + 1) = (k : Int) + 1 := IntWalk.i64_in _ (by omega)
          have hkl : k < l.length := by rw [hnlH.out]; exact hlt
          have hjl : (k + r) % nl < l.length := by rw [hnlH.out]; exact Nat.mod_lt _ (by omega)
          obtain ⟨j, hj⟩ : ∃ j, (k + r) % nl = j := ⟨_, rfl⟩
          rw [hj] at hjl
          have hsF := Lib.hid (loopF_succ l hkl)
          have hsT := Lib.hid (loopT_succ l (r := r) (k := k) (j := j) (by rw [hnlH.out]; exact hj) hjl)
          have q1 : IntKind.i64.wrap ((k : Int) + (r : Int)) = (k : Int) + (r : Int) := IntWalk.i64_in _ (by have := hrn.out; omega)
          have q2 : ((k : Int) + (r : Int)).tmod (nl : Int) = (j : Int) := by
            rw [Int.tmod_eq_emod_of_nonneg (by omega), ← hj]
            exact (Int.natCast_emod (k + r) nl).symm
          have q3 : IntKind.i64.wrap (j : Int) = (j : Int) := IntWalk.i64_in _ (by have := hnlH.out; omega)
          have c1 := addO_any wr g m (k * 20) (loopF l k) A cap l k hT.out.a (hIH.out _ hT.out.bw) hkl (by rw [hnlH.out]; omega) (by omega)
          rw [← hsF.out, hnlH.out] at c1
          have c1H := Lib.hid c1
          have hadd := Lib.hid (fun W (hTT : TwoM w W g m g' m' (k * 20 + 10) (loopF l (k + 1)) (loopT l r k)) => addO_any W g' m' (k * 20 + 10) (loopT l r k) A cap l j hTT.b (hIH.out _ hTT.bw) hjl (by rw [hnlH.out]; omega) (by omega))
          clear c1 hj
          go_wp2_with fail
          (with_reducible refine c1H.out.mono ?_)
          rintro e w5 ⟨rfl, h5, hb5⟩
          have hT5 := hT.out.one (by omega) h5 hb5
          have c2 := hadd.out w5 hT5
          rw [← hsT.out, hnlH.out] at c2
          have c2H := Lib.hid c2
          have hT5H := Lib.hid hT5
          clear c1H h5 hb5 hT c2 hadd hT5
          go_wp2_with fail
          (with_reducible refine c2H.out.mono ?_)
          rintro e w6 ⟨rfl, h6, hb6⟩
          have hT6 : Hid (TwoM w w6 g m g' m' ((k + 1) * 20) (loopF l (k + 1)) (loopT l r (k + 1))) := Lib.hid (by
            rw [show (k + 1) * 20 = k * 20 + 10 + 10 by omega]
            exact hT5H.out.two (by omega) h6 hb6)
          clear c2H h6 hb6 hT5H hsF hsT
          go_wp2_with fail
          go_roundw
          case rel => exact ⟨k + 1, hlt, by go_num, hT6⟩
          case measure => simp only [Go.RowKit.intOf]; omega
        case neg =>
          have hkI : ¬ (k : Int) < (nl : Int) := by omega
          have hke : k = nl := by omega
          have hT9 : Hid (∃ x, x = loopF l nl ∧ TwoM w wr g m g' m' (nl * 20) x x) := Lib.hid ⟨_, rfl, by
            have h1 := hT.out
            rw [hke] at h1
            have h2 := loop_end l (r := r) (by rw [hnlH.out]; exact hrn.out)
            rw [hnlH.out] at h2
            rw [h2] at h1
            exact h1⟩
          clear hT hke
          obtain ⟨x, _, hTx⟩ := hT9.out
          have hTxH := Lib.hid hTx
          clear hTx hT9
          go_wp2_with fail
          go_loopw [8] (fun i wr => ∃ k : Nat, k ≤ 16 ∧ i = .int .i64 (k : Int) ∧ Hid (TwoM w wr g m g' m' (nl * 20) x x)) (fun i _ => 16 - (Go.RowKit.intOf i).toNat)
          case atStart => exact ⟨0, Nat.zero_le _, rfl, hTxH⟩
          case round =>
            clear hTxH
            obtain ⟨j, hj, rfl, hT⟩ := hrel
            by_cases hlt2 : j < 16
            case neg =>
              have hjI : ¬ (j : Int) < 16 := by omega
              have s1 := Lib.hid (seq_any _ g m _ _ hT.out.a)
              have s2 := Lib.hid (fun W (h : TwoM w W g m g' m' (nl * 20) x x) => seq_any W g' m' _ _ h.b)
              go_wp2_with fail
              (with_reducible refine s1.out.mono ?_)
              rintro e w7 ⟨rfl, rfl⟩
              go_wp2_with fail
              (with_reducible refine (s2.out _ hT.out).mono ?_)
              rintro e w8 ⟨rfl, rfl⟩
              go_wp2_with fail
              go_ret
              exact ⟨by simp, hT.out.bw⟩
            case pos =>
              have hjI : (j : Int) < 16 := by omega
              have hjw : IntKind.i64.wrap ((j : Int) + 1) = (j : Int) + 1 := IntWalk.i64_in _ (by omega)
              have g1 := Lib.hid (get_any _ g m _ _ (j : Int) hT.out.a (wfI_of (by omega)))
              have g2 := Lib.hid (fun W (h : TwoM w W g m g' m' (nl * 20) x x) => get_any W g' m' _ _ (j : Int) h.b (wfI_of (by omega)))
              generalize x.f (j : Int) = yo at g1 g2
              generalize hy1 : (yo.getD zE).z = v1
              generalize hy2 : (yo.getD zE).a = v2
              generalize hy3 : (yo.getD zE).e = v3
              generalize hy4 : (yo.getD zE).t = v4
              unfold GetPost at g1 g2
              rw [hy1, hy2, hy3, hy4] at g1 g2
              generalize yo.isSome = v5 at g1 g2
              clear hy1 hy2 hy3 hy4
              go_wp2_with fail
              (with_reducible refine g1.out.mono ?_)
              rintro e w7 ⟨rfl, hb7⟩
              have hT7 := hT.out.below hb7
              have hal7 := (Below.refl w7.heap.size w7).alloc (Nat.le_refl _) (.cells #[.int .i64 v1, .int .i64 v2, .int .i64 v3] 32)
              have hP : (fun W => TwoM w W g m g' m' (nl * 20) x x ∧ W.cell? ⟨w7.heap.size, 0, none⟩ = some (.int .i64 v1) ∧ W.cell? ⟨w7.heap.size, 1, none⟩ = some (.int .i64 v2) ∧ W.cell? ⟨w7.heap.size, 2, none⟩ = some (.int .i64 v3)) (w7.alloc (.cells #[.int .i64 v1, .int .i64 v2, .int .i64 v3] 32)) := ⟨hT7.below hal7, by go_simp, by go_simp, by go_simp⟩
              have hPH := Lib.hid hP
              clear hT7 hal7 hP hb7 g1 hT
              go_upto_region 16 with fail
              generalize w7.heap.size = x1 at hPH ⊢
              refine fresh_world (fun W => TwoM w W g m g' m' (nl * 20) x x ∧ W.cell? ⟨x1, 0, none⟩ = some (.int .i64 v1) ∧ W.cell? ⟨x1, 1, none⟩ = some (.int .i64 v2) ∧ W.cell? ⟨x1, 2, none⟩ = some (.int .i64 v3)) hPH.out ?_
              clear hPH
              rintro W8 ⟨h8, p0, p1, p2⟩
              have h8H := Lib.hid (And.intro h8 (And.intro p0 (And.intro p1 p2)))
              clear h8 p0 p1 p2
              go_wp2_with fail
              (with_reducible refine (g2.out _ h8H.out.1).mono ?_)
              rintro e w9 ⟨rfl, hb9⟩
              have hT9 := Lib.hid (h8H.out.1.below hb9)
              obtain ⟨p0, p1, p2⟩ : w9.cell? ⟨x1, 0, none⟩ = some (.int .i64 v1) ∧ w9.cell? ⟨x1, 1, none⟩ = some (.int .i64 v2) ∧ w9.cell? ⟨x1, 2, none⟩ = some (.int .i64 v3) := ⟨(hb9.cell (lt_of_cell h8H.out.2.1)).trans h8H.out.2.1, (hb9.cell (lt_of_cell h8H.out.2.1)).trans h8H.out.2.2.1, (hb9.cell (lt_of_cell h8H.out.2.1)).trans h8H.out.2.2.2⟩
              have hx1 : x1 < w9.heap.size := lt_of_cell p0
              have heq : ∀ W, (binOp .neq 32 (.agg #[.int .i64 v1, .int .i64 v2, .int .i64 v3]) (.agg #[.int .i64 v1, .int .i64 v2, .int .i64 v3])).run Try.prog W = .ok (.bool false) W := fun W => by
                have h1 := (where_eql W v1 v2 v3 v1 v2 v3).2
                rw [eqW_self] at h1
                exact h1
              have hne4 : (v4 != v4) = false := by simp
              have hne5 : (v5 != v5) = false := by simp
              have hfin := Lib.hid (hT9.out.below ((Below.refl _ _).alloc (Nat.le_refl _) (.cells #[.int .i64 v1, .int .i64 v2, .int .i64 v3] 32)))
              clear h8H hb9 hT9 g2
              go_wp2_with fail
              go_roundw
              case rel => exact ⟨j + 1, hlt2, by go_num, hfin⟩
              case measure => simp only [Go.RowKit.intOf]; omega
end Go.Proofs.Ytchipfpnikkbeaa
