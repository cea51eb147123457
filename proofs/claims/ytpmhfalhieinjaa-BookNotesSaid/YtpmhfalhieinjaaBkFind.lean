/- The document's Find. -/
import Derived.Test.YtpmhfalhieinjaaBkLists
namespace Go.Proofs.Ytpmhfalhieinjaa
open Go.RowKit Rec Bk

def findP (kind n : Int) (x : Rc) : Bool := x.k == kind && (decide (n < 0) || x.a == n)
theorem best_congr {p q : Rc → Bool} {l : List Rc} (h : ∀ x, p x = q x) : best p l = best q l := by
  have : p = q := funext h
  rw [this]
theorem findP_zone (z : Nat) (x : Rc) : findP 3 (z : Int) x = about (3, (z : Int)) x := by
  rw [Bool.eq_iff_iff, about_zone]
  unfold findP
  simp
  intro _ h
  omega
theorem findP_mem (z : Nat) (x : Rc) : findP 5 (z : Int) x = about (5, (z : Int)) x := by
  rw [Bool.eq_iff_iff, about_mem]
  unfold findP
  simp
  intro _ h
  omega
theorem findP_cur (x : Rc) : findP 6 (-1) x = about (6, 0) x := by
  rw [Bool.eq_iff_iff, about_cur]
  unfold findP
  simp
def bGet (o : Option Rc) : Rc := o.getD zeroR
/-- The world within Find. -/
structure FindW (w W : World) (o : Option Rc) : Prop where
  z : RcW W w.heap.size zeroR
  b : RcW W (w.heap.size + 1) (bGet o)
  bw : Below w.heap.size w W
theorem FindW.below {w W W' : World} {o : Option Rc} (h : FindW w W o) (hb : Below W.heap.size W W') : FindW w W' o := ⟨h.z.below hb, h.b.below hb, h.bw.trans (hb.mono h.bw.size)⟩
theorem findW_start (w : World) : FindW w ((w.alloc (.cells #[.int .i64 0, .int .i64 0, .int .i64 0, .int .i64 0, .int .i64 0, .int .i64 0, .string ⟨#[]⟩] 52)).alloc (.cells #[.int .i64 0, .int .i64 0, .int .i64 0, .int .i64 0, .int .i64 0, .int .i64 0, .string ⟨#[]⟩] 52)) none := by
  have h1 : RcW (w.alloc (.cells #[.int .i64 0, .int .i64 0, .int .i64 0, .int .i64 0, .int .i64 0, .int .i64 0, .string ⟨#[]⟩] 52)) w.heap.size zeroR := RcW.new w zeroR 52
  generalize hW1 : w.alloc _ = W1 at h1 ⊢
  have e1 : W1.heap.size = w.heap.size + 1 := by rw [← hW1, World.size_alloc]
  have hb1 : Below w.heap.size w W1 := by rw [← hW1]; exact (Below.refl _ _).alloc (Nat.le_refl _) _
  have h2 : RcW (W1.alloc (.cells #[.int .i64 0, .int .i64 0, .int .i64 0, .int .i64 0, .int .i64 0, .int .i64 0, .string ⟨#[]⟩] 52)) W1.heap.size zeroR := RcW.new W1 zeroR 52
  have hb2 : Below W1.heap.size W1 (W1.alloc (.cells #[.int .i64 0, .int .i64 0, .int .i64 0, .int .i64 0, .int .i64 0, .int .i64 0, .string ⟨#[]⟩] 52)) := (Below.refl _ _).alloc (Nat.le_refl _) _
  rw [e1] at h2
  exact ⟨h1.below hb2, h2, hb1.trans (hb2.mono hb1.size)⟩
theorem FindW.put {w W : World} {o : Option Rc} (h : FindW w W o) (x : Rc) :
    FindW w (((((((W.setCell ⟨w.heap.size + 1, 0, none⟩ (.int .i64 x.k)).setCell ⟨w.heap.size + 1, 1, none⟩ (.int .i64 x.s)).setCell ⟨w.heap.size + 1, 2, none⟩ (.int .i64 x.a)).setCell ⟨w.heap.size + 1, 3, none⟩ (.int .i64 x.b)).setCell ⟨w.heap.size + 1, 4, none⟩ (.int .i64 x.c)).setCell ⟨w.heap.size + 1, 5, none⟩ (.int .i64 x.d)).setCell ⟨w.heap.size + 1, 6, none⟩ (.string x.body)) (some x) := by
  have hw : w.heap.size ≤ w.heap.size + 1 := by omega
  have hn : w.heap.size + 1 ≠ w.heap.size := by omega
  exact ⟨((((((h.z.far hn 0 _).far hn 1 _).far hn 2 _).far hn 3 _).far hn 4 _).far hn 5 _).far hn 6 _, h.b.all x, ((((((h.bw.setCell hw _).setCell hw _).setCell hw _).setCell hw _).setCell hw _).setCell hw _).setCell hw _⟩
theorem FindW.out {w W : World} {o : Option Rc} (h : FindW w W o) (x : Rc) :
    RcW (((((((W.setCell ⟨w.heap.size, 0, none⟩ (.int .i64 x.k)).setCell ⟨w.heap.size, 1, none⟩ (.int .i64 x.s)).setCell ⟨w.heap.size, 2, none⟩ (.int .i64 x.a)).setCell ⟨w.heap.size, 3, none⟩ (.int .i64 x.b)).setCell ⟨w.heap.size, 4, none⟩ (.int .i64 x.c)).setCell ⟨w.heap.size, 5, none⟩ (.int .i64 x.d)).setCell ⟨w.heap.size, 6, none⟩ (.string x.body)) w.heap.size x ∧
    Below w.heap.size w (((((((W.setCell ⟨w.heap.size, 0, none⟩ (.int .i64 x.k)).setCell ⟨w.heap.size, 1, none⟩ (.int .i64 x.s)).setCell ⟨w.heap.size, 2, none⟩ (.int .i64 x.a)).setCell ⟨w.heap.size, 3, none⟩ (.int .i64 x.b)).setCell ⟨w.heap.size, 4, none⟩ (.int .i64 x.c)).setCell ⟨w.heap.size, 5, none⟩ (.int .i64 x.d)).setCell ⟨w.heap.size, 6, none⟩ (.string x.body)) := by
  have hw : w.heap.size ≤ w.heap.size := Nat.le_refl _
  exact ⟨h.z.all x, ((((((h.bw.setCell hw _).setCell hw _).setCell hw _).setCell hw _).setCell hw _).setCell hw _).setCell hw _⟩
def FdPost (w : World) (o : Option Rc) (e : Ending) (w' : World) : Prop := e = .returned (.tuple #[.agg #[.int .i64 (bGet o).k, .int .i64 (bGet o).s, .int .i64 (bGet o).a, .int .i64 (bGet o).b, .int .i64 (bGet o).c, .int .i64 (bGet o).d, .string (bGet o).body], .bool o.isSome]) ∧ Below w.heap.size w w'
set_option maxRecDepth 100000 in
set_option maxHeartbeats 8000000 in
theorem find_any (w : World) (A : Option Addr) (cap : Nat) (ls : List LRow) (kind n : Int) (hI : ListsIn w A ls) (hok : ListsOk ls) :
    Calls Try.prog 26 #[.slice A ls.length cap, .int .i64 kind, .int .i64 n] w (FdPost w (best (findP kind n) (flatL ls))) := by
  have hll := hok.1
  have hIH := Lib.hid (fun W (hb : Below w.heap.size w W) => hI.below hb)
  have hokH := Lib.hid hok.2
  have hst := Lib.hid (findW_start w)
  clear hI hok
  obtain ⟨p, hp⟩ : ∃ p, p = findP kind n := ⟨_, rfl⟩
  rw [← hp]
  have hpH := Lib.hid hp
  clear hp
  obtain ⟨res, hres⟩ : ∃ r, r = best p (flatL ls) := ⟨_, rfl⟩
  rw [← hres]
  have hresH := Lib.hid hres
  clear hres
  go_enter Try.func26, Try.ntmps26
  go_upto_region 2 with fail
  refine fresh_world (fun W => FindW w W none) hst.out ?_
  clear hst
  rintro W hN
  have hNH := Lib.hid hN
  clear hN
  go_wp2_with fail
  go_loopw [9, 10] (fun s i wr => ∃ (k : Nat), k ≤ ls.length ∧ i = .int .i64 (k : Int) ∧ s = .bool (best p (flatL (ls.take k))).isSome ∧ FindW w wr (best p (flatL (ls.take k)))) (fun _ i _ => ls.length - (intOf i).toNat)
  case atStart => exact ⟨0, Nat.zero_le _, rfl, rfl, hNH.out⟩
  case round =>
    clear hNH
    obtain ⟨k, hk, rfl, rfl, hN⟩ := hrel
    by_cases hlt : k < ls.length
    case pos =>
      obtain ⟨_, _, -, -, -, hR⟩ := (hIH.out w (Below.refl _ _)).at_ hlt
      obtain ⟨b, off, rfl, -, -, -⟩ := (hIH.out wr hN.bw).at_ hlt
      obtain ⟨hr1, hr2⟩ := hokH.out _ (List.getElem_mem hlt)
      have hpart := Lib.hid (flatL_take hlt)
      have hRH := Lib.hid (fun W (hb : Below w.heap.size w W) => hR.below hb)
      have hc := Lib.hid (fun W (hb : Below w.heap.size w W) => (by
        obtain ⟨b', off', e, -, hc, -⟩ := (hIH.out W hb).at_ hlt
        injection e with e
        injection e with e1 e2
        subst e1
        subst e2
        exact hc : W.cell? ⟨b, off + k, none⟩ = some (.slice ls[k].A ls[k].rs.length ls[k].cap)))
      have hr2H := Lib.hid hr2
      have hNH := Lib.hid hN
      obtain ⟨wo, rfl⟩ : ∃ wo, wo = wr := ⟨_, rfl⟩
      clear hN hR hr2
      generalize ls[k] = r at hc hr1 hRH hr2H hpart
      obtain ⟨Ar, capr, rs⟩ := r
      dsimp only at hc hr1 hRH hr2H hpart
      obtain ⟨L, hL⟩ : ∃ L, L = flatL (ls.take k) := ⟨_, rfl⟩
      rw [← hL] at hNH hpart ⊢
      clear hL
      go_wp2_with fail
      go_loopw [9, 11] (fun s i wr => ∃ (j : Nat), j ≤ rs.length ∧ i = .int .i64 (j : Int) ∧ s = .bool (best p (L ++ rs.take j)).isSome ∧ FindW w wr (best p (L ++ rs.take j))) (fun _ i _ => rs.length - (intOf i).toNat)
      case atStart => exact ⟨0, Nat.zero_le _, rfl, by rw [List.take_zero, List.append_nil], by rw [List.take_zero, List.append_nil]; exact hNH.out⟩
      case round =>
        clear hNH
        obtain ⟨j, hj, rfl, rfl, hN⟩ := hrel
        have hcc := hc.out _ hN.bw
        by_cases hlt2 : j < rs.length
        case pos =>
          obtain ⟨b2, off2, rfl, -, c0, c1, c2, c3, c4, c5, c6⟩ := (hRH.out wr hN.bw).at_ hlt2
          have htk : best p (L ++ rs.take (j + 1)) = bestF p (best p (L ++ rs.take j)) rs[j] := by rw [← best_snoc, List.append_assoc, List.take_succ_eq_append_getElem hlt2]
          have htH := Lib.hid htk
          have hj1 : (j : Int) < (rs.length : Int) := by omega
          have hkw : IntKind.i64.wrap ((j : Int) + 1) = (j : Int) + 1 := IntWalk.i64_in _ (by omega)
          have hNH := Lib.hid hN
          have hwl := hN.bw.size
          clear htk hN
          generalize hx : rs[j] = x at c0 c1 c2 c3 c4 c5 c6 htH
          clear hx
          generalize best p (L ++ rs.take j) = bo at hNH htH
          go_upto_region 10 with fail
          refine fresh_world (fun W => RcAt W wr.heap.size x ∧ FindW w W bo ∧ W.cell? ⟨b, off + k, none⟩ = some (.slice (some ⟨b2, off2, none⟩) rs.length capr)) ⟨RcAt.new wr x _, hNH.out.below ((Below.refl _ _).alloc (Nat.le_refl _) _), (((Below.refl _ wr).alloc (Nat.le_refl _) _).cell (p := ⟨b, off + k, none⟩) (lt_of_cell hcc)).trans hcc⟩ ?_
          clear hcc c0 c1 c2 c3 c4 c5 c6 hNH
          generalize wr.heap.size = X at hwl
          rintro W2 ⟨hX, hN, hcc⟩
          have hNH := Lib.hid hN
          have hput := Lib.hid (hN.put x)
          obtain ⟨x0, x1, x2, x3, x4, x5, x6⟩ := hX
          obtain ⟨⟨y0, y1, y2, y3, y4, y5, y6⟩, yf⟩ := hN.b
          have f0 := yf 0
          have f1 := yf 1
          have f2 := yf 2
          have f3 := yf 3
          have f4 := yf 4
          have f5 := yf 5
          have f6 := yf 6
          clear hN yf hcc
          by_cases hk1 : x.k = kind
          case neg =>
            have hk1' : (x.k == kind) = false := by simp [hk1]
            have hpx : p x = false := by rw [hpH.out]; unfold findP; simp [hk1]
            clear hk1
            have hE := Lib.hid (show bestF p bo x = bo by unfold bestF; rw [hpx]; rfl)
            clear hpx
            go_wp2_with fail
            go_roundw
            case rel => exact ⟨j + 1, by omega, by go_num, by rw [htH.out, hE.out], by rw [htH.out, hE.out]; exact hNH.out⟩
            case measure => simp only [intOf]; omega
          case pos =>
            have hk1' : (x.k == kind) = true := by simp [hk1]
            by_cases hn : n < 0
            case pos =>
              have hn' : decide (n < 0) = true := decide_eq_true hn
              have hpx : p x = true := by rw [hpH.out]; unfold findP; simp [hk1, hn]
              clear hk1 hn
              cases bo with
              | none =>
                have hE := Lib.hid (show bestF p none x = some x by unfold bestF; rw [if_pos hpx]; rfl)
                clear hpx
                go_wp2_with fail
                go_roundw
                case rel => exact ⟨j + 1, by omega, by go_num, by rw [htH.out, hE.out]; rfl, by rw [htH.out, hE.out]; exact hput.out⟩
                case measure => simp only [intOf]; omega
              | some y =>
                have hbg : bGet (some y) = y := rfl
                rw [hbg] at y0 y1 y2 y3 y4 y5 y6
                by_cases hs : y.s < x.s
                case pos =>
                  have hs' : decide (y.s < x.s) = true := decide_eq_true hs
                  have hE := Lib.hid (show bestF p (some y) x = some x by unfold bestF better; rw [if_pos hpx]; exact if_pos hs)
                  clear hpx hbg
                  go_wp2_with fail
                  go_roundw
                  case rel => exact ⟨j + 1, by omega, by go_num, by rw [htH.out, hE.out]; rfl, by rw [htH.out, hE.out]; exact hput.out⟩
                  case measure => simp only [intOf]; omega
                case neg =>
                  have hs' : decide (y.s < x.s) = false := decide_eq_false hs
                  have hE := Lib.hid (show bestF p (some y) x = (some y) by unfold bestF better; rw [if_pos hpx]; exact if_neg hs)
                  clear hpx hbg
                  go_wp2_with fail
                  go_roundw
                  case rel => exact ⟨j + 1, by omega, by go_num, by rw [htH.out, hE.out], by rw [htH.out, hE.out]; exact hNH.out⟩
                  case measure => simp only [intOf]; omega
            case neg =>
              have hn' : decide (n < 0) = false := decide_eq_false hn
              by_cases ha : x.a = n
              case pos =>
                have ha' : (x.a == n) = true := by simp [ha]
                have hpx : p x = true := by rw [hpH.out]; unfold findP; simp [hk1, ha]
                clear hk1 hn ha
                cases bo with
                | none =>
                  have hE := Lib.hid (show bestF p none x = some x by unfold bestF; rw [if_pos hpx]; rfl)
                  clear hpx
                  go_wp2_with fail
                  go_roundw
                  case rel => exact ⟨j + 1, by omega, by go_num, by rw [htH.out, hE.out]; rfl, by rw [htH.out, hE.out]; exact hput.out⟩
                  case measure => simp only [intOf]; omega
                | some y =>
                  have hbg : bGet (some y) = y := rfl
                  rw [hbg] at y0 y1 y2 y3 y4 y5 y6
                  by_cases hs : y.s < x.s
                  case pos =>
                    have hs' : decide (y.s < x.s) = true := decide_eq_true hs
                    have hE := Lib.hid (show bestF p (some y) x = some x by unfold bestF better; rw [if_pos hpx]; exact if_pos hs)
                    clear hpx hbg
                    go_wp2_with fail
                    go_roundw
                    case rel => exact ⟨j + 1, by omega, by go_num, by rw [htH.out, hE.out]; rfl, by rw [htH.out, hE.out]; exact hput.out⟩
                    case measure => simp only [intOf]; omega
                  case neg =>
                    have hs' : decide (y.s < x.s) = false := decide_eq_false hs
                    have hE := Lib.hid (show bestF p (some y) x = (some y) by unfold bestF better; rw [if_pos hpx]; exact if_neg hs)
                    clear hpx hbg
                    go_wp2_with fail
                    go_roundw
                    case rel => exact ⟨j + 1, by omega, by go_num, by rw [htH.out, hE.out], by rw [htH.out, hE.out]; exact hNH.out⟩
                    case measure => simp only [intOf]; omega
              case neg =>
                have ha' : (x.a == n) = false := by simp [ha]
                have hpx : p x = false := by rw [hpH.out]; unfold findP; simp [ha, hn]
                clear hk1 hn ha
                have hE := Lib.hid (show bestF p bo x = bo by unfold bestF; rw [hpx]; rfl)
                clear hpx
                go_wp2_with fail
                go_roundw
                case rel => exact ⟨j + 1, by omega, by go_num, by rw [htH.out, hE.out], by rw [htH.out, hE.out]; exact hNH.out⟩
                case measure => simp only [intOf]; omega
        case neg =>
          have hje : j = rs.length := by omega
          rw [hje, List.take_length] at hN
          have hNH := Lib.hid hN
          have hj1 : ¬ (j : Int) < (rs.length : Int) := by omega
          have hkw : IntKind.i64.wrap ((k : Int) + 1) = (k : Int) + 1 := IntWalk.i64_in _ (by omega)
          have hjH := Lib.hid hje
          clear hN hje
          go_wp2_with fail
          go_roundw
          case rel => exact ⟨k + 1, by omega, by go_num, by rw [hpart.out, hjH.out, List.take_length], by rw [hpart.out]; exact hNH.out⟩
          case measure => simp only [intOf]; omega
    case neg =>
      have hke : k = ls.length := by omega
      rw [hke, List.take_length, ← hresH.out] at hN
      have hsl : (best p (flatL (ls.take k))).isSome = res.isSome := by rw [hke, List.take_length, hresH.out]
      rw [hsl]
      have hk1 : ¬ (k : Int) < (ls.length : Int) := by omega
      obtain ⟨⟨y0, y1, y2, y3, y4, y5, y6⟩, -⟩ := hN.b
      obtain ⟨⟨z0, z1, z2, z3, z4, z5, z6⟩, zf⟩ := hN.z
      have f0 := zf 0
      have f1 := zf 1
      have f2 := zf 2
      have f3 := zf 3
      have f4 := zf 4
      have f5 := zf 5
      have f6 := zf 6
      have hfin := Lib.hid (hN.out (bGet res))
      clear hN hke hlt hsl zf
      go_wp2_with fail
      refine fresh_post (fun W => RcW W w.heap.size (bGet res) ∧ Below w.heap.size w W) hfin.out ?_
      rintro W10 ⟨⟨⟨q0, q1, q2, q3, q4, q5, q6⟩, -⟩, hb10⟩
      refine bodyPost_ret (v := .tuple #[.agg #[.int .i64 (bGet res).k, .int .i64 (bGet res).s, .int .i64 (bGet res).a, .int .i64 (bGet res).b, .int .i64 (bGet res).c, .int .i64 (bGet res).d, .string (bGet res).body], .bool res.isSome]) (by simp [results, Try.results26, go_sem, q0, q1, q2, q3, q4, q5, q6]) rfl ⟨rfl, hb10⟩
end Go.Proofs.Ytpmhfalhieinjaa
