/- The rig of the laws of mlog; a log of one record. -/
import Derived.Test.YtpmhfalhieinjaaGreatDoorMlgS
import Derived.BigQuiet
namespace Go.Proofs.YtpmhfalhieinjaaGreatDoor
open Go.RowKit Zon Drv Rec Crc

def mdG (b : Int) : Rg := ⟨fun _ => newD 5 b 2 4, ⟨b, 0, 0, false, []⟩⟩
theorem mdG_on (n : Nat) {b : Int} (hb : 1 ≤ b ∧ b ≤ 4096) : GL n b (mdG b) :=
  ⟨rfl, rfl, rfl, fun _ _ => ⟨newD_ok (by unfold newOk; exact decide_eq_true (by omega)), rfl, ⟨⟨0, 0⟩, ⟨0, 0⟩, [⟨0, 0⟩, ⟨0, 0⟩, ⟨0, 0⟩], rfl, fun v hv => by
    simp only [List.mem_cons, List.not_mem_nil, or_false] at hv
    rcases hv with rfl | rfl | rfl <;> rfl, ⟨by decide, fun h => absurd h (by decide)⟩, ⟨by decide, fun h => absurd h (by decide)⟩, by show (2 : Int) ≤ 4; omega⟩, rfl⟩⟩
theorem GL.rg {n : Nat} {b : Int} {G : Rg} (h : GL n b G) (h0 : 0 ≤ G.s.cnt) {c : Int} (hc : G.s.cnt ≤ c) : RgOk n G c :=
  ⟨fun i hi => (h.d i hi).ok, fun i hi => (h.d i hi).live, by rw [h.due]; omega, h0, hc⟩
theorem made_any (n : Nat) (b : Int) (hg : GoodP 3 5 b 2 4) (h1 : 1 ≤ n) (h2 : n ≤ 17) (w : World) :
    Calls Tryz.prog 10 #[.int .i64 b, .int .i64 (n : Int)] w fun e w' => ∃ K r d v, e = .returned (.tuple #[.pointer (some ⟨r, 0, none⟩), .pointer (some ⟨v, 0, none⟩)]) ∧ Rig w w' K r n n d (mdG b).D (mdG b).s := by
  have hb : 1 ≤ b ∧ b ≤ 4096 := by unfold GoodP at hg; omega
  have hr := Lib.hid (rnew_any 3 5 b 2 4 n w hg h1 h2)
  unfold RNew at hr
  have hv := Lib.hid (fun W => d08_new n (by omega) b hb W)
  clear hg h1 h2 hb
  go_enter Tryz.func10, Tryz.ntmps10
  go_wp2_with fail
  refine hr.out.mono ?_
  rintro e w1 ⟨K, r, d, rfl, hR⟩
  have hRH := Lib.hid hR
  clear hR hr
  go_wp2_with fail
  refine (hv.out _).mono ?_
  rintro e w2 ⟨rfl, hb2⟩
  have hfin := Lib.hid (hRH.out.grown hb2)
  clear hRH hb2 hv
  go_wp2_with fail
  go_ret2
  exact ⟨K, r, d, _, rfl, hfin.out⟩
theorem drew_quiet {P : Program} {f : FuncId} {args : Array Value} {W : World} {n : Nat} {v : Value}
    (h : Calls P f args (W.drewN n) fun e w' => e = .returned v ∧ ∃ q, w' = (W.drewN n).drewN q) : Calls P f args (W.drewN n) fun e w'' => e = .returned v ∧ ∃ m, w'' = W.drewN m :=
  h.mono fun _ _ ⟨he, q, hq⟩ => ⟨he, n + q, by rw [hq, World.drewN_drewN]⟩
def spX : Rc := ⟨3, 3, 0, 0, 0, 0, ⟨#[]⟩⟩
theorem spX_ok : okM spX = true := by decide
theorem Tab.of {w W : World} (hT : Tab w) (hb : Below w.heap.size w W) : Tab W := hT.below hb
set_option maxRecDepth 100000 in
set_option maxHeartbeats 4000000 in
theorem speaks9 (w : World) (hT : Tab w) : Calls Tryz.prog 7 #[] w fun e w' => e = .returned (.bool true) ∧ Below w.heap.size w w' := by
  have hmd := Lib.hid (made_any 1 8 (by decide) (by omega) (by omega) w)
  have hxx := Lib.hid (fun W : World => (rec_eql W spX spX).1)
  rw [eqR_self] at hxx
  unfold spX at hxx
  dsimp only at hxx
  have hxx' : ∀ W : World, (binOp .eql 38 (.agg #[.int .i64 3, .int .i64 3, .int .i64 0, .int .i64 0, .int .i64 0, .int .i64 0, .string ⟨#[]⟩]) (.agg #[.int .i64 3, .int .i64 3, .int .i64 0, .int .i64 0, .int .i64 0, .int .i64 0, .string ⟨#[]⟩])).run Tryz.prog W = .ok (.bool true) W := hxx.out
  have hTH := Lib.hid hT
  have hG := Lib.hid (mdG_on 1 (b := 8) (by omega))
  have hok : ([spX] : List Rc).all okM = true := by decide
  have hbk : (blk (begL 1 [spX]) : Int) = 3 := by decide
  obtain ⟨G', f1, f2, f3, f4, f5, -, -⟩ := fm_on (mdG_on 1 (b := 8) (by omega)) (i := 0) (by omega) hok (by omega)
  have hfo := Lib.hid (fun K r d W A cap (hR : Rig w W K r 1 1 d (mdG 8).D (mdG 8).s) (hI : RecsIn W A [spX]) => format_ok 0 A cap [spX] hR (hG.out.rg (by decide) (c := 0) (by decide)) (by omega) (by omega) (by omega) ⟨hok, by show (blk (begL 1 [spX]) : Int) ≤ 8; omega⟩ f1 (by rw [f2]) hTH.out hI (by decide))
  rw [f2] at hfo
  rw [hbk] at hfo f5
  have h4 : G'.s.cnt = 4 := f4
  have hop := Lib.hid (fun K r d W (hR : Rig w W K r 1 1 d G'.D G'.s) => mopen_any 0 hR (f3.rg (by omega) (c := 4) (by omega)) (by omega) (by omega) f3.off (f3.d 0 (by omega)).two hTH.out)
  have hsel := Lib.hid (fun o (h : SelR G' 0 2 o) => sel_log f5 h)
  have hle := Lib.hid (fun K r d p W (hS : LS w W K r 1 1 d G' p ⟨0, 0, 1, 3, false⟩) => left_q hS.l hS.R (by rw [f3.bl]; omega) (by show (0 : Int) ≤ 3 ∧ (3 : Int) ≤ 1000000; omega))
  have hlv : leftP G'.s.bl ⟨0, 0, 1, 3, false⟩ = 5 := by unfold leftP; rw [f3.bl]; rfl
  rw [hlv] at hle
  clear hT hlv h4 f1 f2 f3 f4 f5 hbk hok
  generalize G' = G at hfo hop hsel hle
  clear G'
  unfold FPost at hfo
  unfold OpPost at hop
  go_enter Tryz.func7, Tryz.ntmps7
  go_wp2_with fail
  refine hmd.out.mono ?_
  rintro e w1 ⟨K, r, d, v, rfl, hR⟩
  have hbx : Below w1.heap.size w1 ((w1.alloc (.cells #[.int .i64 3, .int .i64 3, .int .i64 0, .int .i64 0, .int .i64 0, .int .i64 0, .string ⟨#[]⟩] 38)).alloc (.cells #[.int .i64 3, .int .i64 3, .int .i64 0, .int .i64 0, .int .i64 0, .int .i64 0, .string ⟨#[]⟩] 38)) := ((Below.refl _ _).alloc (Nat.le_refl _) _).alloc (by simp) _
  have hx1 : RcAt ((w1.alloc (.cells #[.int .i64 3, .int .i64 3, .int .i64 0, .int .i64 0, .int .i64 0, .int .i64 0, .string ⟨#[]⟩] 38)).alloc (.cells #[.int .i64 3, .int .i64 3, .int .i64 0, .int .i64 0, .int .i64 0, .int .i64 0, .string ⟨#[]⟩] 38)) (w1.heap.size + 1) spX := by
    have h := RcAt.new (w1.alloc (.cells #[.int .i64 3, .int .i64 3, .int .i64 0, .int .i64 0, .int .i64 0, .int .i64 0, .string ⟨#[]⟩] 38)) spX 38
    rw [World.size_alloc] at h
    exact h
  have hx0 : RcAt ((w1.alloc (.cells #[.int .i64 3, .int .i64 3, .int .i64 0, .int .i64 0, .int .i64 0, .int .i64 0, .string ⟨#[]⟩] 38)).alloc (.cells #[.int .i64 3, .int .i64 3, .int .i64 0, .int .i64 0, .int .i64 0, .int .i64 0, .string ⟨#[]⟩] 38)) w1.heap.size spX :=
    (RcAt.new w1 spX 38).below ((Below.refl _ _).alloc (Nat.le_refl _) _)
  have hRk := hR.keepAll hbx
  have hX : newK w1 ((w1.alloc (.cells #[.int .i64 3, .int .i64 3, .int .i64 0, .int .i64 0, .int .i64 0, .int .i64 0, .string ⟨#[]⟩] 38)).alloc (.cells #[.int .i64 3, .int .i64 3, .int .i64 0, .int .i64 0, .int .i64 0, .int .i64 0, .string ⟨#[]⟩] 38)) K w1.heap.size := .inr ⟨Nat.le_refl _, by simp only [World.size_alloc]; omega⟩
  have hrl := hR.lt
  have hall := Lib.hid (And.intro hx0 (And.intro hx1 hRk))
  obtain ⟨K1, hK1⟩ : ∃ K1, K1 = newK w1 ((w1.alloc (.cells #[.int .i64 3, .int .i64 3, .int .i64 0, .int .i64 0, .int .i64 0, .int .i64 0, .string ⟨#[]⟩] 38)).alloc (.cells #[.int .i64 3, .int .i64 3, .int .i64 0, .int .i64 0, .int .i64 0, .int .i64 0, .string ⟨#[]⟩] 38)) K := ⟨_, rfl⟩
  rw [← hK1] at hall hX
  clear hx0 hx1 hRk hbx hK1 hR hmd
  go_wp2_with fail
  have hrecs : RecsIn ((w1.alloc (.cells #[.int .i64 3, .int .i64 3, .int .i64 0, .int .i64 0, .int .i64 0, .int .i64 0, .string ⟨#[]⟩] 38)).alloc (.cells #[.int .i64 3, .int .i64 3, .int .i64 0, .int .i64 0, .int .i64 0, .int .i64 0, .string ⟨#[]⟩] 38)) (some ⟨w1.heap.size + 1, 0, none⟩) [spX] := by
    refine .inr ⟨_, rfl, hall.out.2.1.lt, fun i hi j hj => ?_⟩
    have hi1 : i < 1 := hi
    obtain rfl : i = 0 := by omega
    obtain ⟨c0, c1, c2, c3, c4, c5, c6⟩ := hall.out.2.1
    match j, hj with
    | 0, _ => exact c0
    | 1, _ => exact c1
    | 2, _ => exact c2
    | 3, _ => exact c3
    | 4, _ => exact c4
    | 5, _ => exact c5
    | 6, _ => exact c6
  (refine (hfo.out K1 r d _ _ 1 hall.out.2.2 hrecs).mono ?_)
  rintro e w3 ⟨p, K3, rfl, k3, hS, hs3, hge⟩
  have hx3 : RcAt w3 w1.heap.size spX := by
    have hne : w1.heap.size ≠ r := by omega
    obtain ⟨c0, c1, c2, c3, c4, c5, c6⟩ := hall.out.1
    exact ⟨hs3.cell c0 ⟨hX, hne⟩, hs3.cell c1 ⟨hX, hne⟩, hs3.cell c2 ⟨hX, hne⟩, hs3.cell c3 ⟨hX, hne⟩, hs3.cell c4 ⟨hX, hne⟩, hs3.cell c5 ⟨hX, hne⟩, hs3.cell c6 ⟨hX, hne⟩⟩
  have hX3 := k3 _ hX
  have hSH := Lib.hid hS
  clear hrecs hall hs3 hge hfo hX k3 hS
  go_wp2_with fail
  (refine (hop.out K3 r d _ hSH.out.R).mono ?_)
  rintro e w4 ⟨o, K4, lv, rv, hsl, k4, hR4, hs4, hO, rfl⟩
  obtain rfl := hsel.out _ hsl
  obtain ⟨p2, A, cap, rfl, rfl, -, -, -, -, hrec, -⟩ := hO
  obtain ⟨bA, rfl, -, q0, q1, q2, q3, q4, q5, q6⟩ := hrec.at_ (i := 0) (by decide)
  have hx4 : RcAt w4 w1.heap.size spX := by
    have hne : w1.heap.size ≠ r := by omega
    obtain ⟨c0, c1, c2, c3, c4, c5, c6⟩ := hx3
    exact ⟨hs4.cell c0 ⟨hX3, hne⟩, hs4.cell c1 ⟨hX3, hne⟩, hs4.cell c2 ⟨hX3, hne⟩, hs4.cell c3 ⟨hX3, hne⟩, hs4.cell c4 ⟨hX3, hne⟩, hs4.cell c5 ⟨hX3, hne⟩, hs4.cell c6 ⟨hX3, hne⟩⟩
  have hS4 := Lib.hid (show LS w w4 K4 r 1 1 d G p ⟨0, 0, 1, 3, false⟩ from ⟨hR4, hSH.out.l.sameK hs4 ⟨hSH.out.k, hSH.out.ne⟩, k4 _ hSH.out.k, hSH.out.ne, hSH.out.ge, hSH.out.n0⟩)
  have hfin := Lib.hid hR4.fam.b
  have hlq := Lib.hid (fun n => hle.out K4 r d p (w4.drewN n) (hS4.out.grown (below_drewN (Below.refl _ _) _)))
  obtain ⟨y0, y1, y2, y3, y4, y5, y6⟩ := hx4
  have z0 : w4.cell? ⟨w1.heap.size, 0, none⟩ = some (.int .i64 3) := y0
  have z1 : w4.cell? ⟨w1.heap.size, 1, none⟩ = some (.int .i64 3) := y1
  have z2 : w4.cell? ⟨w1.heap.size, 2, none⟩ = some (.int .i64 0) := y2
  have z3 : w4.cell? ⟨w1.heap.size, 3, none⟩ = some (.int .i64 0) := y3
  have z4 : w4.cell? ⟨w1.heap.size, 4, none⟩ = some (.int .i64 0) := y4
  have z5 : w4.cell? ⟨w1.heap.size, 5, none⟩ = some (.int .i64 0) := y5
  have z6 : w4.cell? ⟨w1.heap.size, 6, none⟩ = some (.string ⟨#[]⟩) := y6
  have r0 : w4.cell? ⟨bA, 0, none⟩ = some (.int .i64 3) := q0
  have r1 : w4.cell? ⟨bA, 1, none⟩ = some (.int .i64 3) := q1
  have r2 : w4.cell? ⟨bA, 2, none⟩ = some (.int .i64 0) := q2
  have r3 : w4.cell? ⟨bA, 3, none⟩ = some (.int .i64 0) := q3
  have r4 : w4.cell? ⟨bA, 4, none⟩ = some (.int .i64 0) := q4
  have r5 : w4.cell? ⟨bA, 5, none⟩ = some (.int .i64 0) := q5
  have r6 : w4.cell? ⟨bA, 6, none⟩ = some (.string ⟨#[]⟩) := q6
  clear y0 y1 y2 y3 y4 y5 y6 q0 q1 q2 q3 q4 q5 q6 hx3 hsl hs4 hrec hR4 hS4 hSH hle hop hsel hxx
  have hl1 : ([spX] ++ [] : List Rc).length = 1 := rfl
  rw [hl1]
  clear hl1
  generalize w1.heap.size = X at *
  go_upto_region 5 with fail
  go_quiet ((go_at_call 14; exact drew_quiet (hlq.out _)))
  go_wp2_with fail
  go_ret
  exact ⟨rfl, hfin.out.trans (below_drewN (Below.refl _ _) _ |>.mono hfin.out.size)⟩
end Go.Proofs.YtpmhfalhieinjaaGreatDoor
