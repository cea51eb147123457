/- What Tasks of rebuild does. -/
import Derived.Test.YtdjdldcpaidmnaaRbQ
namespace Go.Proofs.Ytdjdldcpaidmnaa
open Go.RowKit Pl Tl Rb

theorem tk_at {W : World} {A : Option Addr} {l : List Tk} (h : tkE.In W A l) {i : Nat} (hi : i < l.length) : ∃ b off, A = some ⟨b, off, none⟩ ∧ b < W.heap.size ∧ W.cell? ⟨b, off + i * 3, none⟩ = some (.int .i64 l[i].r) ∧ W.cell? ⟨b, off + i * 3 + 1, none⟩ = some (.bool l[i].p) ∧ W.cell? ⟨b, off + i * 3 + 2, none⟩ = some (.int .i64 l[i].b) := by
  obtain ⟨b, off, e, hlt, h⟩ := h.at_ hi
  exact ⟨b, off, e, hlt, h 0 (by decide), h 1 (by decide), h 2 (by decide)⟩
theorem infTk : (Try.prog.info? 79).map (fun i => (i.zero, i.size, i.bytes)) = some (some (.agg #[.int .i64 0, .bool false, .int .i64 0]), 3, 24) := by kernel_rfl
def TkPost (w : World) (l : List Tk) (e : Ending) (w' : World) : Prop := ∃ G, e = .returned (.slice (some ⟨G, 0, none⟩) l.length l.length) ∧ tkE.Row w' w.heap.size 79 (some ⟨G, 0, none⟩) l.length l ∧ Below w.heap.size w w'
/-- No lengths, no tasks. -/
theorem tasks_no (D Z B O A zone wr s : Int) (h : lnB D Z B O A zone wr = false) (w : World) :
    Calls Try.prog 25 #[.agg #[.int .i64 D, .int .i64 Z, .int .i64 B, .int .i64 O, .int .i64 A], .int .i64 zone, .int .i64 wr, .int .i64 s] w fun e w' => e = .returned (.slice none 0 0) ∧ Below w.heap.size w w' := by
  have c2 := Lib.hid (fun W => lengths_no D Z B O A zone wr h W)
  have hBH := Lib.hid ((Below.refl w.heap.size w).alloc (Nat.le_refl _) (.cells #[.int .i64 D, .int .i64 Z, .int .i64 B, .int .i64 O, .int .i64 A] 30))
  clear h
  go_enter Try.func25, Try.ntmps25
  go_wp2_with fail
  (with_reducible refine (c2.out _).mono ?_)
  rintro e w1 ⟨rfl, hb1⟩
  have hF := Lib.hid (bmore hBH.out hb1)
  clear c2 hBH hb1
  by_cases hs : s < 0
  case pos =>
    go_wp2_with fail
    go_ret
    exact ⟨rfl, hF.out⟩
  case neg =>
    have hs2 : (0 : Int) ≤ s := by omega
    go_wp2_with fail
    go_ret
    exact ⟨rfl, hF.out⟩
/-- No such slot. -/
theorem tasks_out (wd z r : Nat) (D Z B O A s : Int) (hD : D = (wd : Int) + 1) (w : World) (hg : GoodP D Z B O A) (hz : (z : Int) ≤ Z - 4) (hr : (r : Int) ≤ (D - 1) * B) (hs : s < 0 ∨ (wd : Int) + 1 ≤ s) :
    Calls Try.prog 25 #[.agg #[.int .i64 D, .int .i64 Z, .int .i64 B, .int .i64 O, .int .i64 A], .int .i64 (z : Int), .int .i64 (r : Int), .int .i64 s] w fun e w' => e = .returned (.slice none 0 0) ∧ Below w.heap.size w w' := by
  have c2 := Lib.hid (fun W => lengths_good wd z r D Z B O A hD W hg hz hr)
  have hBH := Lib.hid ((Below.refl w.heap.size w).alloc (Nat.le_refl _) (.cells #[.int .i64 D, .int .i64 Z, .int .i64 B, .int .i64 O, .int .i64 A] 30))
  clear hD hg hz hr
  go_enter Try.func25, Try.ntmps25
  go_wp2_with fail
  refine (c2.out _).mono ?_
  rintro e w1 ⟨G0, rfl, _, _, hb1⟩
  have hF := Lib.hid (bmore hBH.out hb1)
  clear c2 hBH hb1
  rcases hs with hs | hs
  · go_wp2_with fail
    go_ret
    exact ⟨rfl, hF.out⟩
  · have hs1 : ¬ s < 0 := by omega
    have hs2 : ((wd + 1 : Nat) : Int) ≤ s := by omega
    clear hs
    go_wp2_with fail
    go_ret
    exact ⟨rfl, hF.out⟩
structure TkW (w W : World) (D Z B O A : Int) (G : Nat) (l : List Tk) : Prop where
  g : GeoAt W w.heap.size D Z B O A
  r : tkE.Row W (w.heap.size + 1) 79 (some ⟨G, 0, none⟩) l.length l
  bw : Below w.heap.size w W
theorem TkW.below {w W W' : World} {D Z B O A : Int} {G : Nat} {l : List Tk} (h : TkW w W D Z B O A G l) (hb : Below W.heap.size W W') : TkW w W' D Z B O A G l := ⟨h.g.below hb, h.r.below hb, bmore h.bw hb⟩
theorem TkW.ge {w W : World} {D Z B O A : Int} {G : Nat} {l : List Tk} (h : TkW w W D Z B O A G l) : w.heap.size + 1 ≤ G := by
  rcases h.r.form with ⟨e, _⟩ | ⟨g', e, hb, _⟩
  · cases e
  · injection e with e; injection e with e; omega
theorem TkW.store {w W : World} {D Z B O A : Int} {G : Nat} {l : List Tk} (h : TkW w W D Z B O A G l) {i : Nat} (hi : i < l.length) (x : Tk) :
    TkW w (((W.setCell ⟨G, i * 3, none⟩ (.int .i64 x.r)).setCell ⟨G, i * 3 + 1, none⟩ (.bool x.p)).setCell ⟨G, i * 3 + 2, none⟩ (.int .i64 x.b)) D Z B O A G (l.set i x) := by
  have hg := h.ge
  have hb : Below (w.heap.size + 1) W (((W.setCell ⟨G, i * 3, none⟩ (.int .i64 x.r)).setCell ⟨G, i * 3 + 1, none⟩ (.bool x.p)).setCell ⟨G, i * 3 + 2, none⟩ (.int .i64 x.b)) := (((Below.refl _ W).setCell hg _).setCell hg _).setCell hg _
  have hr := h.r.store hi x
  exact ⟨geo_low h.g hb (Nat.lt_succ_self _), by rw [List.length_set]; exact hr, h.bw.trans (hb.mono (Nat.le_succ _))⟩
set_option maxRecDepth 100000 in
set_option maxHeartbeats 4000000 in
theorem tasks_good (wd z r s n : Nat) (D Z B O A : Int) (hD : D = (wd : Int) + 1) (w : World) (hg : GoodP D Z B O A) (hz : (z : Int) ≤ Z - 4) (hr : (r : Int) ≤ (D - 1) * B) (hs : s < wd + 1) (hn : len wd z r (s : Int) = (n : Int)) :
    Calls Try.prog 25 #[.agg #[.int .i64 D, .int .i64 Z, .int .i64 B, .int .i64 O, .int .i64 A], .int .i64 (z : Int), .int .i64 (r : Int), .int .i64 (s : Int)] w (TkPost w (tkL (tkA D Z B O A (z : Int) (s : Int)) n n)) := by
  have hn256 : n ≤ 256 := by
    have h1 := len_rows (z := z) (r := r) (B := B) (show 0 < wd by have := hg.1; omega) (by rw [hD, show (wd : Int) + 1 - 1 = (wd : Int) by omega] at hr; exact hr) (s : Int)
    have := hg.2.2.2.2.2.1
    omega
  have c2 := Lib.hid (fun W => lengths_good wd z r D Z B O A hD W hg hz hr)
  have hbk := Lib.hid (fun (i : Int) W => back_any D Z B O A (z : Int) i (s : Int) W)
  have hat : Hid ((lens wd z r).getD s 0 = (n : Int)) := Lib.hid (by
    rw [List.getD_eq_getElem?_getD, List.getElem?_eq_getElem (by rw [lens_len]; exact hs), lens_at, hn]; rfl)
  obtain ⟨i0, hi, hz0, hz1, hz2⟩ := info_parts infTk
  have hmk := fun W => run_make_m (P := Try.prog) 73 79 i0 (.agg #[.int .i64 0, .bool false, .int .i64 0]) Try.underlying73 hi hz0 .i64 .i64 n n (Nat.le_refl _) (by rw [hz2]; omega) (by omega) W
  rw [hz1] at hmk
  have hGH := Lib.hid (GeoAt.new w D Z B O A 30)
  have hBH := Lib.hid ((Below.refl w.heap.size w).alloc (Nat.le_refl _) (.cells #[.int .i64 D, .int .i64 Z, .int .i64 B, .int .i64 O, .int .i64 A] 30))
  have hfi0 : ∀ i : Nat, tkA D Z B O A (z : Int) (s : Int) i = ⟨(i : Int), !bkB D Z B O A (z : Int) (i : Int) (s : Int), bkV D Z B O A (z : Int) (i : Int) (s : Int)⟩ := fun _ => rfl
  have hfi := Lib.hid hfi0
  clear hfi0
  generalize tkA D Z B O A (z : Int) (s : Int) = f at hfi
  generalize hl : tkL f n n = l
  have hlH := Lib.hid hl
  have hs1 : (s : Int) < ((wd + 1 : Nat) : Int) := by omega
  have hsn : s < wd + 1 := hs
  clear hD hg hz hr hn hi hz0 hz1 hz2 hl hs
  go_enter Try.func25, Try.ntmps25
  go_wp2_with fail
  refine (c2.out _).mono ?_
  rintro e w1 ⟨G0, rfl, hrep, _, hb1⟩
  have hG := hGH.out.below hb1
  have hB := bmore hBH.out hb1
  have e0 := hrep.at_ (s := s) (by rw [lens_len]; exact hsn)
  rw [hat.out] at e0
  have hw1 : w.heap.size + 1 ≤ w1.heap.size := by have := hG.2.2.2.2.2; omega
  have hrow := made_row tkE tk0 #[.int .i64 0, .bool false, .int .i64 0] rfl (by decide) w1 n (by omega) 79
  have hal := (Below.refl w1.heap.size w1).alloc (Nat.le_refl _) (.cells (madeCells #[.int .i64 0, .bool false, .int .i64 0] (n * 3)) 79)
  have hN : TkW w (w1.alloc (.cells (madeCells #[.int .i64 0, .bool false, .int .i64 0] (n * 3)) 79)) D Z B O A w1.heap.size (List.replicate n tk0) := ⟨hG.below hal, by rw [List.length_replicate]; exact hrow.mono hw1, bmore hB hal⟩
  rw [← tkL_zero f n] at hN
  have hNH := Lib.hid hN
  clear c2 hGH hBH hrep hb1 hG hB hw1 hrow hal hN hat
  go_upto_region 5 with fail
  clear hmk e0
  generalize w1.heap.size = G at hNH ⊢
  refine fresh_world (fun W => TkW w W D Z B O A G (tkL f n 0)) hNH.out ?_
  clear hNH
  rintro W hN
  have hNH := Lib.hid hN
  clear hN
  go_wp2_with fail
  go_loopw [33] (fun ii wr => ∃ i : Nat, i ≤ n ∧ ii = .int .i64 (i : Int) ∧ Hid (TkW w wr D Z B O A G (tkL f n i))) (fun ii _ => n - (intOf ii).toNat)
  case atStart => exact ⟨0, Nat.zero_le _, rfl, hNH⟩
  case round =>
    clear hNH
    obtain ⟨i, hin, rfl, hN⟩ := hrel
    by_cases hlt : i < n
    case pos =>
      have iw : IntKind.i64.wrap ((i : Int) + 1) = (i : Int) + 1 := IntWalk.i64_in _ (by omega)
      have hset := Lib.hid (tkL_set f n i)
      have hll := Lib.hid (tkL_len f n i)
      have hfii := Lib.hid (hfi.out i)
      have hbc := Lib.hid (fun W => hbk.out (i : Int) W)
      generalize tkL f n i = li at hN hset hll
      obtain ⟨g0, g1, g2, g3, g4, _⟩ := hN.out.g
      generalize bkB D Z B O A (z : Int) (i : Int) (s : Int) = kb at hbc hfii
      generalize bkV D Z B O A (z : Int) (i : Int) (s : Int) = kv at hbc hfii
      go_wp2_with fail
      (with_reducible refine (hbc.out _).mono ?_)
      rintro e w2 ⟨rfl, hb2⟩
      have hN2 := hN.out.below hb2
      have hst := hN2.store (by rw [hll.out]; exact hlt) (f i)
      rw [hset.out, hfii.out] at hst
      obtain ⟨_, eg, _, hgl, _, hcell, hfr⟩ := hN2.r.at_ (i := i) (by rw [hll.out]; exact hlt)
      injection eg with eg; injection eg with eg; subst eg
      have x0 := hcell 0 (by decide)
      have x1 := hcell 1 (by decide)
      have x2 := hcell 2 (by decide)
      rw [show i * tkE.k + 0 = i * 3 from rfl] at x0
      rw [show i * tkE.k + 1 = i * 3 + 1 from rfl] at x1
      rw [show i * tkE.k + 2 = i * 3 + 2 from rfl] at x2
      generalize li[i]'(by rw [hll.out]; exact hlt) = xo at x0 x1 x2
      have y0 : w2.cell? ⟨G, i * 3, none⟩ = some (.int .i64 xo.r) := x0
      have y1 : w2.cell? ⟨G, i * 3 + 1, none⟩ = some (.bool xo.p) := x1
      have y2 : w2.cell? ⟨G, i * 3 + 2, none⟩ = some (.int .i64 xo.b) := x2
      have hstH := Lib.hid hst
      have ilt : (i : Int) < (n : Int) := by omega
      clear x0 x1 x2 hcell hst hN2 hb2 hN hbc g0 g1 g2 g3 g4 hset hll hfii
      go_wp2_with fail
      go_roundw
      case rel => exact ⟨i + 1, hlt, by go_num, hstH⟩
      case measure => simp only [intOf]; omega
    case neg =>
      have hie : i = n := by omega
      have hout := Lib.hid hN.out
      rw [hie] at hout
      rw [hlH.out] at hout
      have hll : Hid (l.length = n) := Lib.hid (by rw [← hlH.out, tkL_len])
      clear hN hie
      go_wp2_with fail
      go_ret
      exact ⟨G, by rw [hll.out]; rfl, hout.out.r.mono (Nat.le_succ _), hout.out.bw⟩
end Go.Proofs.Ytdjdldcpaidmnaa
