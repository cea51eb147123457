/- What Write of plan does: the steps of a write. -/
import Derived.Test.YtpgnajcbahklgaaPlP
namespace Go.Proofs.Ytpgnajcbahklgaa
open Go.RowKit Pl Tl

/-- That there is nothing to do, and why. -/
def NoPost (w : World) (k : Int) (e : Ending) (w' : World) : Prop := e = .returned (.tuple #[.slice none 0 0, .int .i64 k]) ∧ Below w.heap.size w w'
def YesPost (w : World) (l : List St) (e : Ending) (w' : World) : Prop := ∃ A cap, e = .returned (.tuple #[.slice A l.length cap, .int .i64 0]) ∧ stE.Row w' w.heap.size 76 A cap l ∧ Below w.heap.size w w'
theorem write_arg (D Z B O A zone f n : Int) (w : World) (hg : goodB D Z B O A = false) :
    Calls Try.prog 26 #[.agg #[.int .i64 D, .int .i64 Z, .int .i64 B, .int .i64 O, .int .i64 A], .int .i64 zone, .int .i64 f, .int .i64 n] w (NoPost w 1) := by
  have c1 := Lib.hid (fun W => good_any D Z B O A W)
  rw [hg] at c1
  clear hg
  have hB0 : Below w.heap.size w (w.alloc (.cells #[.int .i64 D, .int .i64 Z, .int .i64 B, .int .i64 O, .int .i64 A] 37)) := (Below.refl _ _).alloc (Nat.le_refl _) _
  have hBH := Lib.hid hB0
  clear hB0
  go_enter Try.func26, Try.ntmps26
  go_wp2_with fail
  (with_reducible refine (c1.out _).mono ?_)
  rintro e w1 ⟨rfl, hb1⟩
  go_wp2
  go_ret2
  exact ⟨rfl, bmore hBH.out hb1⟩
set_option maxHeartbeats 1000000 in
theorem write_range (D Z B O A zone f n : Int) (w : World) (hf : f ≤ 9223372036854775807) (hg : GoodP D Z B O A) (h : exB D Z B O A zone = false ∨ f < 0 ∨ n < 1 ∨ (D - 1) * B - f < n) :
    Calls Try.prog 26 #[.agg #[.int .i64 D, .int .i64 Z, .int .i64 B, .int .i64 O, .int .i64 A], .int .i64 zone, .int .i64 f, .int .i64 n] w (NoPost w 2) := by
  have c1 := Lib.hid (fun W => good_any D Z B O A W)
  rw [goodB_iff.2 hg] at c1
  have c3 := Lib.hid (fun W => cap_any D Z B O A W)
  have hV := capV_bd D Z B O A
  rw [capV_good hg] at c3 hV
  generalize (D - 1) * B = V at c3 hV h
  have c2 := Lib.hid (fun W => pexists_any D Z B O A zone W)
  generalize exB D Z B O A zone = ex at c2 h
  have hB0 : Below w.heap.size w (w.alloc (.cells #[.int .i64 D, .int .i64 Z, .int .i64 B, .int .i64 O, .int .i64 A] 37)) := (Below.refl _ _).alloc (Nat.le_refl _) _
  have hBH := Lib.hid hB0
  have hNH := Lib.hid (GeoAt.new w D Z B O A 37)
  clear hB0 hg
  go_enter Try.func26, Try.ntmps26
  go_wp2_with fail
  (with_reducible refine (c1.out _).mono ?_)
  rintro e w1 ⟨rfl, hb1⟩
  have hG := hNH.out.below hb1
  have hB := bmore hBH.out hb1
  clear hNH hBH hb1
  have hGH := Lib.hid hG
  have hBH := Lib.hid hB
  clear hB
  obtain ⟨h0, h1, h2, h3, h4, _⟩ := hG
  go_wp2_with fail
  (with_reducible refine (c2.out _).mono ?_)
  rintro e w2 ⟨rfl, hb2⟩
  have hG := hGH.out.below hb2
  have hB := bmore hBH.out hb2
  clear hGH hBH hb2 h0 h1 h2 h3 h4
  have hBH := Lib.hid hB
  clear hB
  obtain ⟨h0, h1, h2, h3, h4, _⟩ := hG
  cases ex
  case false =>
    go_wp2
    go_ret2
    exact ⟨rfl, hBH.out⟩
  case true =>
  by_cases k1 : f < 0
  · go_wp2
    go_ret2
    exact ⟨rfl, hBH.out⟩
  by_cases k2 : n < 1
  · go_wp2
    go_ret2
    exact ⟨rfl, hBH.out⟩
  have k3 : V - f < n := by
    rcases h with h | h | h | h
    · cases h
    · exact absurd h k1
    · exact absurd h k2
    · exact h
  have k4 : wrap64 (V - f) = V - f := IntWalk.wrap64_in _ (by omega)
  clear h
  go_wp2_with fail
  (with_reducible refine (c3.out _).mono ?_)
  rintro e w3 ⟨rfl, hb3⟩
  have hFH := Lib.hid (bmore hBH.out hb3)
  clear hBH hb3 h0 h1 h2 h3 h4
  go_wp2
  go_ret2
  exact ⟨rfl, hFH.out⟩
/-- The steps so far, beside a boxed piece. -/
structure WrW (w W : World) (A : Option Addr) (cap : Nat) (l : List St) (G : Nat) (q f c : Int) : Prop where
  row : stE.Row W w.heap.size 76 A cap l
  bw : Below w.heap.size w W
  p0 : W.cell? ⟨G, 0, none⟩ = some (.int .i64 q)
  p1 : W.cell? ⟨G, 1, none⟩ = some (.int .i64 f)
  p2 : W.cell? ⟨G, 2, none⟩ = some (.int .i64 c)
  ne : ∀ g, A = some ⟨g, 0, none⟩ → G ≠ g
theorem WrW.lt {w W : World} {A : Option Addr} {cap : Nat} {l : List St} {G : Nat} {q f c : Int} (h : WrW w W A cap l G q f c) : G < W.heap.size := lt_of_cell h.p0
theorem WrW.below {w W W' : World} {A : Option Addr} {cap : Nat} {l : List St} {G : Nat} {q f c : Int} (h : WrW w W A cap l G q f c) (hb : Below W.heap.size W W') : WrW w W' A cap l G q f c :=
  ⟨h.row.below hb, bmore h.bw hb, (hb.cell (p := ⟨G, 0, none⟩) h.lt).trans h.p0, (hb.cell (p := ⟨G, 1, none⟩) h.lt).trans h.p1, (hb.cell (p := ⟨G, 2, none⟩) h.lt).trans h.p2, h.ne⟩
theorem WrW.new {w W : World} {A : Option Addr} {cap : Nat} {l : List St} (hr : stE.Row W w.heap.size 76 A cap l) (hb : Below w.heap.size w W) (q f c : Int) (t : TypeId) :
    WrW w (W.alloc (.cells #[.int .i64 q, .int .i64 f, .int .i64 c] t)) A cap l W.heap.size q f c := by
  refine ⟨hr.alloc _, hb.alloc hb.size _, by go_simp, by go_simp, by go_simp, fun g e => ?_⟩
  rcases hr.form with ⟨rfl, _⟩ | ⟨g', rfl, _, hlt, _⟩
  · cases e
  · injection e with e; injection e with e; omega
theorem WrW.app {w W W' : World} {A A' : Option Addr} {cap cap' : Nat} {l l' : List St} {G : Nat} {q f c : Int} (h : WrW w W A cap l G q f c) (hR : stE.Row W' w.heap.size 76 A' cap' l')
    (hg : W.grownBy W' (Value.slice A l.length cap).ownBlock) (hA : A' = A ∨ A' = some ⟨W.heap.size, 0, none⟩) : WrW w W' A' cap' l' G q f c := by
  have hne : (Value.slice A l.length cap).ownBlock ≠ some G := by
    rcases h.row.form with ⟨rfl, _⟩ | ⟨g, rfl, _⟩
    · simp [Value.ownBlock]
    · simp only [Value.ownBlock]
      intro e
      exact h.ne g rfl (Option.some.inj e).symm
  have hk := hg.block G h.lt (fun e => hne e.symm)
  have hlt := h.lt
  refine ⟨hR, h.bw.trans (h.row.grown hg h.bw.size), (World.cell?_of_block (a := ⟨G, 0, none⟩) hk).trans h.p0, (World.cell?_of_block (a := ⟨G, 1, none⟩) hk).trans h.p1, (World.cell?_of_block (a := ⟨G, 2, none⟩) hk).trans h.p2, fun g e => ?_⟩
  rcases hA with rfl | rfl
  · exact h.ne g e
  · injection e with e; injection e with e; omega
/-- What Write's loop leans on: the geometry's box, the pieces. -/
structure WrB (w w2 : World) (D Z B O A : Int) (A1 : Option Addr) (cap1 : Nat) (ps : List Pc) : Prop where
  g : GeoAt w2 w.heap.size D Z B O A
  r : pcE.Row w2 w.heap.size 117 A1 cap1 ps
  bw : Below w.heap.size w w2
theorem WrB.piece {w w2 W : World} {D Z B O A : Int} {A1 : Option Addr} {cap1 : Nat} {ps : List Pc} (h : WrB w w2 D Z B O A A1 cap1 ps) (hb : Below w2.heap.size w2 W) {i : Nat} (hi : i < ps.length) :
    ∃ b, A1 = some ⟨b, 0, none⟩ ∧ ps.length ≤ cap1 ∧ W.cell? ⟨b, i * 3, none⟩ = some (.int .i64 ps[i].r) ∧ W.cell? ⟨b, i * 3 + 1, none⟩ = some (.int .i64 ps[i].f) ∧ W.cell? ⟨b, i * 3 + 2, none⟩ = some (.int .i64 ps[i].c) := by
  obtain ⟨g, e, _, hlt, hcap, hc, _⟩ := h.r.at_ hi
  exact ⟨g, e, hcap, (hb.cell (p := ⟨g, i * 3, none⟩) hlt).trans (hc 0 (by decide)), (hb.cell (p := ⟨g, i * 3 + 1, none⟩) hlt).trans (hc 1 (by decide)), (hb.cell (p := ⟨g, i * 3 + 2, none⟩) hlt).trans (hc 2 (by decide))⟩
set_option maxRecDepth 100000 in
set_option maxHeartbeats 4000000 in
theorem write_good (wd z f n : Nat) (D Z B O A : Int) (hD : D = (wd : Int) + 1) (w : World) (hg : GoodP D Z B O A) (hz : (z : Int) ≤ Z - 4) (hn : 1 ≤ n) (hfn : (f : Int) + (n : Int) ≤ (D - 1) * B) :
    Calls Try.prog 26 #[.agg #[.int .i64 D, .int .i64 Z, .int .i64 B, .int .i64 O, .int .i64 A], .int .i64 (z : Int), .int .i64 (f : Int), .int .i64 (n : Int)] w (YesPost w (steps wd z (f + n) f n)) := by
  have hw : 0 < wd := by have := hg.1; omega
  have d1 : 3 ≤ D ∧ D ≤ 16 := ⟨hg.1, hg.2.1⟩
  have hD1 : D - 1 = (wd : Int) := by omega
  have hV := capV_bd D Z B O A
  rw [capV_good hg] at hV
  have hac : f + n ≤ 3840 := by omega
  have hn2 : n ≤ 3840 := by omega
  have c1 := Lib.hid (fun W => good_any D Z B O A W)
  rw [goodB_iff.2 hg] at c1
  have c2 := Lib.hid (fun W => pexists_any D Z B O A (z : Int) W)
  rw [exB_mk hg (Int.natCast_nonneg z) hz] at c2
  have c3 := Lib.hid (fun W => cap_any D Z B O A W)
  rw [capV_good hg] at c3
  have c4 := Lib.hid (fun W => pperRow_any D Z B O A W d1)
  rw [hD1] at c4
  have c5 := Lib.hid (fun W => pieces_any wd f n W hw (by omega) hn (by omega) (by omega))
  have c6 := Lib.hid (fun a c (h1 : a % wd + c ≤ wd) (h2 : a + c ≤ f + n) W => data_any wd z a c D Z B O A hD W hg hz h1 (by omega))
  have c7 := Lib.hid (fun a c (h1 : a % wd + c ≤ wd) (h2 : a + c ≤ f + n) (h3 : 0 < c) W => pparity_any wd z a c D Z B O A hD W hg hz h1 h3 (by omega))
  have happ := Lib.hid (fun W base A cap (l : List St) (x : St) (h : stE.Row W base 76 A cap l) m hm hl hb => Enc.Row.append (E := stE) (P := Try.prog) Try.underlying68 infoSt (by decide) (by decide) h (m := m) (x := x) hm hl hb 68)
  have hcon := Lib.hid (fun W base A cap (l : List St) (h : stE.Row W base 76 A cap l) ad c2 (ys : List St) (hY : stE.In W (some ad) ys) hl hl2 hb => Enc.Row.concat (E := stE) (P := Try.prog) Try.underlying68 infoSt (by decide) (by decide) h (ad := ad) (c2 := c2) (ys := ys) hY hl hl2 hb 68)
  obtain ⟨V, hVe⟩ : ∃ V, (D - 1) * B = V := ⟨_, rfl⟩
  rw [hVe] at hV hfn c3
  have k1 : ¬ ((f : Int) < 0) := by omega
  have k2 : ¬ ((n : Int) < 1) := by omega
  have k3 : ¬ (V - (f : Int) < (n : Int)) := by omega
  have k4 : wrap64 (V - (f : Int)) = V - (f : Int) := IntWalk.wrap64_in _ (by omega)
  obtain ⟨E, hE⟩ : ∃ E, f + n = E := ⟨_, rfl⟩
  rw [hE] at c6 c7 hac ⊢
  obtain ⟨L, hL⟩ : ∃ L, steps wd z E f n = L := ⟨_, rfl⟩
  rw [hL]
  have hLH := Lib.hid hL
  clear hL
  have hEH := Lib.hid hE
  have hnH := Lib.hid hn
  have hB0 : Below w.heap.size w (w.alloc (.cells #[.int .i64 D, .int .i64 Z, .int .i64 B, .int .i64 O, .int .i64 A] 37)) := (Below.refl _ _).alloc (Nat.le_refl _) _
  have hBH := Lib.hid hB0
  have hNH := Lib.hid (GeoAt.new w D Z B O A 37)
  clear hB0 hg hVe hV hfn hE hn hz hD hD1 d1
  go_enter Try.func26, Try.ntmps26
  go_wp2_with fail
  (with_reducible refine (c1.out _).mono ?_)
  rintro e w1 ⟨rfl, hb1⟩
  have hG := hNH.out.below hb1
  have hB := bmore hBH.out hb1
  clear hNH hBH hb1
  have hGH := Lib.hid hG
  have hBH := Lib.hid hB
  clear hB
  obtain ⟨h0, h1, h2, h3, h4, _⟩ := hG
  go_wp2_with fail
  (with_reducible refine (c2.out _).mono ?_)
  rintro e w2 ⟨rfl, hb2⟩
  have hG := hGH.out.below hb2
  have hB := bmore hBH.out hb2
  clear hGH hBH hb2 h0 h1 h2 h3 h4
  have hGH := Lib.hid hG
  have hBH := Lib.hid hB
  clear hB
  obtain ⟨h0, h1, h2, h3, h4, _⟩ := hG
  go_wp2_with fail
  (with_reducible refine (c3.out _).mono ?_)
  rintro e w3 ⟨rfl, hb3⟩
  have hG := hGH.out.below hb3
  have hB := bmore hBH.out hb3
  clear hGH hBH hb3 h0 h1 h2 h3 h4
  have hGH := Lib.hid hG
  have hBH := Lib.hid hB
  clear hB
  obtain ⟨h0, h1, h2, h3, h4, _⟩ := hG
  go_wp2_with fail
  (with_reducible refine (c4.out _).mono ?_)
  rintro e w4 ⟨rfl, hb4⟩
  have hG := hGH.out.below hb4
  have hB := bmore hBH.out hb4
  clear hGH hBH hb4 h0 h1 h2 h3 h4
  go_wp2_with fail
  (with_reducible refine (c5.out _).mono ?_)
  rintro e w5 ⟨A1, cap1, rfl, hR5, hb5⟩
  have hWB : WrB w w5 D Z B O A A1 cap1 (pcs wd hw f n) := ⟨hG.below hb5, hR5.mono hB.size, bmore hB hb5⟩
  clear hG hB hb5 hR5
  obtain ⟨ps, hps⟩ : ∃ ps, pcs wd hw f n = ps := ⟨_, rfl⟩
  have hpl : ps.length ≤ n := by rw [← hps]; exact pcs_len n f
  rw [hps] at hWB ⊢
  have hpsH := Lib.hid hps
  have hWBH := Lib.hid hWB
  clear hps hWB
  go_wp2_with fail
  go_loopw [10, 42] (fun s i wr => ∃ (k a m : Nat) (l : List St) (A' : Option Addr) (cap' : Nat), i = .int .i64 (k : Int) ∧ s = .slice A' l.length cap' ∧ k ≤ ps.length ∧ f ≤ a ∧ a + m = E ∧ Hid (ps.drop k = pcs wd hw a m) ∧ Hid (l = steps wd z E f (a - f)) ∧ Hid (stE.Row wr w5.heap.size 76 A' cap' l) ∧ Hid (Below w5.heap.size w5 wr)) (fun _ i _ => ps.length - (intOf i).toNat)
  case atStart => exact ⟨0, f, n, [], none, 0, rfl, rfl, Nat.zero_le _, Nat.le_refl _, hEH.out, Lib.hid (by rw [List.drop_zero]; exact hpsH.out.symm), Lib.hid (by rw [Nat.sub_self]; rfl), Lib.hid (Enc.Row.nil _ _ _), Lib.hid (Below.refl _ _)⟩
  case round =>
    obtain ⟨k, a, m, l, A', cap', rfl, rfl, hk, hfa, ham, hdr, hl, hR, hBl⟩ := hrel
    by_cases hlt : k < ps.length
    case neg =>
      have e : m = 0 := by
        rcases Nat.eq_zero_or_pos m with h | h
        · exact h
        · have := hdr.out
          rw [List.drop_eq_nil_of_le (by omega), pcs_step h] at this; cases this
      have hl2 : l = L := by rw [hl.out, ← hLH.out]; congr 1; have := hEH.out; omega
      clear hLH
      subst hl2
      have hF : YesPost w l (.returned (.tuple #[.slice A' l.length cap', .int .i64 0])) wr := ⟨A', cap', rfl, hR.out.mono hWBH.out.bw.size, bmore hWBH.out.bw hBl.out⟩
      have hFH := Lib.hid hF
      clear hF hl hR hBl hdr c1 c2 c3 c4 c5 c6 c7 happ hcon
      go_wp2
      go_ret2
      exact hFH.out
    case pos =>
      have hm : 0 < m := by
        rcases Nat.eq_zero_or_pos m with h | h
        · have := hdr.out
          rw [h, pcs_zero, List.drop_eq_nil_iff] at this; omega
        · exact h
      have hdr2 := hdr.out
      rw [pcs_step hm] at hdr2
      obtain ⟨_, e1, e2⟩ := drop_at hdr2
      have hmod := Nat.mod_lt a hw
      obtain ⟨c, hce⟩ : ∃ c, min m (wd - a % wd) = c := ⟨_, rfl⟩
      rw [hce] at e1 e2
      have hc0 : 0 < c := by omega
      have hcw : a % wd + c ≤ wd := by omega
      have hacE : a + c ≤ E := by omega
      have hpc := steps_piece (w := wd) (z := z) (e := E) (a := a) c 0 hc0 (by omega) (by omega) (by omega)
      rw [Nat.add_zero, Nat.zero_add] at hpc
      have hl2 : l ++ dats wd z a c ++ [pst wd z a c] = steps wd z E f (a + c - f) := by
        rw [show a + c - f = (a - f) + c by omega, steps_add, show f + (a - f) = a by omega, hpc, ← hl.out, List.append_assoc]
      have hl2H := Lib.hid hl2
      have hlen : l.length ≤ 8000 := by rw [hl.out]; have := steps_len (w := wd) (z := z) (e := E) (a - f) f; omega
      have hdl := dats_len (w := wd) (z := z) c a
      have c6k := Lib.hid (c6.out a c hcw hacE)
      have c7k := Lib.hid (c7.out a c hcw hacE hc0)
      have e2H := Lib.hid e2
      have haE : a + c + (m - c) = E := by omega
      have hfa2 : f ≤ a + c := by omega
      have hca : c ≤ 3840 := by omega
      obtain ⟨b, rfl, hcap, y0, y1, y2⟩ := hWBH.out.piece hBl.out hlt
      rw [e1] at y0 y1 y2
      change _ = some (Value.int .i64 ((a / wd : Nat) : Int)) at y0
      change _ = some (Value.int .i64 ((a % wd : Nat) : Int)) at y1
      change _ = some (Value.int .i64 (c : Int)) at y2
      obtain ⟨q, hqe⟩ : ∃ q, a / wd = q := ⟨_, rfl⟩
      obtain ⟨r, hre⟩ : ∃ r, a % wd = r := ⟨_, rfl⟩
      rw [hqe] at c6k c7k y0
      rw [hre] at c6k c7k y1
      have kw : IntKind.i64.wrap ((k : Int) + 1) = (k : Int) + 1 := IntWalk.i64_in _ (by omega)
      clear hdr hdr2 e1 e2 hpc hl2 hl hmod hce c1 c2 c3 c4 c5 c6 c7 hcw hqe hre hm
      have hNW := WrW.new hR.out hBl.out (q : Int) (r : Int) (c : Int) 117
      have hNWH := Lib.hid hNW
      clear hNW
      go_upto_region 9 with fail
      generalize hGe : wr.heap.size = G at hNWH ⊢
      refine fresh_world (fun W => WrW w5 W A' cap' l G (q : Int) (r : Int) (c : Int)) ?_ ?_
      · exact hNWH.out
      rintro W1 hW1
      clear hNWH hR hBl y0 y1 y2 hGe
      have hW1H := Lib.hid hW1
      obtain ⟨h0, h1, h2, h3, h4, _⟩ := hWBH.out.g.below hW1.bw
      have y0 := hW1.p0
      have y1 := hW1.p1
      have y2 := hW1.p2
      clear hW1
      go_wp2_with fail
      (with_reducible refine (c6k.out _).mono ?_)
      rintro e W2 ⟨gd, rfl, hRd, hbd⟩
      have hW2 := hW1H.out.below hbd
      rw [hdl] at hRd ⊢
      have hBw2 := hW2.bw
      have hYd : stE.In W2 (some ⟨gd, 0, none⟩) (dats wd z a c) := hRd.in_
      obtain ⟨A2, cap2, W3, hrun3, hR3, hG3, hA3⟩ := hcon.out W2 w5.heap.size A' cap' l hW2.row ⟨gd, 0, none⟩ c (dats wd z a c) hYd (by omega) (by omega) hW2.bw.size
      rw [hdl] at hrun3
      have hW3 := hW2.app hR3 hG3 hA3
      have hrun3H := Lib.hid hrun3
      have hW3H := Lib.hid hW3
      have hl3 : (l ++ dats wd z a c).length = l.length + c := by rw [List.length_append, hdl]
      clear hrun3 hR3 hG3 hA3 hYd hRd hbd hW2 hBw2 hW1H h0 h1 h2 h3 h4 y0 y1 y2
      obtain ⟨h0, h1, h2, h3, h4, _⟩ := hWBH.out.g.below hW3.bw
      have y0 := hW3.p0
      have y1 := hW3.p1
      have y2 := hW3.p2
      clear hW3
      go_wp2_with (at_builtin; refine append_run_wp rfl _ _ _ rfl rfl rfl hrun3H.out ?_)
      (with_reducible refine (c7k.out _).mono ?_)
      rintro e W4 ⟨rfl, hb4⟩
      have hW4 := hW3H.out.below hb4
      obtain ⟨P, hP⟩ : ∃ P, pst wd z a c = P := ⟨_, rfl⟩
      rw [hP] at hl2H ⊢
      have hW5 := hW4.below ((Below.refl _ _).alloc (Nat.le_refl _) (.cells #[.int .i64 P.k, .int .i64 P.s, .int .i64 P.r, .int .i64 P.b, .int .i64 P.c] 76))
      obtain ⟨A3, cap3, W6, hrun6, hR6, hG6, hA6⟩ := happ.out _ w5.heap.size A2 cap2 _ P hW5.row W4.heap.size (fun j hj => by
        match j, hj with
        | 0, _ => show _ = some (Value.int .i64 P.k); go_simp
        | 1, _ => show _ = some (Value.int .i64 P.s); go_simp
        | 2, _ => show _ = some (Value.int .i64 P.r); go_simp
        | 3, _ => show _ = some (Value.int .i64 P.b); go_simp
        | 4, _ => show _ = some (Value.int .i64 P.c); go_simp) (by omega) hW5.bw.size
      rw [hl3] at hrun6
      have hW6 := hW5.app hR6 hG6 hA6
      have hrun6H := Lib.hid hrun6
      have hW6H := Lib.hid hW6
      clear hrun6 hR6 hG6 hA6 hW5 hW6 hW4 hb4 hW3H hrun3H h0 h1 h2 h3 h4 y0 y1 y2
      go_wp2_with (at_builtin; refine append_run_wp rfl _ _ _ rfl rfl rfl hrun6H.out ?_)
      go_roundw
      case rel => exact ⟨k + 1, a + c, m - c, l ++ dats wd z a c ++ [P], A3, cap3, by go_num, by rw [List.length_append, hl3]; rfl, by omega, hfa2, haE, e2H, hl2H, Lib.hid hW6H.out.row, Lib.hid hW6H.out.bw⟩
      case measure => simp [intOf]; omega
end Go.Proofs.Ytpgnajcbahklgaa
