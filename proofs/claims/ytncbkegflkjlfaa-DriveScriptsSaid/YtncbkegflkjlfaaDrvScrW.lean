/- What the law DriveScripts does. -/
import Derived.Test.YtncbkegflkjlfaaDrvSame
import Derived.Test.YtncbkegflkjlfaaDrvTxtA
namespace Go.Proofs.Ytncbkegflkjlfaa
open Go.RowKit Zon Drv

structure Arr4 (W : World) (X : Nat) (a b c d : Int) : Prop where
  c0 : W.cell? ⟨X, 0, none⟩ = some (.int .i64 a)
  c1 : W.cell? ⟨X, 1, none⟩ = some (.int .i64 b)
  c2 : W.cell? ⟨X, 2, none⟩ = some (.int .i64 c)
  c3 : W.cell? ⟨X, 3, none⟩ = some (.int .i64 d)
theorem Arr4.new (w : World) (a b c d : Int) (t : TypeId) : Arr4 (w.alloc (.cells #[.int .i64 a, .int .i64 b, .int .i64 c, .int .i64 d] t)) w.heap.size a b c d := ⟨by go_simp, by go_simp, by go_simp, by go_simp⟩
theorem Arr4.below {W W' : World} {X : Nat} {a b c d : Int} (h : Arr4 W X a b c d) (hb : Below W.heap.size W W') : Arr4 W' X a b c d :=
  ⟨(hb.cell (p := ⟨X, 0, none⟩) (lt_of_cell h.c0)).trans h.c0, (hb.cell (p := ⟨X, 1, none⟩) (lt_of_cell h.c0)).trans h.c1, (hb.cell (p := ⟨X, 2, none⟩) (lt_of_cell h.c0)).trans h.c2, (hb.cell (p := ⟨X, 3, none⟩) (lt_of_cell h.c0)).trans h.c3⟩
theorem DA.At.sameK {W W' : World} {K : Nat → Prop} {b o : Nat} {a : DA} (h : DA.At W b o a) (hs : SameK W W' K) (hb : K b) : DA.At W' b o a :=
  ⟨hs.cell h.p hb, hs.cell h.q hb, hs.cell h.r hb, hs.cell h.s hb, hs.cell h.t hb, hs.cell h.u hb, hs.cell h.ks hb⟩
theorem dead_ok {D : Dr} (h : D.Ok) : ({ D with dead := true } : Dr).Ok := ⟨h.m, h.cl, h.ll, h.cz, h.lz⟩
/-- The loop's state. -/
def Scr (w W : World) (d d2 : Nat) : Prop := ∃ D, Two w W (fun _ => False) d d2 D D ∧ D.Ok

set_option maxRecDepth 100000 in
set_option maxHeartbeats 8000000 in
theorem drvscripts_law (x0 x1 x2 x3 : Int) (A : Option Addr) (cap : Nat) (cs : List DA) (w : World) (hI : DActsIn w A cs) (hC : ∀ c ∈ cs, c.Ok) (hl : cs.length ≤ maxLen) :
    Calls Try.prog 3 #[.agg #[.int .i64 x0, .int .i64 x1, .int .i64 x2, .int .i64 x3], .slice A cs.length cap] w fun e w' => e = .returned (.bool true) ∧ Below w.heap.size w w' := by
  unfold maxLen at hl
  have hIH := Lib.hid hI
  have hCH := Lib.hid hC
  clear hI hC
  have hX0 := Lib.hid (Arr4.new w x0 x1 x2 x3 22)
  have hBx := Lib.hid ((Below.refl w.heap.size w).alloc (Nat.le_refl _) (.cells #[.int .i64 x0, .int .i64 x1, .int .i64 x2, .int .i64 x3] 22))
  cases hok : newOk x0 x1 x2 x3 with
  | false =>
    have hnew := Lib.hid (fun W => dnew_bad x0 x1 x2 x3 W hok)
    have hrnew := Lib.hid (fun W => rdnew_bad x0 x1 x2 x3 W hok)
    clear hok
    go_enter Try.func3, Try.ntmps3
    go_wp2_with fail
    refine (speaks7 _).mono ?_
    rintro e w1 ⟨rfl, hb1⟩
    have hB1 := hBx.out.trans (hb1.mono hBx.out.size)
    have hX1 := Lib.hid (hX0.out.below hb1)
    obtain ⟨c0, c1, c2, c3⟩ := hX1.out
    clear hb1
    go_wp2_with fail
    refine (hnew.out _).mono ?_
    rintro e w2 ⟨rfl, hb2⟩
    have hB2 := hB1.trans (hb2.mono hB1.size)
    clear c0 c1 c2 c3 hB1
    obtain ⟨c0, c1, c2, c3⟩ := hX1.out.below hb2
    clear hb2
    go_wp2_with fail
    refine (hrnew.out _).mono ?_
    rintro e w3 ⟨rfl, rfl⟩
    clear c0 c1 c2 c3
    go_wp2_with fail
    go_ret
    exact ⟨rfl, hB2⟩
  | true =>
    have hnew := Lib.hid (fun W => dnew_good x0 x1 x2 x3 W hok)
    unfold DNew at hnew
    have hrnew := Lib.hid (fun W => rdnew_good x0 x1 x2 x3 W hok)
    unfold RDNew at hrnew
    have hokD := Lib.hid (newD_ok hok)
    clear hok
    go_enter Try.func3, Try.ntmps3
    go_wp2_with fail
    refine (speaks7 _).mono ?_
    rintro e w1 ⟨rfl, hb1⟩
    have hB1 := hBx.out.trans (hb1.mono hBx.out.size)
    have hX1 := Lib.hid (hX0.out.below hb1)
    obtain ⟨c0, c1, c2, c3⟩ := hX1.out
    clear hb1
    go_wp2_with fail
    refine (hnew.out _).mono ?_
    rintro e w2 ⟨d, F, rfl, hD, hF, hb2⟩
    have hB2 := hB1.trans (hb2.mono hB1.size)
    have hF' : ∀ x, F x → w.heap.size ≤ x := fun x hx => Nat.le_trans hB1.size (hF x hx)
    clear c0 c1 c2 c3 hB1 hF
    obtain ⟨c0, c1, c2, c3⟩ := hX1.out.below hb2
    clear hb2
    go_wp2_with fail
    refine (hrnew.out _).mono ?_
    rintro e w3 ⟨d2, G, rfl, hR, hG, hb3⟩
    have hT3 : Scr w w3 d d2 := ⟨_, two_new hD hF' hB2 hR hG hb3, hokD.out⟩
    clear c0 c1 c2 c3 hB2 hD hF' hR hG hb3 hnew hrnew hX0 hX1 hBx
    go_wp2_with fail
    go_loopw [8] (fun i wr => ∃ k : Nat, k ≤ cs.length ∧ k ≤ 100 ∧ i = .int .i64 (k : Int) ∧ Scr w wr d d2) (fun i _ => cs.length - (intOf i).toNat)
    case atStart => exact ⟨0, by omega, by omega, rfl, hT3⟩
    case round =>
      clear hT3
      obtain ⟨k, hk, hk2, rfl, D, hT, hok⟩ := hrel
      by_cases hrun : k < cs.length ∧ k < 100
      · obtain ⟨hlt, hlt2⟩ := hrun
        obtain ⟨b, off, rfl, hltb, hAt, hIn⟩ := hIH.out.at_ hlt
        have hcok := hCH.out _ (List.getElem_mem hlt)
        generalize cs[k] = c at hAt hcok hIn
        obtain ⟨c0, c1, c2, c3, c4, c5, c6⟩ := hAt.below hT.b hltb
        have hltb2 : b < wr.heap.size := Nat.lt_of_lt_of_le hltb hT.b.size
        have hT0 := Lib.hid hT
        have hokH := Lib.hid hok
        have hcokH := Lib.hid hcok
        have hInH := Lib.hid hIn
        clear hT hok hAt hcok hIn
        go_upto_region 13 with fail
        refine fresh_world (fun W => Two w W (fun x => x = wr.heap.size) d d2 D D ∧ DA.At W wr.heap.size 0 c) ⟨hT0.out.below ((Below.refl _ _).alloc (Nat.le_refl _) (.cells #[.int .i64 c.p, .int .i64 c.q, .int .i64 c.r, .int .i64 c.s, .int .i64 c.t, .int .u8 c.u, .slice c.ks.A c.ks.zs.length c.ks.cap] 33)) (fun x hx => .inr (Nat.le_of_eq hx.symm)) (fun x hx => by rw [hx]; simp), ⟨by go_simp, by go_simp, by go_simp, by go_simp, by go_simp, by go_simp, by go_simp⟩⟩ ?_
        rintro W5 ⟨hT5, hX5⟩
        clear hT0 c0 c1 c2 c3 c4 c5 c6
        generalize wr.heap.size = X at hT5 hX5 ⊢
        have hX5H := Lib.hid hX5
        have hT5H := Lib.hid hT5
        clear hT5
        obtain ⟨c0, c1, c2, c3, c4, c5, c6⟩ := hX5
        rw [Nat.zero_add] at c1 c2 c3 c4 c5 c6
        by_cases h8 : c.p = 8
        · rw [h8] at c0
          clear h8
          have h1 := two_flush W5 hT5H.out hokH.out
          have h2 := fun W (h : Two w W (fun x => x = X) d d2 (flushD D) D) => two_rflush W h hokH.out
          generalize (if D.dead = true then (7 : Int) else 0) = fl at h1 h2
          have h1H := Lib.hid h1
          have h2H := Lib.hid h2
          have hok7 := flushD_ok hokH.out
          have hok7H := Lib.hid hok7
          clear h1 h2 hok7
          go_wp2_with fail
          refine h1H.out.mono ?_
          rintro e w6 ⟨rfl, hT6, _⟩
          clear c0 c1 c2 c3 c4 c5 c6 h1H
          go_wp2_with fail
          refine (h2H.out _ hT6).mono ?_
          rintro e w7 ⟨rfl, hT7, _⟩
          have hok7 := hok7H.out
          clear hT6 h2H
          have hsm := Lib.hid (dsame_any _ d d2 _ hT7 hok7)
          have hfin := Lib.hid (fun W (hb : Below w7.heap.size w7 W) => (⟨_, hT7.below hb (K' := fun _ => False) (fun x hx => hx.elim) (fun x hx => hx.elim), hok7⟩ : Scr w W d d2))
          clear hT7 hok7
          go_wp2_with fail
          refine hsm.out.mono ?_
          rintro e w8 ⟨rfl, hb8⟩
          go_wp2_with fail
          go_roundw
          case rel => exact ⟨k + 1, by omega, by omega, by go_num, hfin.out _ hb8⟩
          case measure => simp [intOf]; omega
        · by_cases h9 : c.p = 9
          · rw [h9] at c0
            clear h8 h9
            obtain ⟨hIr, hlr, hnr⟩ := hInH.out
            obtain ⟨Ac, capc, wc, hrun, hIc, hbc, hAc⟩ := copy_ints W5 c.ks.A c.ks.cap c.ks.zs (hIr.below hT5H.out.b) hnr hlr
            have hTc : Two w wc (fun x => x = X ∨ (W5.heap.size ≤ x ∧ x < wc.heap.size)) d d2 D D := hT5H.out.below hbc (fun x hx => hx.imp id And.left) (fun x hx => hx.elim (fun h => Nat.lt_of_lt_of_le (hT5H.out.kb x h) hbc.size) And.right)
            have hkz := hcokH.out.ks
            have hlm : c.ks.zs.length ≤ maxLen := by unfold maxLen; omega
            have h1 := Lib.hid (two_lose wc Ac capc c.ks.zs hTc hokH.out hIc (fun h0 b off e => .inr (.inr ⟨hAc h0 b off e, by
              rcases hIc with h | ⟨b', off', e', hlt', _⟩
              · exact absurd h h0
              · rw [e] at e'; injection e' with e'; injection e' with e1 _; omega⟩)) hkz hlm)
            have hXc := hX5H.out.below hbc (lt_of_cell hX5H.out.p)
            have h2 := Lib.hid (fun W (h : Two w W (fun x => x = X ∨ (W5.heap.size ≤ x ∧ x < wc.heap.size)) d d2 (loseD D c.ks.zs) D) => two_rlose W c.ks.A c.ks.cap c.ks.zs h hokH.out (hIr.below h.b) (fun h0 b off e => .inl (by
              rcases hIr with h | ⟨b', off', e', hlt', _⟩
              · exact absurd h h0
              · rw [e] at e'; injection e' with e'; injection e' with e1 _; omega)) hkz hlm)
            have hok7H := Lib.hid (loseD_ok hokH.out c.ks.zs)
            have hrunH := Lib.hid hrun
            have hXcH := Lib.hid hXc
            have hXlt : X < W5.heap.size := lt_of_cell hX5H.out.p
            clear hIr hlr hnr hrun hIc hbc hAc hTc hkz hlm hXc
            go_wp2_with (at_builtin; refine append_run_wp rfl _ _ _ rfl rfl rfl hrunH.out ?_)
            refine h1.out.mono ?_
            rintro e w6 ⟨rfl, hT6, hs6⟩
            have c6' := (hXcH.out.sameK hs6 (.inl rfl)).ks
            rw [Nat.zero_add] at c6'
            clear c0 c1 c2 c3 c4 c5 c6 h1 hrunH hs6
            have hT6H := Lib.hid hT6
            clear hT6
            go_wp2_with fail
            refine (h2.out _ hT6H.out).mono ?_
            rintro e w7 ⟨rfl, hT7, _⟩
            have hok7 := hok7H.out
            clear c6' hT6H h2
            have hsm := Lib.hid (dsame_any _ d d2 _ hT7 hok7)
            have hfin := Lib.hid (fun W (hb : Below w7.heap.size w7 W) => (⟨_, hT7.below hb (K' := fun _ => False) (fun x hx => hx.elim) (fun x hx => hx.elim), hok7⟩ : Scr w W d d2))
            clear hT7 hok7
            go_wp2_with fail
            refine hsm.out.mono ?_
            rintro e w8 ⟨rfl, hb8⟩
            go_wp2_with fail
            go_roundw
            case rel => exact ⟨k + 1, by omega, by omega, by go_num, hfin.out _ hb8⟩
            case measure => simp [intOf]; omega
          · by_cases h10 : c.p = 10
            · rw [h10] at c0
              clear h8 h9 h10
              have h1 := Lib.hid (two_die W5 hT5H.out)
              go_wp2_with fail
              refine h1.out.mono ?_
              rintro e w6 ⟨rfl, hT6, _⟩
              obtain ⟨⟨v3, g3⟩, g4, hTs, _⟩ := two_rdie w6 hT6
              have hTsH := Lib.hid hTs
              clear c0 c1 c2 c3 c4 c5 c6 h1 hT6 hTs
              go_upto_region 28 with fail
              refine fresh_world (fun W => Two w W (fun x => x = X) d d2 { D with dead := true } { D with dead := true }) hTsH.out ?_
              intro w7 hT7
              have hok7 := dead_ok hokH.out
              clear hTsH g3 g4
              have hsm := Lib.hid (dsame_any _ d d2 _ hT7 hok7)
              have hfin := Lib.hid (fun W (hb : Below w7.heap.size w7 W) => (⟨_, hT7.below hb (K' := fun _ => False) (fun x hx => hx.elim) (fun x hx => hx.elim), hok7⟩ : Scr w W d d2))
              clear hT7 hok7
              go_wp2_with fail
              refine hsm.out.mono ?_
              rintro e w8 ⟨rfl, hb8⟩
              go_wp2_with fail
              go_roundw
              case rel => exact ⟨k + 1, by omega, by omega, by go_num, hfin.out _ hb8⟩
              case measure => simp [intOf]; omega
            · skip
              have e8 : (c.p == 8) = false := by simp [h8]
              have e9 : (c.p == 9) = false := by simp [h9]
              have e10 : (c.p == 10) = false := by simp [h10]
              have htx := Lib.hid (text_all c.p c.q c.r c.s c.t c.u (k : Int) (.slice c.ks.A c.ks.zs.length c.ks.cap) W5)
              clear h8 h9 h10
              go_wp2_with fail
              refine htx.out.mono ?_
              rintro e w6 ⟨S, hSz, rfl, hb6⟩
              have hSs := textN_le c.p c.s c.t
              have h1 := fun W (h : Two w W (fun x => x = X) d d2 D D) => two_do W c.p c.q c.r c.s S h hokH.out hcokH.out.r.2 (by omega)
              have h2 := fun W D1 (h : Two w W (fun x => x = X) d d2 D1 D) => two_rdo W c.p c.q c.r c.s S h hokH.out (by omega)
              have h3 := doD_ok hokH.out c.p c.q c.r c.s S.data.toList
              generalize doD D c.p c.q c.r c.s S.data.toList = R at h1 h2 h3
              obtain ⟨⟨out, at', ev⟩, D'⟩ := R
              dsimp only at h1 h2 h3
              generalize (⟨out.toArray⟩ : ByteArray) = O at h1 h2
              have hX6 := hX5H.out.below hb6 (lt_of_cell hX5H.out.p)
              have hX6H := Lib.hid hX6
              have h1H := Lib.hid (h1 w6 (hT5H.out.below' hb6))
              have h2H := Lib.hid h2
              have h3H := Lib.hid h3
              clear h1 h2 h3 c0 c1 c2 c3 c4 c5 c6 htx hSz hSs hb6 hX6
              obtain ⟨c0, c1, c2, c3, c4, c5, c6⟩ := hX6H.out
              rw [Nat.zero_add] at c1 c2 c3 c4 c5 c6
              go_wp2_with fail
              refine h1H.out.mono ?_
              rintro e w7 ⟨rfl, hT6, hs6⟩
              have hX7 := hX6H.out.sameK hs6 rfl
              have hT6H := Lib.hid hT6
              clear c0 c1 c2 c3 c4 c5 c6 h1H hs6 hT6
              obtain ⟨c0, c1, c2, c3, c4, c5, c6⟩ := hX7
              rw [Nat.zero_add] at c1 c2 c3 c4 c5 c6
              go_wp2_with fail
              refine (h2H.out _ _ hT6H.out).mono ?_
              rintro e w7 ⟨rfl, hT7, _⟩
              have hok7 := h3H.out
              clear c0 c1 c2 c3 c4 c5 c6 hT6H h2H
              have hsm := Lib.hid (dsame_any _ d d2 _ hT7 hok7)
              have hfin := Lib.hid (fun W (hb : Below w7.heap.size w7 W) => (⟨_, hT7.below hb (K' := fun _ => False) (fun x hx => hx.elim) (fun x hx => hx.elim), hok7⟩ : Scr w W d d2))
              clear hT7 hok7
              go_wp2_with fail
              refine hsm.out.mono ?_
              rintro e w8 ⟨rfl, hb8⟩
              go_wp2_with fail
              go_roundw
              case rel => exact ⟨k + 1, by omega, by omega, by go_num, hfin.out _ hb8⟩
              case measure => simp [intOf]; omega
      · have hbH := Lib.hid hT.b
        clear hT hok
        rcases (by omega : (k < cs.length ∧ ¬ (k : Int) < 100) ∨ ¬ k < cs.length) with ⟨hlt, hlt2⟩ | hlt
        all_goals
          go_wp2_with fail
          go_ret
          exact ⟨rfl, hbH.out⟩
end Go.Proofs.Ytncbkegflkjlfaa
