/- What the law ZoneLimits does. -/
import Derived.Test.YtlignckncgceaaaZonSame
import Derived.Test.YtlignckncgceaaaZonLimM
import Derived.Test.YtlignckncgceaaaCmds
namespace Go.Proofs.Ytlignckncgceaaa
open Go.RowKit Zon

/-- Four numbers in a box. -/
structure ArrAt (W : World) (X : Nat) (a b c d : Int) : Prop where
  c0 : W.cell? ⟨X, 0, none⟩ = some (.int .i64 a)
  c1 : W.cell? ⟨X, 1, none⟩ = some (.int .i64 b)
  c2 : W.cell? ⟨X, 2, none⟩ = some (.int .i64 c)
  c3 : W.cell? ⟨X, 3, none⟩ = some (.int .i64 d)
theorem ArrAt.new (w : World) (a b c d : Int) (t : TypeId) : ArrAt (w.alloc (.cells #[.int .i64 a, .int .i64 b, .int .i64 c, .int .i64 d] t)) w.heap.size a b c d := ⟨by go_simp, by go_simp, by go_simp, by go_simp⟩
theorem ArrAt.lt {W : World} {X : Nat} {a b c d : Int} (h : ArrAt W X a b c d) : X < W.heap.size := lt_of_cell h.c0
theorem ArrAt.below {W W' : World} {X : Nat} {a b c d : Int} (h : ArrAt W X a b c d) (hb : Below W.heap.size W W') : ArrAt W' X a b c d :=
  ⟨(hb.cell (p := ⟨X, 0, none⟩) h.lt).trans h.c0, (hb.cell (p := ⟨X, 1, none⟩) h.lt).trans h.c1, (hb.cell (p := ⟨X, 2, none⟩) h.lt).trans h.c2, (hb.cell (p := ⟨X, 3, none⟩) h.lt).trans h.c3⟩
theorem ArrAt.only {W W' : World} {X z : Nat} {a b c d : Int} (h : ArrAt W X a b c d) (ho : Only W W' z) (hz : X ≠ z) : ArrAt W' X a b c d :=
  ⟨ho.cell h.c0 hz, ho.cell h.c1 hz, ho.cell h.c2 hz, ho.cell h.c3 hz⟩

set_option maxRecDepth 100000 in
set_option maxHeartbeats 4000000 in
theorem limits_law (x0 x1 x2 x3 : Int) (A : Option Addr) (cap : Nat) (cs : List Cm) (w : World) (hI : CmdsIn w A cs) (hC : ∀ c ∈ cs, CmOk c) (hl : cs.length ≤ maxLen) :
    Calls Try.prog 4 #[.agg #[.int .i64 x0, .int .i64 x1, .int .i64 x2, .int .i64 x3], .slice A cs.length cap] w fun e w' => e = .returned (.bool true) ∧ Below w.heap.size w w' := by
  unfold maxLen at hl
  have hIH := Lib.hid hI
  have hCH := Lib.hid hC
  clear hI hC
  have hX0 := Lib.hid (ArrAt.new w x0 x1 x2 x3 22)
  cases hok : newOk x0 x1 x2 x3 with
  | false =>
    have hnew := Lib.hid (fun W => new_bad x0 x1 x2 x3 W hok)
    clear hok
    go_enter Try.func4, Try.ntmps4
    go_wp2_with fail
    refine (speaks5 _).mono ?_
    rintro e w1 ⟨rfl, hb1⟩
    have hB1 := ((Below.refl w.heap.size w).alloc (Nat.le_refl _) (.cells #[.int .i64 x0, .int .i64 x1, .int .i64 x2, .int .i64 x3] 22)).trans (hb1.mono (by simp))
    obtain ⟨c0, c1, c2, c3⟩ := hX0.out.below hb1
    clear hb1
    go_wp2_with fail
    refine (hnew.out _).mono ?_
    rintro e w2 ⟨rfl, rfl⟩
    clear c0 c1 c2 c3
    go_wp2_with fail
    go_ret
    exact ⟨rfl, hB1⟩
  | true =>
    have hnew := Lib.hid (fun W => new_good x0 x1 x2 x3 W hok)
    have hokH := Lib.hid hok
    clear hok
    go_enter Try.func4, Try.ntmps4
    go_wp2_with fail
    refine (speaks5 _).mono ?_
    rintro e w1 ⟨rfl, hb1⟩
    have hB1 := ((Below.refl w.heap.size w).alloc (Nat.le_refl _) (.cells #[.int .i64 x0, .int .i64 x1, .int .i64 x2, .int .i64 x3] 22)).trans (hb1.mono (by simp))
    have hX1 := hX0.out.below hb1
    have hX1H := Lib.hid hX1
    have hs1 := hb1.size
    simp at hs1
    obtain ⟨c0, c1, c2, c3⟩ := hX1
    clear hb1 hX0
    go_wp2_with fail
    refine (hnew.out _).mono ?_
    rintro e w2 ⟨g, z, rfl, hM2, hzy, hgy, hb2⟩
    have hX2 := hX1H.out.below hb2
    have hB2 := hB1.trans (hb2.mono hB1.size)
    have hwz : w.heap.size < z := by omega
    clear c0 c1 c2 c3 hB1 hb2 hnew hzy hgy hX1H hs1
    go_wp2_with fail
    generalize hXe : w.heap.size = X at hX2 hwz hB2 ⊢
    have hXeH := Lib.hid hXe
    clear hXe
    go_loopw [7] (fun i wr => ∃ (k : Nat) (m : Mc), k ≤ cs.length ∧ k ≤ 200 ∧ i = .int .i64 (k : Int) ∧ MAt wr g z m ∧ m.Ok ∧ m.Lim ∧ m.b = x1 ∧ m.o = x2 ∧ m.a = x3 ∧ Below X w wr ∧ ArrAt wr X x0 x1 x2 x3) (fun i _ => cs.length - (intOf i).toNat)
    case atStart => exact ⟨0, newM x0 x1 x2 x3, by omega, by omega, rfl, hM2, newM_ok hokH.out, newM_lim hokH.out, rfl, rfl, rfl, hB2, hX2⟩
    case round =>
      clear hM2 hB2 hX2
      obtain ⟨k, m, hk, hk2, rfl, hM, hok, hlim, hb, ho, ha, hB, hX⟩ := hrel
      have hbH := Lib.hid hb
      have hoH := Lib.hid ho
      have haH := Lib.hid ha
      have hokmH := Lib.hid hok
      have hlimH := Lib.hid hlim
      have hXH := Lib.hid hX
      have hXz : X ≠ z := by omega
      have hzw := hM.zl
      clear hb ho ha
      by_cases hrun : k < cs.length ∧ k < 200
      · obtain ⟨hlt, hlt2⟩ := hrun
        obtain ⟨b, off, rfl, hltb, a0, a1, a2, a3⟩ := hIH.out.at_ hlt
        have hcok := hCH.out _ (List.getElem_mem hlt)
        rw [hXeH.out] at hltb
        generalize cs[k] = c at a0 a1 a2 a3 hcok
        obtain ⟨kk, zz, aa, nn⟩ := c
        have haa : aa ≤ 9223372036854775807 := hcok.2
        simp only at a0 a1 a2 a3
        obtain ⟨⟨r1, r2⟩, r3, r4, r5⟩ := lim_round hok kk zz aa nn
        have hlim' := doM_lim hlim hok kk zz aa nn
        have hok' := doM_ok hok kk zz aa nn
        have hhas : hasB (m.with (doM m kk zz aa nn).2.2) zz = hasB m zz := by unfold hasB; rw [show (m.with (doM m kk zz aa nn).2.2).zs.length = m.zs.length from doM_len m kk zz aa nn]
        have g0 := get_any g z m zz wr hM
        have d0 := fun W (hM : MAt W g z m) => do_any g z m kk zz aa nn W hM hok haa
        have g1 := fun W (hM : MAt W g z (m.with (doM m kk zz aa nn).2.2)) => get_any g z (m.with (doM m kk zz aa nn).2.2) zz W hM
        have t1 := fun W (hM : MAt W g z (m.with (doM m kk zz aa nn).2.2)) => counts_any g z (m.with (doM m kk zz aa nn).2.2) W hM hok'.z2
        rw [hhas] at g1
        unfold CmdPost at d0
        have n1 : (nOpen (m.with (doM m kk zz aa nn).2.2).zs : Int) ≤ x2 := by rw [← hoH.out]; exact hlim'.o
        have n2 : (nAct (m.with (doM m kk zz aa nn).2.2).zs : Int) ≤ x3 := by rw [← haH.out]; exact hlim'.a
        have n3 := nOpen_nAct (m.with (doM m kk zz aa nn).2.2).zs
        have n4 : (getM (m.with (doM m kk zz aa nn).2.2) zz).l ≤ x1 := by rw [← hbH.out]; exact r2
        have hb' : Hid ((m.with (doM m kk zz aa nn).2.2).b = x1) := Lib.hid hbH.out
        have ho' : Hid ((m.with (doM m kk zz aa nn).2.2).o = x2) := Lib.hid hoH.out
        have ha' : Hid ((m.with (doM m kk zz aa nn).2.2).a = x3) := Lib.hid haH.out
        have hp0 : (doM m kk zz aa nn).2.1 = 0 → hasB m zz = true := fun h => by
          cases hh : hasB m zz
          · exact absurd h (r5 hh)
          · rfl
        generalize hasB m zz = p at g0 g1 hp0
        generalize getM m zz = y0 at g0 r3 r4
        generalize getM (m.with (doM m kk zz aa nn).2.2) zz = y1 at g1 r1 n4 r3 r4
        generalize (doM m kk zz aa nn).2.1 = ev at d0 r4 hp0
        generalize (doM m kk zz aa nn).1 = dv at d0
        generalize m.with (doM m kk zz aa nn).2.2 = m' at d0 g1 t1 n1 n2 n3 hb' ho' ha' hlim' hok'
        generalize nOpen m'.zs = no at t1 n1 n3
        generalize nAct m'.zs = na at t1 n2 n3
        have g0H := Lib.hid g0
        have d0H := Lib.hid d0
        have g1H := Lib.hid g1
        have t1H := Lib.hid t1
        have hlim'H := Lib.hid hlim'
        have hok'H := Lib.hid hok'
        have hways : (ev = 0 ∧ p = true ∧ kk = 3 ∧ y1.l = 0 ∧ y1.l < y0.l) ∨ (ev = 0 ∧ p = true ∧ ¬ y1.l < y0.l) ∨ (ev ≠ 0 ∧ y1 = y0) := by
          by_cases he : ev = 0
          · by_cases hlt' : y1.l < y0.l
            · obtain ⟨q1, q2⟩ := r3 hlt'
              exact .inl ⟨he, hp0 he, q1, q2, hlt'⟩
            · exact .inr (.inl ⟨he, hp0 he, hlt'⟩)
          · exact .inr (.inr ⟨he, r4 he⟩)
        have hcells : ∀ W, Below X w W → W.cell? ⟨b, off + k * 4, none⟩ = some (.int .i64 kk) ∧ W.cell? ⟨b, off + k * 4 + 1, none⟩ = some (.int .i64 zz) ∧ W.cell? ⟨b, off + k * 4 + 2, none⟩ = some (.int .i64 aa) ∧ W.cell? ⟨b, off + k * 4 + 3, none⟩ = some (.int .i64 nn) := fun W h =>
          ⟨(h.cell (p := ⟨b, _, none⟩) hltb).trans a0, (h.cell (p := ⟨b, _, none⟩) hltb).trans a1, (h.cell (p := ⟨b, _, none⟩) hltb).trans a2, (h.cell (p := ⟨b, _, none⟩) hltb).trans a3⟩
        have hcH := Lib.hid hcells
        have hMH := Lib.hid hM
        have hBH := Lib.hid hB
        clear g0 d0 g1 t1 hlim' hok' r3 r4 r5 hp0 hcells a0 a1 a2 a3 hcok hhas hlim hok hM hX
        rcases hways with ⟨rfl, rfl, rfl, hz1, hz2⟩ | ⟨rfl, rfl, hz1⟩ | ⟨hz1, rfl⟩
        · have hz1H := Lib.hid hz1
          have hz2H := Lib.hid hz2
          clear hz1 hz2
          have hw1 := hcH.out _ hBH.out
          obtain ⟨a0, a1, a2, a3⟩ := hw1
          go_wp2_with fail
          refine g0H.out.mono ?_
          rintro e w3 ⟨rfl, hb3⟩
          have hB3 := hBH.out.trans (hb3.mono (by omega))
          have hM3 := hMH.out.below hb3
          have hX3 := hXH.out.below hb3
          clear a0 a1 a2 a3
          have hB4 := hB3.alloc (by have := hb3.size; omega) (.cells #[.int .i64 y0.s, .int .i64 y0.l] 47)
          have hM4 := hM3.below ((Below.refl _ _).alloc (Nat.le_refl _) (.cells #[.int .i64 y0.s, .int .i64 y0.l] 47))
          have hX4 := hX3.below ((Below.refl _ _).alloc (Nat.le_refl _) (.cells #[.int .i64 y0.s, .int .i64 y0.l] 47))
          have q0 : (w3.alloc (.cells #[.int .i64 y0.s, .int .i64 y0.l] 47)).cell? ⟨w3.heap.size, 0, none⟩ = some (.int .i64 y0.s) := by go_simp
          have q1 : (w3.alloc (.cells #[.int .i64 y0.s, .int .i64 y0.l] 47)).cell? ⟨w3.heap.size, 1, none⟩ = some (.int .i64 y0.l) := by go_simp
          have hnz : w3.heap.size ≠ z := by have := hM3.zl; omega
          have q0H := Lib.hid q0
          have q1H := Lib.hid q1
          clear q0 q1
          have hw4 := hcH.out _ hB3
          obtain ⟨a0, a1, a2, a3⟩ := hw4
          have hlb3 := lt_of_cell a0
          go_wp2_with fail
          refine (d0H.out _ hM4).mono ?_
          rintro e w5 ⟨rfl, hM5, ho5⟩
          have hB5 := hB4.trans (ho5.below (Nat.le_of_lt hwz) (by have := hb3.size; simp; omega))
          have hX5 := hX4.only ho5 hXz
          have q0 := ho5.cell q0H.out hnz
          have q1 := ho5.cell q1H.out hnz
          have q0H := Lib.hid q0
          have q1H := Lib.hid q1
          generalize w3.heap.size = Z0 at q0H q1H hnz ⊢
          clear a0 a1 a2 a3 q0 q1 hlb3 hb3 hB3 hM3 hX3 hB4 hM4 hX4 ho5
          have hw5 := hcH.out _ hB5
          obtain ⟨a0, a1, a2, a3⟩ := hw5
          have hz5 := hM5.zl
          go_wp2_with fail
          refine (g1H.out _ hM5).mono ?_
          rintro e w6 ⟨rfl, hb6⟩
          have hB6 := hB5.trans (hb6.mono (by omega))
          have hM6 := hM5.below hb6
          have hX6 := hX5.below hb6
          have q0 := (hb6.cell (p := ⟨Z0, 0, none⟩) (lt_of_cell q0H.out)).trans q0H.out
          have q1 := (hb6.cell (p := ⟨Z0, 1, none⟩) (lt_of_cell q1H.out)).trans q1H.out
          clear a0 a1 a2 a3
          have hz6 := hM6.zl
          have hM7 := hM6.below ((Below.refl _ _).alloc (Nat.le_refl _) (.cells #[.int .i64 y1.s, .int .i64 y1.l] 47))
          go_wp2_with fail
          refine (t1H.out _ hM7).mono ?_
          rintro e w8 ⟨rfl, hb8⟩
          have hba : Below w6.heap.size w6 w8 := ((Below.refl _ _).alloc (Nat.le_refl _) _).trans (hb8.mono (by simp))
          have hB8 := hB6.trans (hba.mono (by omega))
          have hM8 := hM6.below hba
          have hX8 := hX6.below hba
          have u0 := (hba.cell (p := ⟨Z0, 0, none⟩) (lt_of_cell q0)).trans q0
          have u1 := (hba.cell (p := ⟨Z0, 1, none⟩) (lt_of_cell q1)).trans q1
          have v0 := (hb8.cell (p := ⟨w6.heap.size, 0, none⟩) (by simp)).trans (show _ = some (Value.int .i64 y1.s) by go_simp)
          have v1 := (hb8.cell (p := ⟨w6.heap.size, 1, none⟩) (by simp)).trans (show _ = some (Value.int .i64 y1.l) by go_simp)
          have hw8 := hcH.out _ hB8
          obtain ⟨a0, a1, a2, a3⟩ := hw8
          have hM8H := Lib.hid hM8
          have hX8H := Lib.hid hX8
          obtain ⟨c0, c1, c2, c3⟩ := hX8
          clear q0 q1 q0H q1H hM5 hM6 hM7 hM8 hX5 hX6 hB5 hB6 hb6 hb8 hba hz5 hz6 hnz
          generalize w6.heap.size = Z1 at v0 v1 ⊢
          have hd1 : decide (y1.l < y0.l) = true := by simp [hz2H.out]
          have hd2 : (y1.l != 0) = false := by simp [hz1H.out]
          go_wp2_with fail
          go_roundw
          case rel => exact ⟨k + 1, m', by omega, by omega, by go_num, hM8H.out, hok'H.out, hlim'H.out, hb'.out, ho'.out, ha'.out, hB8, hX8H.out⟩
          case measure => simp [intOf]; omega
        · have hz1H := Lib.hid hz1
          clear hz1
          have hw1 := hcH.out _ hBH.out
          obtain ⟨a0, a1, a2, a3⟩ := hw1
          go_wp2_with fail
          refine g0H.out.mono ?_
          rintro e w3 ⟨rfl, hb3⟩
          have hB3 := hBH.out.trans (hb3.mono (by omega))
          have hM3 := hMH.out.below hb3
          have hX3 := hXH.out.below hb3
          clear a0 a1 a2 a3
          have hB4 := hB3.alloc (by have := hb3.size; omega) (.cells #[.int .i64 y0.s, .int .i64 y0.l] 47)
          have hM4 := hM3.below ((Below.refl _ _).alloc (Nat.le_refl _) (.cells #[.int .i64 y0.s, .int .i64 y0.l] 47))
          have hX4 := hX3.below ((Below.refl _ _).alloc (Nat.le_refl _) (.cells #[.int .i64 y0.s, .int .i64 y0.l] 47))
          have q0 : (w3.alloc (.cells #[.int .i64 y0.s, .int .i64 y0.l] 47)).cell? ⟨w3.heap.size, 0, none⟩ = some (.int .i64 y0.s) := by go_simp
          have q1 : (w3.alloc (.cells #[.int .i64 y0.s, .int .i64 y0.l] 47)).cell? ⟨w3.heap.size, 1, none⟩ = some (.int .i64 y0.l) := by go_simp
          have hnz : w3.heap.size ≠ z := by have := hM3.zl; omega
          have q0H := Lib.hid q0
          have q1H := Lib.hid q1
          clear q0 q1
          have hw4 := hcH.out _ hB3
          obtain ⟨a0, a1, a2, a3⟩ := hw4
          have hlb3 := lt_of_cell a0
          go_wp2_with fail
          refine (d0H.out _ hM4).mono ?_
          rintro e w5 ⟨rfl, hM5, ho5⟩
          have hB5 := hB4.trans (ho5.below (Nat.le_of_lt hwz) (by have := hb3.size; simp; omega))
          have hX5 := hX4.only ho5 hXz
          have q0 := ho5.cell q0H.out hnz
          have q1 := ho5.cell q1H.out hnz
          have q0H := Lib.hid q0
          have q1H := Lib.hid q1
          generalize w3.heap.size = Z0 at q0H q1H hnz ⊢
          clear a0 a1 a2 a3 q0 q1 hlb3 hb3 hB3 hM3 hX3 hB4 hM4 hX4 ho5
          have hw5 := hcH.out _ hB5
          obtain ⟨a0, a1, a2, a3⟩ := hw5
          have hz5 := hM5.zl
          go_wp2_with fail
          refine (g1H.out _ hM5).mono ?_
          rintro e w6 ⟨rfl, hb6⟩
          have hB6 := hB5.trans (hb6.mono (by omega))
          have hM6 := hM5.below hb6
          have hX6 := hX5.below hb6
          have q0 := (hb6.cell (p := ⟨Z0, 0, none⟩) (lt_of_cell q0H.out)).trans q0H.out
          have q1 := (hb6.cell (p := ⟨Z0, 1, none⟩) (lt_of_cell q1H.out)).trans q1H.out
          clear a0 a1 a2 a3
          have hz6 := hM6.zl
          have hM7 := hM6.below ((Below.refl _ _).alloc (Nat.le_refl _) (.cells #[.int .i64 y1.s, .int .i64 y1.l] 47))
          go_wp2_with fail
          refine (t1H.out _ hM7).mono ?_
          rintro e w8 ⟨rfl, hb8⟩
          have hba : Below w6.heap.size w6 w8 := ((Below.refl _ _).alloc (Nat.le_refl _) _).trans (hb8.mono (by simp))
          have hB8 := hB6.trans (hba.mono (by omega))
          have hM8 := hM6.below hba
          have hX8 := hX6.below hba
          have u0 := (hba.cell (p := ⟨Z0, 0, none⟩) (lt_of_cell q0)).trans q0
          have u1 := (hba.cell (p := ⟨Z0, 1, none⟩) (lt_of_cell q1)).trans q1
          have v0 := (hb8.cell (p := ⟨w6.heap.size, 0, none⟩) (by simp)).trans (show _ = some (Value.int .i64 y1.s) by go_simp)
          have v1 := (hb8.cell (p := ⟨w6.heap.size, 1, none⟩) (by simp)).trans (show _ = some (Value.int .i64 y1.l) by go_simp)
          have hw8 := hcH.out _ hB8
          obtain ⟨a0, a1, a2, a3⟩ := hw8
          have hM8H := Lib.hid hM8
          have hX8H := Lib.hid hX8
          obtain ⟨c0, c1, c2, c3⟩ := hX8
          clear q0 q1 q0H q1H hM5 hM6 hM7 hM8 hX5 hX6 hB5 hB6 hb6 hb8 hba hz5 hz6 hnz
          generalize w6.heap.size = Z1 at v0 v1 ⊢
          have hd1 : decide (y1.l < y0.l) = false := by simpa using hz1H.out
          go_wp2_with fail
          go_roundw
          case rel => exact ⟨k + 1, m', by omega, by omega, by go_num, hM8H.out, hok'H.out, hlim'H.out, hb'.out, ho'.out, ha'.out, hB8, hX8H.out⟩
          case measure => simp [intOf]; omega
        · have hz1H := Lib.hid hz1
          clear hz1
          have hw1 := hcH.out _ hBH.out
          obtain ⟨a0, a1, a2, a3⟩ := hw1
          go_wp2_with fail
          refine g0H.out.mono ?_
          rintro e w3 ⟨rfl, hb3⟩
          have hB3 := hBH.out.trans (hb3.mono (by omega))
          have hM3 := hMH.out.below hb3
          have hX3 := hXH.out.below hb3
          clear a0 a1 a2 a3
          have hB4 := hB3.alloc (by have := hb3.size; omega) (.cells #[.int .i64 y1.s, .int .i64 y1.l] 47)
          have hM4 := hM3.below ((Below.refl _ _).alloc (Nat.le_refl _) (.cells #[.int .i64 y1.s, .int .i64 y1.l] 47))
          have hX4 := hX3.below ((Below.refl _ _).alloc (Nat.le_refl _) (.cells #[.int .i64 y1.s, .int .i64 y1.l] 47))
          have q0 : (w3.alloc (.cells #[.int .i64 y1.s, .int .i64 y1.l] 47)).cell? ⟨w3.heap.size, 0, none⟩ = some (.int .i64 y1.s) := by go_simp
          have q1 : (w3.alloc (.cells #[.int .i64 y1.s, .int .i64 y1.l] 47)).cell? ⟨w3.heap.size, 1, none⟩ = some (.int .i64 y1.l) := by go_simp
          have hnz : w3.heap.size ≠ z := by have := hM3.zl; omega
          have q0H := Lib.hid q0
          have q1H := Lib.hid q1
          clear q0 q1
          have hw4 := hcH.out _ hB3
          obtain ⟨a0, a1, a2, a3⟩ := hw4
          have hlb3 := lt_of_cell a0
          go_wp2_with fail
          refine (d0H.out _ hM4).mono ?_
          rintro e w5 ⟨rfl, hM5, ho5⟩
          have hB5 := hB4.trans (ho5.below (Nat.le_of_lt hwz) (by have := hb3.size; simp; omega))
          have hX5 := hX4.only ho5 hXz
          have q0 := ho5.cell q0H.out hnz
          have q1 := ho5.cell q1H.out hnz
          have q0H := Lib.hid q0
          have q1H := Lib.hid q1
          generalize w3.heap.size = Z0 at q0H q1H hnz ⊢
          clear a0 a1 a2 a3 q0 q1 hlb3 hb3 hB3 hM3 hX3 hB4 hM4 hX4 ho5
          have hw5 := hcH.out _ hB5
          obtain ⟨a0, a1, a2, a3⟩ := hw5
          have hz5 := hM5.zl
          go_wp2_with fail
          refine (g1H.out _ hM5).mono ?_
          rintro e w6 ⟨rfl, hb6⟩
          have hB6 := hB5.trans (hb6.mono (by omega))
          have hM6 := hM5.below hb6
          have hX6 := hX5.below hb6
          have q0 := (hb6.cell (p := ⟨Z0, 0, none⟩) (lt_of_cell q0H.out)).trans q0H.out
          have q1 := (hb6.cell (p := ⟨Z0, 1, none⟩) (lt_of_cell q1H.out)).trans q1H.out
          clear a0 a1 a2 a3
          have hz6 := hM6.zl
          have hM7 := hM6.below ((Below.refl _ _).alloc (Nat.le_refl _) (.cells #[.int .i64 y1.s, .int .i64 y1.l] 47))
          go_wp2_with fail
          refine (t1H.out _ hM7).mono ?_
          rintro e w8 ⟨rfl, hb8⟩
          have hba : Below w6.heap.size w6 w8 := ((Below.refl _ _).alloc (Nat.le_refl _) _).trans (hb8.mono (by simp))
          have hB8 := hB6.trans (hba.mono (by omega))
          have hM8 := hM6.below hba
          have hX8 := hX6.below hba
          have u0 := (hba.cell (p := ⟨Z0, 0, none⟩) (lt_of_cell q0)).trans q0
          have u1 := (hba.cell (p := ⟨Z0, 1, none⟩) (lt_of_cell q1)).trans q1
          have v0 := (hb8.cell (p := ⟨w6.heap.size, 0, none⟩) (by simp)).trans (show _ = some (Value.int .i64 y1.s) by go_simp)
          have v1 := (hb8.cell (p := ⟨w6.heap.size, 1, none⟩) (by simp)).trans (show _ = some (Value.int .i64 y1.l) by go_simp)
          have hw8 := hcH.out _ hB8
          obtain ⟨a0, a1, a2, a3⟩ := hw8
          have hM8H := Lib.hid hM8
          have hX8H := Lib.hid hX8
          obtain ⟨c0, c1, c2, c3⟩ := hX8
          clear q0 q1 q0H q1H hM5 hM6 hM7 hM8 hX5 hX6 hB5 hB6 hb6 hb8 hba hz5 hz6 hnz
          generalize w6.heap.size = Z1 at v0 v1 ⊢
          have hd1 : (ev != 0) = true := by simp [hz1H.out]
          have hd2 : (ev == 0) = false := by simp [hz1H.out]
          have hzz := fun W => (zone_eql W y1.s y1.l y1.s y1.l).2
          simp only [beq_self_eq_true, Bool.and_self, Bool.not_true] at hzz
          cases p
          all_goals
            go_wp2_with fail
            go_roundw
            case rel => exact ⟨k + 1, m', by omega, by omega, by go_num, hM8H.out, hok'H.out, hlim'H.out, hb'.out, ho'.out, ha'.out, hB8, hX8H.out⟩
            case measure => simp [intOf]; omega
      · have hways : (¬ k < cs.length) ∨ (k < cs.length ∧ decide ((k : Int) < 200) = false) := by
          by_cases h : k < cs.length
          · right; exact ⟨h, by simp; omega⟩
          · left; exact h
        clear hrun
        rcases hways with h | ⟨h, h'⟩
        all_goals
          go_wp2_with fail
          go_ret
          exact ⟨rfl, by rw [hXeH.out]; exact hB⟩
end Go.Proofs.Ytlignckncgceaaa
