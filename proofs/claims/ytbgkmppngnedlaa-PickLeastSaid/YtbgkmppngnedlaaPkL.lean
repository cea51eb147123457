/- PickLeast: the walk. -/
import Derived.Test.YtbgkmppngnedlaaPkZ
import Derived.Test.YtbgkmppngnedlaaPkE
namespace Go.Proofs.Ytbgkmppngnedlaa
open Go.RowKit Go.Shelf

def Pz.m (z : Pz) : Pz := ⟨z.l, z.v % 1024, z.o⟩
/-- The first k are masked. -/
def mskK (l : List Pz) (k : Nat) : List Pz := (l.take k).map Pz.m ++ l.drop k
theorem mskK_len (l : List Pz) (k : Nat) : (mskK l k).length = l.length := by unfold mskK; rw [List.length_append, List.length_map, List.length_take, List.length_drop]; omega
theorem mskK_at {l : List Pz} {k : Nat} (h : k < l.length) : (mskK l k)[k]'(by rw [mskK_len]; exact h) = l[k] := by
  simp only [mskK]
  rw [List.getElem_append_right (by simp; omega)]
  simp [Nat.min_eq_left (Nat.le_of_lt h)]
theorem mskK_succ {l : List Pz} {k : Nat} (h : k < l.length) : mskK l (k + 1) = (mskK l k).set k l[k].m := by
  unfold mskK
  rw [List.take_succ_eq_append_getElem h, List.map_append, List.drop_eq_getElem_cons h, List.set_append_right _ _ (by simp; omega)]
  simp [Nat.min_eq_left (Nat.le_of_lt h)]
  rw [List.drop_eq_getElem_cons h]
  rfl
theorem mskK_all (l : List Pz) : mskK l l.length = l.map Pz.m := by unfold mskK; rw [List.take_length, List.drop_length, List.append_nil]
theorem flat_set1 : ∀ (xs : List Pz) (i : Nat) (h : i < xs.length) (v : Int), (pzE.flat xs).set (i * 3 + 1) (.int .i64 v) = pzE.flat (xs.set i ⟨xs[i].l, v, xs[i].o⟩)
  | x :: t, 0, _, v => rfl
  | x :: t, i + 1, h, v => by
    have h' : i < t.length := by simpa using h
    show (pzE.c x ++ pzE.flat t).set ((i + 1) * 3 + 1) _ = pzE.c x ++ pzE.flat (t.set i ⟨t[i].l, v, t[i].o⟩)
    rw [← flat_set1 t i h' v, show (i + 1) * 3 + 1 = i * 3 + 1 + 3 by omega]
    rfl
theorem zAt_m {l : List Pz} {k : Nat} (h : k < l.length) : zAt (l.map Pz.m) k = l[k].m := by rw [zAt_eq (by rw [List.length_map]; exact h), List.getElem_map]
theorem sumV_b (l : List Pz) : ∀ k, k ≤ l.length → 0 ≤ sumV (l.map Pz.m) k ∧ sumV (l.map Pz.m) k ≤ 1023 * (k : Int)
  | 0, _ => by unfold sumV; omega
  | k + 1, h => by
    have ih := sumV_b l k (by omega)
    unfold sumV
    split
    · rw [zAt_m (by omega)]
      have : (l[k]'(by omega)).m.v = (l[k]'(by omega)).v % 1024 := rfl
      omega
    · omega
set_option maxRecDepth 100000 in
set_option maxHeartbeats 4000000 in
theorem least_law (w : World) (A : Option Addr) (cap : Nat) (l : List Pz) (hI : pzE.In w A l) (hlen : l.length ≤ 9223372036854775807) :
    Calls Try.prog 4 #[.slice A l.length cap] w fun e w' => e = .returned (.bool true) ∧ Below w.heap.size w w' := by
  have hsp := Lib.hid (speaks20 w)
  have hz := Lib.hid (fun W (hb : Below w.heap.size w W) => zones_any W A cap l (hI.below hb) hlen)
  unfold ZoPost at hz
  clear hI
  go_enter Try.func4, Try.ntmps4
  go_wp2_with fail
  (with_reducible refine hsp.out.mono ?_)
  rintro e w1 ⟨rfl, hb1⟩
  have hz1 := Lib.hid (hz.out w1 hb1)
  have hB1 := Lib.hid hb1
  clear hsp hz hb1
  go_wp2_with fail
  (with_reducible refine hz1.out.mono ?_)
  rintro e w2 ⟨X, Y, rfl, hX, hY, hR, hb2⟩
  have hB2 := Lib.hid (hB1.out.trans (hb2.mono hB1.out.size))
  have hXl : X.xs.length ≤ 200 := by rw [hX, List.length_take]; omega
  have hrow : Hid (pzE.Row w2 w1.heap.size 35 X.A X.c (mskK X.xs 0)) := Lib.hid (by show pzE.Row w2 w1.heap.size 35 X.A X.c (([] : List Pz) ++ X.xs); rw [List.nil_append]; exact hR.rX)
  have hYv : ∃ yv : Value, .slice Y.A Y.xs.length Y.c = yv := ⟨_, rfl⟩
  obtain ⟨yv, hyv⟩ := hYv
  rw [hyv]
  have hbs0 := hR.bs
  clear hz1 hb2 hX hY hR hyv Y
  obtain ⟨XA, Xc, xs⟩ := X
  dsimp only at hXl hrow ⊢
  obtain ⟨n, hn⟩ : ∃ n, xs.length = n := ⟨_, rfl⟩
  rw [hn] at hXl ⊢
  have hnH := Lib.hid hn
  have hvic := Lib.hid (fun W (hI : pzE.In W XA (xs.map Pz.m)) => victim_any W XA Xc (xs.map Pz.m) hI (by rw [List.length_map, hn]; omega))
  rw [List.length_map, hn] at hvic
  have hbs : Hid (w.heap.size ≤ w1.heap.size ∧ w1.heap.size ≤ w2.heap.size) := Lib.hid ⟨hB1.out.size, hbs0⟩
  clear hB1 hbs0 hn
  go_wp2_with fail
  go_loopw [5, 6, 7] (fun sv cv iv wr => ∃ (k c : Nat) (s : Int), k ≤ n ∧ iv = .int .i64 (k : Int) ∧ sv = .int .i64 s ∧ cv = .int .i64 (c : Int) ∧ Hid (s = sumV (xs.map Pz.m) k ∧ c = (clK Pz.w (xs.map Pz.m) k).length) ∧ Hid (pzE.Row wr w1.heap.size 35 XA Xc (mskK xs k)) ∧ Hid (Below w.heap.size w wr) ∧ Hid (w1.heap.size ≤ wr.heap.size)) (fun _ _ iv _ => n - (intOf iv).toNat)
  case atStart => exact ⟨0, 0, 0, Nat.zero_le _, rfl, rfl, rfl, Lib.hid ⟨rfl, rfl⟩, hrow, hB2, Lib.hid hbs.out.2⟩
  case round =>
    clear hrow hB2
    obtain ⟨k, c, s, hkn, rfl, rfl, rfl, hsc, hR, hB, hsz⟩ := hrel
    by_cases hlt : k < n
    case neg =>
      have hke : k = n := by omega
      subst hke
      have hkI : ¬ (k : Int) < (k : Int) := by omega
      have hIn : Hid (pzE.In wr XA (xs.map Pz.m)) := Lib.hid (by rw [← mskK_all, hnH.out]; exact hR.out.in_)
      have hml : (xs.map Pz.m).length = k := by rw [List.length_map]; exact hnH.out
      have hcall := Lib.hid (hvic.out wr hIn.out)
      have hshare := Lib.hid (fun b hb => vic_share (xs.map Pz.m) (b := b) hb)
      have his := Lib.hid (vicK_is (xs.map Pz.m) k)
      have hnone : Hid (c = 0 ↔ vicK (xs.map Pz.m) k = none) := Lib.hid (by
        rw [vicK_min, hsc.out.2]
        cases clK Pz.w (xs.map Pz.m) k with
        | nil => exact ⟨fun _ => rfl, fun _ => rfl⟩
        | cons x t => exact ⟨fun h => (by cases h), fun h => (by cases h)⟩)
      rw [hml, ← hsc.out.1, ← hsc.out.2] at hshare
      have hcb : Hid (c ≤ 200) := Lib.hid (by have := clK_len Pz.w (xs.map Pz.m) k; have := hsc.out.2; omega)
      have hmod : Hid (∀ b (h : b < (xs.map Pz.m).length), 0 ≤ (xs.map Pz.m)[b].v ∧ (xs.map Pz.m)[b].v ≤ 1023) := Lib.hid (fun b h => by
        rw [List.getElem_map]
        show 0 ≤ (xs[b]'(by rw [List.length_map] at h; exact h)).v % 1024 ∧ (xs[b]'(by rw [List.length_map] at h; exact h)).v % 1024 ≤ 1023
        omega)
      generalize xs.map Pz.m = M at hIn hml hcall hshare his hnone hmod
      have hmlH := Lib.hid hml
      clear hvic hR hsc hml hlt
      cases hv : vicK M k with
      | none =>
        have hc0 : c = 0 := hnone.out.2 hv
        rw [hv] at hcall
        subst hc0
        clear hnone hshare his hv
        have q0 : (((0 : Nat) : Int) == 0) = true := by simp
        have q1 : ((-1 : Int) == -1) = true := by simp
        go_wp2_with fail
        (with_reducible refine hcall.out.mono ?_)
        rintro e w3 ⟨rfl, hb3⟩
        have hB3 := Lib.hid (hB.out.trans (hb3.mono hB.out.size))
        clear hb3 hcall
        unfold vicI
        dsimp only
        go_wp2_with fail
        go_ret
        exact ⟨rfl, hB3.out⟩
      | some b =>
        have hc0 : ¬ c = 0 := fun h => by rw [hnone.out.1 h] at hv; cases hv
        obtain ⟨hbk, hbw, -⟩ := his.out.2 b hv
        have hsh := hshare.out b hv
        rw [hv] at hcall
        have hbM : b < M.length := by rw [hmlH.out]; exact hbk
        rw [zAt_eq hbM] at hbw hsh
        have hvb := hmod.out b hbM
        obtain ⟨eb, eo, rfl, hebl, e0, e1, e2⟩ := pz_at hIn.out hbM
        have hebH := Lib.hid hebl
        generalize M[b] = z at hbw hsh hvb e0 e1 e2
        obtain ⟨zl, zv, zo⟩ := z
        simp only [Pz.w, Bool.and_eq_true, Bool.not_eq_true', decide_eq_true_eq] at hbw hsh hvb e0 e1 e2
        obtain ⟨rfl, hzl⟩ := hbw
        have q0 : ((c : Int) == 0) = false := by simp; omega
        have q1 : decide ((b : Int) ≥ 0) = true := by simp
        have q2 : (b : Int) < (k : Int) := by omega
        obtain ⟨pr, hpr⟩ : ∃ pr, zv * (c : Int) = pr := ⟨_, rfl⟩
        have hprb : 0 ≤ pr ∧ pr ≤ 1023 * 200 := by
          rw [← hpr]
          refine ⟨Int.mul_nonneg hvb.1 (by omega), ?_⟩
          have h1 : zv * (c : Int) ≤ 1023 * (c : Int) := Int.mul_le_mul_of_nonneg_right hvb.2 (by omega)
          have h2 := hcb.out
          omega
        have q3 : IntKind.i64.wrap (zv * (c : Int)) = pr := by rw [hpr]; exact IntWalk.i64_in _ (by omega)
        have q4 : decide (pr ≤ s) = true := by rw [← hpr]; simpa using hsh
        have q5 : decide (zl > 0) = true := by simpa using hzl
        clear hnone hshare his hv hbk hsh hbM hmod hvb hpr hprb hc0 hzl hcb hebl
        go_wp2_with fail
        (with_reducible refine hcall.out.mono ?_)
        rintro e w3 ⟨rfl, hb3⟩
        have hB3 := Lib.hid (hB.out.trans (hb3.mono hB.out.size))
        have f0 := (hb3.cell (p := ⟨eb, eo + b * 3, none⟩) hebH.out).trans e0
        have f1 := (hb3.cell (p := ⟨eb, eo + b * 3 + 1, none⟩) hebH.out).trans e1
        have f2 := (hb3.cell (p := ⟨eb, eo + b * 3 + 2, none⟩) hebH.out).trans e2
        clear hb3 hcall e0 e1 e2
        unfold vicI
        dsimp only
        go_wp2_with fail
        go_ret
        exact ⟨rfl, hB3.out⟩
    case pos =>
      have hkI : (k : Int) < (n : Int) := by omega
      have hkl : k < xs.length := by rw [hnH.out]; exact hlt
      have hkw : IntKind.i64.wrap ((k : Int) + 1) = (k : Int) + 1 := IntWalk.i64_in _ (by omega)
      have hat := Lib.hid (mskK_at hkl)
      obtain ⟨g, rfl, hg1, hg2, -, hc, hfz⟩ := hR.out.at_ (i := k) (by rw [mskK_len]; exact hkl)
      rw [hat.out] at hc
      have c0 := hc 0 (by decide)
      have c1 := hc 1 (by decide)
      have c2 := hc 2 (by decide)
      have hf1 := hfz (k * 3 + 1)
      obtain ⟨m, hm⟩ : ∃ m, xs[k].v % 1024 = m := ⟨_, rfl⟩
      have hrow2 := (World.ownsRow.stored hR.out (k * 3 + 1) (.int .i64 m)).1
      rw [flat_set1 (mskK xs k) k (by rw [mskK_len]; exact hkl)] at hrow2
      have hsucc : mskK xs (k + 1) = (mskK xs k).set k ⟨xs[k].l, m, xs[k].o⟩ := by rw [mskK_succ hkl, ← hm]; rfl
      have hrow3 : Hid (pzE.Row (wr.setCell ⟨g, k * 3 + 1, none⟩ (.int .i64 m)) w1.heap.size 35 (some ⟨g, 0, none⟩) Xc (mskK xs (k + 1))) := Lib.hid (by
        unfold Enc.Row
        rw [hsucc, List.length_set]
        have hat2 := hat.out
        rw [hat2] at hrow2
        exact hrow2)
      have hgr : wr.grownBy (wr.setCell ⟨g, k * 3 + 1, none⟩ (.int .i64 m)) (some g) := ⟨rfl, rfl, rfl, by simp [World.setCell], fun j _ hj => Below.heap_setCell _ _ _ _ (fun e => hj (by rw [e]))⟩
      have hB3 : Hid (Below w.heap.size w (wr.setCell ⟨g, k * 3 + 1, none⟩ (.int .i64 m))) := Lib.hid (hB.out.grown hgr (Nat.le_trans hbs.out.1 hsz.out) (fun _ e => by injection e with e; have := hbs.out.1; omega))
      have hsz3 : Hid (w1.heap.size ≤ (wr.setCell ⟨g, k * 3 + 1, none⟩ (.int .i64 m)).heap.size) := Lib.hid (by simp [World.setCell]; exact hsz.out)
      have mk : bits .and .i64 xs[k].v 1023 = m := (and_mask2 xs[k].v 10 1023 rfl (by decide)).trans hm
      have hk2 : k < (xs.map Pz.m).length := by rw [List.length_map]; exact hkl
      have hss : Hid (sumV (xs.map Pz.m) (k + 1) = if (!xs[k].o && decide (0 < xs[k].l)) = true then s + m else s) := Lib.hid (by
        rw [hsc.out.1, ← hm]
        show (if _ then _ else _) = _
        rw [zAt_m hkl]
        rfl)
      have hcs : Hid ((clK Pz.w (xs.map Pz.m) (k + 1)).length = if (!xs[k].o && decide (0 < xs[k].l)) = true then c + 1 else c) := Lib.hid (by
        rw [clK_succ, zAt_m hkl, hsc.out.2]
        show (if (!xs[k].o && decide (0 < xs[k].l)) = true then _ else _ : List Nat).length = _
        split <;> simp)
      have hsb := sumV_b xs k (by omega)
      rw [← hsc.out.1] at hsb
      have hcb := clK_len Pz.w (xs.map Pz.m) k
      rw [← hsc.out.2] at hcb
      have hvm : 0 ≤ m ∧ m ≤ 1023 := by omega
      clear hm
      replace c0 : wr.cell? ⟨g, k * 3, none⟩ = some (.int .i64 xs[k].l) := c0
      replace c1 : wr.cell? ⟨g, k * 3 + 1, none⟩ = some (.int .i64 xs[k].v) := c1
      replace c2 : wr.cell? ⟨g, k * 3 + 2, none⟩ = some (.bool xs[k].o) := c2
      generalize xs[k] = z at *
      obtain ⟨zl, zv, zo⟩ := z
      dsimp only at *
      have d0 : (wr.setCell ⟨g, k * 3 + 1, none⟩ (.int .i64 m)).cell? ⟨g, k * 3, none⟩ = some (.int .i64 zl) := (World.cell?_setCell_other _ _ _ _ (by intro e; injection e with e1 e2; omega)).trans c0
      have d1 : (wr.setCell ⟨g, k * 3 + 1, none⟩ (.int .i64 m)).cell? ⟨g, k * 3 + 1, none⟩ = some (.int .i64 m) := World.cell?_setCell_same _ _ _ (by rw [c1])
      have d2 : (wr.setCell ⟨g, k * 3 + 1, none⟩ (.int .i64 m)).cell? ⟨g, k * 3 + 2, none⟩ = some (.bool zo) := (World.cell?_setCell_other _ _ _ _ (by intro e; injection e with e1 e2; omega)).trans c2
      have hsw : IntKind.i64.wrap (s + m) = s + m := IntWalk.i64_in _ (by omega)
      have hcw : IntKind.i64.wrap ((c : Int) + 1) = (c : Int) + 1 := IntWalk.i64_in _ (by omega)
      have hall := Lib.hid (And.intro d0 (And.intro d1 (And.intro d2 (And.intro hrow3.out (And.intro hB3.out hsz3.out)))))
      clear hc hfz hrow2 hsucc hgr hrow3 hB3 hsz3 hk2 hsb hcb hvm d0 d1 d2 hR hat hkl hg1 hg2 hB hsz hvic
      go_upto_region 9 with fail
      clear c0 c1 c2 hf1 mk
      refine fresh_world (fun W => W.cell? ⟨g, k * 3, none⟩ = some (.int .i64 zl) ∧ W.cell? ⟨g, k * 3 + 1, none⟩ = some (.int .i64 m) ∧ W.cell? ⟨g, k * 3 + 2, none⟩ = some (.bool zo) ∧ pzE.Row W w1.heap.size 35 (some ⟨g, 0, none⟩) Xc (mskK xs (k + 1)) ∧ Below w.heap.size w W ∧ w1.heap.size ≤ W.heap.size) hall.out ?_
      clear hall
      rintro W9 ⟨d0, d1, d2, hR9, hB9, hs9⟩
      have hR9H := Lib.hid hR9
      have hB9H := Lib.hid hB9
      have hs9H := Lib.hid hs9
      clear hR9 hB9 hs9
      by_cases hz : 0 < zl
      case neg =>
        have hzb : decide (zl > 0) = false := by simp; omega
        have hse : Hid (s = sumV (xs.map Pz.m) (k + 1) ∧ c = (clK Pz.w (xs.map Pz.m) (k + 1)).length) := Lib.hid (by rw [hss.out, hcs.out]; simp [hz])
        clear hss hcs hsc
        go_wp2_with fail
        go_roundw
        case rel => exact ⟨k + 1, c, s, hlt, by go_num, rfl, rfl, hse, hR9H, hB9H, hs9H⟩
        case measure => simp only [intOf]; omega
      case pos =>
        have hzb : decide (zl > 0) = true := by simp; omega
        cases zo with
        | true =>
          have hse : Hid (s = sumV (xs.map Pz.m) (k + 1) ∧ c = (clK Pz.w (xs.map Pz.m) (k + 1)).length) := Lib.hid (by rw [hss.out, hcs.out]; simp)
          clear hss hcs hsc
          go_wp2_with fail
          go_roundw
          case rel => exact ⟨k + 1, c, s, hlt, by go_num, rfl, rfl, hse, hR9H, hB9H, hs9H⟩
          case measure => simp only [intOf]; omega
        | false =>
          have hse : Hid (s + m = sumV (xs.map Pz.m) (k + 1) ∧ c + 1 = (clK Pz.w (xs.map Pz.m) (k + 1)).length) := Lib.hid (by rw [hss.out, hcs.out]; simp [hz])
          clear hss hcs hsc
          go_wp2_with fail
          go_roundw
          case rel => exact ⟨k + 1, c + 1, s + m, hlt, by go_num, rfl, by go_num, hse, hR9H, hB9H, hs9H⟩
          case measure => simp only [intOf]; omega
end Go.Proofs.Ytbgkmppngnedlaa
