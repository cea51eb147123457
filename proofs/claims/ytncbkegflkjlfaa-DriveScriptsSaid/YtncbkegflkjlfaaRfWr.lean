/- What the document's Do of a drive does where it writes. -/
import Derived.Test.YtncbkegflkjlfaaRfApp
namespace Go.Proofs.Ytncbkegflkjlfaa
open Go.RowKit Zon Drv

theorem fresh_anyC {P : Program} {md : Region.Mode} {ops : Array Oper} {Q : Exit → Act → World → Prop} {c : Nat → Bool} {S : World → Prop} {fuel : Nat} {listed : Array Bool} {a : Act} {W : World} (R : World → Prop) (hR : R W)
    (h : ∀ W2, R W2 → anyC P md ops Q c S fuel listed a W2) : anyC P md ops Q c S fuel listed a W := h W hR
theorem wrt_step {W0 W W2 : World} {d i : Nat} {B : Blk} {D : Dr} {x t : List UInt8} {v : Value} {k : Nat} (h : RLies W0 d B (wrt D i x)) (hi : i < D.cs.length) (hb : Below W0.heap.size W0 W) (hx : x.length = 64 * k) (ht : t.length = 64)
    (hg : W.grownBy W2 (B.v i).ownBlock) (hown : W2.ownsRow 0 9 1 v (bks x ++ [Value.string ⟨t.toArray⟩]).length (bks x ++ [Value.string ⟨t.toArray⟩])) (hat : v.ownBlock = (B.v i).ownBlock ∨ v.ownBlock = some W.heap.size) :
    RLies (W2.setCell ⟨B.c, i, none⟩ v) d (B.put i v) (wrt D i (x ++ t)) := by
  have h1 := (h.below hb).put_c (i := i) (by rw [wrt_len]; exact hi) (v := v) (x := x ++ t) hg (by rw [bks_snoc hx ht]; exact hown) (hat.elim (fun h => .inr (.inl h)) (fun h => .inr (.inr ⟨_, h, Nat.le_refl _⟩)))
  rw [wrt_twice] at h1
  exact h1

set_option maxRecDepth 100000 in
set_option maxHeartbeats 1000000 in
theorem rdo7_write1 (w : World) (F : Nat → Prop) (d : Nat) (D : Dr) (k a n : Int) (s : ByteArray) (h : RAt w F d D) (hok : D.Ok) (hd : D.dead = false) (hF : ∀ b, F b → b < w.heap.size) (hfit : fits k n s.size = true) (hsl : s.size ≤ 1000000)
    (i : Nat) (hi : i < D.m.zs.length) (hev : (doM D.m k (i : Int) a n).2.1 = 0) (hk : k = 1) :
    Calls Try.prog 22 #[.pointer (some ⟨d, 0, none⟩), .agg #[.int .i64 k, .int .i64 (i : Int), .int .i64 a, .int .i64 n], .string s] w (RDoPost w F d (exec D k (i : Int) a n s.data.toList)) := by
  obtain ⟨B, h, hin⟩ := h
  have c3 := h.c3
  rw [hd] at c3
  have hdl := h.dlt
  have hfx : exec D k (i : Int) a n s.data.toList = (([], (doM D.m k (i : Int) a n).1, 0), ⟨D.m.with (doM D.m k (i : Int) a n).2.2, D.cs.set i (D.c i ++ s.data.toList), D.ls, D.dead⟩) := by
    unfold exec turned
    rw [if_pos hev, Int.toNat_natCast, if_neg (show ¬ k = 7 by omega), if_pos (show writesB k = true by rw [hk]; rfl), if_neg (show ¬ k = 3 by omega), if_neg (show ¬ k = 4 by omega)]
  rw [hfx]
  clear hfx
  have hz2 := hok.m.z2
  have hic : i < D.cs.length := by rw [hok.cl]; exact hi
  have hil : i < D.ls.length := by rw [hok.ll]; exact hi
  have hlcc := Lib.hid (show D.ls.length = D.cs.length by rw [hok.cl, hok.ll])
  have hcn : D.cs.length ≤ 64 := by rw [hok.cl]; exact hz2
  have hln : D.ls.length ≤ 64 := by rw [hok.ll]; exact hz2
  have hcz := hok.cz i hi
  have hzo := (hok.m.at_ hi)
  have hb2 := hok.m.b2
  have hfz : 1 ≤ n ∧ n ≤ D.m.b - (zAt D.m.zs i).l := doM_write D.m i k a n (by omega) hev
  have hn1 : 0 < n := by omega
  have hsz : (s.size : Int) = 64 * n := by
    rcases fits_cases hfit hsl with ⟨_, _, _, h⟩ | ⟨_, _, _, _, h⟩ | ⟨_, h, _⟩ | ⟨_, _, h, _⟩ | ⟨h1, h2, _⟩
    · exact h
    · exact h
    · omega
    · omega
    · rw [hk] at h1 h2; simp at h1 h2
  have hn2 : n ≤ 1000000 := by omega
  have k1H := Lib.hid hk
  have k1 : (k == 1) = true := by rw [hk]; rfl
  have hdo := Lib.hid (fun W (hM : MAt W B.g B.z D.m) => rdo_any B.g B.z D.m k (i : Int) a n W hM hok.m)
  unfold CmdPost at hdo
  generalize (doM D.m k (i : Int) a n).2.1 = ev at *
  generalize (doM D.m k (i : Int) a n).1 = av at *
  generalize (doM D.m k (i : Int) a n).2.2 = zs at *
  subst hev
  have hX0 := Lib.hid (show RxW w (w.alloc (.cells #[.int .i64 k, .int .i64 (i : Int), .int .i64 a, .int .i64 n] 49)) F d B D k (i : Int) a n from ⟨h.below ((Below.refl _ _).alloc (Nat.le_refl _) _), hin, (Turn.refl _ _).trans (Turn.of_below ((Below.refl _ _).alloc (Nat.le_refl _) _) _), Bx.new w k (i : Int) a n _⟩)
  have hXz : w.heap.size ≠ B.z := by have := h.m.zl; omega
  have hXn : ¬ F w.heap.size := fun hf => by have := hF _ hf; omega
  clear h hin hok hfit hd hsl
  have hkH := Lib.hid hk
  clear hk
  go_enter Try.func22, Try.ntmps22
  go_wp2_with fail
  refine fresh_world (fun W => RxW w W F d B D k (i : Int) a n) hX0.out ?_
  intro W5 hX
  clear hX0 c3
  have c0 := hX.l.c0
  have hdz := hX.l.dz
  have hf := Lib.hid (fun W (hW : Only W5 W B.z) => (⟨hW.cell c0 hdz, hW.cell hX.x.x0 hXz, hW.cell hX.x.x1 hXz, hW.cell hX.x.x2 hXz, hW.cell hX.x.x3 hXz⟩ : W.cell? ⟨d, 0, none⟩ = some (.pointer (some ⟨B.g, 0, none⟩)) ∧ W.cell? ⟨w.heap.size, 0, none⟩ = some (.int .i64 k) ∧ W.cell? ⟨w.heap.size, 1, none⟩ = some (.int .i64 (i : Int)) ∧ W.cell? ⟨w.heap.size, 2, none⟩ = some (.int .i64 a) ∧ W.cell? ⟨w.heap.size, 3, none⟩ = some (.int .i64 n)))
  have hXH := Lib.hid hX
  clear hX c0
  refine region_anyC (fun _ => true) (fun W => Only W5 W B.z) (by kernel_rfl) ?_
  have hS5 : Only W5 W5.drew B.z := (Only.refl _ _).drew
  refine anyL_take 0 (v := ?_) rfl (by kernel_rfl) (fun _ _ _ h => h) (Or.inl ⟨by rfl, ?_⟩) hS5 ?_
  rotate_left
  focus (intro W hW; go_simp; try with_reducible rfl)
  simp only [Act.put, List.setIfInBounds_toArray, List.set_cons_zero, List.set_cons_succ]
  refine anyL_take 1 (v := ?_) rfl (by kernel_rfl) (fun _ _ _ h => h) (Or.inl ⟨by rfl, ?_⟩) hS5 ?_
  rotate_left
  focus (intro W hW; go_simp; try with_reducible rfl)
  simp only [Act.put, List.setIfInBounds_toArray, List.set_cons_zero, List.set_cons_succ]
  refine anyL_take 2 (v := ?_) rfl (by kernel_rfl) (fun _ _ _ h => h) (Or.inl ⟨by rfl, ?_⟩) hS5 ?_
  rotate_left
  focus (intro W hW; go_simp; try with_reducible rfl)
  simp only [Act.put, List.setIfInBounds_toArray, List.set_cons_zero, List.set_cons_succ]
  refine anyL_take 3 (v := ?_) rfl (by kernel_rfl) (fun _ _ _ h => h) (Or.inl ⟨by rfl, ?_⟩) hS5 ?_
  rotate_left
  focus (intro W hW; obtain ⟨f0, f1, f2, f3, f4⟩ := hf.out W hW; go_simp; try with_reducible rfl)
  simp only [Act.put, List.setIfInBounds_toArray, List.set_cons_zero, List.set_cons_succ]
  refine anyL_take 4 (v := ?_) rfl (by kernel_rfl) (fun _ _ _ h => h) (Or.inl ⟨by rfl, ?_⟩) hS5 ?_
  rotate_left
  focus (intro W hW; obtain ⟨f0, f1, f2, f3, f4⟩ := hf.out W hW; go_simp; try with_reducible rfl)
  simp only [Act.put, List.setIfInBounds_toArray, List.set_cons_zero, List.set_cons_succ]
  refine anyL_one 5 rfl (by kernel_rfl) (fun K hK => ?_)
  go_simp
  refine (hdo.out _ (hXH.out.l.m.below (Below.refl _ _).drew)).mono ?_
  rintro e' w7 ⟨rfl, hM7, ho7⟩
  have ho8 := hS5.trans ho7
  dsimp only
  refine hK.out _ _ (fun _ => ho8) ?_
  clear hK K
  try simp only [Act.put, List.setIfInBounds_toArray, List.set_cons_zero, List.set_cons_succ]
  refine anyL_take 6 (v := ?_) rfl (by kernel_rfl) (fun _ _ _ h => h) (Or.inl ⟨by rfl, ?_⟩) ho8 ?_
  rotate_left
  focus (intro W hW; go_simp; try with_reducible rfl)
  simp only [Act.put, List.setIfInBounds_toArray, List.set_cons_zero, List.set_cons_succ]
  refine anyL_take 7 (v := ?_) rfl (by kernel_rfl) (fun _ _ _ h => h) (Or.inl ⟨by rfl, ?_⟩) ho8 ?_
  rotate_left
  focus (intro W hW; go_simp; try with_reducible rfl)
  simp only [Act.put, List.setIfInBounds_toArray, List.set_cons_zero, List.set_cons_succ]
  refine anyL_take 8 (v := ?_) rfl (by kernel_rfl) (fun _ _ _ h => h) (Or.inl ⟨by rfl, ?_⟩) ho8 ?_
  rotate_left
  focus (intro W hW; go_simp; try with_reducible rfl)
  simp only [Act.put, List.setIfInBounds_toArray, List.set_cons_zero, List.set_cons_succ]
  refine anyL_take 9 (v := ?_) rfl (by kernel_rfl) (fun _ _ _ h => h) (Or.inl ⟨by rfl, ?_⟩) ho8 ?_
  rotate_left
  focus (intro W hW; go_simp; try with_reducible rfl)
  simp only [Act.put, List.setIfInBounds_toArray, List.set_cons_zero, List.set_cons_succ]
  refine anyL_take 10 (v := ?_) rfl (by kernel_rfl) (fun _ _ _ h => h) (Or.inl ⟨by rfl, ?_⟩) ho8 ?_
  rotate_left
  focus (intro W hW; go_simp; try with_reducible rfl)
  simp only [Act.put, List.setIfInBounds_toArray, List.set_cons_zero, List.set_cons_succ]
  refine anyC_done (by kernel_rfl) ?_ _
  refine fresh_K (fun W => RxW w W F d B { D with m := D.m.with zs } k (i : Int) a n) ⟨(hXH.out.l).machine ho8 hM7, hXH.out.i, hXH.out.t.trans (Turn.of_only ho8 hXH.out.i.z), hXH.out.x.turn (F := fun b => b = B.z) (Turn.of_only ho8 rfl) hXz⟩ ?_
  clear hM7 ho8 ho7 hS5 hXH hf hdo
  intro W8 hX
  have x0 := hX.x.x0
  rw [hkH.out] at x0
  clear k1H
  obtain ⟨q, rfl⟩ := Int.eq_ofNat_of_zero_le (show 0 ≤ n by omega)
  have hlen : s.size = 64 * q := by omega
  have hq2 : q ≤ 4096 := by unfold zOk at hzo; omega
  have hx3 : W8.cell? ⟨w.heap.size, 3, none⟩ = some (.int .i64 (q : Int)) := hX.x.x3
  have hcl : (D.c i).length % 64 = 0 ∧ (D.c i).length ≤ 262144 := by unfold zOk at hzo; omega
  obtain ⟨ck, hck⟩ : ∃ ck : Nat, (D.c i).length = 64 * ck := ⟨(D.c i).length / 64, by omega⟩
  have hckl : ck ≤ 4096 := by omega
  obtain ⟨D1, hD1⟩ : ∃ D1 : Dr, D1 = { D with m := D.m.with zs } := ⟨_, rfl⟩
  have hD1c : D1.c i = D.c i := by rw [hD1]; rfl
  have hD1l : D1.cs.length = D.cs.length := by rw [hD1]
  have h0 : RxS w W8 F d (wrt D1 i (D.c i ++ s.data.toList.take (64 * 0))) 1 (i : Int) a (q : Int) := by
    rw [Nat.mul_zero, List.take_zero, List.append_nil, ← hD1c, wrt_same (by rw [hD1l]; exact hic), hD1]
    exact ⟨⟨B, F, hX.l, hX.i, fun b hb => .inl hb⟩, hX.t, by rw [← hkH.out]; exact hX.x⟩
  have hres : wrt D1 i (D.c i ++ s.data.toList) = ⟨D.m.with zs, D.cs.set i (D.c i ++ s.data.toList), D.ls, D.dead⟩ := by rw [hD1]; rfl
  have hresH := Lib.hid hres
  have hlenH := Lib.hid hlen
  have hckH := Lib.hid hck
  have h0H := Lib.hid h0
  have hic1 : i < D1.cs.length := by rw [hD1l]; exact hic
  have hcn1 : D1.cs.length ≤ 64 := by rw [hD1l]; exact hcn
  have hsl2 : s.size ≤ 262144 := by omega
  clear k1 hX hsz hcl hres hlen hck h0 hcz hzo hD1 hD1c hD1l hfz
  generalize D.c i = cc at *
  go_wp2_with fail
  go_loopw [13] (fun i' wr => ∃ j : Nat, j ≤ q ∧ i' = .int .i64 (j : Int) ∧ RxS w wr F d (wrt D1 i (cc ++ s.data.toList.take (64 * j))) 1 (i : Int) a (q : Int)) (fun i' _ => q - (intOf i').toNat)
  case atStart => exact ⟨0, by omega, rfl, h0H.out⟩
  case round =>
    clear hx3 x0 h0H
    obtain ⟨j, hj, rfl, hR⟩ := hrel
    obtain ⟨⟨E, F', hL, hIn, hF'⟩, hT, hB⟩ := hR
    have hx3 := hB.x3
    by_cases hlt : j < q
    · obtain ⟨A, cap, hv, hvc, hvA⟩ := hL.form (i := i) (by rw [wrt_len]; exact hic1)
      rw [wrt_c hic1] at hv hvc hvA
      have hxl : (cc ++ s.data.toList.take (64 * j)).length = 64 * (ck + j) := by
        have h1 := hlenH.out
        have h2 := hckH.out
        rw [List.length_append, List.length_take, show s.data.toList.length = s.size from rfl]
        omega
      have hown := hL.own i (by rw [wrt_len]; exact hic1)
      rw [wrt_c hic1] at hown
      have hxl64 : (cc ++ s.data.toList.take (64 * j)).length / 64 = ck + j := by omega
      rw [hxl64] at hv hvc hvA
      have hbl : (bks (cc ++ s.data.toList.take (64 * j))).length ≤ 100000 := by rw [bks_len]; omega
      have hstep := data_step cc s.data.toList j
      have hbk : (blk s.data.toList j).length = 64 := blk_len (by rw [show s.data.toList.length = s.size from rfl, hlenH.out]; omega)
      have htx := blk_text s j
      have hG : ∀ b, (E.v i).ownBlock = some b → b ≠ d ∧ b ≠ E.c ∧ b ≠ w.heap.size ∧ F' b := fun b hb => by
        have h1 := hL.od i (by rw [wrt_len]; exact hic1) b hb
        have h2 := hIn.o i (by rw [wrt_len]; exact hic1) b hb
        exact ⟨h1.1, h1.2.2.2.1, fun e => by
          subst e
          rcases hF' _ h2 with h | h
          · exact hXn h
          · omega, h2⟩
      have hfin := Lib.hid (fun W W2 v (hb : Below wr.heap.size wr W) (hg : W.grownBy W2 (E.v i).ownBlock) (hown : W2.ownsRow 0 9 1 v (bks (cc ++ s.data.toList.take (64 * j)) ++ [Value.string ⟨(blk s.data.toList j).toArray⟩]).length (bks (cc ++ s.data.toList.take (64 * j)) ++ [Value.string ⟨(blk s.data.toList j).toArray⟩])) (hat : v.ownBlock = (E.v i).ownBlock ∨ v.ownBlock = some W.heap.size) => by
        have h1 := wrt_step hL hic1 hb hxl hbk hg hown hat
        rw [← hstep] at h1
        have hFs : ∀ b, v.ownBlock = some b → F' b ∨ w.heap.size < b := fun b hb' => by
          rcases hat with h | h
          · rw [h] at hb'; exact .inl (hG b hb').2.2.2
          · rw [h] at hb'
            injection hb' with e
            have e1 := lt_of_cell hx3
            have e2 := hb.size
            exact .inr (by omega)
        have ht1 : Turn wr W2 (fun b => F' b) := (Turn.of_below hb _).trans ((Turn.of_grown hg fun _ h => h).mono fun b _ hb' => (hG b hb').2.2.2)
        have ht2 : Turn wr (W2.setCell ⟨E.c, i, none⟩ v) (fun b => F' b) := ht1.trans (Turn.set _ (F := fun b => F' b) hIn.c _ _)
        have hTT : Turn w (W2.setCell ⟨E.c, i, none⟩ v) F := hT.trans' (ht2.mono fun b _ hb' => hb') (fun b hb' => (hF' b hb').imp id Nat.le_of_lt)
        have hIn2 : RLies.In (fun b => F' b ∨ w.heap.size < b) d (E.put i v) (wrt D1 i (cc ++ s.data.toList.take (64 * (j + 1)))).cs.length := ⟨.inl hIn.d, .inl hIn.g, .inl hIn.z, .inl hIn.c, .inl hIn.l, fun p hp b hb' => by
          rw [E.put_v (by rw [hL.vl, wrt_len]; exact hic1)] at hb'
          by_cases e : i = p
          · rw [if_pos e] at hb'; exact hFs b hb'
          · rw [if_neg e] at hb'; exact .inl (hIn.o p (by rw [wrt_len] at hp ⊢; exact hp) b hb')⟩
        have hBx : Bx w (W2.setCell ⟨E.c, i, none⟩ v) w.heap.size 1 (i : Int) a (q : Int) := hB.turn ht2 fun hf => by
          rcases hF' _ hf with h | h
          · exact hXn h
          · omega
        exact (⟨⟨_, _, h1, hIn2, fun b hb' => hb'.elim (hF' b) .inr⟩, hTT, hBx⟩ : RxS w (W2.setCell ⟨E.c, i, none⟩ v) F d (wrt D1 i (cc ++ s.data.toList.take (64 * (j + 1)))) 1 (i : Int) a (q : Int)))
      have hap := Lib.hid (fun W (hb : Below wr.heap.size wr W) (m' : Nat) (hc : W.cell? ⟨m', 0, none⟩ = some (.string ⟨(blk s.data.toList j).toArray⟩)) => blk_append W 0 89 (E.v i) (bks (cc ++ s.data.toList.take (64 * j))) ((hL.below hb).own i (by rw [wrt_len]; exact hic1) |> fun h => by rw [wrt_c hic1] at h; exact h) m' _ hc hbl (Nat.zero_le _))
      have c1 := hL.c1
      rw [wrt_len] at c1
      have r1 := hL.row i (by rw [wrt_len]; exact hic1)
      have hMc := hL.lc
      have hf := Lib.hid (fun W (hW : Turn wr W (fun b => (E.v i).ownBlock = some b)) => (⟨hW.cell c1 (fun h => (hG _ h).1 rfl), hW.cell hB.x1 (fun h => (hG _ h).2.2.1 rfl), hW.cell r1.1 (fun h => (hG _ h).2.1 rfl), (same_frozen (hW.block _ hMc (fun h => (hG _ h).2.1 rfl))).trans r1.2⟩ : W.cell? ⟨d, 1, none⟩ = some (.slice (some ⟨E.c, 0, none⟩) D1.cs.length D1.cs.length) ∧ W.cell? ⟨w.heap.size, 1, none⟩ = some (.int .i64 (i : Int)) ∧ W.cell? ⟨E.c, i, none⟩ = some (E.v i) ∧ W.frozen? ⟨E.c, i, none⟩ = false))
      rw [hv] at hf hap
      have hvH := Lib.hid hv
      obtain ⟨P, hP⟩ : ∃ P : Nat, P = 64 * j := ⟨_, rfl⟩
      obtain ⟨P2, hP2⟩ : ∃ P2 : Nat, P2 = 64 * j + 64 := ⟨_, rfl⟩
      rw [← hP2, ← hP] at htx
      have hw1 : IntKind.i64.wrap (64 * (j : Int)) = (P : Int) := by rw [IntWalk.i64_in _ (by omega)]; omega
      have hw2 : IntKind.i64.wrap ((P : Int) + 64) = (P2 : Int) := by rw [IntWalk.i64_in _ (by omega)]; omega
      have hPP : P ≤ P2 := by omega
      have hP2s : P2 ≤ s.size := by have := hlenH.out; omega
      have htxH := Lib.hid htx
      clear hL hIn hF' hT hB hown hbl hstep hbk hG hxl hxl64 htx hP hP2 c1 r1 hv hresH
      go_wp2_with fail
      refine region_anyC (fun i => i != 26) (fun W => Turn wr W (fun b => (Value.slice A (ck + j) cap).ownBlock = some b)) (by kernel_rfl) ?_
      have hS : Turn wr wr.drew (fun b => (Value.slice A (ck + j) cap).ownBlock = some b) := Turn.of_below (Below.refl _ _).drew _
      refine anyL_take 0 (v := ?_) rfl (by kernel_rfl) (fun _ _ _ h => h) (Or.inl ⟨by rfl, ?_⟩) hS ?_
      rotate_left
      focus (intro W hW; go_simp; try with_reducible rfl)
      simp only [Act.put, List.setIfInBounds_toArray, List.set_cons_zero, List.set_cons_succ]
      refine anyL_take 1 (v := ?_) rfl (by kernel_rfl) (fun _ _ _ h => h) (Or.inl ⟨by rfl, ?_⟩) hS ?_
      rotate_left
      focus (intro W hW; go_simp; try with_reducible rfl)
      simp only [Act.put, List.setIfInBounds_toArray, List.set_cons_zero, List.set_cons_succ]
      refine anyL_take 2 (v := ?_) rfl (by kernel_rfl) (fun _ _ _ h => h) (Or.inl ⟨by rfl, ?_⟩) hS ?_
      rotate_left
      focus (intro W hW; go_simp; try with_reducible rfl)
      simp only [Act.put, List.setIfInBounds_toArray, List.set_cons_zero, List.set_cons_succ]
      refine anyL_take 3 (v := ?_) rfl (by kernel_rfl) (fun _ _ _ h => h) (Or.inl ⟨by rfl, ?_⟩) hS ?_
      rotate_left
      focus (intro W hW; obtain ⟨f0, f1, f2, f3⟩ := hf.out W hW; go_simp; try with_reducible rfl)
      simp only [Act.put, List.setIfInBounds_toArray, List.set_cons_zero, List.set_cons_succ]
      refine anyL_take 4 (v := ?_) rfl (by kernel_rfl) (fun _ _ _ h => h) (Or.inl ⟨by rfl, ?_⟩) hS ?_
      rotate_left
      focus (intro W hW; go_simp; try with_reducible rfl)
      simp only [Act.put, List.setIfInBounds_toArray, List.set_cons_zero, List.set_cons_succ]
      refine anyL_take 5 (v := ?_) rfl (by kernel_rfl) (fun _ _ _ h => h) (Or.inl ⟨by rfl, ?_⟩) hS ?_
      rotate_left
      focus (intro W hW; obtain ⟨f0, f1, f2, f3⟩ := hf.out W hW; go_simp; try with_reducible rfl)
      simp only [Act.put, List.setIfInBounds_toArray, List.set_cons_zero, List.set_cons_succ]
      refine anyL_take 6 (v := ?_) rfl (by kernel_rfl) (fun _ _ _ h => h) (Or.inl ⟨by rfl, ?_⟩) hS ?_
      rotate_left
      focus (intro W hW; go_simp; try with_reducible rfl)
      simp only [Act.put, List.setIfInBounds_toArray, List.set_cons_zero, List.set_cons_succ]
      refine anyL_take 7 (v := ?_) rfl (by kernel_rfl) (fun _ _ _ h => h) (Or.inl ⟨by rfl, ?_⟩) hS ?_
      rotate_left
      focus (intro W hW; go_simp; try with_reducible rfl)
      simp only [Act.put, List.setIfInBounds_toArray, List.set_cons_zero, List.set_cons_succ]
      refine anyL_take 8 (v := ?_) rfl (by kernel_rfl) (fun _ _ _ h => h) (Or.inl ⟨by rfl, ?_⟩) hS ?_
      rotate_left
      focus (intro W hW; go_simp; try with_reducible rfl)
      simp only [Act.put, List.setIfInBounds_toArray, List.set_cons_zero, List.set_cons_succ]
      refine anyL_take 9 (v := ?_) rfl (by kernel_rfl) (fun _ _ _ h => h) (Or.inl ⟨by rfl, ?_⟩) hS ?_
      rotate_left
      focus (intro W hW; obtain ⟨f0, f1, f2, f3⟩ := hf.out W hW; go_simp; try with_reducible rfl)
      simp only [Act.put, List.setIfInBounds_toArray, List.set_cons_zero, List.set_cons_succ]
      refine anyL_take 10 (v := ?_) rfl (by kernel_rfl) (fun _ _ _ h => h) (Or.inl ⟨by rfl, ?_⟩) hS ?_
      rotate_left
      focus (intro W hW; go_simp; try with_reducible rfl)
      simp only [Act.put, List.setIfInBounds_toArray, List.set_cons_zero, List.set_cons_succ]
      refine anyL_take 11 (v := ?_) rfl (by kernel_rfl) (fun _ _ _ h => h) (Or.inl ⟨by rfl, ?_⟩) hS ?_
      rotate_left
      focus (intro W hW; obtain ⟨f0, f1, f2, f3⟩ := hf.out W hW; go_simp; try with_reducible rfl)
      simp only [Act.put, List.setIfInBounds_toArray, List.set_cons_zero, List.set_cons_succ]
      refine anyL_take 12 (v := ?_) rfl (by kernel_rfl) (fun _ _ _ h => h) (Or.inl ⟨by rfl, ?_⟩) hS ?_
      rotate_left
      focus (intro W hW; go_simp; try with_reducible rfl)
      simp only [Act.put, List.setIfInBounds_toArray, List.set_cons_zero, List.set_cons_succ]
      refine anyL_take 13 (v := ?_) rfl (by kernel_rfl) (fun _ _ _ h => h) (Or.inl ⟨by rfl, ?_⟩) hS ?_
      rotate_left
      focus (intro W hW; go_simp; try with_reducible rfl)
      simp only [Act.put, List.setIfInBounds_toArray, List.set_cons_zero, List.set_cons_succ]
      refine anyL_take 14 (v := ?_) rfl (by kernel_rfl) (fun _ _ _ h => h) (Or.inl ⟨by rfl, ?_⟩) hS ?_
      rotate_left
      focus (intro W hW; obtain ⟨f0, f1, f2, f3⟩ := hf.out W hW; go_simp; try with_reducible rfl)
      simp only [Act.put, List.setIfInBounds_toArray, List.set_cons_zero, List.set_cons_succ]
      refine anyL_take 15 (v := ?_) rfl (by kernel_rfl) (fun _ _ _ h => h) (Or.inl ⟨by rfl, ?_⟩) hS ?_
      rotate_left
      focus (intro W hW; go_simp; try with_reducible rfl)
      simp only [Act.put, List.setIfInBounds_toArray, List.set_cons_zero, List.set_cons_succ]
      refine anyL_take 16 (v := ?_) rfl (by kernel_rfl) (fun _ _ _ h => h) (Or.inl ⟨by rfl, ?_⟩) hS ?_
      rotate_left
      focus (intro W hW; go_simp; try with_reducible rfl)
      simp only [Act.put, List.setIfInBounds_toArray, List.set_cons_zero, List.set_cons_succ]
      refine anyL_take 17 (v := ?_) rfl (by kernel_rfl) (fun _ _ _ h => h) (Or.inl ⟨by rfl, ?_⟩) hS ?_
      rotate_left
      focus (intro W hW; go_simp; try with_reducible rfl)
      simp only [Act.put, List.setIfInBounds_toArray, List.set_cons_zero, List.set_cons_succ]
      refine anyL_take 18 (v := ?_) rfl (by kernel_rfl) (fun _ _ _ h => h) (Or.inl ⟨by rfl, ?_⟩) hS ?_
      rotate_left
      focus (intro W hW; go_simp; try with_reducible rfl)
      simp only [Act.put, List.setIfInBounds_toArray, List.set_cons_zero, List.set_cons_succ]
      refine anyL_take 19 (v := ?_) rfl (by kernel_rfl) (fun _ _ _ h => h) (Or.inl ⟨by rfl, ?_⟩) hS ?_
      rotate_left
      focus (intro W hW; go_simp; try with_reducible rfl)
      simp only [Act.put, List.setIfInBounds_toArray, List.set_cons_zero, List.set_cons_succ]
      refine anyL_take 20 (v := ?_) rfl (by kernel_rfl) (fun _ _ _ h => h) (Or.inl ⟨by rfl, ?_⟩) hS ?_
      rotate_left
      focus (intro W hW; go_simp; try with_reducible rfl)
      simp only [Act.put, List.setIfInBounds_toArray, List.set_cons_zero, List.set_cons_succ]
      refine anyL_take 21 (v := ?_) rfl (by kernel_rfl) (fun _ _ _ h => h) (Or.inl ⟨by rfl, ?_⟩) hS ?_
      rotate_left
      focus (intro W hW; go_simp; try with_reducible rfl)
      simp only [Act.put, List.setIfInBounds_toArray, List.set_cons_zero, List.set_cons_succ]
      refine anyL_one 22 rfl (by kernel_rfl) (fun K hK => ?_)
      go_simp
      have hb22 : Below wr.heap.size wr (wr.alloc (.cells #[.string (s.extract P P2)] 9)).drew := ((Below.refl _ _).alloc (Nat.le_refl _) _).drew
      refine hK.out _ _ (fun _ => Turn.of_below hb22 _) ?_
      clear hK K
      try simp only [Act.put, List.setIfInBounds_toArray, List.set_cons_zero, List.set_cons_succ]
      refine fresh_anyC (fun W => Below wr.heap.size wr W ∧ W.cell? ⟨wr.heap.size, 0, none⟩ = some (.string (s.extract P P2))) ⟨hb22, by go_simp⟩ ?_
      clear hb22
      rintro W22 ⟨hb22, hc22⟩
      rw [htxH.out] at hc22
      obtain ⟨v2, w9, hrun, hown9, hgr9, hat9⟩ := hap.out W22 hb22 _ hc22
      have hgr9' := hgr9
      rw [← hvH.out] at hgr9' hat9
      have hfin9 := hfin.out W22 w9 v2 hb22 hgr9' hown9 hat9
      have ht9 : Turn wr w9 (fun b => (Value.slice A (ck + j) cap).ownBlock = some b) := (Turn.of_below hb22 _).trans (Turn.of_grown hgr9 fun _ h => h)
      have hv2 : ∃ A2 n2 cap2, v2 = .slice A2 n2 cap2 := by
        rcases hown9.2 with ⟨e, _⟩ | ⟨g, cap2, cur, e, _⟩
        · exact ⟨_, _, _, e⟩
        · exact ⟨_, _, _, e⟩
      obtain ⟨A2, n2, cap2, rfl⟩ := hv2
      have hfinH := Lib.hid hfin9
      clear hown9 hat9 hgr9' hfin9 hgr9 hfin hap hc22 hb22
      refine anyL_one 23 rfl (by kernel_rfl) (fun K hK => ?_)
      refine append_run_step rfl (.tmp 79) (.tmp 87) 89 rfl rfl rfl hrun ?_
      refine hK.out _ _ (fun _ => ht9) ?_
      clear hK K
      try simp only [Act.put, List.setIfInBounds_toArray, List.set_cons_zero, List.set_cons_succ]
      refine anyL_take 24 (v := ?_) rfl (by kernel_rfl) (fun _ _ _ h => h) (Or.inl ⟨by rfl, ?_⟩) ht9 ?_
      rotate_left
      focus (intro W hW; obtain ⟨f0, f1, f2, f3⟩ := hf.out W hW; go_simp; try with_reducible rfl)
      simp only [Act.put, List.setIfInBounds_toArray, List.set_cons_zero, List.set_cons_succ]
      refine anyL_take 25 (v := ?_) rfl (by kernel_rfl) (fun _ _ _ h => h) (Or.inl ⟨by rfl, ?_⟩) ht9 ?_
      rotate_left
      focus (intro W hW; obtain ⟨f0, f1, f2, f3⟩ := hf.out W hW; go_simp; try with_reducible rfl)
      simp only [Act.put, List.setIfInBounds_toArray, List.set_cons_zero, List.set_cons_succ]
      refine anyL_one 26 rfl (by kernel_rfl) (fun K hK => ?_)
      obtain ⟨f0, f1, f2, f3⟩ := hf.out _ ht9
      go_simp
      refine hK.out _ _ (fun h => absurd h (by decide)) ?_
      clear hK K
      try simp only [Act.put, List.setIfInBounds_toArray, List.set_cons_zero, List.set_cons_succ]
      refine anyC_done (by kernel_rfl) ?_ _
      go_wp2
      go_roundw
      case rel => exact ⟨j + 1, by omega, by go_num, hfinH.out⟩
      case measure => simp [intOf]; omega
    · obtain rfl : j = q := by omega
      have hall : s.data.toList.take (64 * j) = s.data.toList := List.take_of_length_le (by rw [show s.data.toList.length = s.size from rfl, hlenH.out]; exact Nat.le_refl _)
      have hP : RxS w wr F d (wrt D1 i (cc ++ s.data.toList.take (64 * j))) 1 (i : Int) a (j : Int) := ⟨⟨E, F', hL, hIn, hF'⟩, hT, hB⟩
      rw [hall, hresH.out] at hP
      have hPH := Lib.hid hP
      clear hL hIn hF' hT hB hall hP
      go_wp2
      go_ret3
      exact ⟨rfl, hPH.out.post⟩

set_option maxRecDepth 100000 in
set_option maxHeartbeats 1000000 in
theorem rdo7_write2 (w : World) (F : Nat → Prop) (d : Nat) (D : Dr) (k a n : Int) (s : ByteArray) (h : RAt w F d D) (hok : D.Ok) (hd : D.dead = false) (hF : ∀ b, F b → b < w.heap.size) (hfit : fits k n s.size = true) (hsl : s.size ≤ 1000000)
    (i : Nat) (hi : i < D.m.zs.length) (hev : (doM D.m k (i : Int) a n).2.1 = 0) (hk : k = 2) :
    Calls Try.prog 22 #[.pointer (some ⟨d, 0, none⟩), .agg #[.int .i64 k, .int .i64 (i : Int), .int .i64 a, .int .i64 n], .string s] w (RDoPost w F d (exec D k (i : Int) a n s.data.toList)) := by
  obtain ⟨B, h, hin⟩ := h
  have c3 := h.c3
  rw [hd] at c3
  have hdl := h.dlt
  have hfx : exec D k (i : Int) a n s.data.toList = (([], (doM D.m k (i : Int) a n).1, 0), ⟨D.m.with (doM D.m k (i : Int) a n).2.2, D.cs.set i (D.c i ++ s.data.toList), D.ls, D.dead⟩) := by
    unfold exec turned
    rw [if_pos hev, Int.toNat_natCast, if_neg (show ¬ k = 7 by omega), if_pos (show writesB k = true by rw [hk]; rfl), if_neg (show ¬ k = 3 by omega), if_neg (show ¬ k = 4 by omega)]
  rw [hfx]
  clear hfx
  have hz2 := hok.m.z2
  have hic : i < D.cs.length := by rw [hok.cl]; exact hi
  have hil : i < D.ls.length := by rw [hok.ll]; exact hi
  have hlcc := Lib.hid (show D.ls.length = D.cs.length by rw [hok.cl, hok.ll])
  have hcn : D.cs.length ≤ 64 := by rw [hok.cl]; exact hz2
  have hln : D.ls.length ≤ 64 := by rw [hok.ll]; exact hz2
  have hcz := hok.cz i hi
  have hzo := (hok.m.at_ hi)
  have hb2 := hok.m.b2
  have hfz : 1 ≤ n ∧ n ≤ D.m.b - (zAt D.m.zs i).l := doM_write D.m i k a n (by omega) hev
  have hn1 : 0 < n := by omega
  have hsz : (s.size : Int) = 64 * n := by
    rcases fits_cases hfit hsl with ⟨_, _, _, h⟩ | ⟨_, _, _, _, h⟩ | ⟨_, h, _⟩ | ⟨_, _, h, _⟩ | ⟨h1, h2, _⟩
    · exact h
    · exact h
    · omega
    · omega
    · rw [hk] at h1 h2; simp at h1 h2
  have hn2 : n ≤ 1000000 := by omega
  have k1H := Lib.hid hk
  have k1 : (k == 1) = false := by rw [hk]; rfl
  have k2 : (k == 2) = true := by rw [hk]; rfl
  have hdo := Lib.hid (fun W (hM : MAt W B.g B.z D.m) => rdo_any B.g B.z D.m k (i : Int) a n W hM hok.m)
  unfold CmdPost at hdo
  generalize (doM D.m k (i : Int) a n).2.1 = ev at *
  generalize (doM D.m k (i : Int) a n).1 = av at *
  generalize (doM D.m k (i : Int) a n).2.2 = zs at *
  subst hev
  have hX0 := Lib.hid (show RxW w (w.alloc (.cells #[.int .i64 k, .int .i64 (i : Int), .int .i64 a, .int .i64 n] 49)) F d B D k (i : Int) a n from ⟨h.below ((Below.refl _ _).alloc (Nat.le_refl _) _), hin, (Turn.refl _ _).trans (Turn.of_below ((Below.refl _ _).alloc (Nat.le_refl _) _) _), Bx.new w k (i : Int) a n _⟩)
  have hXz : w.heap.size ≠ B.z := by have := h.m.zl; omega
  have hXn : ¬ F w.heap.size := fun hf => by have := hF _ hf; omega
  clear h hin hok hfit hd hsl
  have hkH := Lib.hid hk
  clear hk
  go_enter Try.func22, Try.ntmps22
  go_wp2_with fail
  refine fresh_world (fun W => RxW w W F d B D k (i : Int) a n) hX0.out ?_
  intro W5 hX
  clear hX0 c3
  have c0 := hX.l.c0
  have hdz := hX.l.dz
  have hf := Lib.hid (fun W (hW : Only W5 W B.z) => (⟨hW.cell c0 hdz, hW.cell hX.x.x0 hXz, hW.cell hX.x.x1 hXz, hW.cell hX.x.x2 hXz, hW.cell hX.x.x3 hXz⟩ : W.cell? ⟨d, 0, none⟩ = some (.pointer (some ⟨B.g, 0, none⟩)) ∧ W.cell? ⟨w.heap.size, 0, none⟩ = some (.int .i64 k) ∧ W.cell? ⟨w.heap.size, 1, none⟩ = some (.int .i64 (i : Int)) ∧ W.cell? ⟨w.heap.size, 2, none⟩ = some (.int .i64 a) ∧ W.cell? ⟨w.heap.size, 3, none⟩ = some (.int .i64 n)))
  have hXH := Lib.hid hX
  clear hX c0
  refine region_anyC (fun _ => true) (fun W => Only W5 W B.z) (by kernel_rfl) ?_
  have hS5 : Only W5 W5.drew B.z := (Only.refl _ _).drew
  refine anyL_take 0 (v := ?_) rfl (by kernel_rfl) (fun _ _ _ h => h) (Or.inl ⟨by rfl, ?_⟩) hS5 ?_
  rotate_left
  focus (intro W hW; go_simp; try with_reducible rfl)
  simp only [Act.put, List.setIfInBounds_toArray, List.set_cons_zero, List.set_cons_succ]
  refine anyL_take 1 (v := ?_) rfl (by kernel_rfl) (fun _ _ _ h => h) (Or.inl ⟨by rfl, ?_⟩) hS5 ?_
  rotate_left
  focus (intro W hW; go_simp; try with_reducible rfl)
  simp only [Act.put, List.setIfInBounds_toArray, List.set_cons_zero, List.set_cons_succ]
  refine anyL_take 2 (v := ?_) rfl (by kernel_rfl) (fun _ _ _ h => h) (Or.inl ⟨by rfl, ?_⟩) hS5 ?_
  rotate_left
  focus (intro W hW; go_simp; try with_reducible rfl)
  simp only [Act.put, List.setIfInBounds_toArray, List.set_cons_zero, List.set_cons_succ]
  refine anyL_take 3 (v := ?_) rfl (by kernel_rfl) (fun _ _ _ h => h) (Or.inl ⟨by rfl, ?_⟩) hS5 ?_
  rotate_left
  focus (intro W hW; obtain ⟨f0, f1, f2, f3, f4⟩ := hf.out W hW; go_simp; try with_reducible rfl)
  simp only [Act.put, List.setIfInBounds_toArray, List.set_cons_zero, List.set_cons_succ]
  refine anyL_take 4 (v := ?_) rfl (by kernel_rfl) (fun _ _ _ h => h) (Or.inl ⟨by rfl, ?_⟩) hS5 ?_
  rotate_left
  focus (intro W hW; obtain ⟨f0, f1, f2, f3, f4⟩ := hf.out W hW; go_simp; try with_reducible rfl)
  simp only [Act.put, List.setIfInBounds_toArray, List.set_cons_zero, List.set_cons_succ]
  refine anyL_one 5 rfl (by kernel_rfl) (fun K hK => ?_)
  go_simp
  refine (hdo.out _ (hXH.out.l.m.below (Below.refl _ _).drew)).mono ?_
  rintro e' w7 ⟨rfl, hM7, ho7⟩
  have ho8 := hS5.trans ho7
  dsimp only
  refine hK.out _ _ (fun _ => ho8) ?_
  clear hK K
  try simp only [Act.put, List.setIfInBounds_toArray, List.set_cons_zero, List.set_cons_succ]
  refine anyL_take 6 (v := ?_) rfl (by kernel_rfl) (fun _ _ _ h => h) (Or.inl ⟨by rfl, ?_⟩) ho8 ?_
  rotate_left
  focus (intro W hW; go_simp; try with_reducible rfl)
  simp only [Act.put, List.setIfInBounds_toArray, List.set_cons_zero, List.set_cons_succ]
  refine anyL_take 7 (v := ?_) rfl (by kernel_rfl) (fun _ _ _ h => h) (Or.inl ⟨by rfl, ?_⟩) ho8 ?_
  rotate_left
  focus (intro W hW; go_simp; try with_reducible rfl)
  simp only [Act.put, List.setIfInBounds_toArray, List.set_cons_zero, List.set_cons_succ]
  refine anyL_take 8 (v := ?_) rfl (by kernel_rfl) (fun _ _ _ h => h) (Or.inl ⟨by rfl, ?_⟩) ho8 ?_
  rotate_left
  focus (intro W hW; go_simp; try with_reducible rfl)
  simp only [Act.put, List.setIfInBounds_toArray, List.set_cons_zero, List.set_cons_succ]
  refine anyL_take 9 (v := ?_) rfl (by kernel_rfl) (fun _ _ _ h => h) (Or.inl ⟨by rfl, ?_⟩) ho8 ?_
  rotate_left
  focus (intro W hW; go_simp; try with_reducible rfl)
  simp only [Act.put, List.setIfInBounds_toArray, List.set_cons_zero, List.set_cons_succ]
  refine anyL_take 10 (v := ?_) rfl (by kernel_rfl) (fun _ _ _ h => h) (Or.inl ⟨by rfl, ?_⟩) ho8 ?_
  rotate_left
  focus (intro W hW; go_simp; try with_reducible rfl)
  simp only [Act.put, List.setIfInBounds_toArray, List.set_cons_zero, List.set_cons_succ]
  refine anyC_done (by kernel_rfl) ?_ _
  refine fresh_K (fun W => RxW w W F d B { D with m := D.m.with zs } k (i : Int) a n) ⟨(hXH.out.l).machine ho8 hM7, hXH.out.i, hXH.out.t.trans (Turn.of_only ho8 hXH.out.i.z), hXH.out.x.turn (F := fun b => b = B.z) (Turn.of_only ho8 rfl) hXz⟩ ?_
  clear hM7 ho8 ho7 hS5 hXH hf hdo
  intro W8 hX
  have x0 := hX.x.x0
  rw [hkH.out] at x0
  clear k1H
  obtain ⟨q, rfl⟩ := Int.eq_ofNat_of_zero_le (show 0 ≤ n by omega)
  have hlen : s.size = 64 * q := by omega
  have hq2 : q ≤ 4096 := by unfold zOk at hzo; omega
  have hx3 : W8.cell? ⟨w.heap.size, 3, none⟩ = some (.int .i64 (q : Int)) := hX.x.x3
  have hcl : (D.c i).length % 64 = 0 ∧ (D.c i).length ≤ 262144 := by unfold zOk at hzo; omega
  obtain ⟨ck, hck⟩ : ∃ ck : Nat, (D.c i).length = 64 * ck := ⟨(D.c i).length / 64, by omega⟩
  have hckl : ck ≤ 4096 := by omega
  obtain ⟨D1, hD1⟩ : ∃ D1 : Dr, D1 = { D with m := D.m.with zs } := ⟨_, rfl⟩
  have hD1c : D1.c i = D.c i := by rw [hD1]; rfl
  have hD1l : D1.cs.length = D.cs.length := by rw [hD1]
  have h0 : RxS w W8 F d (wrt D1 i (D.c i ++ s.data.toList.take (64 * 0))) 2 (i : Int) a (q : Int) := by
    rw [Nat.mul_zero, List.take_zero, List.append_nil, ← hD1c, wrt_same (by rw [hD1l]; exact hic), hD1]
    exact ⟨⟨B, F, hX.l, hX.i, fun b hb => .inl hb⟩, hX.t, by rw [← hkH.out]; exact hX.x⟩
  have hres : wrt D1 i (D.c i ++ s.data.toList) = ⟨D.m.with zs, D.cs.set i (D.c i ++ s.data.toList), D.ls, D.dead⟩ := by rw [hD1]; rfl
  have hresH := Lib.hid hres
  have hlenH := Lib.hid hlen
  have hckH := Lib.hid hck
  have h0H := Lib.hid h0
  have hic1 : i < D1.cs.length := by rw [hD1l]; exact hic
  have hcn1 : D1.cs.length ≤ 64 := by rw [hD1l]; exact hcn
  have hsl2 : s.size ≤ 262144 := by omega
  clear k1 k2 hX hsz hcl hres hlen hck h0 hcz hzo hD1 hD1c hD1l hfz
  generalize D.c i = cc at *
  go_wp2_with fail
  go_loopw [13] (fun i' wr => ∃ j : Nat, j ≤ q ∧ i' = .int .i64 (j : Int) ∧ RxS w wr F d (wrt D1 i (cc ++ s.data.toList.take (64 * j))) 2 (i : Int) a (q : Int)) (fun i' _ => q - (intOf i').toNat)
  case atStart => exact ⟨0, by omega, rfl, h0H.out⟩
  case round =>
    clear hx3 x0 h0H
    obtain ⟨j, hj, rfl, hR⟩ := hrel
    obtain ⟨⟨E, F', hL, hIn, hF'⟩, hT, hB⟩ := hR
    have hx3 := hB.x3
    by_cases hlt : j < q
    · obtain ⟨A, cap, hv, hvc, hvA⟩ := hL.form (i := i) (by rw [wrt_len]; exact hic1)
      rw [wrt_c hic1] at hv hvc hvA
      have hxl : (cc ++ s.data.toList.take (64 * j)).length = 64 * (ck + j) := by
        have h1 := hlenH.out
        have h2 := hckH.out
        rw [List.length_append, List.length_take, show s.data.toList.length = s.size from rfl]
        omega
      have hown := hL.own i (by rw [wrt_len]; exact hic1)
      rw [wrt_c hic1] at hown
      have hxl64 : (cc ++ s.data.toList.take (64 * j)).length / 64 = ck + j := by omega
      rw [hxl64] at hv hvc hvA
      have hbl : (bks (cc ++ s.data.toList.take (64 * j))).length ≤ 100000 := by rw [bks_len]; omega
      have hstep := data_step cc s.data.toList j
      have hbk : (blk s.data.toList j).length = 64 := blk_len (by rw [show s.data.toList.length = s.size from rfl, hlenH.out]; omega)
      have htx := blk_text s j
      have hG : ∀ b, (E.v i).ownBlock = some b → b ≠ d ∧ b ≠ E.c ∧ b ≠ w.heap.size ∧ F' b := fun b hb => by
        have h1 := hL.od i (by rw [wrt_len]; exact hic1) b hb
        have h2 := hIn.o i (by rw [wrt_len]; exact hic1) b hb
        exact ⟨h1.1, h1.2.2.2.1, fun e => by
          subst e
          rcases hF' _ h2 with h | h
          · exact hXn h
          · omega, h2⟩
      have hfin := Lib.hid (fun W W2 v (hb : Below wr.heap.size wr W) (hg : W.grownBy W2 (E.v i).ownBlock) (hown : W2.ownsRow 0 9 1 v (bks (cc ++ s.data.toList.take (64 * j)) ++ [Value.string ⟨(blk s.data.toList j).toArray⟩]).length (bks (cc ++ s.data.toList.take (64 * j)) ++ [Value.string ⟨(blk s.data.toList j).toArray⟩])) (hat : v.ownBlock = (E.v i).ownBlock ∨ v.ownBlock = some W.heap.size) => by
        have h1 := wrt_step hL hic1 hb hxl hbk hg hown hat
        rw [← hstep] at h1
        have hFs : ∀ b, v.ownBlock = some b → F' b ∨ w.heap.size < b := fun b hb' => by
          rcases hat with h | h
          · rw [h] at hb'; exact .inl (hG b hb').2.2.2
          · rw [h] at hb'
            injection hb' with e
            have e1 := lt_of_cell hx3
            have e2 := hb.size
            exact .inr (by omega)
        have ht1 : Turn wr W2 (fun b => F' b) := (Turn.of_below hb _).trans ((Turn.of_grown hg fun _ h => h).mono fun b _ hb' => (hG b hb').2.2.2)
        have ht2 : Turn wr (W2.setCell ⟨E.c, i, none⟩ v) (fun b => F' b) := ht1.trans (Turn.set _ (F := fun b => F' b) hIn.c _ _)
        have hTT : Turn w (W2.setCell ⟨E.c, i, none⟩ v) F := hT.trans' (ht2.mono fun b _ hb' => hb') (fun b hb' => (hF' b hb').imp id Nat.le_of_lt)
        have hIn2 : RLies.In (fun b => F' b ∨ w.heap.size < b) d (E.put i v) (wrt D1 i (cc ++ s.data.toList.take (64 * (j + 1)))).cs.length := ⟨.inl hIn.d, .inl hIn.g, .inl hIn.z, .inl hIn.c, .inl hIn.l, fun p hp b hb' => by
          rw [E.put_v (by rw [hL.vl, wrt_len]; exact hic1)] at hb'
          by_cases e : i = p
          · rw [if_pos e] at hb'; exact hFs b hb'
          · rw [if_neg e] at hb'; exact .inl (hIn.o p (by rw [wrt_len] at hp ⊢; exact hp) b hb')⟩
        have hBx : Bx w (W2.setCell ⟨E.c, i, none⟩ v) w.heap.size 2 (i : Int) a (q : Int) := hB.turn ht2 fun hf => by
          rcases hF' _ hf with h | h
          · exact hXn h
          · omega
        exact (⟨⟨_, _, h1, hIn2, fun b hb' => hb'.elim (hF' b) .inr⟩, hTT, hBx⟩ : RxS w (W2.setCell ⟨E.c, i, none⟩ v) F d (wrt D1 i (cc ++ s.data.toList.take (64 * (j + 1)))) 2 (i : Int) a (q : Int)))
      have hap := Lib.hid (fun W (hb : Below wr.heap.size wr W) (m' : Nat) (hc : W.cell? ⟨m', 0, none⟩ = some (.string ⟨(blk s.data.toList j).toArray⟩)) => blk_append W 0 89 (E.v i) (bks (cc ++ s.data.toList.take (64 * j))) ((hL.below hb).own i (by rw [wrt_len]; exact hic1) |> fun h => by rw [wrt_c hic1] at h; exact h) m' _ hc hbl (Nat.zero_le _))
      have c1 := hL.c1
      rw [wrt_len] at c1
      have r1 := hL.row i (by rw [wrt_len]; exact hic1)
      have hMc := hL.lc
      have hf := Lib.hid (fun W (hW : Turn wr W (fun b => (E.v i).ownBlock = some b)) => (⟨hW.cell c1 (fun h => (hG _ h).1 rfl), hW.cell hB.x1 (fun h => (hG _ h).2.2.1 rfl), hW.cell r1.1 (fun h => (hG _ h).2.1 rfl), (same_frozen (hW.block _ hMc (fun h => (hG _ h).2.1 rfl))).trans r1.2⟩ : W.cell? ⟨d, 1, none⟩ = some (.slice (some ⟨E.c, 0, none⟩) D1.cs.length D1.cs.length) ∧ W.cell? ⟨w.heap.size, 1, none⟩ = some (.int .i64 (i : Int)) ∧ W.cell? ⟨E.c, i, none⟩ = some (E.v i) ∧ W.frozen? ⟨E.c, i, none⟩ = false))
      rw [hv] at hf hap
      have hvH := Lib.hid hv
      obtain ⟨P, hP⟩ : ∃ P : Nat, P = 64 * j := ⟨_, rfl⟩
      obtain ⟨P2, hP2⟩ : ∃ P2 : Nat, P2 = 64 * j + 64 := ⟨_, rfl⟩
      rw [← hP2, ← hP] at htx
      have hw1 : IntKind.i64.wrap (64 * (j : Int)) = (P : Int) := by rw [IntWalk.i64_in _ (by omega)]; omega
      have hw2 : IntKind.i64.wrap ((P : Int) + 64) = (P2 : Int) := by rw [IntWalk.i64_in _ (by omega)]; omega
      have hPP : P ≤ P2 := by omega
      have hP2s : P2 ≤ s.size := by have := hlenH.out; omega
      have htxH := Lib.hid htx
      clear hL hIn hF' hT hB hown hbl hstep hbk hG hxl hxl64 htx hP hP2 c1 r1 hv hresH
      go_wp2_with fail
      refine region_anyC (fun i => i != 26) (fun W => Turn wr W (fun b => (Value.slice A (ck + j) cap).ownBlock = some b)) (by kernel_rfl) ?_
      have hS : Turn wr wr.drew (fun b => (Value.slice A (ck + j) cap).ownBlock = some b) := Turn.of_below (Below.refl _ _).drew _
      refine anyL_take 0 (v := ?_) rfl (by kernel_rfl) (fun _ _ _ h => h) (Or.inl ⟨by rfl, ?_⟩) hS ?_
      rotate_left
      focus (intro W hW; go_simp; try with_reducible rfl)
      simp only [Act.put, List.setIfInBounds_toArray, List.set_cons_zero, List.set_cons_succ]
      refine anyL_take 1 (v := ?_) rfl (by kernel_rfl) (fun _ _ _ h => h) (Or.inl ⟨by rfl, ?_⟩) hS ?_
      rotate_left
      focus (intro W hW; go_simp; try with_reducible rfl)
      simp only [Act.put, List.setIfInBounds_toArray, List.set_cons_zero, List.set_cons_succ]
      refine anyL_take 2 (v := ?_) rfl (by kernel_rfl) (fun _ _ _ h => h) (Or.inl ⟨by rfl, ?_⟩) hS ?_
      rotate_left
      focus (intro W hW; go_simp; try with_reducible rfl)
      simp only [Act.put, List.setIfInBounds_toArray, List.set_cons_zero, List.set_cons_succ]
      refine anyL_take 3 (v := ?_) rfl (by kernel_rfl) (fun _ _ _ h => h) (Or.inl ⟨by rfl, ?_⟩) hS ?_
      rotate_left
      focus (intro W hW; obtain ⟨f0, f1, f2, f3⟩ := hf.out W hW; go_simp; try with_reducible rfl)
      simp only [Act.put, List.setIfInBounds_toArray, List.set_cons_zero, List.set_cons_succ]
      refine anyL_take 4 (v := ?_) rfl (by kernel_rfl) (fun _ _ _ h => h) (Or.inl ⟨by rfl, ?_⟩) hS ?_
      rotate_left
      focus (intro W hW; go_simp; try with_reducible rfl)
      simp only [Act.put, List.setIfInBounds_toArray, List.set_cons_zero, List.set_cons_succ]
      refine anyL_take 5 (v := ?_) rfl (by kernel_rfl) (fun _ _ _ h => h) (Or.inl ⟨by rfl, ?_⟩) hS ?_
      rotate_left
      focus (intro W hW; obtain ⟨f0, f1, f2, f3⟩ := hf.out W hW; go_simp; try with_reducible rfl)
      simp only [Act.put, List.setIfInBounds_toArray, List.set_cons_zero, List.set_cons_succ]
      refine anyL_take 6 (v := ?_) rfl (by kernel_rfl) (fun _ _ _ h => h) (Or.inl ⟨by rfl, ?_⟩) hS ?_
      rotate_left
      focus (intro W hW; go_simp; try with_reducible rfl)
      simp only [Act.put, List.setIfInBounds_toArray, List.set_cons_zero, List.set_cons_succ]
      refine anyL_take 7 (v := ?_) rfl (by kernel_rfl) (fun _ _ _ h => h) (Or.inl ⟨by rfl, ?_⟩) hS ?_
      rotate_left
      focus (intro W hW; go_simp; try with_reducible rfl)
      simp only [Act.put, List.setIfInBounds_toArray, List.set_cons_zero, List.set_cons_succ]
      refine anyL_take 8 (v := ?_) rfl (by kernel_rfl) (fun _ _ _ h => h) (Or.inl ⟨by rfl, ?_⟩) hS ?_
      rotate_left
      focus (intro W hW; go_simp; try with_reducible rfl)
      simp only [Act.put, List.setIfInBounds_toArray, List.set_cons_zero, List.set_cons_succ]
      refine anyL_take 9 (v := ?_) rfl (by kernel_rfl) (fun _ _ _ h => h) (Or.inl ⟨by rfl, ?_⟩) hS ?_
      rotate_left
      focus (intro W hW; obtain ⟨f0, f1, f2, f3⟩ := hf.out W hW; go_simp; try with_reducible rfl)
      simp only [Act.put, List.setIfInBounds_toArray, List.set_cons_zero, List.set_cons_succ]
      refine anyL_take 10 (v := ?_) rfl (by kernel_rfl) (fun _ _ _ h => h) (Or.inl ⟨by rfl, ?_⟩) hS ?_
      rotate_left
      focus (intro W hW; go_simp; try with_reducible rfl)
      simp only [Act.put, List.setIfInBounds_toArray, List.set_cons_zero, List.set_cons_succ]
      refine anyL_take 11 (v := ?_) rfl (by kernel_rfl) (fun _ _ _ h => h) (Or.inl ⟨by rfl, ?_⟩) hS ?_
      rotate_left
      focus (intro W hW; obtain ⟨f0, f1, f2, f3⟩ := hf.out W hW; go_simp; try with_reducible rfl)
      simp only [Act.put, List.setIfInBounds_toArray, List.set_cons_zero, List.set_cons_succ]
      refine anyL_take 12 (v := ?_) rfl (by kernel_rfl) (fun _ _ _ h => h) (Or.inl ⟨by rfl, ?_⟩) hS ?_
      rotate_left
      focus (intro W hW; go_simp; try with_reducible rfl)
      simp only [Act.put, List.setIfInBounds_toArray, List.set_cons_zero, List.set_cons_succ]
      refine anyL_take 13 (v := ?_) rfl (by kernel_rfl) (fun _ _ _ h => h) (Or.inl ⟨by rfl, ?_⟩) hS ?_
      rotate_left
      focus (intro W hW; go_simp; try with_reducible rfl)
      simp only [Act.put, List.setIfInBounds_toArray, List.set_cons_zero, List.set_cons_succ]
      refine anyL_take 14 (v := ?_) rfl (by kernel_rfl) (fun _ _ _ h => h) (Or.inl ⟨by rfl, ?_⟩) hS ?_
      rotate_left
      focus (intro W hW; obtain ⟨f0, f1, f2, f3⟩ := hf.out W hW; go_simp; try with_reducible rfl)
      simp only [Act.put, List.setIfInBounds_toArray, List.set_cons_zero, List.set_cons_succ]
      refine anyL_take 15 (v := ?_) rfl (by kernel_rfl) (fun _ _ _ h => h) (Or.inl ⟨by rfl, ?_⟩) hS ?_
      rotate_left
      focus (intro W hW; go_simp; try with_reducible rfl)
      simp only [Act.put, List.setIfInBounds_toArray, List.set_cons_zero, List.set_cons_succ]
      refine anyL_take 16 (v := ?_) rfl (by kernel_rfl) (fun _ _ _ h => h) (Or.inl ⟨by rfl, ?_⟩) hS ?_
      rotate_left
      focus (intro W hW; go_simp; try with_reducible rfl)
      simp only [Act.put, List.setIfInBounds_toArray, List.set_cons_zero, List.set_cons_succ]
      refine anyL_take 17 (v := ?_) rfl (by kernel_rfl) (fun _ _ _ h => h) (Or.inl ⟨by rfl, ?_⟩) hS ?_
      rotate_left
      focus (intro W hW; go_simp; try with_reducible rfl)
      simp only [Act.put, List.setIfInBounds_toArray, List.set_cons_zero, List.set_cons_succ]
      refine anyL_take 18 (v := ?_) rfl (by kernel_rfl) (fun _ _ _ h => h) (Or.inl ⟨by rfl, ?_⟩) hS ?_
      rotate_left
      focus (intro W hW; go_simp; try with_reducible rfl)
      simp only [Act.put, List.setIfInBounds_toArray, List.set_cons_zero, List.set_cons_succ]
      refine anyL_take 19 (v := ?_) rfl (by kernel_rfl) (fun _ _ _ h => h) (Or.inl ⟨by rfl, ?_⟩) hS ?_
      rotate_left
      focus (intro W hW; go_simp; try with_reducible rfl)
      simp only [Act.put, List.setIfInBounds_toArray, List.set_cons_zero, List.set_cons_succ]
      refine anyL_take 20 (v := ?_) rfl (by kernel_rfl) (fun _ _ _ h => h) (Or.inl ⟨by rfl, ?_⟩) hS ?_
      rotate_left
      focus (intro W hW; go_simp; try with_reducible rfl)
      simp only [Act.put, List.setIfInBounds_toArray, List.set_cons_zero, List.set_cons_succ]
      refine anyL_take 21 (v := ?_) rfl (by kernel_rfl) (fun _ _ _ h => h) (Or.inl ⟨by rfl, ?_⟩) hS ?_
      rotate_left
      focus (intro W hW; go_simp; try with_reducible rfl)
      simp only [Act.put, List.setIfInBounds_toArray, List.set_cons_zero, List.set_cons_succ]
      refine anyL_one 22 rfl (by kernel_rfl) (fun K hK => ?_)
      go_simp
      have hb22 : Below wr.heap.size wr (wr.alloc (.cells #[.string (s.extract P P2)] 9)).drew := ((Below.refl _ _).alloc (Nat.le_refl _) _).drew
      refine hK.out _ _ (fun _ => Turn.of_below hb22 _) ?_
      clear hK K
      try simp only [Act.put, List.setIfInBounds_toArray, List.set_cons_zero, List.set_cons_succ]
      refine fresh_anyC (fun W => Below wr.heap.size wr W ∧ W.cell? ⟨wr.heap.size, 0, none⟩ = some (.string (s.extract P P2))) ⟨hb22, by go_simp⟩ ?_
      clear hb22
      rintro W22 ⟨hb22, hc22⟩
      rw [htxH.out] at hc22
      obtain ⟨v2, w9, hrun, hown9, hgr9, hat9⟩ := hap.out W22 hb22 _ hc22
      have hgr9' := hgr9
      rw [← hvH.out] at hgr9' hat9
      have hfin9 := hfin.out W22 w9 v2 hb22 hgr9' hown9 hat9
      have ht9 : Turn wr w9 (fun b => (Value.slice A (ck + j) cap).ownBlock = some b) := (Turn.of_below hb22 _).trans (Turn.of_grown hgr9 fun _ h => h)
      have hv2 : ∃ A2 n2 cap2, v2 = .slice A2 n2 cap2 := by
        rcases hown9.2 with ⟨e, _⟩ | ⟨g, cap2, cur, e, _⟩
        · exact ⟨_, _, _, e⟩
        · exact ⟨_, _, _, e⟩
      obtain ⟨A2, n2, cap2, rfl⟩ := hv2
      have hfinH := Lib.hid hfin9
      clear hown9 hat9 hgr9' hfin9 hgr9 hfin hap hc22 hb22
      refine anyL_one 23 rfl (by kernel_rfl) (fun K hK => ?_)
      refine append_run_step rfl (.tmp 79) (.tmp 87) 89 rfl rfl rfl hrun ?_
      refine hK.out _ _ (fun _ => ht9) ?_
      clear hK K
      try simp only [Act.put, List.setIfInBounds_toArray, List.set_cons_zero, List.set_cons_succ]
      refine anyL_take 24 (v := ?_) rfl (by kernel_rfl) (fun _ _ _ h => h) (Or.inl ⟨by rfl, ?_⟩) ht9 ?_
      rotate_left
      focus (intro W hW; obtain ⟨f0, f1, f2, f3⟩ := hf.out W hW; go_simp; try with_reducible rfl)
      simp only [Act.put, List.setIfInBounds_toArray, List.set_cons_zero, List.set_cons_succ]
      refine anyL_take 25 (v := ?_) rfl (by kernel_rfl) (fun _ _ _ h => h) (Or.inl ⟨by rfl, ?_⟩) ht9 ?_
      rotate_left
      focus (intro W hW; obtain ⟨f0, f1, f2, f3⟩ := hf.out W hW; go_simp; try with_reducible rfl)
      simp only [Act.put, List.setIfInBounds_toArray, List.set_cons_zero, List.set_cons_succ]
      refine anyL_one 26 rfl (by kernel_rfl) (fun K hK => ?_)
      obtain ⟨f0, f1, f2, f3⟩ := hf.out _ ht9
      go_simp
      refine hK.out _ _ (fun h => absurd h (by decide)) ?_
      clear hK K
      try simp only [Act.put, List.setIfInBounds_toArray, List.set_cons_zero, List.set_cons_succ]
      refine anyC_done (by kernel_rfl) ?_ _
      go_wp2
      go_roundw
      case rel => exact ⟨j + 1, by omega, by go_num, hfinH.out⟩
      case measure => simp [intOf]; omega
    · obtain rfl : j = q := by omega
      have hall : s.data.toList.take (64 * j) = s.data.toList := List.take_of_length_le (by rw [show s.data.toList.length = s.size from rfl, hlenH.out]; exact Nat.le_refl _)
      have hP : RxS w wr F d (wrt D1 i (cc ++ s.data.toList.take (64 * j))) 2 (i : Int) a (j : Int) := ⟨⟨E, F', hL, hIn, hF'⟩, hT, hB⟩
      rw [hall, hresH.out] at hP
      have hPH := Lib.hid hP
      clear hL hIn hF' hT hB hall hP
      go_wp2
      go_ret3
      exact ⟨rfl, hPH.out.post⟩
end Go.Proofs.Ytncbkegflkjlfaa
