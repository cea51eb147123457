/- What the document's Do of a drive does where it reads; all of it. -/
import Derived.Test.YtncbkegflkjlfaaRfWr
namespace Go.Proofs.Ytncbkegflkjlfaa
open Go.RowKit Zon Drv

theorem text_app (l r : List UInt8) : (⟨l.toArray⟩ : ByteArray) ++ ⟨r.toArray⟩ = ⟨(l ++ r).toArray⟩ := by
  have h : ((⟨l.toArray⟩ : ByteArray) ++ ⟨r.toArray⟩).data = (l ++ r).toArray := by rw [ByteArray.data_append]; simp
  generalize (⟨l.toArray⟩ : ByteArray) ++ ⟨r.toArray⟩ = y at h
  obtain ⟨y⟩ := y
  exact congrArg ByteArray.mk h

set_option maxRecDepth 100000 in
set_option maxHeartbeats 1000000 in
theorem rdo7_read (w : World) (F : Nat → Prop) (d : Nat) (D : Dr) (k a n : Int) (s : ByteArray) (h : RAt w F d D) (hok : D.Ok) (hd : D.dead = false) (hF : ∀ b, F b → b < w.heap.size) (hfit : fits k n s.size = true) (hsl : s.size ≤ 1000000)
    (i : Nat) (hi : i < D.m.zs.length) (hev : (doM D.m k (i : Int) a n).2.1 = 0) (hk : k = 7) :
    Calls Try.prog 22 #[.pointer (some ⟨d, 0, none⟩), .agg #[.int .i64 k, .int .i64 (i : Int), .int .i64 a, .int .i64 n], .string s] w (RDoPost w F d (exec D k (i : Int) a n s.data.toList)) := by
  obtain ⟨B, h, hin⟩ := h
  have c3 := h.c3
  rw [hd] at c3
  have hdl := h.dlt
  have hfx : exec D k (i : Int) a n s.data.toList = ((cut (D.c i) (doM D.m k (i : Int) a n).1 n, (doM D.m k (i : Int) a n).1, 0), { D with m := D.m.with (doM D.m k (i : Int) a n).2.2 }) := by
    unfold exec turned
    rw [if_pos hev, Int.toNat_natCast, if_pos hk, if_neg (show ¬ writesB k = true by unfold writesB; simp; omega), if_neg (show ¬ k = 3 by omega), if_neg (show ¬ k = 3 by omega), if_neg (show ¬ k = 4 by omega)]
  rw [hfx]
  clear hfx
  have hz2 := hok.m.z2
  have hic : i < D.cs.length := by rw [hok.cl]; exact hi
  have hil : i < D.ls.length := by rw [hok.ll]; exact hi
  have hlcc := Lib.hid (show D.ls.length = D.cs.length by rw [hok.cl, hok.ll])
  have hcn : D.cs.length ≤ 64 := by rw [hok.cl]; exact hz2
  have hln : D.ls.length ≤ 64 := by rw [hok.ll]; exact hz2
  have hcz := hok.cz i hi
  have hzo := (hok.m.at_ hi)
  have hb2 := hok.m.b2
  have hrng := Lib.hid (show ∃ p q : Nat, (doM D.m k (i : Int) a n).1 = (p : Int) ∧ n = (q : Int) ∧ 1 ≤ q ∧ 64 * (p + q) ≤ (D.c i).length by
    obtain ⟨h1, h2, h3, h4⟩ := doM_read D.m i k a n hk hev
    rw [h1]
    refine ⟨a.toNat, n.toNat, by omega, by omega, by omega, by omega⟩)
  have hsz : (s.size : Int) = 0 := by
    rcases fits_cases hfit hsl with ⟨k1, _⟩ | ⟨_, k2, _⟩ | ⟨k1, _⟩ | ⟨_, k2, _⟩ | ⟨_, _, h⟩
    · have := eq_of_beq k1; omega
    · have := eq_of_beq k2; omega
    · have := eq_of_beq k1; omega
    · have := eq_of_beq k2; omega
    · exact h
  have k1 : (k == 1) = false := by simp; omega
  have k2 : (k == 2) = false := by simp; omega
  have hdo := Lib.hid (fun W (hM : MAt W B.g B.z D.m) => rdo_any B.g B.z D.m k (i : Int) a n W hM hok.m)
  unfold CmdPost at hdo
  generalize (doM D.m k (i : Int) a n).2.1 = ev at *
  generalize (doM D.m k (i : Int) a n).1 = av at *
  generalize (doM D.m k (i : Int) a n).2.2 = zs at *
  subst hev
  have hX0 := Lib.hid (show RxW w (w.alloc (.cells #[.int .i64 k, .int .i64 (i : Int), .int .i64 a, .int .i64 n] 49)) F d B D k (i : Int) a n from ⟨h.below ((Below.refl _ _).alloc (Nat.le_refl _) _), hin, (Turn.refl _ _).trans (Turn.of_below ((Below.refl _ _).alloc (Nat.le_refl _) _) _), Bx.new w k (i : Int) a n _⟩)
  have hXz : w.heap.size ≠ B.z := by have := h.m.zl; omega
  have hXn : ¬ F w.heap.size := fun hf => by have := hF _ hf; omega
  clear h hin hok hfit hd hsl
  have hkH := Lib.hid hk
  clear hk
  go_enter Try.func22, Try.ntmps22
  go_wp2_with fail
  refine fresh_world (fun W => RxW w W F d B D k (i : Int) a n) hX0.out ?_
  intro W5 hX
  clear hX0 c3
  have c0 := hX.l.c0
  have hdz := hX.l.dz
  have hf := Lib.hid (fun W (hW : Only W5 W B.z) => (⟨hW.cell c0 hdz, hW.cell hX.x.x0 hXz, hW.cell hX.x.x1 hXz, hW.cell hX.x.x2 hXz, hW.cell hX.x.x3 hXz⟩ : W.cell? ⟨d, 0, none⟩ = some (.pointer (some ⟨B.g, 0, none⟩)) ∧ W.cell? ⟨w.heap.size, 0, none⟩ = some (.int .i64 k) ∧ W.cell? ⟨w.heap.size, 1, none⟩ = some (.int .i64 (i : Int)) ∧ W.cell? ⟨w.heap.size, 2, none⟩ = some (.int .i64 a) ∧ W.cell? ⟨w.heap.size, 3, none⟩ = some (.int .i64 n)))
  have hXH := Lib.hid hX
  clear hX c0
  refine region_anyC (fun _ => true) (fun W => Only W5 W B.z) (by kernel_rfl) ?_
  have hS5 : Only W5 W5.drew B.z := (Only.refl _ _).drew
  refine anyL_take 0 (v := ?_) rfl (by kernel_rfl) (fun _ _ _ h => h) (Or.inl ⟨by rfl, ?_⟩) hS5 ?_
  rotate_left
  focus (intro W hW; go_simp; try with_reducible rfl)
  simp only [Act.put, List.setIfInBounds_toArray, List.set_cons_zero, List.set_cons_succ]
  refine anyL_take 1 (v := ?_) rfl (by kernel_rfl) (fun _ _ _ h => h) (Or.inl ⟨by rfl, ?_⟩) hS5 ?_
  rotate_left
  focus (intro W hW; go_simp; try with_reducible rfl)
  simp only [Act.put, List.setIfInBounds_toArray, List.set_cons_zero, List.set_cons_succ]
  refine anyL_take 2 (v := ?_) rfl (by kernel_rfl) (fun _ _ _ h => h) (Or.inl ⟨by rfl, ?_⟩) hS5 ?_
  rotate_left
  focus (intro W hW; go_simp; try with_reducible rfl)
  simp only [Act.put, List.setIfInBounds_toArray, List.set_cons_zero, List.set_cons_succ]
  refine anyL_take 3 (v := ?_) rfl (by kernel_rfl) (fun _ _ _ h => h) (Or.inl ⟨by rfl, ?_⟩) hS5 ?_
  rotate_left
  focus (intro W hW; obtain ⟨f0, f1, f2, f3, f4⟩ := hf.out W hW; go_simp; try with_reducible rfl)
  simp only [Act.put, List.setIfInBounds_toArray, List.set_cons_zero, List.set_cons_succ]
  refine anyL_take 4 (v := ?_) rfl (by kernel_rfl) (fun _ _ _ h => h) (Or.inl ⟨by rfl, ?_⟩) hS5 ?_
  rotate_left
  focus (intro W hW; obtain ⟨f0, f1, f2, f3, f4⟩ := hf.out W hW; go_simp; try with_reducible rfl)
  simp only [Act.put, List.setIfInBounds_toArray, List.set_cons_zero, List.set_cons_succ]
  refine anyL_one 5 rfl (by kernel_rfl) (fun K hK => ?_)
  go_simp
  refine (hdo.out _ (hXH.out.l.m.below (Below.refl _ _).drew)).mono ?_
  rintro e' w7 ⟨rfl, hM7, ho7⟩
  have ho8 := hS5.trans ho7
  dsimp only
  refine hK.out _ _ (fun _ => ho8) ?_
  clear hK K
  try simp only [Act.put, List.setIfInBounds_toArray, List.set_cons_zero, List.set_cons_succ]
  refine anyL_take 6 (v := ?_) rfl (by kernel_rfl) (fun _ _ _ h => h) (Or.inl ⟨by rfl, ?_⟩) ho8 ?_
  rotate_left
  focus (intro W hW; go_simp; try with_reducible rfl)
  simp only [Act.put, List.setIfInBounds_toArray, List.set_cons_zero, List.set_cons_succ]
  refine anyL_take 7 (v := ?_) rfl (by kernel_rfl) (fun _ _ _ h => h) (Or.inl ⟨by rfl, ?_⟩) ho8 ?_
  rotate_left
  focus (intro W hW; go_simp; try with_reducible rfl)
  simp only [Act.put, List.setIfInBounds_toArray, List.set_cons_zero, List.set_cons_succ]
  refine anyL_take 8 (v := ?_) rfl (by kernel_rfl) (fun _ _ _ h => h) (Or.inl ⟨by rfl, ?_⟩) ho8 ?_
  rotate_left
  focus (intro W hW; go_simp; try with_reducible rfl)
  simp only [Act.put, List.setIfInBounds_toArray, List.set_cons_zero, List.set_cons_succ]
  refine anyL_take 9 (v := ?_) rfl (by kernel_rfl) (fun _ _ _ h => h) (Or.inl ⟨by rfl, ?_⟩) ho8 ?_
  rotate_left
  focus (intro W hW; go_simp; try with_reducible rfl)
  simp only [Act.put, List.setIfInBounds_toArray, List.set_cons_zero, List.set_cons_succ]
  refine anyL_take 10 (v := ?_) rfl (by kernel_rfl) (fun _ _ _ h => h) (Or.inl ⟨by rfl, ?_⟩) ho8 ?_
  rotate_left
  focus (intro W hW; go_simp; try with_reducible rfl)
  simp only [Act.put, List.setIfInBounds_toArray, List.set_cons_zero, List.set_cons_succ]
  refine anyC_done (by kernel_rfl) ?_ _
  refine fresh_K (fun W => RxW w W F d B { D with m := D.m.with zs } k (i : Int) a n) ⟨(hXH.out.l).machine ho8 hM7, hXH.out.i, hXH.out.t.trans (Turn.of_only ho8 hXH.out.i.z), hXH.out.x.turn (F := fun b => b = B.z) (Turn.of_only ho8 rfl) hXz⟩ ?_
  clear hM7 ho8 ho7 hS5 hXH hf hdo
  intro W8 hX
  have x0 := hX.x.x0
  rw [hkH.out] at x0
  clear k1 k2
  obtain ⟨p, q, rfl, rfl, hq, hpq⟩ := hrng.out
  have hx3 : W8.cell? ⟨w.heap.size, 3, none⟩ = some (.int .i64 (q : Int)) := hX.x.x3
  have hcl : (D.c i).length ≤ 262144 := by unfold zOk at hzo; omega
  obtain ⟨A, cap, hv, hvc, hvA⟩ := hX.l.form (i := i) hic
  have hown : W8.ownsRow 0 9 1 (B.v i) (bks (D.c i)).length (bks (D.c i)) := hX.l.own i hic
  have hv' : B.v i = .slice A ((D.c i).length / 64) cap := hv
  have hvc' : (D.c i).length / 64 ≤ cap := hvc
  clear hvc
  have hn0 : (D.c i).length / 64 ≠ 0 := by omega
  obtain ⟨g, rfl⟩ : ∃ g, A = some ⟨g, 0, none⟩ := by
    rcases hvA with ⟨_, h⟩ | ⟨g, h, _⟩
    · exact absurd h hn0
    · exact ⟨g, h⟩
  have hcell := Lib.hid (fun W (hb : Below W8.heap.size W8 W) j (hj : p + j < (D.c i).length / 64) => by
    have h1 := hown.cells (g := g) (by rw [hv']; rfl) (p + j) (.string ⟨(blk (D.c i) (p + j)).toArray⟩) (by rw [List.getElem?_eq_getElem (by rw [bks_len]; exact hj), bks_get])
    rw [Addr.add_lit, Nat.zero_add] at h1
    exact (hb.cell (p := ⟨g, p + j, none⟩) (lt_of_cell h1)).trans h1)
  have c1 : W8.cell? ⟨d, 1, none⟩ = some (.slice (some ⟨B.c, 0, none⟩) D.cs.length D.cs.length) := hX.l.c1
  have r1 := (hX.l.row i hic).1
  rw [hv'] at r1
  have hXl : w.heap.size < W8.heap.size := lt_of_cell x0
  have hf := Lib.hid (fun W (hb : Below W8.heap.size W8 W) => (⟨(hb.cell (p := ⟨d, 1, none⟩) (lt_of_cell c1)).trans c1, (hb.cell (p := ⟨w.heap.size, 1, none⟩) hXl).trans hX.x.x1, (hb.cell (p := ⟨w.heap.size, 3, none⟩) hXl).trans hX.x.x3, (hb.cell (p := ⟨B.c, i, none⟩) (lt_of_cell r1)).trans r1⟩ : W.cell? ⟨d, 1, none⟩ = some (.slice (some ⟨B.c, 0, none⟩) D.cs.length D.cs.length) ∧ W.cell? ⟨w.heap.size, 1, none⟩ = some (.int .i64 (i : Int)) ∧ W.cell? ⟨w.heap.size, 3, none⟩ = some (.int .i64 (q : Int)) ∧ W.cell? ⟨B.c, i, none⟩ = some (.slice (some ⟨g, 0, none⟩) ((D.c i).length / 64) cap)))
  have hXH := Lib.hid hX
  clear hX c1 r1 hown hv hv' hvA hcz hzo hn0 hrng
  generalize D.c i = cc at *
  obtain ⟨L6, hL6⟩ : ∃ L6, L6 = cc.length / 64 := ⟨_, rfl⟩
  have hpq6 : p + q ≤ L6 := by omega
  have hL6b : L6 ≤ 4096 := by omega
  rw [← hL6] at hf hcell hvc'
  clear hL6 hpq hcl
  go_wp2_with fail
  go_loopw [12, 14] (fun s' i' wr => ∃ (j : Nat) (S : ByteArray), j ≤ q ∧ i' = .int .i64 (j : Int) ∧ s' = .string S ∧ S.size ≤ 64 * j ∧ Hid (S = ⟨(cut cc (p : Int) (j : Int)).toArray⟩) ∧ Below W8.heap.size W8 wr) (fun _ i' _ => q - (intOf i').toNat)
  case atStart => exact ⟨0, ⟨#[]⟩, by omega, rfl, rfl, Nat.le_refl _, Lib.hid (by rw [show ((0 : Nat) : Int) = 0 from rfl, cut_zero]), Below.refl _ _⟩
  case round =>
    clear hx3 x0
    obtain ⟨j, S, hj, rfl, rfl, hSs, hS, hb⟩ := hrel
    have hx3 := (hf.out wr hb).2.2.1
    by_cases hlt : j < q
    · have hce := fun W hb => hcell.out W hb j (by omega)
      have hbl : ∃ Y : ByteArray, Hid (Y = ⟨(blk cc (p + j)).toArray⟩) ∧ Y.size ≤ 64 := ⟨_, Lib.hid rfl, by show (blk cc (p + j)).toArray.size ≤ 64; unfold blk; simp; omega⟩
      obtain ⟨Y, hY, hYs⟩ := hbl
      rw [← hY.out] at hce
      have hSY : S ++ Y = ⟨(cut cc (p : Int) ((j + 1 : Nat) : Int)).toArray⟩ := by rw [hS.out, hY.out, text_app, cut_step]
      have hSYs : (S ++ Y).size ≤ 64 * (j + 1) := by rw [ByteArray.size_append]; omega
      have hcat : ¬ 9223372036854775807 < S.size + Y.size := by omega
      obtain ⟨pj, hpj⟩ : ∃ pj : Nat, pj = p + j := ⟨_, rfl⟩
      rw [← hpj] at hce
      have hw1 : IntKind.i64.wrap ((p : Int) + (j : Int)) = (pj : Int) := by rw [IntWalk.i64_in _ (by omega)]; omega
      have hp1 : pj < L6 := by omega
      have hceH := Lib.hid hce
      have hSYH := Lib.hid hSY
      clear hce hSY hpj
      go_wp2_with fail
      refine region_anyC (fun _ => true) (fun W => Below W8.heap.size W8 W) (by kernel_rfl) ?_
      have hS8 : Below W8.heap.size W8 wr.drew := hb.drew
      clear hx3
      refine anyL_take 0 (v := ?_) rfl (by kernel_rfl) (fun _ _ _ h => h) (Or.inl ⟨by rfl, ?_⟩) hS8 ?_
      rotate_left
      focus (intro W hW; go_simp; try with_reducible rfl)
      simp only [Act.put, List.setIfInBounds_toArray, List.set_cons_zero, List.set_cons_succ]
      refine anyL_take 1 (v := ?_) rfl (by kernel_rfl) (fun _ _ _ h => h) (Or.inl ⟨by rfl, ?_⟩) hS8 ?_
      rotate_left
      focus (intro W hW; go_simp; try with_reducible rfl)
      simp only [Act.put, List.setIfInBounds_toArray, List.set_cons_zero, List.set_cons_succ]
      refine anyL_take 2 (v := ?_) rfl (by kernel_rfl) (fun _ _ _ h => h) (Or.inl ⟨by rfl, ?_⟩) hS8 ?_
      rotate_left
      focus (intro W hW; go_simp; try with_reducible rfl)
      simp only [Act.put, List.setIfInBounds_toArray, List.set_cons_zero, List.set_cons_succ]
      refine anyL_take 3 (v := ?_) rfl (by kernel_rfl) (fun _ _ _ h => h) (Or.inl ⟨by rfl, ?_⟩) hS8 ?_
      rotate_left
      focus (intro W hW; go_simp; try with_reducible rfl)
      simp only [Act.put, List.setIfInBounds_toArray, List.set_cons_zero, List.set_cons_succ]
      refine anyL_take 4 (v := ?_) rfl (by kernel_rfl) (fun _ _ _ h => h) (Or.inl ⟨by rfl, ?_⟩) hS8 ?_
      rotate_left
      focus (intro W hW; obtain ⟨f0, f1, f2, f3⟩ := hf.out W hW; go_simp; try with_reducible rfl)
      simp only [Act.put, List.setIfInBounds_toArray, List.set_cons_zero, List.set_cons_succ]
      refine anyL_take 5 (v := ?_) rfl (by kernel_rfl) (fun _ _ _ h => h) (Or.inl ⟨by rfl, ?_⟩) hS8 ?_
      rotate_left
      focus (intro W hW; go_simp; try with_reducible rfl)
      simp only [Act.put, List.setIfInBounds_toArray, List.set_cons_zero, List.set_cons_succ]
      refine anyL_take 6 (v := ?_) rfl (by kernel_rfl) (fun _ _ _ h => h) (Or.inl ⟨by rfl, ?_⟩) hS8 ?_
      rotate_left
      focus (intro W hW; obtain ⟨f0, f1, f2, f3⟩ := hf.out W hW; go_simp; try with_reducible rfl)
      simp only [Act.put, List.setIfInBounds_toArray, List.set_cons_zero, List.set_cons_succ]
      refine anyL_take 7 (v := ?_) rfl (by kernel_rfl) (fun _ _ _ h => h) (Or.inl ⟨by rfl, ?_⟩) hS8 ?_
      rotate_left
      focus (intro W hW; go_simp; try with_reducible rfl)
      simp only [Act.put, List.setIfInBounds_toArray, List.set_cons_zero, List.set_cons_succ]
      refine anyL_take 8 (v := ?_) rfl (by kernel_rfl) (fun _ _ _ h => h) (Or.inl ⟨by rfl, ?_⟩) hS8 ?_
      rotate_left
      focus (intro W hW; go_simp; try with_reducible rfl)
      simp only [Act.put, List.setIfInBounds_toArray, List.set_cons_zero, List.set_cons_succ]
      refine anyL_take 9 (v := ?_) rfl (by kernel_rfl) (fun _ _ _ h => h) (Or.inl ⟨by rfl, ?_⟩) hS8 ?_
      rotate_left
      focus (intro W hW; obtain ⟨f0, f1, f2, f3⟩ := hf.out W hW; go_simp; try with_reducible rfl)
      simp only [Act.put, List.setIfInBounds_toArray, List.set_cons_zero, List.set_cons_succ]
      refine anyL_take 10 (v := ?_) rfl (by kernel_rfl) (fun _ _ _ h => h) (Or.inl ⟨by rfl, ?_⟩) hS8 ?_
      rotate_left
      focus (intro W hW; go_simp; try with_reducible rfl)
      simp only [Act.put, List.setIfInBounds_toArray, List.set_cons_zero, List.set_cons_succ]
      refine anyL_take 11 (v := ?_) rfl (by kernel_rfl) (fun _ _ _ h => h) (Or.inl ⟨by rfl, ?_⟩) hS8 ?_
      rotate_left
      focus (intro W hW; go_simp; try with_reducible rfl)
      simp only [Act.put, List.setIfInBounds_toArray, List.set_cons_zero, List.set_cons_succ]
      refine anyL_take 12 (v := ?_) rfl (by kernel_rfl) (fun _ _ _ h => h) (Or.inl ⟨by rfl, ?_⟩) hS8 ?_
      rotate_left
      focus (intro W hW; go_simp; try with_reducible rfl)
      simp only [Act.put, List.setIfInBounds_toArray, List.set_cons_zero, List.set_cons_succ]
      refine anyL_take 13 (v := ?_) rfl (by kernel_rfl) (fun _ _ _ h => h) (Or.inl ⟨by rfl, ?_⟩) hS8 ?_
      rotate_left
      focus (intro W hW; go_simp; try with_reducible rfl)
      simp only [Act.put, List.setIfInBounds_toArray, List.set_cons_zero, List.set_cons_succ]
      refine anyL_take 14 (v := ?_) rfl (by kernel_rfl) (fun _ _ _ h => h) (Or.inl ⟨by rfl, ?_⟩) hS8 ?_
      rotate_left
      focus (intro W hW; have f9 := hceH.out W hW; go_simp; try with_reducible rfl)
      simp only [Act.put, List.setIfInBounds_toArray, List.set_cons_zero, List.set_cons_succ]
      refine anyL_take 15 (v := ?_) rfl (by kernel_rfl) (fun _ _ _ h => h) (Or.inl ⟨by rfl, ?_⟩) hS8 ?_
      rotate_left
      focus (intro W hW; go_simp; try with_reducible rfl)
      simp only [Act.put, List.setIfInBounds_toArray, List.set_cons_zero, List.set_cons_succ]
      refine anyL_take 16 (v := ?_) rfl (by kernel_rfl) (fun _ _ _ h => h) (Or.inl ⟨by rfl, ?_⟩) hS8 ?_
      rotate_left
      focus (intro W hW; go_simp; try with_reducible rfl)
      simp only [Act.put, List.setIfInBounds_toArray, List.set_cons_zero, List.set_cons_succ]
      refine anyC_done (by kernel_rfl) ?_ _
      go_wp2
      go_roundw
      case rel => exact ⟨j + 1, _, by omega, by go_num, rfl, hSYs, hSYH, hS8⟩
      case measure => simp [intOf]; omega
    · obtain rfl : j = q := by omega
      have hfinR := hXH.out.l.below hb
      have hfinH := Lib.hid hfinR
      have hbH := Lib.hid hb
      clear hfinR hb
      go_wp2_with fail
      go_ret3
      exact ⟨by rw [← hS.out]; rfl, ⟨F, ⟨B, hfinH.out, hXH.out.i⟩, fun b hb => .inl hb⟩, hXH.out.t.trans (Turn.of_below hbH.out F)⟩

theorem rdo7_any (w : World) (F : Nat → Prop) (d : Nat) (D : Dr) (k zz a n : Int) (s : ByteArray) (h : RAt w F d D) (hok : D.Ok) (hF : ∀ b, F b → b < w.heap.size) (hsl : s.size ≤ 1000000) :
    Calls Try.prog 22 #[.pointer (some ⟨d, 0, none⟩), .agg #[.int .i64 k, .int .i64 zz, .int .i64 a, .int .i64 n], .string s] w (RDoPost w F d (doD D k zz a n s.data.toList)) := by
  unfold doD
  cases hd : D.dead with
  | true =>
    rw [if_pos rfl]
    exact rdo7_dead w F d D k zz a n s h hd
  | false =>
    rw [if_neg (by decide)]
    cases hfit : fits k n s.data.toList.length with
    | false =>
      rw [if_neg (by decide)]
      exact rdo7_unfit w F d D k zz a n s h hd hfit
    | true =>
      rw [if_pos rfl]
      by_cases hev : (doM D.m k zz a n).2.1 = 0
      · obtain ⟨h1, h2, h3, h4⟩ := doM_ok D.m k zz a n hev
        obtain ⟨i, rfl⟩ := Int.eq_ofNat_of_zero_le h3
        have hi : i < D.m.zs.length := by omega
        rcases (by omega : k = 1 ∨ k = 2 ∨ k = 3 ∨ k = 4 ∨ (k = 5 ∨ k = 6) ∨ k = 7) with hk | hk | hk | hk | hk | hk
        · exact rdo7_write1 w F d D k a n s h hok hd hF hfit hsl i hi hev hk
        · exact rdo7_write2 w F d D k a n s h hok hd hF hfit hsl i hi hev hk
        · exact rdo7_reset w F d D k a n s h hok hd hF hfit hsl i hi hev hk
        · exact rdo7_finish w F d D k a n s h hok hd hF hfit hsl i hi hev hk
        · exact rdo7_other w F d D k a n s h hok hd hF hfit hsl i hi hev hk
        · exact rdo7_read w F d D k a n s h hok hd hF hfit hsl i hi hev hk
      · exact rdo7_refused w F d D k zz a n s h hok hd hF hfit hsl hev
end Go.Proofs.Ytncbkegflkjlfaa
