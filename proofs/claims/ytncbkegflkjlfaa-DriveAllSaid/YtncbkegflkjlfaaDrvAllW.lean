/- What the law DriveAll does. -/
import Derived.Test.YtncbkegflkjlfaaDrvRdW
import Derived.Test.YtncbkegflkjlfaaDrvFm
namespace Go.Proofs.Ytncbkegflkjlfaa
open Go.RowKit Zon Drv

theorem DA.At.same {W W' : World} {K : Nat → Prop} {b o : Nat} {a : DA} (h : DA.At W b o a) (hk : SameK W W' K) (hb : K b) : DA.At W' b o a :=
  ⟨hk.cell h.p hb, hk.cell h.q hb, hk.cell h.r hb, hk.cell h.s hb, hk.cell h.t hb, hk.cell h.u hb, hk.cell h.ks hb⟩
theorem kept_all (x : Nat) : kept [(x : Int)] 0 x = x := by
  unfold kept
  rw [if_neg (by simp)]
  show ((if (x : Int) < 0 then -((x : Int) + 1) else (x : Int)) % ((x : Int) + 1)).toNat = x
  rw [if_neg (by omega), Int.emod_eq_of_lt (by omega) (by omega)]
  omega
/-- Behind so many rounds. -/
def Al (w W : World) (a b l n : Nat) (d : Nat → Nat) : Prop := ∃ L N, Fm 0 200 1 1 w W (fun _ => False) 2 d L N ∧ L 0 = l ∧ L 1 = l ∧ N 0 = n ∧ N 1 = n ∧ d 0 = a ∧ d 1 = b ∧ n ≤ l

set_option maxRecDepth 100000 in
set_option maxHeartbeats 8000000 in
theorem drvall_law (A : Option Addr) (cap : Nat) (cs : List DA) (fl : Int) (w : World) (hI : DActsIn w A cs) (hl : cs.length ≤ maxLen) :
    Calls Try.prog 7 #[.slice A cs.length cap, .int .i64 fl] w fun e w' => e = .returned (.bool true) ∧ Below w.heap.size w w' := by
  unfold maxLen at hl
  have hIH := Lib.hid hI
  clear hI
  obtain ⟨mf, _, hmf⟩ := mask_nat2 fl 4 15 rfl (by omega)
  have hmf' : bits .and .i64 fl 15 = (mf : Int) := hmf
  clear hmf
  have hn1 := Lib.hid (fun W (hb : Below w.heap.size w W) => fm_new (m := 0) (b := 200) (o := 1) (a := 1) (L := fun _ => 0) (N := fun _ => 0) (d := fun _ => 0) W ⟨fun _ => newD 1 1 1 1, Fam.none_ (K := fun _ => False) _ _ hb (fun _ h => h.elim), fun _ h => absurd h (Nat.not_lt_zero _)⟩ (by decide))
  have hn2 := Lib.hid (fun W n d L N (h : Fm 0 200 1 1 w W (fun _ => False) n d L N) => fm_new W h (by decide))
  go_enter Try.func7, Try.ntmps7
  go_wp2_with fail
  refine (speaks7 _).mono ?_
  rintro e w1 ⟨rfl, hB1⟩
  go_wp2_with fail
  refine (hn1.out _ hB1).mono ?_
  rintro e w2 ⟨a, rfl, hF2, hb2⟩
  clear hB1 hn1 hb2
  go_wp2_with fail
  refine (hn2.out _ _ _ _ _ hF2).mono ?_
  rintro e w3 ⟨b, rfl, hF3, hb3⟩
  clear hn2 hF2 hb3
  have hA3 : Al w w3 a b 0 0 (upd (upd (fun _ => 0) 0 a) (0 + 1) b) := ⟨_, _, hF3, rfl, rfl, rfl, rfl, rfl, rfl, Nat.le_refl _⟩
  clear hF3
  generalize upd (upd (fun _ => 0) 0 a) (0 + 1) b = d at hA3
  go_wp2_with fail
  go_loopw [9, 10, 11] (fun nv sv i wr => ∃ (k l n : Nat), k ≤ cs.length ∧ k ≤ 30 ∧ i = .int .i64 (k : Int) ∧ nv = .int .i64 (l : Int) ∧ sv = .int .i64 (n : Int) ∧ l ≤ 4 * k ∧ Al w wr a b l n d) (fun _ _ i _ => cs.length - (intOf i).toNat)
  case atStart => exact ⟨0, 0, 0, by omega, by omega, rfl, rfl, rfl, by omega, hA3⟩
  case round =>
    clear hA3
    obtain ⟨k, l, n, hk, hk2, rfl, rfl, rfl, hl4, L, N, hF, hL0, hL1, hN0, hN1, hda, hdb, hnl⟩ := hrel
    by_cases hrun : k < cs.length ∧ k < 30
    · obtain ⟨hlt, hlt2⟩ := hrun
      obtain ⟨bb, off, rfl, hltb, hAt, _⟩ := hIH.out.at_ hlt
      generalize cs[k] = c at hAt
      obtain ⟨m, hm, hmask⟩ := act_two c
      obtain ⟨c0, c1, c2, c3, c4, c5, c6⟩ := hAt.below hF.base hltb
      have hltb2 : bb < wr.heap.size := Nat.lt_of_lt_of_le hltb hF.base.size
      have htx := Lib.hid (fun W => text_two 2 c.q c.r (1 + (m : Int)) 0 c.u (k : Int) (.slice c.ks.A c.ks.zs.length c.ks.cap) W rfl (by omega) (by omega))
      rw [textN_two _ (by omega) (by omega)] at htx
      have hL0H := Lib.hid hL0
      have hL1H := Lib.hid hL1
      have hN0H := Lib.hid hN0
      have hN1H := Lib.hid hN1
      have hdaH := Lib.hid hda
      have hdbH := Lib.hid hdb
      have hFH := Lib.hid hF
      clear hF hAt hL0 hL1 hN0 hN1 hda hdb
      go_wp2_with fail
      refine fresh_world (fun W => Fm 0 200 1 1 w W (fun x => x = wr.heap.size) 2 d L N ∧ DA.At W wr.heap.size 0 ⟨2, c.q, c.r, 1 + (m : Int), 0, c.u, c.ks⟩) ⟨hFH.out.below ((Below.refl _ _).alloc (Nat.le_refl _) (.cells #[.int .i64 2, .int .i64 c.q, .int .i64 c.r, .int .i64 (1 + (m : Int)), .int .i64 0, .int .u8 c.u, .slice c.ks.A c.ks.zs.length c.ks.cap] 33)) (fun x hx => .inr (by omega)) (fun x hx => by simp; omega), ⟨by go_simp, by go_simp, by go_simp, by go_simp, by go_simp, by go_simp, by go_simp⟩⟩ ?_
      rintro W5 ⟨hF5, hX5⟩
      clear hFH c0 c1 c2 c3 c4 c5 c6 hmask
      have hXlt : wr.heap.size < W5.heap.size := lt_of_cell hX5.p
      have hf5 := Lib.hid (fun W (hb : Below W5.heap.size W5 W) => hX5.below hb hXlt)
      have hap5 := Lib.hid (fun W (T : ByteArray) (hT : T.size = (64 * (1 + (m : Int))).toNat) (hb : Below W5.heap.size W5 W) => fm_append W 0 a (1 + (m : Int)) T (hF5.below' hb) (by decide) hdaH.out (by decide) (by decide) (by omega) (by omega) (by rw [hL0H.out]; omega) (by omega))
      rw [hL0H.out] at hap5
      have hX5H := Lib.hid hX5
      clear hX5 hF5
      refine region_anyC (fun i => i != 7) (fun W => Below W5.heap.size W5 W) (by kernel_rfl) ?_
      have hS : Below W5.heap.size W5 W5.drew := (Below.refl _ _).drew
      refine anyL_take 0 (v := ?_) rfl (by kernel_rfl) (fun _ _ _ h => h) (Or.inl ⟨by rfl, ?_⟩) hS ?_
      rotate_left
      focus (intro W hW; go_simp; try with_reducible rfl)
      simp only [Act.put, List.setIfInBounds_toArray, List.set_cons_zero, List.set_cons_succ]
      refine anyL_take 1 (v := ?_) rfl (by kernel_rfl) (fun _ _ _ h => h) (Or.inl ⟨by rfl, ?_⟩) hS ?_
      rotate_left
      focus (intro W hW; go_simp; try with_reducible rfl)
      simp only [Act.put, List.setIfInBounds_toArray, List.set_cons_zero, List.set_cons_succ]
      refine anyL_take 2 (v := ?_) rfl (by kernel_rfl) (fun _ _ _ h => h) (Or.inl ⟨by rfl, ?_⟩) hS ?_
      rotate_left
      focus (intro W hW; obtain ⟨f0, f1, f2, f3, f4, f5, f6⟩ := hf5.out W hW; go_simp; try with_reducible rfl)
      simp only [Act.put, List.setIfInBounds_toArray, List.set_cons_zero, List.set_cons_succ]
      refine anyL_take 3 (v := ?_) rfl (by kernel_rfl) (fun _ _ _ h => h) (Or.inl ⟨by rfl, ?_⟩) hS ?_
      rotate_left
      focus (intro W hW; go_simp; try with_reducible rfl)
      simp only [Act.put, List.setIfInBounds_toArray, List.set_cons_zero, List.set_cons_succ]
      refine anyL_take 4 (v := ?_) rfl (by kernel_rfl) (fun _ _ _ h => h) (Or.inl ⟨by rfl, ?_⟩) hS ?_
      rotate_left
      focus (intro W hW; obtain ⟨f0, f1, f2, f3, f4, f5, f6⟩ := hf5.out W hW; go_simp; try with_reducible rfl)
      simp only [Act.put, List.setIfInBounds_toArray, List.set_cons_zero, List.set_cons_succ]
      refine anyL_take 5 (v := ?_) rfl (by kernel_rfl) (fun _ _ _ h => h) (Or.inl ⟨by rfl, ?_⟩) hS ?_
      rotate_left
      focus (intro W hW; go_simp; try with_reducible rfl)
      simp only [Act.put, List.setIfInBounds_toArray, List.set_cons_zero, List.set_cons_succ]
      refine anyL_one 6 rfl (by kernel_rfl) (fun K hK => ?_)
      go_simp
      refine (htx.out _).mono ?_
      rintro e' wt5 ⟨T5, hT5, rfl, hbt5⟩
      have hS1 := hS.trans (hbt5.mono (by have := hS.size; omega))
      dsimp only
      refine hK.out _ _ (fun _ => hS1) ?_
      clear hK K
      try simp only [Act.put, List.setIfInBounds_toArray, List.set_cons_zero, List.set_cons_succ]
      refine anyL_one 7 rfl (by kernel_rfl) (fun K hK => ?_)
      go_simp
      refine (hap5.out _ T5 hT5 hS1).mono ?_
      rintro e' wd5 ⟨rfl, hFd5, hkd5⟩
      dsimp only
      refine hK.out _ _ (fun h => absurd h (by decide)) ?_
      clear hK K
      try simp only [Act.put, List.setIfInBounds_toArray, List.set_cons_zero, List.set_cons_succ]
      refine anyC_done (by kernel_rfl) ?_ _
      have hX6 := (hX5H.out.below hS1 hXlt).same hkd5 rfl
      refine fresh_K (fun W => Fm 0 200 1 1 w W (fun x => x = wr.heap.size) 2 d (upd L 0 (l + (1 + (m : Int)).toNat)) N ∧ DA.At W wr.heap.size 0 ⟨2, c.q, c.r, 1 + (m : Int), 0, c.u, c.ks⟩) ⟨hFd5, hX6⟩ ?_
      clear hX5H hap5 hf5 hS hS1 hbt5 hT5 hFd5 hkd5 hX6 wd5 wt5
      rintro W6 ⟨hF6, hX6⟩
      have hXlt6 : wr.heap.size < W6.heap.size := lt_of_cell hX6.p
      have hf6 := Lib.hid (fun W (hb : Below W6.heap.size W6 W) => hX6.below hb hXlt6)
      have hap6 := Lib.hid (fun W (T : ByteArray) (hT : T.size = (64 * (1 + (m : Int))).toNat) (hb : Below W6.heap.size W6 W) => fm_append W 1 b (1 + (m : Int)) T (hF6.below' hb) (by decide) hdbH.out (by decide) (by decide) (by omega) (by omega) (by rw [upd_ne L (by decide), hL1H.out]; omega) (by omega))
      rw [upd_ne L (by decide), hL1H.out] at hap6
      have hX6H := Lib.hid hX6
      clear hX6 hF6 hXlt
      go_wp2_with fail
      refine region_anyC (fun i => i != 7) (fun W => Below W6.heap.size W6 W) (by kernel_rfl) ?_
      have hS : Below W6.heap.size W6 W6.drew := (Below.refl _ _).drew
      refine anyL_take 0 (v := ?_) rfl (by kernel_rfl) (fun _ _ _ h => h) (Or.inl ⟨by rfl, ?_⟩) hS ?_
      rotate_left
      focus (intro W hW; go_simp; try with_reducible rfl)
      simp only [Act.put, List.setIfInBounds_toArray, List.set_cons_zero, List.set_cons_succ]
      refine anyL_take 1 (v := ?_) rfl (by kernel_rfl) (fun _ _ _ h => h) (Or.inl ⟨by rfl, ?_⟩) hS ?_
      rotate_left
      focus (intro W hW; go_simp; try with_reducible rfl)
      simp only [Act.put, List.setIfInBounds_toArray, List.set_cons_zero, List.set_cons_succ]
      refine anyL_take 2 (v := ?_) rfl (by kernel_rfl) (fun _ _ _ h => h) (Or.inl ⟨by rfl, ?_⟩) hS ?_
      rotate_left
      focus (intro W hW; obtain ⟨f0, f1, f2, f3, f4, f5, f6⟩ := hf6.out W hW; go_simp; try with_reducible rfl)
      simp only [Act.put, List.setIfInBounds_toArray, List.set_cons_zero, List.set_cons_succ]
      refine anyL_take 3 (v := ?_) rfl (by kernel_rfl) (fun _ _ _ h => h) (Or.inl ⟨by rfl, ?_⟩) hS ?_
      rotate_left
      focus (intro W hW; go_simp; try with_reducible rfl)
      simp only [Act.put, List.setIfInBounds_toArray, List.set_cons_zero, List.set_cons_succ]
      refine anyL_take 4 (v := ?_) rfl (by kernel_rfl) (fun _ _ _ h => h) (Or.inl ⟨by rfl, ?_⟩) hS ?_
      rotate_left
      focus (intro W hW; obtain ⟨f0, f1, f2, f3, f4, f5, f6⟩ := hf6.out W hW; go_simp; try with_reducible rfl)
      simp only [Act.put, List.setIfInBounds_toArray, List.set_cons_zero, List.set_cons_succ]
      refine anyL_take 5 (v := ?_) rfl (by kernel_rfl) (fun _ _ _ h => h) (Or.inl ⟨by rfl, ?_⟩) hS ?_
      rotate_left
      focus (intro W hW; go_simp; try with_reducible rfl)
      simp only [Act.put, List.setIfInBounds_toArray, List.set_cons_zero, List.set_cons_succ]
      refine anyL_one 6 rfl (by kernel_rfl) (fun K hK => ?_)
      go_simp
      refine (htx.out _).mono ?_
      rintro e' wt6 ⟨T6, hT6, rfl, hbt6⟩
      have hS1 := hS.trans (hbt6.mono (by have := hS.size; omega))
      dsimp only
      refine hK.out _ _ (fun _ => hS1) ?_
      clear hK K
      try simp only [Act.put, List.setIfInBounds_toArray, List.set_cons_zero, List.set_cons_succ]
      refine anyL_one 7 rfl (by kernel_rfl) (fun K hK => ?_)
      go_simp
      refine (hap6.out _ T6 hT6 hS1).mono ?_
      rintro e' wd6 ⟨rfl, hFd6, hkd6⟩
      dsimp only
      refine hK.out _ _ (fun h => absurd h (by decide)) ?_
      clear hK K
      try simp only [Act.put, List.setIfInBounds_toArray, List.set_cons_zero, List.set_cons_succ]
      refine anyC_done (by kernel_rfl) ?_ _
      have hX7 := (hX6H.out.below hS1 hXlt6).same hkd6 rfl
      refine fresh_K (fun W => Fm 0 200 1 1 w W (fun _ => False) 2 d (upd (upd L 0 (l + (1 + (m : Int)).toNat)) 1 (l + (1 + (m : Int)).toNat)) N ∧ W.cell? ⟨wr.heap.size, 3, none⟩ = some (.int .i64 (1 + (m : Int)))) ⟨hFd6.below (Below.refl _ _) (fun _ h => h.elim) (fun _ h => h.elim), hX7.s⟩ ?_
      clear hX6H hap6 hf6 hS hS1 hbt6 hT6 hFd6 hkd6 hX7 wd6 wt6
      rintro W7 ⟨hF7, x3⟩
      have em : (1 + (m : Int)).toNat = 1 + m := by omega
      rw [em] at hF7
      have hF7H := Lib.hid hF7
      clear hF7 em htx
      by_cases hkm : k = mf
      · subst hkm
        go_wp2_with fail
        refine (fm_flush _ 0 a hF7H.out (by decide) hdaH.out).mono ?_
        rintro e w8 ⟨rfl, hF8, hk8⟩
        go_wp2_with fail
        refine (fm_flush _ 1 b hF8 (by decide) hdbH.out).mono ?_
        rintro e w9 ⟨rfl, hF9, hk9⟩
        have hZ := Lib.hid hF9
        clear hF8 hF9 hk8 hk9 hF7H x3
        go_wp2_with fail
        go_roundw
        case rel => exact ⟨k + 1, l + (1 + m), l + (1 + m), by omega, by omega, by simp, congrArg (Value.int .i64) (by omega), congrArg (Value.int .i64) (by omega), by omega, _, _, hZ.out, by rw [upd_ne _ (by decide), upd_same], by rw [upd_same], by rw [upd_ne _ (by decide), upd_same, upd_ne _ (by decide), upd_same], by rw [upd_same, upd_same], hdaH.out, hdbH.out, by omega⟩
        case measure =>
          show cs.length - (intOf (Value.int .i64 _)).toNat < cs.length - (intOf (Value.int .i64 _)).toNat
          simp only [intOf]
          omega
      · have hne : ¬ (k : Int) = (mf : Int) := by omega
        have hZ := hF7H
        clear hkm hF7H
        go_wp2_with fail
        go_roundw
        case rel => exact ⟨k + 1, l + (1 + m), n, by omega, by omega, by simp, congrArg (Value.int .i64) (by omega), rfl, by omega, _, _, hZ.out, by rw [upd_ne _ (by decide), upd_same], by rw [upd_same], hN0H.out, hN1H.out, hdaH.out, hdbH.out, by omega⟩
        case measure =>
          show cs.length - (intOf (Value.int .i64 _)).toNat < cs.length - (intOf (Value.int .i64 _)).toNat
          simp only [intOf]
          omega
    · have hrun' : ¬ (k : Int) < (cs.length : Int) ∨ ((k : Int) < (cs.length : Int) ∧ ¬ (k : Int) < 30) := by omega
      obtain ⟨q, hq⟩ : ∃ q, q = l - n := ⟨_, rfl⟩
      have hsub : (l : Int) - (n : Int) = (q : Int) := by omega
      have hlo := Lib.hid (fun W (hI : IntsIn W (some ⟨wr.heap.size, 0, none⟩) [(q : Int)]) (hb : Below wr.heap.size wr W) (hlt : wr.heap.size < W.heap.size) => fm_lose W 0 a (some ⟨wr.heap.size, 0, none⟩) 1 [(q : Int)] (K := fun x => x = wr.heap.size) (hF.below hb (fun x hx => .inr (by omega)) (fun x hx => by omega)) (by decide) hda ⟨rfl, rfl, rfl⟩ hI (fun _ b off e => by injection e with e; injection e with e; exact .inr e.symm) (by simp; omega) (by simp [maxLen]) l (by rw [hL0, hN0, ← hq, kept_all]; omega))
      have hlo2 := Lib.hid (fun W n2 (h : Fm 0 200 1 1 w W (fun x => x = wr.heap.size) 2 d (upd L 0 l) n2) (hn2 : n2 1 = n) => fm_lose W 1 b none 0 [] h (by decide) hdb ⟨rfl, rfl, rfl⟩ (.inl rfl) (fun h => absurd rfl h) (by simp) (by simp) n (by rw [hn2]; rfl))
      have hL0H := Lib.hid hL0
      have hN1H := Lib.hid hN1
      have hdaH := Lib.hid hda
      have hdbH := Lib.hid hdb
      clear hF hL0 hL1 hN0 hN1 hda hdb hrun hq
      have hq : (q : Int) = (q : Int) := rfl
      clear hq
      rcases hrun' with hr | ⟨hr, hr2⟩
      · skip
        go_wp2_with fail
        have hI : IntsIn (wr.alloc (.cells #[.int .i64 (q : Int)] 3)) (some ⟨wr.heap.size, 0, none⟩) [(q : Int)] := .inr ⟨wr.heap.size, 0, rfl, by simp, fun i hi => by
          have : i = 0 := by simpa using hi
          subst this
          go_simp⟩
        refine (hlo.out _ hI ((Below.refl _ _).alloc (Nat.le_refl _) _) (by simp)).mono ?_
        rintro e w5 ⟨rfl, hF5, _⟩
        clear hlo hI
        go_wp2_with fail
        refine (hlo2.out _ _ hF5 (by rw [upd_ne _ (by decide)]; exact hN1H.out)).mono ?_
        rintro e w6 ⟨rfl, hF6, _⟩
        clear hlo2 hF5
        have hz0 := Lib.hid (fm_zone _ 0 a hF6 (by decide) hdaH.out)
        rw [upd_ne _ (by decide), upd_same] at hz0
        have hF6H := Lib.hid hF6
        clear hF6
        go_wp2_with fail
        refine hz0.out.mono ?_
        rintro e w7 ⟨s7, rfl, hb7⟩
        clear hz0
        have hF7 := (hF6H.out.below' hb7).below' ((Below.refl _ _).alloc (Nat.le_refl _) (.cells #[.int .i64 s7, .int .i64 (l : Int)] 54))
        have hz1 := Lib.hid (fm_zone _ 1 b hF7 (by decide) hdbH.out)
        rw [upd_same] at hz1
        have hF7H := Lib.hid hF7
        clear hF7 hb7 hF6H
        go_wp2_with fail
        refine hz1.out.mono ?_
        rintro e w8 ⟨s8, rfl, hb8⟩
        have x0 : w8.cell? ⟨w7.heap.size, 0, none⟩ = some (.int .i64 s7) := (hb8.cell (p := ⟨w7.heap.size, 0, none⟩) (by simp)).trans (by go_simp)
        have x1 : w8.cell? ⟨w7.heap.size, 1, none⟩ = some (.int .i64 (l : Int)) := (hb8.cell (p := ⟨w7.heap.size, 1, none⟩) (by simp)).trans (by go_simp)
        have hF8 := (hF7H.out.below' hb8).below' ((Below.refl _ _).alloc (Nat.le_refl _) (.cells #[.int .i64 s8, .int .i64 (n : Int)] 54))
        have hla := Lib.hid (fm_lasts _ 0 a hF8 (by decide) hdaH.out)
        have hlb := Lib.hid (fm_lasts _ 1 b hF8 (by decide) hdbH.out)
        rw [upd_ne _ (by decide), upd_same] at hla
        rw [upd_same] at hlb
        have hB8 := hF8.base
        have hlt78 : w7.heap.size < w8.heap.size := lt_of_cell x0
        clear hz1 hb8 hF7H hF8
        go_wp2_with fail
        refine hla.out.mono ?_
        rintro e w9 ⟨rfl, rfl⟩
        go_wp2_with fail
        refine hlb.out.mono ?_
        rintro e w9 ⟨rfl, rfl⟩
        go_wp2_with fail
        go_ret
        exact ⟨rfl, hB8⟩
      · skip
        go_wp2_with fail
        have hI : IntsIn (wr.alloc (.cells #[.int .i64 (q : Int)] 3)) (some ⟨wr.heap.size, 0, none⟩) [(q : Int)] := .inr ⟨wr.heap.size, 0, rfl, by simp, fun i hi => by
          have : i = 0 := by simpa using hi
          subst this
          go_simp⟩
        refine (hlo.out _ hI ((Below.refl _ _).alloc (Nat.le_refl _) _) (by simp)).mono ?_
        rintro e w5 ⟨rfl, hF5, _⟩
        clear hlo hI
        go_wp2_with fail
        refine (hlo2.out _ _ hF5 (by rw [upd_ne _ (by decide)]; exact hN1H.out)).mono ?_
        rintro e w6 ⟨rfl, hF6, _⟩
        clear hlo2 hF5
        have hz0 := Lib.hid (fm_zone _ 0 a hF6 (by decide) hdaH.out)
        rw [upd_ne _ (by decide), upd_same] at hz0
        have hF6H := Lib.hid hF6
        clear hF6
        go_wp2_with fail
        refine hz0.out.mono ?_
        rintro e w7 ⟨s7, rfl, hb7⟩
        clear hz0
        have hF7 := (hF6H.out.below' hb7).below' ((Below.refl _ _).alloc (Nat.le_refl _) (.cells #[.int .i64 s7, .int .i64 (l : Int)] 54))
        have hz1 := Lib.hid (fm_zone _ 1 b hF7 (by decide) hdbH.out)
        rw [upd_same] at hz1
        have hF7H := Lib.hid hF7
        clear hF7 hb7 hF6H
        go_wp2_with fail
        refine hz1.out.mono ?_
        rintro e w8 ⟨s8, rfl, hb8⟩
        have x0 : w8.cell? ⟨w7.heap.size, 0, none⟩ = some (.int .i64 s7) := (hb8.cell (p := ⟨w7.heap.size, 0, none⟩) (by simp)).trans (by go_simp)
        have x1 : w8.cell? ⟨w7.heap.size, 1, none⟩ = some (.int .i64 (l : Int)) := (hb8.cell (p := ⟨w7.heap.size, 1, none⟩) (by simp)).trans (by go_simp)
        have hF8 := (hF7H.out.below' hb8).below' ((Below.refl _ _).alloc (Nat.le_refl _) (.cells #[.int .i64 s8, .int .i64 (n : Int)] 54))
        have hla := Lib.hid (fm_lasts _ 0 a hF8 (by decide) hdaH.out)
        have hlb := Lib.hid (fm_lasts _ 1 b hF8 (by decide) hdbH.out)
        rw [upd_ne _ (by decide), upd_same] at hla
        rw [upd_same] at hlb
        have hB8 := hF8.base
        have hlt78 : w7.heap.size < w8.heap.size := lt_of_cell x0
        clear hz1 hb8 hF7H hF8
        go_wp2_with fail
        refine hla.out.mono ?_
        rintro e w9 ⟨rfl, rfl⟩
        go_wp2_with fail
        refine hlb.out.mono ?_
        rintro e w9 ⟨rfl, rfl⟩
        go_wp2_with fail
        go_ret
        exact ⟨rfl, hB8⟩
end Go.Proofs.Ytncbkegflkjlfaa
