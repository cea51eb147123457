/- What New of drive's does. -/
import Derived.Test.YtncbkegflkjlfaaDrvDo
import Derived.Test.YtncbkegflkjlfaaZonNewR
namespace Go.Proofs.Ytncbkegflkjlfaa
open Go.RowKit Zon Drv

theorem infoBS : (Try.prog.info? 68).map (fun i => (i.zero, i.size, i.bytes)) = some (some (.slice none 0 0), 1, 24) := by kernel_rfl
theorem infoInt : (Try.prog.info? 3).map (fun i => (i.zero, i.size, i.bytes)) = some (some (.int .i64 0), 1, 8) := by kernel_rfl

/-- The two rows of a new drive. -/
structure NewRows (W : World) (c l n : Nat) : Prop where
  row : ∀ i, i < n → W.cell? ⟨c, i, none⟩ = some (.slice none 0 0) ∧ W.frozen? ⟨c, i, none⟩ = false
  lrow : ∀ i, i < n → W.cell? ⟨l, i, none⟩ = some (.int .i64 0) ∧ W.frozen? ⟨l, i, none⟩ = false
  lc : c < W.heap.size
  ll : l < W.heap.size
theorem NewRows.below {W W' : World} {c l n : Nat} (h : NewRows W c l n) (hb : Below W.heap.size W W') : NewRows W' c l n :=
  ⟨fun i hi => ⟨(hb.cell (p := ⟨c, i, none⟩) h.lc).trans (h.row i hi).1, (hb.frozen (p := ⟨c, i, none⟩) h.lc).trans (h.row i hi).2⟩,
   fun i hi => ⟨(hb.cell (p := ⟨l, i, none⟩) h.ll).trans (h.lrow i hi).1, (hb.frozen (p := ⟨l, i, none⟩) h.ll).trans (h.lrow i hi).2⟩, Nat.lt_of_lt_of_le h.lc hb.size, Nat.lt_of_lt_of_le h.ll hb.size⟩
theorem NewRows.cl (w : World) (n : Nat) (e e' : TypeId) : NewRows ((w.alloc (.cells (madeCells #[.slice none 0 0] n) e)).alloc (.cells (madeCells #[.int .i64 0] n) e')) w.heap.size (w.heap.size + 1) n := by
  have hb : Below (w.alloc (.cells (madeCells #[.slice none 0 0] n) e)).heap.size (w.alloc (.cells (madeCells #[.slice none 0 0] n) e)) ((w.alloc (.cells (madeCells #[.slice none 0 0] n) e)).alloc (.cells (madeCells #[.int .i64 0] n) e')) := (Below.refl _ _).alloc (Nat.le_refl _) _
  have hs : (w.alloc (.cells (madeCells #[.slice none 0 0] n) e)).heap.size = w.heap.size + 1 := by simp
  refine ⟨fun i hi => ⟨(hb.cell (p := ⟨w.heap.size, i, none⟩) (by rw [hs]; exact Nat.lt_succ_self _)).trans (made_noughts w e _ n i hi), (hb.frozen (p := ⟨w.heap.size, i, none⟩) (by rw [hs]; exact Nat.lt_succ_self _)).trans (made_free w e _ n i)⟩, fun i hi => ?_, by simp; omega, by simp⟩
  rw [← hs]
  exact ⟨made_noughts _ e' _ n i hi, made_free _ e' _ n i⟩
theorem NewRows.lc' (w : World) (n : Nat) (e e' : TypeId) : NewRows ((w.alloc (.cells (madeCells #[.int .i64 0] n) e')).alloc (.cells (madeCells #[.slice none 0 0] n) e)) (w.heap.size + 1) w.heap.size n := by
  have hb : Below (w.alloc (.cells (madeCells #[.int .i64 0] n) e')).heap.size (w.alloc (.cells (madeCells #[.int .i64 0] n) e')) ((w.alloc (.cells (madeCells #[.int .i64 0] n) e')).alloc (.cells (madeCells #[.slice none 0 0] n) e)) := (Below.refl _ _).alloc (Nat.le_refl _) _
  have hs : (w.alloc (.cells (madeCells #[.int .i64 0] n) e')).heap.size = w.heap.size + 1 := by simp
  refine ⟨fun i hi => ?_, fun i hi => ⟨(hb.cell (p := ⟨w.heap.size, i, none⟩) (by rw [hs]; exact Nat.lt_succ_self _)).trans (made_noughts w e' _ n i hi), (hb.frozen (p := ⟨w.heap.size, i, none⟩) (by rw [hs]; exact Nat.lt_succ_self _)).trans (made_free w e' _ n i)⟩, by simp, by simp; omega⟩
  rw [← hs]
  exact ⟨made_noughts _ e _ n i hi, made_free _ e _ n i⟩

/-- Three cells, stored. -/
theorem set_three {w1 : World} {X : Nat} {u1 u2 u3 : Value} (q1 : w1.cell? ⟨X, 0, none⟩ = some u1) (q2 : w1.cell? ⟨X, 1, none⟩ = some u2) (q3 : w1.cell? ⟨X, 2, none⟩ = some u3) (x1 x2 x3 : Value) :
    (((w1.setCell ⟨X, 0, none⟩ x1).setCell ⟨X, 1, none⟩ x2).setCell ⟨X, 2, none⟩ x3).cell? ⟨X, 0, none⟩ = some x1 ∧ (((w1.setCell ⟨X, 0, none⟩ x1).setCell ⟨X, 1, none⟩ x2).setCell ⟨X, 2, none⟩ x3).cell? ⟨X, 1, none⟩ = some x2 ∧
      (((w1.setCell ⟨X, 0, none⟩ x1).setCell ⟨X, 1, none⟩ x2).setCell ⟨X, 2, none⟩ x3).cell? ⟨X, 2, none⟩ = some x3 ∧ (((w1.setCell ⟨X, 0, none⟩ x1).setCell ⟨X, 1, none⟩ x2).setCell ⟨X, 2, none⟩ x3).heap.size = w1.heap.size ∧
      Turn w1 (((w1.setCell ⟨X, 0, none⟩ x1).setCell ⟨X, 1, none⟩ x2).setCell ⟨X, 2, none⟩ x3) (fun b => b = X) := by
  have n01 : (⟨X, 0, none⟩ : Addr) ≠ ⟨X, 1, none⟩ := by intro e'; injection e' with _ e'; omega
  have n02 : (⟨X, 0, none⟩ : Addr) ≠ ⟨X, 2, none⟩ := by intro e'; injection e' with _ e'; omega
  have n12 : (⟨X, 1, none⟩ : Addr) ≠ ⟨X, 2, none⟩ := by intro e'; injection e' with _ e'; omega
  have a1 : (w1.setCell ⟨X, 0, none⟩ x1).cell? ⟨X, 1, none⟩ = some u2 := (World.cell?_setCell_other _ _ _ _ (by intro e'; injection e' with _ e'; omega)).trans q2
  have a2 : ((w1.setCell ⟨X, 0, none⟩ x1).setCell ⟨X, 1, none⟩ x2).cell? ⟨X, 2, none⟩ = some u3 := (World.cell?_setCell_other _ _ _ _ (by intro e'; injection e' with _ e'; omega)).trans ((World.cell?_setCell_other _ _ _ _ (by intro e'; injection e' with _ e'; omega)).trans q3)
  refine ⟨?_, ?_, World.cell?_setCell_same' _ _ _ (by rw [a2]; rfl), by simp [World.setCell], ((Turn.set w1 (F := fun b => b = X) rfl 0 x1).trans (Turn.set _ (F := fun b => b = X) rfl 1 x2)).trans (Turn.set _ (F := fun b => b = X) rfl 2 x3)⟩
  · exact (World.cell?_setCell_other _ _ _ _ (by intro e'; injection e' with _ e'; omega)).trans ((World.cell?_setCell_other _ _ _ _ (by intro e'; injection e' with _ e'; omega)).trans (World.cell?_setCell_same' _ _ _ (by rw [q1]; rfl)))
  · exact (World.cell?_setCell_other _ _ _ _ (by intro e'; injection e' with _ e'; omega)).trans (World.cell?_setCell_same' _ _ _ (by rw [a1]; rfl))

/-- What newZones answers. -/
def ZonesPost (w : World) (z b o a : Int) (e : Ending) (w' : World) : Prop :=
  ∃ g y c l, e = .returned (.tuple #[.agg #[.pointer (some ⟨g, 0, none⟩), .slice (some ⟨c, 0, none⟩) z.toNat z.toNat, .slice (some ⟨l, 0, none⟩) z.toNat z.toNat], .int .i64 0]) ∧ MAt w' g y (newM z b o a) ∧ NewRows w' c l z.toNat ∧ Below w.heap.size w w' ∧ w.heap.size ≤ g ∧ w.heap.size ≤ y ∧ w.heap.size ≤ c ∧ w.heap.size ≤ l ∧
    g ≠ c ∧ g ≠ l ∧ y ≠ c ∧ y ≠ l ∧ c ≠ l

set_option maxHeartbeats 1000000 in
theorem newZones_good (z b o a : Int) (w : World) (h : newOk z b o a = true) :
    Calls Try.prog 41 #[.int .i64 z, .int .i64 b, .int .i64 o, .int .i64 a] w (ZonesPost w z b o a) := by
  have hn := Zon.newOk_iff.1 h
  have hnew := Lib.hid (fun W => new_good z b o a W h)
  obtain ⟨n, rfl⟩ := Int.eq_ofNat_of_zero_le (show 0 ≤ z by omega)
  obtain ⟨i0, hi, hz0, hz1, hz2⟩ := info_parts infoBS
  have hmk := fun W => run_make_m (P := Try.prog) 81 68 i0 (.slice none 0 0) Try.underlying81 hi hz0 .i64 .i64 n n (Nat.le_refl _) (by rw [hz2]; omega) (by omega) W
  rw [hz1] at hmk
  clear hi hz0 hz1 hz2
  obtain ⟨i1, hi, hz0, hz1, hz2⟩ := info_parts infoInt
  have hmk2 := fun W => run_make_m (P := Try.prog) 31 3 i1 (.int .i64 0) Try.underlying31 hi hz0 .i64 .i64 n n (Nat.le_refl _) (by rw [hz2]; omega) (by omega) W
  rw [hz1] at hmk2
  clear hi hz0 hz1 hz2 h
  have hn1 : n ≤ 64 := by omega
  clear hn
  go_enter Try.func41, Try.ntmps41
  go_wp2_with fail
  refine (hnew.out _).mono ?_
  rintro e w1 ⟨g, y, rfl, hM, hzy, hgy, hb⟩
  have hB1 : Below w.heap.size w w1 := ((Below.refl _ _).alloc (Nat.le_refl _) _).trans (hb.mono (by simp))
  have q1 : w1.cell? ⟨w.heap.size, 0, none⟩ = some (.pointer none) := (hb.cell (p := ⟨w.heap.size, 0, none⟩) (by simp)).trans (by go_simp)
  have q2 : w1.cell? ⟨w.heap.size, 1, none⟩ = some (.slice none 0 0) := (hb.cell (p := ⟨w.heap.size, 1, none⟩) (by simp)).trans (by go_simp)
  have q3 : w1.cell? ⟨w.heap.size, 2, none⟩ = some (.slice none 0 0) := (hb.cell (p := ⟨w.heap.size, 2, none⟩) (by simp)).trans (by go_simp)
  have hfz : ∀ j, w1.frozen? ⟨w.heap.size, j, none⟩ = false := fun j => (hb.frozen (p := ⟨w.heap.size, j, none⟩) (by simp)).trans ((World.frozen?_alloc_mark w _ _ 0 0 j).trans (by simp))
  have z1 := hfz 0
  have z2 := hfz 1
  have z3 := hfz 2
  have hlt : w.heap.size < w1.heap.size := lt_of_cell q1
  have hgy' : w.heap.size < g := by simp at hgy; omega
  have hzy' : w.heap.size < y := by simp at hzy; omega
  have hMH := Lib.hid hM
  have hB1H := Lib.hid hB1
  have hgl := hM.gl
  have hyl := hM.zl
  clear hM hB1 hb hzy hgy hfz hnew
  go_wp2_with fail
  go_region
  · obtain ⟨t1, t2, t3, hsz, htu⟩ := set_three q1 q2 q3 (.pointer (some ⟨g, 0, none⟩)) (.slice (some ⟨w1.heap.size, 0, none⟩) n n) (.slice (some ⟨w1.heap.size + 1, 0, none⟩) n n)
    have hM3 : MAt _ g y (newM (n : Int) b o a) := hMH.out.same htu.size (htu.block g hgl (by omega)) (htu.block y hyl (by omega))
    have hB3 : Below w.heap.size w _ := hB1H.out.trans (htu.below (B := w.heap.size) (fun k hk => by omega) hB1H.out.size)
    generalize ((w1.setCell ⟨w.heap.size, 0, none⟩ (.pointer (some ⟨g, 0, none⟩))).setCell ⟨w.heap.size, 1, none⟩ (.slice (some ⟨w1.heap.size, 0, none⟩) n n)).setCell ⟨w.heap.size, 2, none⟩ (.slice (some ⟨w1.heap.size + 1, 0, none⟩) n n) = W3 at t1 t2 t3 hsz htu hM3 hB3 ⊢
    have hnr := NewRows.cl W3 n 68 3
    rw [hsz] at hnr
    have hb4 : Below W3.heap.size W3 ((W3.alloc (.cells (madeCells #[.slice none 0 0] n) 68)).alloc (.cells (madeCells #[.int .i64 0] n) 3)).drew := (((Below.refl _ _).alloc (Nat.le_refl _) _).alloc (by simp) _).drew
    have hlt3 : w.heap.size < W3.heap.size := by rw [hsz]; exact hlt
    refine fresh_K (fun W => NewRows W (w1.heap.size) (w1.heap.size + 1) n ∧ MAt W g y (newM (n : Int) b o a) ∧ Below w.heap.size w W ∧ W.cell? ⟨w.heap.size, 0, none⟩ = some (.pointer (some ⟨g, 0, none⟩)) ∧ W.cell? ⟨w.heap.size, 1, none⟩ = some (.slice (some ⟨w1.heap.size, 0, none⟩) n n) ∧ W.cell? ⟨w.heap.size, 2, none⟩ = some (.slice (some ⟨w1.heap.size + 1, 0, none⟩) n n))
      ⟨hnr.below (Below.refl _ _).drew, hM3.below hb4, hB3.trans (hb4.mono (by omega)), (hb4.cell (p := ⟨w.heap.size, 0, none⟩) hlt3).trans t1, (hb4.cell (p := ⟨w.heap.size, 1, none⟩) hlt3).trans t2, (hb4.cell (p := ⟨w.heap.size, 2, none⟩) hlt3).trans t3⟩ ?_
    clear hnr hb4 hlt3 hM3 hB3 t1 t2 t3 htu hsz q1 q2 q3 z1 z2 z3 hmk hmk2
    rintro W9 ⟨hnr, hM9, hB9, d0, d1, d2⟩
    go_wp2
    refine bodyPost_ret (v := .tuple #[.agg #[.pointer (some ⟨g, 0, none⟩), .slice (some ⟨w1.heap.size, 0, none⟩) n n, .slice (some ⟨w1.heap.size + 1, 0, none⟩) n n], .int .i64 0]) (by simp [results, Try.results41, go_sem, d0, d1, d2]) rfl ?_
    refine ⟨g, y, w1.heap.size, w1.heap.size + 1, by rw [Int.toNat_natCast], hM9, by rw [Int.toNat_natCast]; exact hnr, hB9, by omega, by omega, by omega, by omega, by omega, by omega, by omega, by omega, by omega⟩
  · obtain ⟨t1, t2, t3, hsz, htu⟩ := set_three q1 q2 q3 (.pointer (some ⟨g, 0, none⟩)) (.slice (some ⟨w1.heap.size + 1, 0, none⟩) n n) (.slice (some ⟨w1.heap.size, 0, none⟩) n n)
    have hM3 : MAt _ g y (newM (n : Int) b o a) := hMH.out.same htu.size (htu.block g hgl (by omega)) (htu.block y hyl (by omega))
    have hB3 : Below w.heap.size w _ := hB1H.out.trans (htu.below (B := w.heap.size) (fun k hk => by omega) hB1H.out.size)
    generalize ((w1.setCell ⟨w.heap.size, 0, none⟩ (.pointer (some ⟨g, 0, none⟩))).setCell ⟨w.heap.size, 1, none⟩ (.slice (some ⟨w1.heap.size + 1, 0, none⟩) n n)).setCell ⟨w.heap.size, 2, none⟩ (.slice (some ⟨w1.heap.size, 0, none⟩) n n) = W3 at t1 t2 t3 hsz htu hM3 hB3 ⊢
    have hnr := NewRows.lc' W3 n 68 3
    rw [hsz] at hnr
    have hb4 : Below W3.heap.size W3 ((W3.alloc (.cells (madeCells #[.int .i64 0] n) 3)).alloc (.cells (madeCells #[.slice none 0 0] n) 68)).drew := (((Below.refl _ _).alloc (Nat.le_refl _) _).alloc (by simp) _).drew
    have hlt3 : w.heap.size < W3.heap.size := by rw [hsz]; exact hlt
    refine fresh_K (fun W => NewRows W (w1.heap.size + 1) (w1.heap.size) n ∧ MAt W g y (newM (n : Int) b o a) ∧ Below w.heap.size w W ∧ W.cell? ⟨w.heap.size, 0, none⟩ = some (.pointer (some ⟨g, 0, none⟩)) ∧ W.cell? ⟨w.heap.size, 1, none⟩ = some (.slice (some ⟨w1.heap.size + 1, 0, none⟩) n n) ∧ W.cell? ⟨w.heap.size, 2, none⟩ = some (.slice (some ⟨w1.heap.size, 0, none⟩) n n))
      ⟨hnr.below (Below.refl _ _).drew, hM3.below hb4, hB3.trans (hb4.mono (by omega)), (hb4.cell (p := ⟨w.heap.size, 0, none⟩) hlt3).trans t1, (hb4.cell (p := ⟨w.heap.size, 1, none⟩) hlt3).trans t2, (hb4.cell (p := ⟨w.heap.size, 2, none⟩) hlt3).trans t3⟩ ?_
    clear hnr hb4 hlt3 hM3 hB3 t1 t2 t3 htu hsz q1 q2 q3 z1 z2 z3 hmk hmk2
    rintro W9 ⟨hnr, hM9, hB9, d0, d1, d2⟩
    go_wp2
    refine bodyPost_ret (v := .tuple #[.agg #[.pointer (some ⟨g, 0, none⟩), .slice (some ⟨w1.heap.size + 1, 0, none⟩) n n, .slice (some ⟨w1.heap.size, 0, none⟩) n n], .int .i64 0]) (by simp [results, Try.results41, go_sem, d0, d1, d2]) rfl ?_
    refine ⟨g, y, w1.heap.size + 1, w1.heap.size, by rw [Int.toNat_natCast], hM9, by rw [Int.toNat_natCast]; exact hnr, hB9, by omega, by omega, by omega, by omega, by omega, by omega, by omega, by omega, by omega⟩

/-- Nothing may be made so. -/
theorem newZones_bad (z b o a : Int) (w : World) (h : newOk z b o a = false) :
    Calls Try.prog 41 #[.int .i64 z, .int .i64 b, .int .i64 o, .int .i64 a] w fun e w' => e = .returned (.tuple #[.agg #[.pointer none, .slice none 0 0, .slice none 0 0], .int .i64 1]) ∧ Below w.heap.size w w' := by
  have hnew := Lib.hid (fun W => new_bad z b o a W h)
  clear h
  go_enter Try.func41, Try.ntmps41
  go_wp2_with (go_at_call 56; refine (hnew.out _).mono ?_; rintro e w1 ⟨rfl, rfl⟩)
  refine bodyPost_ret (v := .tuple #[.agg #[.pointer none, .slice none 0 0, .slice none 0 0], .int .i64 1]) (by simp [results, Try.results41, go_sem]) rfl ⟨rfl, ?_⟩
  exact (Below.refl _ _).alloc (Nat.le_refl _) _

/-- A drive in new memory. -/
def DNew (w : World) (z b o a : Int) (e : Ending) (w' : World) : Prop := ∃ d F, e = .returned (.tuple #[.pointer (some ⟨d, 0, none⟩), .int .i64 0]) ∧ DAt w' F d (newD z b o a) ∧ (∀ x, F x → w.heap.size ≤ x) ∧ Below w.heap.size w w'
theorem dnew_bad (z b o a : Int) (w : World) (h : newOk z b o a = false) :
    Calls Try.prog 13 #[.int .i64 z, .int .i64 b, .int .i64 o, .int .i64 a] w fun e w' => e = .returned (.tuple #[.pointer none, .int .i64 1]) ∧ Below w.heap.size w w' := by
  have hnew := Lib.hid (fun W => newZones_bad z b o a W h)
  clear h
  go_enter Try.func13, Try.ntmps13
  go_wp2_with (go_at_call 41; refine (hnew.out _).mono ?_; rintro e w1 ⟨rfl, hb⟩; obtain ⟨hc, hf⟩ := bcell hb)
  go_ret2
  exact ⟨rfl, hb.trans ((Below.refl _ _).alloc (by exact hb.size) _)⟩
theorem dnew_lies {w W : World} {g y c l d : Nat} {z b o a : Int} (hM : MAt W g y (newM z b o a)) (hn : NewRows W c l z.toNat) (hd : d = W.heap.size) (hg : w.heap.size ≤ g) (hy : w.heap.size ≤ y) (hc : w.heap.size ≤ c) (hl : w.heap.size ≤ l) (h1 : g ≠ c) (h2 : g ≠ l) (h3 : y ≠ c) (h4 : y ≠ l) (h5 : c ≠ l) (hs : w.heap.size ≤ W.heap.size) (t : TypeId) :
    ∃ F, DAt (W.alloc (.cells #[.pointer (some ⟨g, 0, none⟩), .slice (some ⟨c, 0, none⟩) z.toNat z.toNat, .slice (some ⟨l, 0, none⟩) z.toNat z.toNat, .bool false] t)) F d (newD z b o a) ∧ ∀ x, F x → w.heap.size ≤ x := by
  subst hd
  have hb : Below W.heap.size W (W.alloc (.cells #[.pointer (some ⟨g, 0, none⟩), .slice (some ⟨c, 0, none⟩) z.toNat z.toNat, .slice (some ⟨l, 0, none⟩) z.toNat z.toNat, .bool false] t)) := (Below.refl _ _).alloc (Nat.le_refl _) _
  have hn2 := hn.below hb
  have hM2 := hM.below hb
  have hgl := hM.gl
  have hyl := hM.zl
  have hcl := hn.lc
  have hll := hn.ll
  have hv : ∀ i, Blk.v ⟨g, y, c, l, List.replicate z.toNat (Value.slice none 0 0)⟩ i = .slice none 0 0 := fun i => by
    unfold Blk.v at_
    rw [List.getD_eq_getElem?_getD]
    simp only [List.getElem?_replicate]
    split <;> rfl
  have hcz : ∀ i, (newD z b o a).c i = [] := fun i => by
    unfold Dr.c at_ newD
    rw [List.getD_eq_getElem?_getD]
    simp only [List.getElem?_replicate]
    split <;> rfl
  have hlz : ∀ i, (newD z b o a).l i = 0 := fun i => by
    unfold Dr.l at_ newD
    rw [List.getD_eq_getElem?_getD]
    simp only [List.getElem?_replicate]
    split <;> rfl
  refine ⟨fun x => w.heap.size ≤ x, ⟨⟨g, y, c, l, List.replicate z.toNat (.slice none 0 0)⟩, ⟨by go_simp, ?_, ?_, ?_, ?_, hM2, ?_, fun i hi => ?_, fun i hi => ?_, fun i hi => ?_, hn2.lc, hn2.ll, (by show W.heap.size ≠ g; omega), (by show W.heap.size ≠ y; omega), (by show W.heap.size ≠ c; omega), (by show W.heap.size ≠ l; omega), h1, h2, h3, h4, h5, fun i hi b hb => ?_, fun i j hi hj _ b hb => ?_⟩, ⟨hs, hg, hy, hc, hl, fun i hi b hb => ?_⟩⟩, fun x hx => hx⟩
  · show _ = some (Value.slice _ (List.replicate z.toNat _).length (List.replicate z.toNat _).length)
    rw [List.length_replicate]
    go_simp
  · show _ = some (Value.slice _ (List.replicate z.toNat _).length (List.replicate z.toNat _).length)
    rw [List.length_replicate]
    go_simp
  · show _ = some (Value.bool false)
    go_simp
  · exact (World.frozen?_alloc_mark W _ t 0 0 3).trans (by simp)
  · show (List.replicate _ _).length = (List.replicate _ _).length
    rw [List.length_replicate, List.length_replicate]
  · rw [hv]
    exact hn2.row i (by simpa [newD] using hi)
  · rw [hv, hcz]
    exact World.ownsRow_nil _ _ _ _
  · rw [hlz]
    exact hn2.lrow i (by simpa [newD] using hi)
  · rw [hv] at hb; cases hb
  · rw [hv] at hb; cases hb
  · rw [hv] at hb; cases hb
set_option maxHeartbeats 1000000 in
theorem dnew_good (z b o a : Int) (w : World) (h : newOk z b o a = true) :
    Calls Try.prog 13 #[.int .i64 z, .int .i64 b, .int .i64 o, .int .i64 a] w (DNew w z b o a) := by
  have hnew := Lib.hid (fun W => newZones_good z b o a W h)
  go_enter Try.func13, Try.ntmps13
  go_wp2_with fail
  refine (hnew.out _).mono ?_
  rintro e w1 ⟨g, y, c, l, rfl, hM, hnr, hb, hg, hy, hc, hl, h1, h2, h3, h4, h5⟩
  go_wp2_with fail
  go_ret2
  have hb2 : Below w1.heap.size w1 (w1.alloc (.cells #[.pointer (some ⟨g, 0, none⟩), .slice (some ⟨c, 0, none⟩) z.toNat z.toNat, .slice (some ⟨l, 0, none⟩) z.toNat z.toNat] 83)) := (Below.refl _ _).alloc (Nat.le_refl _) _
  obtain ⟨F, hD, hF⟩ := dnew_lies (w := w) (d := w1.heap.size + 1) (hM.below hb2) (hnr.below hb2) (by simp) hg hy hc hl h1 h2 h3 h4 h5 (Nat.le_trans hb.size hb2.size) 87
  exact ⟨_, F, rfl, hD, hF, (hb.trans (hb2.mono hb.size)).trans ((Below.refl _ _).alloc (Nat.le_trans hb.size hb2.size) _)⟩
end Go.Proofs.Ytncbkegflkjlfaa
