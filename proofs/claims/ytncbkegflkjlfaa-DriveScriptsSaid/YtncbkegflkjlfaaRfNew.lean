/- What the document's New of a drive does. -/
import Derived.Test.YtncbkegflkjlfaaRfMem
import Derived.Test.YtncbkegflkjlfaaDrvNew
namespace Go.Proofs.Ytncbkegflkjlfaa
open Go.RowKit Zon Drv

theorem infoBl : (Try.prog.info? 91).map (fun i => (i.zero, i.size, i.bytes)) = some (some (.agg #[.slice none 0 0]), 1, 24) := by kernel_rfl
theorem rdnew_lies {w W : World} {g y c l d : Nat} {z b o a : Int} (hM : MAt W g y (newM z b o a)) (hn : NewRows W c l z.toNat) (hd : d = W.heap.size) (hg : w.heap.size ≤ g) (hy : w.heap.size ≤ y) (hc : w.heap.size ≤ c) (hl : w.heap.size ≤ l) (h1 : g ≠ c) (h2 : g ≠ l) (h3 : y ≠ c) (h4 : y ≠ l) (h5 : c ≠ l) (hs : w.heap.size ≤ W.heap.size) (t : TypeId) :
    ∃ F, RAt (W.alloc (.cells #[.pointer (some ⟨g, 0, none⟩), .slice (some ⟨c, 0, none⟩) z.toNat z.toNat, .slice (some ⟨l, 0, none⟩) z.toNat z.toNat, .bool false] t)) F d (newD z b o a) ∧ ∀ x, F x → w.heap.size ≤ x := by
  subst hd
  have hb : Below W.heap.size W (W.alloc (.cells #[.pointer (some ⟨g, 0, none⟩), .slice (some ⟨c, 0, none⟩) z.toNat z.toNat, .slice (some ⟨l, 0, none⟩) z.toNat z.toNat, .bool false] t)) := (Below.refl _ _).alloc (Nat.le_refl _) _
  have hn2 := hn.below hb
  have hM2 := hM.below hb
  have hgl := hM.gl
  have hyl := hM.zl
  have hcl := hn.lc
  have hll := hn.ll
  have hv : ∀ i, Blk.v ⟨g, y, c, l, List.replicate z.toNat (Value.slice none 0 0)⟩ i = .slice none 0 0 := fun i => by
    unfold Blk.v at_
    rw [List.getD_eq_getElem?_getD]
    simp only [List.getElem?_replicate]
    split <;> rfl
  have hcz : ∀ i, (newD z b o a).c i = [] := fun i => by
    unfold Dr.c at_ newD
    rw [List.getD_eq_getElem?_getD]
    simp only [List.getElem?_replicate]
    split <;> rfl
  have hlz : ∀ i, (newD z b o a).l i = 0 := fun i => by
    unfold Dr.l at_ newD
    rw [List.getD_eq_getElem?_getD]
    simp only [List.getElem?_replicate]
    split <;> rfl
  refine ⟨fun x => w.heap.size ≤ x, ⟨⟨g, y, c, l, List.replicate z.toNat (.slice none 0 0)⟩, ⟨by go_simp, ?_, ?_, ?_, ?_, hM2, ?_, fun i hi => ?_, fun i hi => ?_, fun i hi => ?_, hn2.lc, hn2.ll, (by show W.heap.size ≠ g; omega), (by show W.heap.size ≠ y; omega), (by show W.heap.size ≠ c; omega), (by show W.heap.size ≠ l; omega), h1, h2, h3, h4, h5, fun i hi b hb => ?_, fun i j hi hj _ b hb => ?_⟩, ⟨hs, hg, hy, hc, hl, fun i hi b hb => ?_⟩⟩, fun x hx => hx⟩
  · show _ = some (Value.slice _ (List.replicate z.toNat _).length (List.replicate z.toNat _).length)
    rw [List.length_replicate]
    go_simp
  · show _ = some (Value.slice _ (List.replicate z.toNat _).length (List.replicate z.toNat _).length)
    rw [List.length_replicate]
    go_simp
  · show _ = some (Value.bool false)
    go_simp
  · exact (World.frozen?_alloc_mark W _ t 0 0 3).trans (by simp)
  · show (List.replicate _ _).length = (List.replicate _ _).length
    rw [List.length_replicate, List.length_replicate]
  · rw [hv]
    exact hn2.row i (by simpa [newD] using hi)
  · rw [hv, hcz]
    exact World.ownsRow_nil _ _ _ _
  · rw [hlz]
    exact hn2.lrow i (by simpa [newD] using hi)
  · rw [hv] at hb; cases hb
  · rw [hv] at hb; cases hb
  · rw [hv] at hb; cases hb

/-- A drive of the document's in new memory. -/
def RDNew (w : World) (z b o a : Int) (e : Ending) (w' : World) : Prop := ∃ d F, e = .returned (.pointer (some ⟨d, 0, none⟩)) ∧ RAt w' F d (newD z b o a) ∧ (∀ x, F x → w.heap.size ≤ x) ∧ Below w.heap.size w w'
theorem rdnew_bad (z b o a : Int) (w : World) (h : newOk z b o a = false) :
    Calls Try.prog 14 #[.int .i64 z, .int .i64 b, .int .i64 o, .int .i64 a] w fun e w' => e = .returned (.pointer none) ∧ w = w' := by
  have hnew := Lib.hid (fun W => rnew_bad z b o a W h)
  clear h
  go_enter Try.func14, Try.ntmps14
  go_wp2_with (go_at_call 42; refine (hnew.out _).mono ?_; rintro e w1 ⟨rfl, rfl⟩)
  go_ret
  exact ⟨rfl, rfl⟩
set_option maxRecDepth 100000 in
set_option maxHeartbeats 1000000 in
theorem rdnew_good (z b o a : Int) (w : World) (h : newOk z b o a = true) :
    Calls Try.prog 14 #[.int .i64 z, .int .i64 b, .int .i64 o, .int .i64 a] w (RDNew w z b o a) := by
  have hn := Zon.newOk_iff.1 h
  have hnew := Lib.hid (fun W => rnew_good z b o a W h)
  obtain ⟨n, rfl⟩ := Int.eq_ofNat_of_zero_le (show 0 ≤ z by omega)
  obtain ⟨i0, hi, hz0, hz1, hz2⟩ := info_parts infoBl
  have hmk := fun W => run_make_m (P := Try.prog) 39 91 i0 (.agg #[.slice none 0 0]) Try.underlying39 hi hz0 .i64 .i64 n n (Nat.le_refl _) (by rw [hz2]; omega) (by omega) W
  rw [hz1] at hmk
  clear hi hz0 hz1 hz2
  obtain ⟨i1, hi, hz0, hz1, hz2⟩ := info_parts infoInt
  have hmk2 := fun W => run_make_m (P := Try.prog) 31 3 i1 (.int .i64 0) Try.underlying31 hi hz0 .i64 .i64 n n (Nat.le_refl _) (by rw [hz2]; omega) (by omega) W
  rw [hz1] at hmk2
  clear hi hz0 hz1 hz2 h
  have hn1 : n ≤ 64 := by omega
  clear hn
  go_enter Try.func14, Try.ntmps14
  go_wp2_with fail
  refine (hnew.out _).mono ?_
  rintro e w1 ⟨g, y, rfl, hM, hzy, hgy, hb⟩
  have hMH := Lib.hid hM
  have hbH := Lib.hid hb
  have hgl := hM.gl
  have hyl := hM.zl
  clear hM hb hnew
  go_wp2_with fail
  go_region
  · have hnr := NewRows.cl w1 n 91 3
    have hb2 : Below w1.heap.size w1 ((w1.alloc (.cells (madeCells #[.slice none 0 0] n) 91)).alloc (.cells (madeCells #[.int .i64 0] n) 3)) := ((Below.refl _ _).alloc (Nat.le_refl _) _).alloc (by simp) _
    have hs2 : ((w1.alloc (.cells (madeCells #[.slice none 0 0] n) 91)).alloc (.cells (madeCells #[.int .i64 0] n) 3)).heap.size = w1.heap.size + 1 + 1 := by simp
    have hM2 := hMH.out.below hb2
    generalize (w1.alloc (.cells (madeCells #[.slice none 0 0] n) 91)).alloc (.cells (madeCells #[.int .i64 0] n) 3) = W2 at hnr hb2 hs2 hM2 ⊢
    have hB2 := hbH.out.trans (hb2.mono hbH.out.size)
    obtain ⟨F, hD, hF⟩ := rdnew_lies (w := w) (d := W2.heap.size) (z := (n : Int)) (b := b) (o := o) (a := a) hM2 (by rw [Int.toNat_natCast]; exact hnr) rfl hgy hzy (by have := hbH.out.size; omega) (by have := hbH.out.size; omega) (by omega) (by omega) (by omega) (by omega) (by omega) hB2.size 41
    rw [Int.toNat_natCast] at hD
    have hfin : RAt _ F W2.heap.size (newD (n : Int) b o a) := hD.below (Below.refl _ _).drew
    have hBf := (hB2.alloc hB2.size (.cells #[.pointer (some ⟨g, 0, none⟩), .slice (some ⟨w1.heap.size, 0, none⟩) n n, .slice (some ⟨w1.heap.size + 1, 0, none⟩) n n, .bool false] 41)).drew
    rw [← hs2]
    refine fresh_K (fun W => RAt W F W2.heap.size (newD (n : Int) b o a) ∧ Below w.heap.size w W) ⟨hfin, hBf⟩ ?_
    clear hfin hBf hD hnr hM2 hb2 hs2 hmk hmk2
    rintro W9 ⟨hR, hB9⟩
    go_wp2
    go_ret
    exact ⟨_, F, rfl, hR, hF, hB9⟩
  · have hnr := NewRows.lc' w1 n 91 3
    have hb2 : Below w1.heap.size w1 ((w1.alloc (.cells (madeCells #[.int .i64 0] n) 3)).alloc (.cells (madeCells #[.slice none 0 0] n) 91)) := ((Below.refl _ _).alloc (Nat.le_refl _) _).alloc (by simp) _
    have hs2 : ((w1.alloc (.cells (madeCells #[.int .i64 0] n) 3)).alloc (.cells (madeCells #[.slice none 0 0] n) 91)).heap.size = w1.heap.size + 1 + 1 := by simp
    have hM2 := hMH.out.below hb2
    generalize (w1.alloc (.cells (madeCells #[.int .i64 0] n) 3)).alloc (.cells (madeCells #[.slice none 0 0] n) 91) = W2 at hnr hb2 hs2 hM2 ⊢
    have hB2 := hbH.out.trans (hb2.mono hbH.out.size)
    obtain ⟨F, hD, hF⟩ := rdnew_lies (w := w) (d := W2.heap.size) (z := (n : Int)) (b := b) (o := o) (a := a) hM2 (by rw [Int.toNat_natCast]; exact hnr) rfl hgy hzy (by have := hbH.out.size; omega) (by have := hbH.out.size; omega) (by omega) (by omega) (by omega) (by omega) (by omega) hB2.size 41
    rw [Int.toNat_natCast] at hD
    have hfin : RAt _ F W2.heap.size (newD (n : Int) b o a) := hD.below (Below.refl _ _).drew
    have hBf := (hB2.alloc hB2.size (.cells #[.pointer (some ⟨g, 0, none⟩), .slice (some ⟨w1.heap.size + 1, 0, none⟩) n n, .slice (some ⟨w1.heap.size, 0, none⟩) n n, .bool false] 41)).drew
    rw [← hs2]
    refine fresh_K (fun W => RAt W F W2.heap.size (newD (n : Int) b o a) ∧ Below w.heap.size w W) ⟨hfin, hBf⟩ ?_
    clear hfin hBf hD hnr hM2 hb2 hs2 hmk hmk2
    rintro W9 ⟨hR, hB9⟩
    go_wp2
    go_ret
    exact ⟨_, F, rfl, hR, hF, hB9⟩
end Go.Proofs.Ytncbkegflkjlfaa
