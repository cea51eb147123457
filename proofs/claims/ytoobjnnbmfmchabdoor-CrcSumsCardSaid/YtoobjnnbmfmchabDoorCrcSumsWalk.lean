/- What the law CrcSums does. -/
import Derived.Test.YtoobjnnbmfmchabDoorCrcBytes
import Derived.RangeFuncBox
namespace Go.Proofs.YtoobjnnbmfmchabDoor
open Go.RowKit Crc

theorem infoStr : (Tryd.prog.info? 9).map (fun i => (i.zero, i.size, i.bytes)) = some (some (.string ByteArray.empty), 1, 16) := by kernel_rfl

/-- So many parts have been cut off; what is left. -/
def Cut (w wr : World) (s : ByteArray) (v : Value) (rest : ByteArray) (ss : List ByteArray) : Prop :=
  rest.size ≤ s.size ∧ flat ss ++ rest.data.toList = s.data.toList ∧ wr.ownsRow w.heap.size 9 1 v ss.length (ss.map Value.string) ∧ Below w.heap.size w wr ∧ ∀ x ∈ ss, x.size ≤ s.size

theorem Cut.step {w wr w' : World} {s rest r1 r2 : ByteArray} {v v' : Value} {ss : List ByteArray} {o : Obj} (h : Cut w wr s v rest ss) (hown' : w'.ownsRow w.heap.size 9 1 v' (ss.length + 1) (ss.map Value.string ++ [.string r1]))
    (hg : (wr.alloc o).grownBy w' v.ownBlock) (hr : r1.data.toList ++ r2.data.toList = rest.data.toList) : Cut w w' s v' r2 (ss ++ [r1]) := by
  obtain ⟨h1, h2, h3, h4, h5⟩ := h
  have hl := congrArg List.length hr
  simp only [List.length_append, Array.length_toList] at hl
  have e1 : r1.size ≤ rest.size := by show r1.data.size ≤ rest.data.size; omega
  have e2 : r2.size ≤ rest.size := by show r2.data.size ≤ rest.data.size; omega
  refine ⟨by omega, by rw [flat_snoc, List.append_assoc, hr]; exact h2, by simpa using hown', (h4.alloc h4.size o).grown hg (by have := h4.size; simp; omega) (fun k e => (h3.lt k e).1), ?_⟩
  intro x hx
  rcases List.mem_append.1 hx with hx | hx
  · exact h5 x hx
  · obtain rfl : x = r1 := by simpa using hx
    omega

theorem parts_of (r : ByteArray) (m : Nat) (hm : m ≤ r.size) : (r.extract 0 m).data.toList ++ (r.extract m r.size).data.toList = r.data.toList := by
  have hl : m ≤ r.data.toList.length := hm
  rw [ByteArray.data_extract, ByteArray.data_extract, Array.toList_extract, Array.toList_extract]
  have e1 : r.data.toList.extract 0 m = r.data.toList.take m := by simp [List.extract]
  have e2 : r.data.toList.extract m r.size = r.data.toList.drop m := by
    simp only [List.extract]
    exact List.take_of_length_le (by simp)
  rw [e1, e2, List.take_append_drop]

set_option maxHeartbeats 1000000 in
theorem sums_any (s : ByteArray) (A : Option Addr) (cap : Nat) (zs : List Int) (w : World) (hT : Tab w) (hs : s.size ≤ maxLen) (hzl : zs.length ≤ maxLen) (hI : IntsIn w A zs) :
    Calls Tryd.prog 3 #[.string s, .slice A zs.length cap] w fun e w' => e = .returned (.bool true) ∧ Below w.heap.size w w' := by
  unfold maxLen at hs hzl
  have hTA : ∀ wx, Below w.heap.size w wx → Tab wx := fun wx h => hT.below h
  have hTH := Lib.hid hTA
  have hIH := Lib.hid hI
  clear hT hTA hI
  go_enter Tryd.func3, Tryd.ntmps3
  go_upto_region 3 with (go_at_call 9; refine (speaks_any _ (hTH.out _ ?_)).mono ?_; (first | exact Below.refl _ _ | skip); rintro e w1 ⟨rfl, hb⟩)
  by_cases h5 : 5000 < s.size
  · have hs3 : decide (5000 < (s.size : Int)) = true := by simp; omega
    go_wp2
    go_ret
    exact ⟨rfl, hb⟩
  have hs3 : decide (5000 < (s.size : Int)) = false := by simp; omega
  go_wp2
  go_loopw [5, 6, 7] (fun v r i wr => ∃ (k : Nat) (ss : List ByteArray) (rest : ByteArray), k ≤ 50 ∧ k ≤ zs.length ∧ i = .int .i64 (k : Int) ∧ r = .string rest ∧ ss.length = k ∧ Cut w wr s v rest ss) (fun _ _ i _ => 50 - (intOf i).toNat)
  case atStart => exact ⟨0, [], s, by omega, by omega, rfl, rfl, rfl, Nat.le_refl _, by simp [flat], World.ownsRow_nil _ _ _ _, hb, by simp⟩
  case round =>
    clear hb
    obtain ⟨k, ss, rest, hk50, hkz, rfl, rfl, hss, hC⟩ := hrel
    by_cases hlt : k < zs.length ∧ k < 50
    · obtain ⟨h1, h2⟩ := hlt
      have hg1 : decide ((k : Int) < (zs.length : Int)) = true := by simp; omega
      have hg2 : decide ((k : Int) < 50) = true := by simp; omega
      obtain ⟨b, off, rfl, hlt, hc⟩ := (hIH.out.below hC.2.2.2.1).at_ h1
      obtain ⟨m, hm, hmask0⟩ := mask_nat zs[k] 5 31 rfl (by omega)
      have hmask : bits .and .i64 zs[k] 31 = (m : Int) := hmask0
      clear hmask0
      generalize zs[k] = c at hc hmask
      have hown := hC.2.2.1
      have hB := hC.2.2.2.1
      have hz := hB.size
      have hCH := Lib.hid hC
      have hrs : rest.size ≤ 5000 := by have := hC.1; omega
      have hssl : ss.length ≤ 50 := by omega
      clear hC
      obtain ⟨i0, hi, hz0, hz1, hz2⟩ := info_parts infoStr
      subst hss
      rcases Nat.lt_or_ge rest.size m with hmin | hmin
      · go_wp2_with (at_builtin; refine wpList_append_own _ rfl _ _ 24 rfl w.heap.size 9 i0 (.string ByteArray.empty) 1 16 Tryd.underlying24 hi hz0 hz1 hz2 rfl (by decide) _ _ _ rfl (hown.alloc _) ⟨wr.heap.size, 0, none⟩ 1 1 [.string rest] rfl rfl (cell_one_new _ _ _) (by simp [Value.oneCell']) (by unfold maxLen; omega) (by omega) (by simp; omega) ?_; intro v' w' hown' hgrow _; have hnext := Lib.hid (hCH.out.step (r2 := ByteArray.empty) hown' hgrow (by simp)))
        go_roundw
        case rel => exact ⟨ss.length + 1, ss ++ [rest], ByteArray.empty, by omega, by omega, by go_num, rfl, by simp, hnext.out⟩
        case measure => simp [intOf]; omega
      · go_wp2_with (at_builtin; refine wpList_append_own _ rfl _ _ 24 rfl w.heap.size 9 i0 (.string ByteArray.empty) 1 16 Tryd.underlying24 hi hz0 hz1 hz2 rfl (by decide) _ _ _ rfl (hown.alloc _) ⟨wr.heap.size, 0, none⟩ 1 1 [.string (rest.extract 0 m)] rfl rfl (cell_one_new _ _ _) (by simp [Value.oneCell']) (by unfold maxLen; omega) (by omega) (by simp; omega) ?_; intro v' w' hown' hgrow _; have hnext := Lib.hid (hCH.out.step (r2 := rest.extract m rest.size) hown' hgrow (parts_of rest m hmin)))
        go_roundw
        case rel => exact ⟨ss.length + 1, ss ++ [rest.extract 0 m], rest.extract m rest.size, by omega, by omega, by go_num, rfl, by simp, hnext.out⟩
        case measure => simp [intOf]; omega
    · have hg : k < zs.length → decide ((k : Int) < 50) = false := fun h => by simp; omega
      have hown := hC.2.2.1
      have hB := hC.2.2.2.1
      have hz := hB.size
      have hCH := Lib.hid hC
      have hssl : ss.length ≤ 50 := by omega
      clear hC
      subst hss
      obtain ⟨i0, hi, hz0, hz1, hz2⟩ := info_parts infoStr
      have hR := Lib.hid (fun w => ref_any s w (by unfold maxLen; omega))
      by_cases hk : ss.length < zs.length
      · have hg3 := hg hk
        go_wp2_with (first | (at_builtin; refine wpList_append_own _ rfl _ _ 24 rfl w.heap.size 9 i0 (.string ByteArray.empty) 1 16 Tryd.underlying24 hi hz0 hz1 hz2 rfl (by decide) _ _ _ rfl (hown.alloc _) ⟨wr.heap.size, 0, none⟩ 1 1 [.string rest] rfl rfl (cell_one_new _ _ _) (by simp [Value.oneCell']) (by unfold maxLen; omega) (by omega) (by simp; omega) ?_; intro v' w' hown' hgrow _; obtain ⟨g', cap', rfl⟩ := ownsRow_succ hown'; have hnext := Lib.hid (hCH.out.step (r2 := ByteArray.empty) hown' hgrow (by simp))) | (go_at_call 10; refine (hR.out _).mono ?_; rintro e w'' ⟨rfl, rfl⟩))
        have hB' := hnext.out.2.2.2.1
        have hb1 : Below w'.heap.size w' (w'.alloc (.cells #[.string s] 9)) := (Below.refl _ _).alloc (Nat.le_refl _) _
        have hT2 := hTH.out _ (hB'.trans (hb1.mono hB'.size))
        refine (sum_one s _ _ hT2 (by unfold maxLen; omega) (by go_simp)).mono ?_
        rintro e w'' ⟨rfl, rfl⟩
        have hfin := sum_any (ss ++ [rest]) g' 0 cap' _ hT2 (by simp; omega) (by
          intro x hx
          have h1 := hnext.out.2.2.2.2 x hx
          unfold maxLen; omega) (by
          intro i hi
          have hlt := (hown'.lt g' rfl).2
          rw [hb1.cell (p := ⟨g', 0 + i, none⟩) hlt, Nat.zero_add, hown'.cellAt i (by simp at hi; omega)]
          rw [← List.map_singleton (f := Value.string), ← List.map_append, List.getElem?_map, List.getElem?_eq_getElem hi]
          rfl)
        have hflat : flat (ss ++ [rest]) = s.data.toList := by have := hnext.out.2.1; simpa using this
        rw [hflat, List.length_append, List.length_singleton] at hfin
        have hfinH := Lib.hid hfin
        clear hfin hT2 hflat
        have hWe := hB'.trans (hb1.mono hB'.size)
        clear hB' hb1 hnext hown' hgrow
        go_wp2_with fail
        refine hfinH.out.mono ?_
        rintro e w'' ⟨rfl, rfl⟩
        go_wp2
        go_ret
        exact ⟨by simp, hWe⟩
      · go_wp2_with (first | (at_builtin; refine wpList_append_own _ rfl _ _ 24 rfl w.heap.size 9 i0 (.string ByteArray.empty) 1 16 Tryd.underlying24 hi hz0 hz1 hz2 rfl (by decide) _ _ _ rfl (hown.alloc _) ⟨wr.heap.size, 0, none⟩ 1 1 [.string rest] rfl rfl (cell_one_new _ _ _) (by simp [Value.oneCell']) (by unfold maxLen; omega) (by omega) (by simp; omega) ?_; intro v' w' hown' hgrow _; obtain ⟨g', cap', rfl⟩ := ownsRow_succ hown'; have hnext := Lib.hid (hCH.out.step (r2 := ByteArray.empty) hown' hgrow (by simp))) | (go_at_call 10; refine (hR.out _).mono ?_; rintro e w'' ⟨rfl, rfl⟩))
        have hB' := hnext.out.2.2.2.1
        have hb1 : Below w'.heap.size w' (w'.alloc (.cells #[.string s] 9)) := (Below.refl _ _).alloc (Nat.le_refl _) _
        have hT2 := hTH.out _ (hB'.trans (hb1.mono hB'.size))
        refine (sum_one s _ _ hT2 (by unfold maxLen; omega) (by go_simp)).mono ?_
        rintro e w'' ⟨rfl, rfl⟩
        have hfin := sum_any (ss ++ [rest]) g' 0 cap' _ hT2 (by simp; omega) (by
          intro x hx
          have h1 := hnext.out.2.2.2.2 x hx
          unfold maxLen; omega) (by
          intro i hi
          have hlt := (hown'.lt g' rfl).2
          rw [hb1.cell (p := ⟨g', 0 + i, none⟩) hlt, Nat.zero_add, hown'.cellAt i (by simp at hi; omega)]
          rw [← List.map_singleton (f := Value.string), ← List.map_append, List.getElem?_map, List.getElem?_eq_getElem hi]
          rfl)
        have hflat : flat (ss ++ [rest]) = s.data.toList := by have := hnext.out.2.1; simpa using this
        rw [hflat, List.length_append, List.length_singleton] at hfin
        have hfinH := Lib.hid hfin
        clear hfin hT2 hflat
        have hWe := hB'.trans (hb1.mono hB'.size)
        clear hB' hb1 hnext hown' hgrow
        go_wp2_with fail
        refine hfinH.out.mono ?_
        rintro e w'' ⟨rfl, rfl⟩
        go_wp2
        go_ret
        exact ⟨by simp, hWe⟩
end Go.Proofs.YtoobjnnbmfmchabDoor
