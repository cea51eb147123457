/- What the law XorFolds does. -/
import Derived.Test.YtflkkmiehioejaaXorRefs
import Derived.Test.YtflkkmiehioejaaStrsOwn
namespace Go.Proofs.Ytflkkmiehioejaa
open Go.RowKit Xor

theorem strs_mono {w W : World} {A : Option Addr} {ps : List ByteArray} (h : StrsIn w A ps) (hb : Below w.heap.size w W) : StrsIn W A ps := h.below hb
/-- 'append([]string{}, parts...)' in a world that has only grown. -/
theorem append_fresh {w W : World} {A : Option Addr} {cap : Nat} {ps : List ByteArray} (hS : StrsIn w A ps) (hN : A = none → cap = 0) (hl : ps.length ≤ 1000) (hb : Below w.heap.size w W) :
    ∃ A' cap' W', (Builtin.append_ #[22, 22] 22 #[.slice (some ⟨W.heap.size, 0, none⟩) 0 0, .slice A ps.length cap]).run Try.prog (W.alloc (.cells #[] 9)) = .ok (.slice A' ps.length cap') W' ∧
      Row W' w.heap.size A' cap' ps ∧ Below w.heap.size w W' := by
  have hz := hb.size
  have hB1 := hb.alloc hz (.cells #[] 9)
  obtain ⟨A', cap', W', h1, h2, h3, _⟩ := append_row (xs := []) (Row.fresh (W := W) hz) (hS.below hB1) hN (by simp; omega) (by simp; omega) 22
  exact ⟨A', cap', W', h1, h2, hB1.trans (below_row (Row.fresh (W := W) hz) h3 (by simp; omega))⟩

set_option maxHeartbeats 2000000 in
theorem folds_law (A : Option Addr) (cap : Nat) (ps : List ByteArray) (one : ByteArray) (w : World) (hS : StrsIn w A ps) (hN : A = none → cap = 0) (hz : ∀ p ∈ ps, p.size ≤ 140737488351232) (h1 : one.size ≤ maxLen) :
    Calls Try.prog 3 #[.slice A ps.length cap, .string one] w fun e w' => e = .returned (.bool true) ∧ Below w.heap.size w w' := by
  have cm := fun W (hb : Below w.heap.size w W) => much_any A cap ps W hz (hS.below hb)
  unfold maxLen at h1
  by_cases hm : muchB ps = true
  · rw [hm] at cm
    have cmH := Lib.hid cm
    clear cm hm hz hS
    go_enter Try.func3, Try.ntmps3
    go_wp2_with fail
    (with_reducible refine (speaks3 _).mono ?_)
    rintro e w1 ⟨rfl, hb1⟩
    have hB1 := hb1
    clear hb1
    go_wp2_with fail
    (with_reducible refine (cmH.out _ hB1).mono ?_)
    rintro e wq ⟨rfl, rfl⟩
    go_wp2
    go_ret
    exact ⟨rfl, hB1⟩
  rw [Bool.not_eq_true] at hm
  rw [hm] at cm
  have cmH := Lib.hid cm
  obtain ⟨hl, hp⟩ := much_false hm
  clear cm hm hz
  by_cases h5 : 5000 < one.size
  · clear hp hS
    have h5' : 5000 < (one.size : Int) := by omega
    go_enter Try.func3, Try.ntmps3
    go_wp2_with fail
    (with_reducible refine (speaks3 _).mono ?_)
    rintro e w1 ⟨rfl, hb1⟩
    have hB1 := hb1
    clear hb1
    go_wp2_with fail
    (with_reducible refine (cmH.out _ hB1).mono ?_)
    rintro e wq ⟨rfl, rfl⟩
    go_wp2
    go_ret
    exact ⟨rfl, hB1⟩
  have h5' : ¬ 5000 < (one.size : Int) := by omega
  have hlong : longest ps ≤ 65536 := longest_le fun p h => Nat.le_trans (hp p h) (by omega)
  have cr := Lib.hid (fun W (hb : Below w.heap.size w W) => reffold_any A cap ps W (by omega) (fun p h => Nat.le_trans (hp p h) (by omega)) (hS.below hb))
  have cf := Lib.hid (fun A' cap' W (h : StrsIn W A' ps) => fold_any A' cap' ps W (by omega) hlong h)
  have cmi := Lib.hid (fun A' cap' W (h : StrsIn W A' ps) => missing_any one A' cap' ps W (by omega) (by omega) hlong h)
  have ca1 := Lib.hid (fun W => refadd_any one (foldS ps) W (by omega) (by rw [size_foldS]; exact hlong))
  obtain ⟨first, hfz, hfirst⟩ : ∃ first : ByteArray, first.size ≤ 5000 ∧ ((ps = [] ∧ first = ⟨#[]⟩) ∨ (∃ h : 0 < ps.length, ps[0] = first)) := by
    by_cases h0 : 0 < ps.length
    · exact ⟨ps[0], hp _ (List.getElem_mem _), .inr ⟨h0, rfl⟩⟩
    · exact ⟨⟨#[]⟩, Nat.zero_le _, .inl ⟨List.eq_nil_of_length_eq_zero (by omega), rfl⟩⟩
  have ca2 := Lib.hid (fun W => xadd_any first one W (by omega) (by omega))
  have ca3 := Lib.hid (fun W => refadd_any first one W (by omega) (by omega))
  have hSH := Lib.hid hS
  have hNH := Lib.hid hN
  generalize foldS ps = fw at cr cf cmi ca1
  clear hS hN hp hlong
  have happ := Lib.hid (fun W (hb : Below w.heap.size w W) => append_fresh hSH.out hNH.out (show ps.length ≤ 1000 by omega) hb)
  rcases hfirst with ⟨h0, rfl⟩ | ⟨h0, h0e⟩
  · have hl0 : ps.length = 0 := by rw [h0]; rfl
    have hl0' : ¬ 0 < (ps.length : Int) := by omega
    have hl0H := Lib.hid hl0
    clear h0 hl0
    go_enter Try.func3, Try.ntmps3
    go_wp2_with fail
    (with_reducible refine (speaks3 _).mono ?_)
    rintro e w1 ⟨rfl, hb1⟩
    have hB1 := hb1
    clear hb1
    go_wp2_with fail
    (with_reducible refine (cmH.out _ hB1).mono ?_)
    rintro e wq ⟨rfl, rfl⟩
    go_wp2_with fail
    (with_reducible refine (cr.out _ hB1).mono ?_)
    rintro e w2 ⟨rfl, hb2⟩
    have hB2 := bmore hB1 hb2
    clear hB1 hb2
    obtain ⟨A', cap', w3, hrun, hrow, hB3⟩ := happ.out w2 hB2
    have hrowH := Lib.hid hrow
    have hB3H := Lib.hid hB3
    clear hrow hB3
    have hrunH := Lib.hid hrun
    clear hrun
    go_wp2_with (at_builtin; refine wpList_append_run (by first | rfl | (simp [Region.wanted, yielded])) (.tmp 24) (.tmp 25) 22 rfl rfl rfl hrunH.out ?_)
    (with_reducible refine (cf.out _ _ _ hrowH.out.strs).mono ?_)
    rintro e w4 ⟨rfl, hb4⟩
    have hB4 := bmore hB3H.out hb4
    clear hrunH hrowH hB3H hb4 hB2
    obtain ⟨A', cap', w5, hrun, hrow, hB5⟩ := happ.out w4 hB4
    have hrowH := Lib.hid hrow
    have hB5H := Lib.hid hB5
    have hrunH := Lib.hid hrun
    clear hrow hB5 hB4 hrun
    go_wp2_with (at_builtin; refine wpList_append_run (by first | rfl | (simp [Region.wanted, yielded])) (.tmp 32) (.tmp 33) 22 rfl rfl rfl hrunH.out ?_)
    (with_reducible refine (cmi.out _ _ _ hrowH.out.strs).mono ?_)
    rintro e w6 ⟨rfl, hb6⟩
    have hB6 := bmore hB5H.out hb6
    clear hrunH hrowH hB5H hb6
    go_wp2_with fail
    (with_reducible refine (ca1.out _).mono ?_)
    rintro e w7 ⟨rfl, hb7⟩
    have hB7 := bmore hB6 hb7
    clear hB6 hb7
    go_wp2_with fail
    (with_reducible refine (ca2.out _).mono ?_)
    rintro e w8 ⟨rfl, hb8⟩
    have hB8 := bmore hB7 hb8
    clear hB7 hb8
    go_wp2_with fail
    (with_reducible refine (ca3.out _).mono ?_)
    rintro e w9 ⟨rfl, hb9⟩
    have hB9 := bmore hB8 hb9
    clear hB8 hb9
    go_wp2
    go_ret
    exact ⟨by simp, hB9⟩
  · have h0i : 0 < (ps.length : Int) := by omega
    have h0eH := Lib.hid h0e
    clear h0e
    go_enter Try.func3, Try.ntmps3
    go_wp2_with fail
    (with_reducible refine (speaks3 _).mono ?_)
    rintro e w1 ⟨rfl, hb1⟩
    have hB1 := hb1
    clear hb1
    go_wp2_with fail
    (with_reducible refine (cmH.out _ hB1).mono ?_)
    rintro e wq ⟨rfl, rfl⟩
    go_wp2_with fail
    (with_reducible refine (cr.out _ hB1).mono ?_)
    rintro e w2 ⟨rfl, hb2⟩
    have hB2 := bmore hB1 hb2
    clear hB1 hb2
    obtain ⟨A', cap', w3, hrun, hrow, hB3⟩ := happ.out w2 hB2
    have hrowH := Lib.hid hrow
    have hB3H := Lib.hid hB3
    clear hrow hB3
    have hrunH := Lib.hid hrun
    clear hrun
    obtain ⟨b, off, rfl, _, hc⟩ := (hSH.out.below hB2).at_ h0
    rw [h0eH.out, Nat.add_zero] at hc
    go_wp2_with (at_builtin; refine wpList_append_run (by first | rfl | (simp [Region.wanted, yielded])) (.tmp 24) (.tmp 25) 22 rfl rfl rfl hrunH.out ?_)
    (with_reducible refine (cf.out _ _ _ hrowH.out.strs).mono ?_)
    rintro e w4 ⟨rfl, hb4⟩
    have hB4 := bmore hB3H.out hb4
    clear hrunH hrowH hB3H hb4 hB2 hc
    obtain ⟨A', cap', w5, hrun, hrow, hB5⟩ := happ.out w4 hB4
    have hrowH := Lib.hid hrow
    have hB5H := Lib.hid hB5
    have hrunH := Lib.hid hrun
    clear hrow hB5 hB4 hrun
    go_wp2_with (at_builtin; refine wpList_append_run (by first | rfl | (simp [Region.wanted, yielded])) (.tmp 32) (.tmp 33) 22 rfl rfl rfl hrunH.out ?_)
    (with_reducible refine (cmi.out _ _ _ hrowH.out.strs).mono ?_)
    rintro e w6 ⟨rfl, hb6⟩
    have hB6 := bmore hB5H.out hb6
    clear hrunH hrowH hB5H hb6
    go_wp2_with fail
    (with_reducible refine (ca1.out _).mono ?_)
    rintro e w7 ⟨rfl, hb7⟩
    have hB7 := bmore hB6 hb7
    clear hB6 hb7
    go_wp2_with fail
    (with_reducible refine (ca2.out _).mono ?_)
    rintro e w8 ⟨rfl, hb8⟩
    have hB8 := bmore hB7 hb8
    clear hB7 hb8
    go_wp2_with fail
    (with_reducible refine (ca3.out _).mono ?_)
    rintro e w9 ⟨rfl, hb9⟩
    have hB9 := bmore hB8 hb9
    clear hB8 hb9
    go_wp2
    go_ret
    exact ⟨by simp, hB9⟩
end Go.Proofs.Ytflkkmiehioejaa
