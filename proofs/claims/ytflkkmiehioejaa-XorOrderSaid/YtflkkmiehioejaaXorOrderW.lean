/- What the law XorOrder does. -/
import Derived.Test.YtflkkmiehioejaaXorBase
import Derived.Test.YtflkkmiehioejaaXorPad
import Derived.Test.YtflkkmiehioejaaHeldMany
import Derived.Deep.RegionHeld3
namespace Go.Proofs.Ytflkkmiehioejaa
open Go.RowKit Xor

theorem xorAt_append (a b : List ByteArray) (i : Nat) : xorAt (a ++ b) i = xorAt a i ^^^ xorAt b i := by
  induction a with
  | nil => show xorAt b i = 0 ^^^ xorAt b i; rw [UInt8.zero_xor]
  | cons q a ih => show byteAt q i ^^^ xorAt (a ++ b) i = _; rw [ih, ← UInt8.xor_assoc]; rfl
theorem longest_append (a b : List ByteArray) : longest (a ++ b) = max (longest a) (longest b) := by
  induction a with
  | nil => show longest b = max 0 (longest b); omega
  | cons q a ih => show max q.size (longest (a ++ b)) = max (max q.size (longest a)) (longest b); rw [ih]; omega
theorem turned_fold (ps : List ByteArray) (k : Nat) : foldS (ps.drop k ++ ps.take k) = foldS ps := by
  have h := List.take_append_drop k ps
  refine text_ext ?_ fun i _ => ?_
  · rw [size_foldS, size_foldS, longest_append]
    have := longest_append (ps.take k) (ps.drop k)
    rw [h] at this; omega
  · rw [byteAt_foldS, byteAt_foldS, xorAt_append]
    have := xorAt_append (ps.take k) (ps.drop k) i
    rw [h] at this
    rw [this, UInt8.xor_comm]
theorem twice_fold (l : List ByteArray) (q : ByteArray) (h : q.size ≤ longest l) : foldS (l ++ [q, q]) = foldS l := by
  have e : longest [q, q] = q.size := by show max q.size (max q.size 0) = _; omega
  refine text_ext (by rw [size_foldS, size_foldS, longest_append, e]; omega) fun i _ => ?_
  rw [byteAt_foldS, byteAt_foldS, xorAt_append, xorAt_two, UInt8.xor_self, UInt8.xor_zero]
theorem cells_two (W : World) (q r : ByteArray) (t : TypeId) : (W.alloc (.cells #[.string q, .string r] t)).cell? ⟨W.heap.size, 0, none⟩ = some (.string q) ∧ (W.alloc (.cells #[.string q, .string r] t)).cell? ⟨W.heap.size, 1, none⟩ = some (.string r) := by
  refine ⟨?_, ?_⟩ <;> go_simp
theorem strs_drop {W : World} {b off k : Nat} {ps : List ByteArray} (hb : b < W.heap.size) (h : ∀ i (h : i < ps.length), W.cell? ⟨b, off + i, none⟩ = some (.string ps[i])) : StrsIn W (some ⟨b, off + k, none⟩) (ps.drop k) :=
  .inr ⟨b, off + k, rfl, hb, fun i hi => by
    have hi' : k + i < ps.length := by rw [List.length_drop] at hi; omega
    rw [Nat.add_assoc, h (k + i) hi', List.getElem_drop]⟩
theorem strs_take {W : World} {b off k : Nat} {ps : List ByteArray} (hb : b < W.heap.size) (h : ∀ i (h : i < ps.length), W.cell? ⟨b, off + i, none⟩ = some (.string ps[i])) : StrsIn W (some ⟨b, off, none⟩) (ps.take k) :=
  .inr ⟨b, off, rfl, hb, fun i hi => by
    have hi' : i < ps.length := by rw [List.length_take] at hi; omega
    rw [h i hi', List.getElem_take]⟩

set_option maxRecDepth 100000 in
set_option maxHeartbeats 4000000 in
theorem order_law (A : Option Addr) (cap : Nat) (ps : List ByteArray) (x : Int) (w : World) (hS : StrsIn w A ps) (hcap : ps.length ≤ cap) (hz : ∀ p ∈ ps, p.size ≤ 140737488351232) :
    Calls Try.prog 6 #[.slice A ps.length cap, .int .i64 x] w fun e w' => e = .returned (.bool true) ∧ Below w.heap.size w w' := by
  have cm := fun W (hb : Below w.heap.size w W) => much_any A cap ps W hz (hS.below hb)
  by_cases hm : muchB ps = true
  · rw [hm] at cm
    have cmH := Lib.hid cm
    clear cm hm hz hS
    go_enter Try.func6, Try.ntmps6
    go_wp2_with fail
    (with_reducible refine (speaks3 _).mono ?_)
    rintro e w1 ⟨rfl, hb1⟩
    have hB1 := hb1
    clear hb1
    go_wp2_with fail
    (with_reducible refine (cmH.out _ hB1).mono ?_)
    rintro e wq ⟨rfl, rfl⟩
    go_wp2
    go_ret
    exact ⟨rfl, hB1⟩
  rw [Bool.not_eq_true] at hm
  rw [hm] at cm
  have cmH := Lib.hid cm
  obtain ⟨hl, hp⟩ := much_false hm
  clear cm hm hz
  by_cases h0 : ps.length = 0
  · have h0b : ((ps.length : Int) == 0) = true := by rw [h0]; rfl
    have h0c : (ps.length : Int) = 0 := by omega
    have h0H := Lib.hid h0
    clear hp hS h0
    go_enter Try.func6, Try.ntmps6
    go_wp2_with fail
    (with_reducible refine (speaks3 _).mono ?_)
    rintro e w1 ⟨rfl, hb1⟩
    have hB1 := hb1
    clear hb1
    go_wp2_with fail
    (with_reducible refine (cmH.out _ hB1).mono ?_)
    rintro e wq ⟨rfl, rfl⟩
    go_wp2
    go_ret
    exact ⟨rfl, hB1⟩
  have h0b : ((ps.length : Int) == 0) = false := by rw [beq_eq_false_iff_ne]; omega
  have h0c : ¬ (ps.length : Int) = 0 := by omega
  have h0d : ¬ ps.length = 0 := h0
  obtain ⟨t, y, ex1, ex2, y1, y2, t1, t2, _, _, _⟩ := mod_in x (ps.length : Int) (by omega) (by omega)
  obtain ⟨bn, rfl⟩ := Int.eq_ofNat_of_zero_le y1
  have hbn : bn < ps.length := by omega
  have hlong : longest ps ≤ 65536 := longest_le fun p h => Nat.le_trans (hp p h) (by omega)
  obtain ⟨b, off, rfl, hltb, hcs⟩ : ∃ b off, A = some ⟨b, off, none⟩ ∧ b < w.heap.size ∧ ∀ i (h : i < ps.length), w.cell? ⟨b, off + i, none⟩ = some (.string ps[i]) := by
    rcases hS with h | h
    · rw [h] at h0d; exact absurd rfl h0d
    · exact h
  have hSH := Lib.hid hS
  have hcsH := Lib.hid hcs
  have exH := Lib.hid (show _ ∧ _ from ⟨ex1, ex2⟩)
  have hcne : ¬ cap = bn := by omega
  have hbI : (bn : Int) ≤ (ps.length : Int) := by omega
  have hbC : (bn : Int) ≤ (cap : Int) := by omega
  have hbN : bn ≤ ps.length := by omega
  have hbNc : bn ≤ cap := by omega
  have hlongH := Lib.hid hlong
  have hpH := Lib.hid hp
  clear hS hp ex1 ex2 hcs hlong
  go_enter Try.func6, Try.ntmps6
  go_wp2_with fail
  (with_reducible refine (speaks3 _).mono ?_)
  rintro e w1 ⟨rfl, hb1⟩
  have hB1 := hb1
  clear hb1
  go_wp2_with fail
  (with_reducible refine (cmH.out _ hB1).mono ?_)
  rintro e wq ⟨rfl, rfl⟩
  obtain ⟨ex1, ex2⟩ := exH.out
  go_wp2_with fail
  clear ex1 ex2
  have hd1 : Below w.heap.size w (w1.drew.alloc (.cells #[] 9)) := hB1.drew.alloc hB1.size _
  have hcd : ∀ W, Below w.heap.size w W → ∀ i (h : i < ps.length), W.cell? ⟨b, off + i, none⟩ = some (.string ps[i]) := fun W hb i hi => (hb.cell (p := ⟨b, off + i, none⟩) hltb).trans (hcsH.out i hi)
  have hcdH := Lib.hid hcd
  obtain ⟨A1, c1, u1, hrun1, hR1, hg1, _⟩ := append_row (xs := []) (Row.fresh (W := w1.drew) (base := w1.heap.size) (Nat.le_refl _)) (strs_drop (k := bn) (Nat.lt_of_lt_of_le hltb hd1.size) (hcd _ hd1)) (cap2 := cap - bn) (fun h => by cases h) (by rw [List.length_drop]; simp; omega) (by simp) 22
  have hbu1 : Below w1.heap.size w1 u1 := ((Below.refl _ _).drew.alloc (Nat.le_refl _) _).trans (below_row (Row.fresh (W := w1.drew) (base := w1.heap.size) (Nat.le_refl _)) hg1 (by simp))
  have hd2 : Below w.heap.size w u1 := hB1.trans (hbu1.mono hB1.size)
  obtain ⟨A2, c2, u2, hrun2, hR2, hg2, _⟩ := append_row hR1 (strs_take (k := bn) (Nat.lt_of_lt_of_le hltb hd2.size) (hcd _ hd2)) (cap2 := cap) (fun h => by cases h) (by rw [List.nil_append, List.length_drop, List.length_take]; omega) hbu1.size 22
  have hbu2 : Below w1.heap.size w1 u2 := hbu1.trans (below_row hR1 hg2 hbu1.size)
  rw [List.nil_append] at hrun1 hrun2 hR2
  rw [List.length_drop] at hrun1
  rw [List.length_take, Nat.min_eq_left hbN, List.length_append, List.length_drop, List.length_take, Nat.min_eq_left hbN, Nat.sub_add_cancel hbN] at hrun2
  have hrun1H := Lib.hid hrun1
  have hrun2H := Lib.hid hrun2
  have hbu2H := Lib.hid hbu2
  have hR2H := Lib.hid hR2
  have hB1H := Lib.hid hB1
  clear hrun1 hrun2 hR1 hR2 hg1 hg2 hbu1 hbu2 hd1 hd2 hcd
  go_wp2_with fail
  refine region_anyC (fun _ => true) (fun _ => True) (by kernel_rfl) ?_
  refine anyL_take 1 (v := ?_) rfl (by kernel_rfl) (fun _ _ _ h => h) (Or.inl ⟨by rfl, ?_⟩) trivial ?_
  rotate_left
  focus (intro W hW; go_simp; try with_reducible rfl)
  simp only [Act.put, List.setIfInBounds_toArray, List.set_cons_zero, List.set_cons_succ]
  refine anyL_take 2 (v := ?_) rfl (by kernel_rfl) (fun _ _ _ h => h) (Or.inl ⟨by rfl, ?_⟩) trivial ?_
  rotate_left
  focus (intro W hW; go_simp; try with_reducible rfl)
  simp only [Act.put, List.setIfInBounds_toArray, List.set_cons_zero, List.set_cons_succ]
  refine anyL_take 3 (v := ?_) rfl (by kernel_rfl) (fun _ _ _ h => h) (Or.inl ⟨by rfl, ?_⟩) trivial ?_
  rotate_left
  focus (intro W hW; go_simp; try with_reducible rfl)
  simp only [Act.put, List.setIfInBounds_toArray, List.set_cons_zero, List.set_cons_succ]
  refine anyL_take 5 (v := ?_) rfl (by kernel_rfl) (fun _ _ _ h => h) (Or.inl ⟨by rfl, ?_⟩) trivial ?_
  rotate_left
  focus (intro W hW; go_simp; try with_reducible rfl)
  simp only [Act.put, List.setIfInBounds_toArray, List.set_cons_zero, List.set_cons_succ]
  refine anyL_take 6 (v := ?_) rfl (by kernel_rfl) (fun _ _ _ h => h) (Or.inl ⟨by rfl, ?_⟩) trivial ?_
  rotate_left
  focus (intro W hW; go_simp; try with_reducible rfl)
  simp only [Act.put, List.setIfInBounds_toArray, List.set_cons_zero, List.set_cons_succ]
  refine anyL_take 7 (v := ?_) rfl (by kernel_rfl) (fun _ _ _ h => h) (Or.inl ⟨by rfl, ?_⟩) trivial ?_
  rotate_left
  focus (intro W hW; go_simp; try with_reducible rfl)
  simp only [Act.put, List.setIfInBounds_toArray, List.set_cons_zero, List.set_cons_succ]
  refine anyL_one 0 rfl (by kernel_rfl) (fun K hK => ?_)
  go_simp
  refine hK.out _ _ (fun _ => trivial) ?_
  clear hK K
  try simp only [Act.put, List.setIfInBounds_toArray, List.set_cons_zero, List.set_cons_succ]
  refine anyL_one 4 rfl (by kernel_rfl) (fun K hK => ?_)
  refine step_append_run rfl (.tmp 27) (.tmp 30) 22 rfl rfl rfl hrun1H.out ?_
  refine hK.out _ _ (fun _ => trivial) ?_
  clear hK K
  try simp only [Act.put, List.setIfInBounds_toArray, List.set_cons_zero, List.set_cons_succ]
  refine anyL_one 8 rfl (by kernel_rfl) (fun K hK => ?_)
  refine step_append_run rfl (.tmp 31) (.tmp 34) 22 rfl rfl rfl hrun2H.out ?_
  refine hK.out _ _ (fun _ => trivial) ?_
  clear hK K
  try simp only [Act.put, List.setIfInBounds_toArray, List.set_cons_zero, List.set_cons_succ]
  refine anyL_one 9 rfl (by kernel_rfl) (fun K hK => ?_)
  go_simp
  refine hK.out _ _ (fun _ => trivial) ?_
  clear hK K
  try simp only [Act.put, List.setIfInBounds_toArray, List.set_cons_zero, List.set_cons_succ]
  refine anyC_done (by kernel_rfl) ?_ _
  simp only [Exit.then]
  refine fresh_K (fun W => Row W w1.heap.size A2 c2 (ps.drop bn ++ ps.take bn) ∧ Below w1.heap.size w1 W) ⟨hR2H.out, hbu2H.out⟩ ?_
  clear hrun1H hrun2H hbu2H hR2H
  rintro w2 ⟨hRt, hBt⟩
  have hRtH := Lib.hid hRt
  have hB2 := hB1H.out.trans (hBt.mono hB1.size)
  clear hB1 hRt hBt
  have hB2H := Lib.hid hB2
  have cf := fold_any (some ⟨b, off, none⟩) cap ps w2 (by omega) hlongH.out (hSH.out.below hB2)
  obtain ⟨L, hL⟩ : ∃ L, ps.drop bn ++ ps.take bn = L := ⟨_, rfl⟩
  have hLl : L.length = ps.length := by rw [← hL, List.length_append, List.length_drop, List.length_take]; omega
  have hLf : foldS L = foldS ps := by rw [← hL]; exact turned_fold ps bn
  have hLlong : longest L = longest ps := by rw [← size_foldS, hLf, size_foldS]
  have hqz := hpH.out ps[bn] (List.getElem_mem _)
  have hqL : ps[bn].size ≤ longest L := by rw [hLlong]; exact longest_ge (List.getElem_mem _)
  have hcq := fun W hb => hcdH.out W hb bn hbn
  generalize ps[bn] = q at hqz hqL hcq
  have hLq := twice_fold L q hqL
  rw [hLf] at hLq
  have hRt2 : Row w2 w1.heap.size A2 c2 L := by rw [← hL]; exact hRtH.out
  have hlq : longest (L ++ [q, q]) ≤ 65536 := by
    rw [longest_append, hLlong]
    have e : longest [q, q] = q.size := by show max q.size (max q.size 0) = _; omega
    have := hlongH.out
    omega
  have hlL : longest L ≤ 65536 := by rw [hLlong]; exact hlongH.out
  have cf2 := fun A' c' W h => fold_any A' c' L W (by omega) hlL h
  have cf3 := fun A' c' W h => fold_any A' c' (L ++ [q, q]) W (by rw [List.length_append]; simp; omega) hlq h
  rw [hLf, hLl] at cf2
  rw [hLq, show (L ++ [q, q]).length = ps.length + 2 by rw [List.length_append, hLl]; rfl] at cf3
  generalize foldS ps = f at cf cf2 cf3
  have cfH := Lib.hid cf
  have cf2H := Lib.hid cf2
  have cf3H := Lib.hid cf3
  have hRt2H := Lib.hid hRt2
  have hLlH := Lib.hid hLl
  have hcqH := Lib.hid hcq
  clear cf cf2 cf3 hRt2 hLl hLf hLlong hqL hLq hL hRtH hlq hlL hcq hB2
  go_wp2_with fail
  (with_reducible refine cfH.out.mono ?_)
  rintro e w3 ⟨rfl, hb3⟩
  have hB3 := bmore hB2H.out hb3
  have hRt3 := hRt2H.out.below hb3
  have hB3H := Lib.hid hB3
  have hcell := Lib.hid (fun W (hb : Below w3.heap.size w3 W) => hcqH.out W (bmore hB3H.out hb))
  have hTS : ∀ W, Below w3.heap.size w3 W → StrsIn W A2 L := fun W hb => (hRt3.below hb).strs
  have hTSH := Lib.hid hTS
  have hNT := hRt3.none_cap
  have hNTH := Lib.hid hNT
  clear hb3 hB3 hRt2H hRt3 hNT hTS hB2H
  go_upto_region 8 with fail
  go_cut [7] (fun s7 wx => ∃ (A4 : Option Addr) (c4 : Nat), s7 = .slice A4 (ps.length + 2) c4 ∧ Row wx w3.heap.size A4 c4 (L ++ [q, q]) ∧ Below w3.heap.size w3 wx)
  case first =>
    have hD : Below w3.heap.size w3 w3.drew := (Below.refl _ _).drew
    have hE : Below w3.heap.size w3 (w3.drew.alloc (.cells #[] 9)) := hD.alloc hD.size _
    have hET : Below w3.heap.size w3 ((w3.drew.alloc (.cells #[] 9)).alloc (.cells #[.string q, .string q] 9)) := hE.alloc hE.size _
    have hTb : Below w3.heap.size w3 (w3.drew.alloc (.cells #[.string q, .string q] 9)) := hD.alloc hD.size _
    have hTE : Below w3.heap.size w3 ((w3.drew.alloc (.cells #[.string q, .string q] 9)).alloc (.cells #[] 9)) := hTb.alloc hTb.size _
    have hfr := Row.fresh (W := w3.drew) (base := w3.heap.size) (Nat.le_refl _)
    have hfr2 := Row.fresh (W := w3.drew.alloc (.cells #[.string q, .string q] 9)) (base := w3.heap.size) (by simp)
    have hlen := hLlH.out
    have hs1 : (w3.drew.alloc (.cells #[.string q, .string q] 9)).heap.size = w3.heap.size + 1 := by simp
    -- the empty row first, appended to, and then the two
    obtain ⟨Aa, ca, ua, hra, hRa, hga, _⟩ := append_row (xs := []) hfr (hTSH.out _ hE) hNTH.out (by simp; omega) hE.size 22
    have hBa := hE.trans (below_row hfr hga hE.size)
    rw [List.nil_append] at hra hRa
    obtain ⟨Aa2, ca2, ua2, hra2, hRa2, hga2, _⟩ := append_row (hRa.alloc (.cells #[.string q, .string q] 9)) (strs_two (W := ua) (a := q) (b := q) 9) (cap2 := 2) (fun h => by cases h) (by simp; omega) (by have := hBa.size; simp; omega) 22
    have hBaT := hBa.alloc hBa.size (.cells #[.string q, .string q] 9)
    have hBa2 := hBaT.trans (below_row (hRa.alloc (.cells #[.string q, .string q] 9)) hga2 hBaT.size)
    -- the empty row, the two, and then the appends
    obtain ⟨Ab, cb, ub, hrb, hRb, hgb, _⟩ := append_row (xs := []) (hfr.alloc (.cells #[.string q, .string q] 9)) (hTSH.out _ hET) hNTH.out (by simp; omega) hET.size 22
    have hBb := hET.trans (below_row (hfr.alloc (.cells #[.string q, .string q] 9)) hgb hET.size)
    rw [List.nil_append] at hrb hRb
    have hsE : (w3.drew.alloc (.cells #[] 9)).heap.size = w3.heap.size + 1 := by simp
    have hcb := cells_two (w3.drew.alloc (.cells #[] 9)) q q 9
    rw [hsE] at hcb
    have hTcb := strs_of_two ((hgb.cell_far ⟨w3.heap.size + 1, 0, none⟩ (by simp) (by simp [Value.ownBlock])).trans hcb.1) ((hgb.cell_far ⟨w3.heap.size + 1, 1, none⟩ (by simp) (by simp [Value.ownBlock])).trans hcb.2)
    obtain ⟨Ab2, cb2, ub2, hrb2, hRb2, hgb2, _⟩ := append_row hRb hTcb (cap2 := 2) (fun h => by cases h) (by simp; omega) hBb.size 22
    have hBb2 := hBb.trans (below_row hRb hgb2 hBb.size)
    -- the two, the empty row, and then the appends
    rw [hs1] at hfr2
    obtain ⟨Ac, cc, uc, hrc, hRc, hgc, _⟩ := append_row (xs := []) hfr2 (hTSH.out _ hTE) hNTH.out (by simp; omega) hTE.size 22
    have hBc := hTE.trans (below_row hfr2 hgc hTE.size)
    rw [List.nil_append] at hrc hRc
    have hcc := cells_two w3.drew q q 9
    have hcc1 := (World.cell?_alloc_lt (w3.drew.alloc (.cells #[.string q, .string q] 9)) (.cells #[] 9) ⟨w3.heap.size, 0, none⟩ (by simp)).trans hcc.1
    have hcc2 := (World.cell?_alloc_lt (w3.drew.alloc (.cells #[.string q, .string q] 9)) (.cells #[] 9) ⟨w3.heap.size, 1, none⟩ (by simp)).trans hcc.2
    have hTcc := strs_of_two ((hgc.cell_far ⟨w3.heap.size, 0, none⟩ (by simp; omega) (by simp [Value.ownBlock])).trans hcc1) ((hgc.cell_far ⟨w3.heap.size, 1, none⟩ (by simp; omega) (by simp [Value.ownBlock])).trans hcc2)
    obtain ⟨Ac2, cc2, uc2, hrc2, hRc2, hgc2, _⟩ := append_row hRc hTcc (cap2 := 2) (fun h => by cases h) (by simp; omega) hBc.size 22
    have hBc2 := hBc.trans (below_row hRc hgc2 hBc.size)
    rw [hlen] at hra hrb hrc
    rw [List.length_append, hlen] at hra2 hrb2 hrc2
    have g1H := Lib.hid hra
    have g2H := Lib.hid hra2
    have g3H := Lib.hid hrb
    have g4H := Lib.hid hrb2
    have g5H := Lib.hid hrc
    have g6H := Lib.hid hrc2
    have r1H := Lib.hid hRa2
    have r2H := Lib.hid hRb2
    have r3H := Lib.hid hRc2
    clear hra hra2 hrb hrb2 hrc hrc2 hRa hRa2 hRb hRb2 hRc hRc2 hga hga2 hgb hgb2 hgc hgc2 hTcb hTcc hfr hfr2 hs1 hlen hsE hcb hcc hcc1 hcc2
    refine region_anyC (fun j => decide (j < 12)) (fun W => Below w3.heap.size w3 W) (by kernel_rfl) ?_
    have hS5 : Below w3.heap.size w3 w3.drew := (Below.refl _ _).drew
    refine anyL_take 1 (v := ?_) rfl (by kernel_rfl) (fun _ _ _ h => h) (Or.inl ⟨by rfl, ?_⟩) hS5 ?_
    rotate_left
    focus (intro W hW; go_simp; try with_reducible rfl)
    simp only [Act.put, List.setIfInBounds_toArray, List.set_cons_zero, List.set_cons_succ]
    refine anyL_take 3 (v := ?_) rfl (by kernel_rfl) (fun _ _ _ h => h) (Or.inl ⟨by rfl, ?_⟩) hS5 ?_
    rotate_left
    focus (intro W hW; go_simp; try with_reducible rfl)
    simp only [Act.put, List.setIfInBounds_toArray, List.set_cons_zero, List.set_cons_succ]
    refine anyL_take 4 (v := ?_) rfl (by kernel_rfl) (fun _ _ _ h => h) (Or.inl ⟨by rfl, ?_⟩) hS5 ?_
    rotate_left
    focus (intro W hW; go_simp; try with_reducible rfl)
    simp only [Act.put, List.setIfInBounds_toArray, List.set_cons_zero, List.set_cons_succ]
    refine anyL_take 5 (v := ?_) rfl (by kernel_rfl) (fun _ _ _ h => h) (Or.inl ⟨by rfl, ?_⟩) hS5 ?_
    rotate_left
    focus (intro W hW; go_simp; try with_reducible rfl)
    simp only [Act.put, List.setIfInBounds_toArray, List.set_cons_zero, List.set_cons_succ]
    refine anyL_take 6 (v := ?_) rfl (by kernel_rfl) (fun _ _ _ h => h) (Or.inl ⟨by rfl, ?_⟩) hS5 ?_
    rotate_left
    focus (intro W hW; have k0 := hcell.out W hW; go_simp; try with_reducible rfl)
    simp only [Act.put, List.setIfInBounds_toArray, List.set_cons_zero, List.set_cons_succ]
    refine anyL_take 7 (v := ?_) rfl (by kernel_rfl) (fun _ _ _ h => h) (Or.inl ⟨by rfl, ?_⟩) hS5 ?_
    rotate_left
    focus (intro W hW; go_simp; try with_reducible rfl)
    simp only [Act.put, List.setIfInBounds_toArray, List.set_cons_zero, List.set_cons_succ]
    refine anyL_take 8 (v := ?_) rfl (by kernel_rfl) (fun _ _ _ h => h) (Or.inl ⟨by rfl, ?_⟩) hS5 ?_
    rotate_left
    focus (intro W hW; go_simp; try with_reducible rfl)
    simp only [Act.put, List.setIfInBounds_toArray, List.set_cons_zero, List.set_cons_succ]
    refine anyL_take 9 (v := ?_) rfl (by kernel_rfl) (fun _ _ _ h => h) (Or.inl ⟨by rfl, ?_⟩) hS5 ?_
    rotate_left
    focus (intro W hW; go_simp; try with_reducible rfl)
    simp only [Act.put, List.setIfInBounds_toArray, List.set_cons_zero, List.set_cons_succ]
    refine anyL_take 10 (v := ?_) rfl (by kernel_rfl) (fun _ _ _ h => h) (Or.inl ⟨by rfl, ?_⟩) hS5 ?_
    rotate_left
    focus (intro W hW; have k0 := hcell.out W hW; go_simp; try with_reducible rfl)
    simp only [Act.put, List.setIfInBounds_toArray, List.set_cons_zero, List.set_cons_succ]
    refine anyL_two 0 11 rfl rfl (by kernel_rfl) ?_ ?_
    · intro K hK
      go_simp
      refine hK.out _ _ (fun _ => hE) ?_
      clear hK K
      try simp only [Act.put, List.setIfInBounds_toArray, List.set_cons_zero, List.set_cons_succ]
      refine anyL_two 2 11 rfl rfl (by kernel_rfl) ?_ ?_
      · intro K hK
        refine step_append_run rfl (.tmp 38) (.tmp 39) 22 rfl rfl rfl g1H.out ?_
        refine hK.out _ _ (fun _ => hBa) ?_
        clear hK K
        try simp only [Act.put, List.setIfInBounds_toArray, List.set_cons_zero, List.set_cons_succ]
        refine anyL_one 11 rfl (by kernel_rfl) (fun K hK => ?_)
        go_simp
        refine hK.out _ _ (fun _ => hBaT) ?_
        clear hK K
        try simp only [Act.put, List.setIfInBounds_toArray, List.set_cons_zero, List.set_cons_succ]
        refine anyL_one 12 rfl (by kernel_rfl) (fun K hK => ?_)
        refine step_append_run rfl (.tmp 40) (.tmp 49) 22 rfl rfl rfl g2H.out ?_
        refine hK.out _ _ (fun h => absurd h (by decide)) ?_
        clear hK K
        try simp only [Act.put, List.setIfInBounds_toArray, List.set_cons_zero, List.set_cons_succ]
        refine anyL_one 13 rfl (by kernel_rfl) (fun K hK => ?_)
        go_simp
        refine hK.out _ _ (fun h => absurd h (by decide)) ?_
        clear hK K
        try simp only [Act.put, List.setIfInBounds_toArray, List.set_cons_zero, List.set_cons_succ]
        refine anyC_done (by kernel_rfl) ?_ _
        simp only [Exit.then]
        go_wp2_with fail
        go_meet
        exact ⟨_, _, rfl, r1H.out, hBa2⟩
      · intro K hK
        go_simp
        refine hK.out _ _ (fun _ => hET) ?_
        clear hK K
        try simp only [Act.put, List.setIfInBounds_toArray, List.set_cons_zero, List.set_cons_succ]
        refine anyL_one 2 rfl (by kernel_rfl) (fun K hK => ?_)
        refine step_append_run rfl (.tmp 38) (.tmp 39) 22 rfl rfl rfl g3H.out ?_
        refine hK.out _ _ (fun _ => hBb) ?_
        clear hK K
        try simp only [Act.put, List.setIfInBounds_toArray, List.set_cons_zero, List.set_cons_succ]
        refine anyL_one 12 rfl (by kernel_rfl) (fun K hK => ?_)
        refine step_append_run rfl (.tmp 40) (.tmp 49) 22 rfl rfl rfl g4H.out ?_
        refine hK.out _ _ (fun h => absurd h (by decide)) ?_
        clear hK K
        try simp only [Act.put, List.setIfInBounds_toArray, List.set_cons_zero, List.set_cons_succ]
        refine anyL_one 13 rfl (by kernel_rfl) (fun K hK => ?_)
        go_simp
        refine hK.out _ _ (fun h => absurd h (by decide)) ?_
        clear hK K
        try simp only [Act.put, List.setIfInBounds_toArray, List.set_cons_zero, List.set_cons_succ]
        refine anyC_done (by kernel_rfl) ?_ _
        simp only [Exit.then]
        go_wp2_with fail
        go_meet
        exact ⟨_, _, rfl, r2H.out, hBb2⟩
    · intro K hK
      go_simp
      refine hK.out _ _ (fun _ => hTb) ?_
      clear hK K
      try simp only [Act.put, List.setIfInBounds_toArray, List.set_cons_zero, List.set_cons_succ]
      refine anyL_one 0 rfl (by kernel_rfl) (fun K hK => ?_)
      go_simp
      refine hK.out _ _ (fun _ => hTE) ?_
      clear hK K
      try simp only [Act.put, List.setIfInBounds_toArray, List.set_cons_zero, List.set_cons_succ]
      refine anyL_one 2 rfl (by kernel_rfl) (fun K hK => ?_)
      refine step_append_run rfl (.tmp 38) (.tmp 39) 22 rfl rfl rfl g5H.out ?_
      refine hK.out _ _ (fun _ => hBc) ?_
      clear hK K
      try simp only [Act.put, List.setIfInBounds_toArray, List.set_cons_zero, List.set_cons_succ]
      refine anyL_one 12 rfl (by kernel_rfl) (fun K hK => ?_)
      refine step_append_run rfl (.tmp 40) (.tmp 49) 22 rfl rfl rfl g6H.out ?_
      refine hK.out _ _ (fun h => absurd h (by decide)) ?_
      clear hK K
      try simp only [Act.put, List.setIfInBounds_toArray, List.set_cons_zero, List.set_cons_succ]
      refine anyL_one 13 rfl (by kernel_rfl) (fun K hK => ?_)
      go_simp
      refine hK.out _ _ (fun h => absurd h (by decide)) ?_
      clear hK K
      try simp only [Act.put, List.setIfInBounds_toArray, List.set_cons_zero, List.set_cons_succ]
      refine anyC_done (by kernel_rfl) ?_ _
      simp only [Exit.then]
      go_wp2_with fail
      go_meet
      exact ⟨_, _, rfl, r3H.out, hBc2⟩
  case rest =>
    obtain ⟨A4, c4, rfl, hR4, hB4⟩ := hcut
    have hR4H := Lib.hid hR4
    have hB4H := Lib.hid hB4
    have hRt4 := Lib.hid (hTSH.out _ hB4)
    have hWH := Lib.hid (bmore hB3H.out hB4)
    clear hR4 hB4
    go_wp2_with fail
    (with_reducible refine (cf2H.out _ _ _ hRt4.out).mono ?_)
    rintro e w5 ⟨rfl, hb5⟩
    have hS5 := (hR4H.out.below hb5).strs
    have hS5H := Lib.hid hS5
    have hB5 := bmore hWH.out hb5
    clear hS5 hb5
    go_wp2_with fail
    (with_reducible refine (cf3H.out _ _ _ hS5H.out).mono ?_)
    rintro e w6 ⟨rfl, hb6⟩
    have hB6 := bmore hB5 hb6
    clear hB5 hb6
    go_wp2
    go_ret
    exact ⟨by simp, hB6⟩
end Go.Proofs.Ytflkkmiehioejaa
