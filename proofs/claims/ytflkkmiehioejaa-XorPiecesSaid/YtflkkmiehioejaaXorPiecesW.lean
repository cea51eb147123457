/- What the law XorPieces does. -/
import Derived.Test.YtflkkmiehioejaaXorBackW
import Derived.Test.YtflkkmiehioejaaXorPiecesM
namespace Go.Proofs.Ytflkkmiehioejaa
open Go.RowKit Xor

theorem Rows3.below {W W' : World} {base c1 c2 c3 : Nat} {A1 A2 A3 : Option Addr} {L1 L2 L3 : List ByteArray} (h : Rows3 W base A1 c1 L1 A2 c2 L2 A3 c3 L3) (hb : Below W.heap.size W W') : Rows3 W' base A1 c1 L1 A2 c2 L2 A3 c3 L3 := ⟨h.r1.below hb, h.r2.below hb, h.r3.below hb, h.n12, h.n13, h.n23⟩

set_option maxRecDepth 100000 in
set_option maxHeartbeats 8000000 in
theorem pieces_law (A : Option Addr) (cap : Nat) (ps : List ByteArray) (x : Int) (w : World) (hS : StrsIn w A ps) (hz : ∀ p ∈ ps, p.size ≤ 140737488351232) :
    Calls Try.prog 8 #[.slice A ps.length cap, .int .i64 x] w fun e w' => e = .returned (.bool true) ∧ Below w.heap.size w w' := by
  have cm := fun W (hb : Below w.heap.size w W) => much_any A cap ps W hz (hS.below hb)
  by_cases hm : muchB ps = true
  · rw [hm] at cm
    have cmH := Lib.hid cm
    clear cm hm hz hS
    go_enter Try.func8, Try.ntmps8
    go_wp2_with fail
    (with_reducible refine (speaks3 _).mono ?_)
    rintro e w1 ⟨rfl, hb1⟩
    have hB1 := hb1
    clear hb1
    go_wp2_with fail
    (with_reducible refine (cmH.out _ hB1).mono ?_)
    rintro e wq ⟨rfl, rfl⟩
    go_wp2
    go_ret
    exact ⟨rfl, hB1⟩
  rw [Bool.not_eq_true] at hm
  rw [hm] at cm
  have cmH := Lib.hid cm
  obtain ⟨hl, hp⟩ := much_false hm
  clear cm hm hz
  by_cases h0 : ps.length = 0
  · have h0b : ((ps.length : Int) == 0) = true := by rw [h0]; rfl
    have h0c : (ps.length : Int) = 0 := by omega
    have h0H := Lib.hid h0
    clear hp hS h0
    go_enter Try.func8, Try.ntmps8
    go_wp2_with fail
    (with_reducible refine (speaks3 _).mono ?_)
    rintro e w1 ⟨rfl, hb1⟩
    have hB1 := hb1
    clear hb1
    go_wp2_with fail
    (with_reducible refine (cmH.out _ hB1).mono ?_)
    rintro e wq ⟨rfl, rfl⟩
    go_wp2
    go_ret
    exact ⟨rfl, hB1⟩
  have h0b : ((ps.length : Int) == 0) = false := by rw [beq_eq_false_iff_ne]; omega
  have h0c : ¬ (ps.length : Int) = 0 := by omega
  have h0d : ¬ ps.length = 0 := h0
  have hSH := Lib.hid hS
  have hpH := Lib.hid hp
  clear hS hp
  go_enter Try.func8, Try.ntmps8
  go_wp2_with fail
  (with_reducible refine (speaks3 _).mono ?_)
  rintro e w1 ⟨rfl, hb1⟩
  have hB1 := hb1
  clear hb1
  go_wp2_with fail
  (with_reducible refine (cmH.out _ hB1).mono ?_)
  rintro e wq ⟨rfl, rfl⟩
  go_wp2_with fail
  go_loop [5, 6] (fun m i => ∃ k : Nat, k ≤ ps.length ∧ i = .int .i64 (k : Int) ∧ m = .int .i64 ((longest (ps.take k) : Nat) : Int)) (fun _ i => ps.length - (intOf i).toNat)
  case atStart => exact ⟨0, Nat.zero_le _, rfl, rfl⟩
  case round =>
    obtain ⟨k, hk, rfl, rfl⟩ := hrel
    by_cases hlt : k < ps.length
    · obtain ⟨b, off, rfl, _, hc⟩ := (hSH.out.below hB1).at_ hlt
      have hp5 := hpH.out ps[k] (List.getElem_mem _)
      have hsn : longest (ps.take (k + 1)) = max (longest (ps.take k)) ps[k].size := by rw [List.take_succ_eq_append_getElem hlt, longest_snoc]
      have hlk : longest (ps.take k) ≤ 5000 := longest_le fun p hp => hpH.out p (List.mem_of_mem_take hp)
      generalize ps[k] = p at hc hp5 hsn
      have hsnH := Lib.hid hsn
      clear hsn
      generalize longest (ps.take k) = m at hsnH hlk ⊢
      rcases Nat.lt_or_ge m p.size with hx | hx
      all_goals
        go_wp2
        go_round
        case rel => exact ⟨k + 1, by omega, by go_num, by rw [hsnH.out]; go_num⟩
        case measure => simp [intOf]; omega
    · obtain rfl : k = ps.length := by omega
      rw [List.take_length]
      have hlong : longest ps ≤ 5000 := longest_le hpH.out
      obtain ⟨n, hn⟩ : ∃ n, longest ps = n := ⟨_, rfl⟩
      rw [hn] at hlong ⊢
      have hnH := Lib.hid hn
      clear hn
      obtain ⟨t, y, ex1, ex2, y1, y2, t1, t2, _, _, _⟩ := mod_in x ((n : Int) + 1) (by omega) (by omega)
      rw [← Int.add_assoc] at ex2
      obtain ⟨cn, rfl⟩ := Int.eq_ofNat_of_zero_le y1
      have hn1 : ¬ ((n : Int) + 1) = 0 := by omega
      go_wp2_with fail
      clear ex1 ex2 hn1
      have hcn : cn ≤ n := by omega
      have hLs := Lib.hid (size_padL (ps := ps) (n := n) (Nat.le_of_eq hnH.out))
      have hLl := Lib.hid (show (padL ps n).length = ps.length by unfold padL; rw [List.length_map])
      have hB1H := Lib.hid hB1
      have hB1s := hB1.size
      clear hB1
      go_loopw [7, 8, 9, 10] (fun a f r i wr => ∃ (k : Nat) (A1 A2 A3 : Option Addr) (c1 c2 c3 : Nat), k ≤ ps.length ∧ i = .int .i64 (k : Int) ∧ a = .slice A1 k c1 ∧ f = .slice A2 k c2 ∧ r = .slice A3 k c3 ∧ Rows3 wr w1.heap.size A1 c1 (padL (ps.take k) n) A2 c2 (heads (padL (ps.take k) n) cn) A3 c3 (tails (padL (ps.take k) n) cn) ∧ Below w1.heap.size w1 wr) (fun _ _ _ i _ => ps.length - (intOf i).toNat)
      case atStart => exact ⟨0, none, none, none, 0, 0, 0, by omega, rfl, rfl, rfl, rfl, ⟨Row.nil _ _, Row.nil _ _, Row.nil _ _, fun g h => (by cases h), fun g h => (by cases h), fun g h => (by cases h)⟩, Below.refl _ _⟩
      case round =>
        obtain ⟨k, A1, A2, A3, c1, c2, c3, hk, rfl, rfl, rfl, rfl, hR, hB⟩ := hrel
        have hRH := Lib.hid hR
        have hBH := Lib.hid hB
        have hBs := hB.size
        clear hR
        by_cases hlt : k < ps.length
        · have hkl : (padL (ps.take k) n).length = k := by unfold padL; rw [List.length_map, List.length_take]; omega
          obtain ⟨b, off, rfl, hltb, hc0⟩ := (hSH.out.below (hB1H.out.trans (hB.mono hB1s))).at_ hlt
          have hpk := hpH.out ps[k] (List.getElem_mem _)
          have hpn : ps[k].size ≤ n := by rw [← hnH.out]; exact longest_ge (List.getElem_mem hlt)
          have htk := padL_take ps n k hlt
          generalize ps[k] = p at hc0 hpk hpn htk
          obtain ⟨m, hm⟩ : ∃ m, m = n - p.size := ⟨_, rfl⟩
          have hmI : IntKind.i64.wrap ((n : Int) - (p.size : Int)) = (m : Int) := by rw [wrap_in (by omega)]; omega
          have hmb : m ≤ 5000 := by omega
          obtain ⟨i0, hi, hz0, hz1, hz2⟩ := info_parts infoB
          have hmk := fun W => run_make_m (P := Try.prog) 33 5 i0 (.int .u8 0) Try.underlying33 hi hz0 .i64 .i64 m m (Nat.le_refl _) (by rw [hz2]; omega) (by omega) W
          rw [hz1, Nat.mul_one] at hmk
          have hmk2 : ∀ W : World, (Instr.makeSlice 33 (.int .i64 (m : Int)) (.int .i64 (m : Int))).run Try.prog W = .ok (.slice (some ⟨W.heap.size, 0, none⟩) m m) (W.alloc (.cells (madeCells #[.int .u8 0] m) 5)) := hmk
          obtain ⟨z, hzz⟩ : ∃ z : ByteArray, (⟨(List.replicate (n - p.size) 0).toArray⟩ : ByteArray) = z := ⟨_, rfl⟩
          have hzs : p.size + z.size ≤ 9223372036854775807 := by
            have h1 : z.size = n - p.size := by rw [← hzz, ofList_size]; simp
            omega
          have hzn : ¬ 9223372036854775807 < p.size + z.size := by omega
          have hcv := fun W => pad_made W m (n - p.size) hm.symm
          rw [hzz] at hcv
          have hcv2 := fun W => pad_made_drew W m (n - p.size) hm.symm
          rw [hzz] at hcv2
          obtain ⟨q, hq⟩ : ∃ q : ByteArray, p ++ z = q := ⟨_, rfl⟩
          have hpad : q = pad p n := by rw [← hq, ← hzz]; rfl
          have hqs : q.size = n := by rw [hpad]; exact size_pad hpn
          have e1 : padL (ps.take k) n ++ [q] = padL (ps.take (k + 1)) n := by rw [hpad]; exact htk
          have e2 : heads (padL (ps.take k) n) cn ++ [q.extract 0 cn] = heads (padL (ps.take (k + 1)) n) cn := by rw [heads_snoc, e1]
          have e3 : tails (padL (ps.take k) n) cn ++ [q.extract cn q.size] = tails (padL (ps.take (k + 1)) n) cn := by rw [tails_snoc, e1]
          have hk2 : (heads (padL (ps.take k) n) cn).length = k := by unfold heads; rw [List.length_map]; exact hkl
          have hk3 : (tails (padL (ps.take k) n) cn).length = k := by unfold tails; rw [List.length_map]; exact hkl
          have e1H := Lib.hid e1
          have e2H := Lib.hid e2
          have e3H := Lib.hid e3
          have hk1H := Lib.hid hkl
          have hk2H := Lib.hid hk2
          have hk3H := Lib.hid hk3
          have hqsH := Lib.hid hqs
          clear hmk hi hz0 hz1 hz2 htk hm hzz hB e1 e2 e3 hkl hk2 hk3 hqs hpad
          go_wp2_with fail
          have hS5 : Below wr.heap.size wr wr.drew := (Below.refl _ _).drew
          have hS6 : Below wr.heap.size wr (wr.drew.alloc (.cells (madeCells #[.int .u8 0] m) 5)) := hS5.alloc hS5.size _
          refine region_anyC (fun j => decide (j < 13)) (fun W => Below wr.heap.size wr W) (by kernel_rfl) ?_
          refine anyL_take 0 (v := ?_) rfl (by kernel_rfl) (fun _ _ _ h => h) (Or.inl ⟨by rfl, ?_⟩) hS5 ?_
          rotate_left
          focus (intro W hW; go_simp; try with_reducible rfl)
          simp only [Act.put, List.setIfInBounds_toArray, List.set_cons_zero, List.set_cons_succ]
          refine anyL_take 1 (v := ?_) rfl (by kernel_rfl) (fun _ _ _ h => h) (Or.inl ⟨by rfl, ?_⟩) hS5 ?_
          rotate_left
          focus (intro W hW; go_simp; try with_reducible rfl)
          simp only [Act.put, List.setIfInBounds_toArray, List.set_cons_zero, List.set_cons_succ]
          refine anyL_take 2 (v := ?_) rfl (by kernel_rfl) (fun _ _ _ h => h) (Or.inl ⟨by rfl, ?_⟩) hS5 ?_
          rotate_left
          focus (intro W hW; go_simp; try with_reducible rfl)
          simp only [Act.put, List.setIfInBounds_toArray, List.set_cons_zero, List.set_cons_succ]
          refine anyL_take 3 (v := ?_) rfl (by kernel_rfl) (fun _ _ _ h => h) (Or.inl ⟨by rfl, ?_⟩) hS5 ?_
          rotate_left
          focus (intro W hW; have k0 := (hW.cell (p := ⟨b, off + k, none⟩) (lt_of_cell hc0)).trans hc0; go_simp; try with_reducible rfl)
          simp only [Act.put, List.setIfInBounds_toArray, List.set_cons_zero, List.set_cons_succ]
          refine anyL_take 4 (v := ?_) rfl (by kernel_rfl) (fun _ _ _ h => h) (Or.inl ⟨by rfl, ?_⟩) hS5 ?_
          rotate_left
          focus (intro W hW; go_simp; try with_reducible rfl)
          simp only [Act.put, List.setIfInBounds_toArray, List.set_cons_zero, List.set_cons_succ]
          refine anyL_take 5 (v := ?_) rfl (by kernel_rfl) (fun _ _ _ h => h) (Or.inl ⟨by rfl, ?_⟩) hS5 ?_
          rotate_left
          focus (intro W hW; go_simp; try with_reducible rfl)
          simp only [Act.put, List.setIfInBounds_toArray, List.set_cons_zero, List.set_cons_succ]
          refine anyL_take 6 (v := ?_) rfl (by kernel_rfl) (fun _ _ _ h => h) (Or.inl ⟨by rfl, ?_⟩) hS5 ?_
          rotate_left
          focus (intro W hW; go_simp; try with_reducible rfl)
          simp only [Act.put, List.setIfInBounds_toArray, List.set_cons_zero, List.set_cons_succ]
          refine anyL_take 7 (v := ?_) rfl (by kernel_rfl) (fun _ _ _ h => h) (Or.inl ⟨by rfl, ?_⟩) hS5 ?_
          rotate_left
          focus (intro W hW; go_simp; try with_reducible rfl)
          simp only [Act.put, List.setIfInBounds_toArray, List.set_cons_zero, List.set_cons_succ]
          refine anyL_take 8 (v := ?_) rfl (by kernel_rfl) (fun _ _ _ h => h) (Or.inl ⟨by rfl, ?_⟩) hS5 ?_
          rotate_left
          focus (intro W hW; have k0 := (hW.cell (p := ⟨b, off + k, none⟩) (lt_of_cell hc0)).trans hc0; go_simp; try with_reducible rfl)
          simp only [Act.put, List.setIfInBounds_toArray, List.set_cons_zero, List.set_cons_succ]
          refine anyL_take 9 (v := ?_) rfl (by kernel_rfl) (fun _ _ _ h => h) (Or.inl ⟨by rfl, ?_⟩) hS5 ?_
          rotate_left
          focus (intro W hW; go_simp; try with_reducible rfl)
          simp only [Act.put, List.setIfInBounds_toArray, List.set_cons_zero, List.set_cons_succ]
          refine anyL_take 10 (v := ?_) rfl (by kernel_rfl) (fun _ _ _ h => h) (Or.inl ⟨by rfl, ?_⟩) hS5 ?_
          rotate_left
          focus (intro W hW; go_simp; try with_reducible rfl)
          simp only [Act.put, List.setIfInBounds_toArray, List.set_cons_zero, List.set_cons_succ]
          refine anyL_one 11 rfl (by kernel_rfl) (fun K hK => ?_)
          go_simp
          refine hK.out _ _ (fun _ => hS6) ?_
          clear hK K
          try simp only [Act.put, List.setIfInBounds_toArray, List.set_cons_zero, List.set_cons_succ]
          refine anyL_one 12 rfl (by kernel_rfl) (fun K hK => ?_)
          go_simp
          refine hK.out _ _ (fun _ => hS6) ?_
          clear hK K
          try simp only [Act.put, List.setIfInBounds_toArray, List.set_cons_zero, List.set_cons_succ]
          refine anyL_one 13 rfl (by kernel_rfl) (fun K hK => ?_)
          go_simp
          refine hK.out _ _ (fun h => absurd h (by decide)) ?_
          clear hK K
          try simp only [Act.put, List.setIfInBounds_toArray, List.set_cons_zero, List.set_cons_succ]
          refine anyL_one 14 rfl (by kernel_rfl) (fun K hK => ?_)
          go_simp
          refine hK.out _ _ (fun h => absurd h (by decide)) ?_
          clear hK K
          try simp only [Act.put, List.setIfInBounds_toArray, List.set_cons_zero, List.set_cons_succ]
          refine anyC_done (by kernel_rfl) ?_ _
          simp only [Exit.then]
          refine fresh_K (fun W => Rows3 W w1.heap.size A1 c1 (padL (ps.take k) n) A2 c2 (heads (padL (ps.take k) n) cn) A3 c3 (tails (padL (ps.take k) n) cn) ∧ Below w1.heap.size w1 W) ?_ ?_
          · exact ⟨hRH.out.below hS6, bmore hBH.out hS6⟩
          clear hRH hBH hmk2 hcv hcv2 hmI hq hzs hzn hS5 hS6 hc0 hmb hpk hpn hltb
          rintro w4 ⟨hR, hB⟩
          have hRH := Lib.hid hR
          have hBH := Lib.hid hB
          have hB4s := hB.size
          have hqs := hqsH.out
          have hcnI : (cn : Int) ≤ (q.size : Int) := by omega
          have hcnN : cn ≤ q.size := by omega
          clear hR hB hBs hqs
          have hkb : k ≤ 1000 := by omega
          have hRd := hRH.out.below (Below.refl _ _).drew
          have hBd := bmore hBH.out (Below.refl _ _).drew
          have hk1 := hk1H.out
          have hk2 := hk2H.out
          have hk3 := hk3H.out
          have e1 := e1H.out
          have e2 := e2H.out
          have e3 := e3H.out
          clear hRH hBH e1H e2H e3H hk1H hk2H hk3H
          generalize heads (padL (ps.take k) n) cn = L2 at hRd hk2 e2
          generalize tails (padL (ps.take k) n) cn = L3 at hRd hk3 e3
          generalize padL (ps.take k) n = L1 at hRd hk1 e1
          have hek := Lib.hid (fun W a1 a2 a3 d1 d2 d3 (h : Rows3 W w1.heap.size a1 d1 (L1 ++ [q]) a2 d2 (L2 ++ [q.extract 0 cn]) a3 d3 (L3 ++ [q.extract cn q.size])) => show Rows3 W w1.heap.size a1 d1 (padL (ps.take (k + 1)) n) a2 d2 (heads (padL (ps.take (k + 1)) n) cn) a3 d3 (tails (padL (ps.take (k + 1)) n) cn) by rw [← e2, ← e3, ← e1]; exact h)
          clear e1 e2 e3
          obtain ⟨q1, hq1⟩ : ∃ r, q.extract 0 cn = r := ⟨_, rfl⟩
          obtain ⟨q2, hq2⟩ : ∃ r, q.extract cn q.size = r := ⟨_, rfl⟩
          rw [hq1, hq2] at hek
          go_wp2_with fail
          refine region_anyC (fun _ => true) (fun _ => True) (by kernel_rfl) ?_
          refine anyL_take 0 (v := ?_) rfl (by kernel_rfl) (fun _ _ _ h => h) (Or.inl ⟨by rfl, ?_⟩) trivial ?_
          rotate_left
          focus (intro W hW; go_simp; try with_reducible rfl)
          simp only [Act.put, List.setIfInBounds_toArray, List.set_cons_zero, List.set_cons_succ]
          refine anyL_take 1 (v := ?_) rfl (by kernel_rfl) (fun _ _ _ h => h) (Or.inl ⟨by rfl, ?_⟩) trivial ?_
          rotate_left
          focus (intro W hW; go_simp; try with_reducible rfl)
          simp only [Act.put, List.setIfInBounds_toArray, List.set_cons_zero, List.set_cons_succ]
          refine anyL_take 4 (v := ?_) rfl (by kernel_rfl) (fun _ _ _ h => h) (Or.inl ⟨by rfl, ?_⟩) trivial ?_
          rotate_left
          focus (intro W hW; go_simp; try with_reducible rfl)
          simp only [Act.put, List.setIfInBounds_toArray, List.set_cons_zero, List.set_cons_succ]
          refine anyL_take 5 (v := ?_) rfl (by kernel_rfl) (fun _ _ _ h => h) (Or.inl ⟨by rfl, ?_⟩) trivial ?_
          rotate_left
          focus (intro W hW; go_simp; try with_reducible rfl)
          simp only [Act.put, List.setIfInBounds_toArray, List.set_cons_zero, List.set_cons_succ]
          refine anyL_take 6 (v := ?_) rfl (by kernel_rfl) (fun _ _ _ h => h) (Or.inl ⟨by rfl, ?_⟩) trivial ?_
          rotate_left
          focus (intro W hW; go_simp; try with_reducible rfl)
          simp only [Act.put, List.setIfInBounds_toArray, List.set_cons_zero, List.set_cons_succ]
          refine anyL_take 7 (v := ?_) rfl (by kernel_rfl) (fun _ _ _ h => h) (Or.inl ⟨by rfl, ?_⟩) trivial ?_
          rotate_left
          focus (intro W hW; go_simp; try with_reducible rfl)
          simp only [Act.put, List.setIfInBounds_toArray, List.set_cons_zero, List.set_cons_succ]
          refine anyL_take 10 (v := ?_) rfl (by kernel_rfl) (fun _ _ _ h => h) (Or.inl ⟨by rfl, ?_⟩) trivial ?_
          rotate_left
          focus (intro W hW; go_simp; try with_reducible rfl)
          simp only [Act.put, List.setIfInBounds_toArray, List.set_cons_zero, List.set_cons_succ]
          refine anyL_take 11 (v := ?_) rfl (by kernel_rfl) (fun _ _ _ h => h) (Or.inl ⟨by rfl, ?_⟩) trivial ?_
          rotate_left
          focus (intro W hW; go_simp; try with_reducible rfl)
          simp only [Act.put, List.setIfInBounds_toArray, List.set_cons_zero, List.set_cons_succ]
          refine anyL_take 12 (v := ?_) rfl (by kernel_rfl) (fun _ _ _ h => h) (Or.inl ⟨by rfl, ?_⟩) trivial ?_
          rotate_left
          focus (intro W hW; go_simp; try with_reducible rfl)
          simp only [Act.put, List.setIfInBounds_toArray, List.set_cons_zero, List.set_cons_succ]
          refine anyL_take 13 (v := ?_) rfl (by kernel_rfl) (fun _ _ _ h => h) (Or.inl ⟨by rfl, ?_⟩) trivial ?_
          rotate_left
          focus (intro W hW; go_simp; try with_reducible rfl)
          simp only [Act.put, List.setIfInBounds_toArray, List.set_cons_zero, List.set_cons_succ]
          refine anyL_three 2 8 14 rfl rfl rfl (by kernel_rfl) ?_ ?_ ?_
          · intro K hK
            go_simp
            refine hK.out _ _ (fun _ => trivial) ?_
            clear hK K
            try simp only [Act.put, List.setIfInBounds_toArray, List.set_cons_zero, List.set_cons_succ]
            refine fresh_any (fun W => Rows3 W w1.heap.size A1 c1 L1 A2 c2 L2 A3 c3 L3 ∧ Below w1.heap.size w1 W ∧ TAt W w4.drew.heap.size q A1 A2 A3) ⟨hRd.alloc _, hBd.alloc hBd.size _, hRd.built q⟩ ?_
            rintro W0 ⟨hR0, hB0, t1_0⟩
            refine anyL_three 3 8 14 rfl rfl rfl (by kernel_rfl) ?_ ?_ ?_
            · intro K hK
              obtain ⟨Z1, z1, V1, hrun, hR1, hb, ht⟩ := app1 hR0 t1_0 hk1 hkb hB0.size
              have hB1 := hB0.trans hb
              clear hb ht hR0 hB0 t1_0
              refine step_append_run rfl (.tmp 64) (.tmp 66) 22 rfl rfl rfl hrun ?_
              clear hrun
              refine hK.out _ _ (fun _ => trivial) ?_
              clear hK K
              try simp only [Act.put, List.setIfInBounds_toArray, List.set_cons_zero, List.set_cons_succ]
              refine anyL_two 8 14 rfl rfl (by kernel_rfl) ?_ ?_
              · intro K hK
                go_simp
                refine hK.out _ _ (fun _ => trivial) ?_
                clear hK K
                try simp only [Act.put, List.setIfInBounds_toArray, List.set_cons_zero, List.set_cons_succ]
                refine fresh_any (fun W => Rows3 W w1.heap.size Z1 z1 (L1 ++ [q]) A2 c2 L2 A3 c3 L3 ∧ Below w1.heap.size w1 W ∧ TAt W V1.heap.size q1 Z1 A2 A3) ⟨hR1.alloc _, hB1.alloc hB1.size _, hR1.built q1⟩ ?_
                clear hR1 hB1
                rintro W2 ⟨hR2, hB2, t2_2⟩
                refine anyL_two 9 14 rfl rfl (by kernel_rfl) ?_ ?_
                · intro K hK
                  obtain ⟨Z3, z3, V3, hrun, hR3, hb, ht⟩ := app2 hR2 t2_2 hk2 hkb hB2.size
                  have hB3 := hB2.trans hb
                  clear hb ht hR2 hB2 t2_2
                  refine step_append_run rfl (.tmp 68) (.tmp 72) 22 rfl rfl rfl hrun ?_
                  clear hrun
                  refine hK.out _ _ (fun _ => trivial) ?_
                  clear hK K
                  try simp only [Act.put, List.setIfInBounds_toArray, List.set_cons_zero, List.set_cons_succ]
                  refine anyL_one 14 rfl (by kernel_rfl) (fun K hK => ?_)
                  go_simp
                  refine hK.out _ _ (fun _ => trivial) ?_
                  clear hK K
                  try simp only [Act.put, List.setIfInBounds_toArray, List.set_cons_zero, List.set_cons_succ]
                  refine fresh_any (fun W => Rows3 W w1.heap.size Z1 z1 (L1 ++ [q]) Z3 z3 (L2 ++ [q1]) A3 c3 L3 ∧ Below w1.heap.size w1 W ∧ TAt W V3.heap.size q2 Z1 Z3 A3) ⟨hR3.alloc _, hB3.alloc hB3.size _, hR3.built q2⟩ ?_
                  clear hR3 hB3
                  rintro W4 ⟨hR4, hB4, t3_4⟩
                  refine anyL_one 15 rfl (by kernel_rfl) (fun K hK => ?_)
                  obtain ⟨Z5, z5, V5, hrun, hR5, hb, ht⟩ := app3 hR4 t3_4 hk3 hkb hB4.size
                  have hB5 := hB4.trans hb
                  clear hb ht hR4 hB4 t3_4
                  refine step_append_run rfl (.tmp 74) (.tmp 78) 22 rfl rfl rfl hrun ?_
                  clear hrun
                  refine hK.out _ _ (fun _ => trivial) ?_
                  clear hK K
                  try simp only [Act.put, List.setIfInBounds_toArray, List.set_cons_zero, List.set_cons_succ]
                  refine anyL_one 16 rfl (by kernel_rfl) (fun K hK => ?_)
                  go_simp
                  refine hK.out _ _ (fun _ => trivial) ?_
                  clear hK K
                  try simp only [Act.put, List.setIfInBounds_toArray, List.set_cons_zero, List.set_cons_succ]
                  refine anyL_one 17 rfl (by kernel_rfl) (fun K hK => ?_)
                  go_simp
                  refine hK.out _ _ (fun _ => trivial) ?_
                  clear hK K
                  try simp only [Act.put, List.setIfInBounds_toArray, List.set_cons_zero, List.set_cons_succ]
                  refine anyL_one 18 rfl (by kernel_rfl) (fun K hK => ?_)
                  go_simp
                  refine hK.out _ _ (fun _ => trivial) ?_
                  clear hK K
                  try simp only [Act.put, List.setIfInBounds_toArray, List.set_cons_zero, List.set_cons_succ]
                  refine anyC_done (by kernel_rfl) ?_ _
                  try simp only [Exit.then]
                  have hRR := hek.out _ _ _ _ _ _ _ hR5
                  clear hR5 hek
                  go_wp2
                  go_roundw
                  case rel => exact ⟨k + 1, _, _, _, _, _, _, by omega, by go_num, rfl, rfl, rfl, hRR, hB5⟩
                  case measure => simp [intOf]; omega
                · intro K hK
                  go_simp
                  refine hK.out _ _ (fun _ => trivial) ?_
                  clear hK K
                  try simp only [Act.put, List.setIfInBounds_toArray, List.set_cons_zero, List.set_cons_succ]
                  refine fresh_any (fun W => Rows3 W w1.heap.size Z1 z1 (L1 ++ [q]) A2 c2 L2 A3 c3 L3 ∧ Below w1.heap.size w1 W ∧ TAt W V1.heap.size q1 Z1 A2 A3 ∧ TAt W W2.heap.size q2 Z1 A2 A3) ⟨hR2.alloc _, hB2.alloc hB2.size _, t2_2.alloc _, hR2.built q2⟩ ?_
                  clear hR2 hB2 t2_2
                  rintro W6 ⟨hR6, hB6, t2_6, t3_6⟩
                  refine anyL_one 9 rfl (by kernel_rfl) (fun K hK => ?_)
                  obtain ⟨Z7, z7, V7, hrun, hR7, hb, ht⟩ := app2 hR6 t2_6 hk2 hkb hB6.size
                  have hB7 := hB6.trans hb
                  have t3_7 := ht _ _ t3_6
                  clear hb ht hR6 hB6 t2_6 t3_6
                  refine step_append_run rfl (.tmp 68) (.tmp 72) 22 rfl rfl rfl hrun ?_
                  clear hrun
                  refine hK.out _ _ (fun _ => trivial) ?_
                  clear hK K
                  try simp only [Act.put, List.setIfInBounds_toArray, List.set_cons_zero, List.set_cons_succ]
                  refine anyL_one 15 rfl (by kernel_rfl) (fun K hK => ?_)
                  obtain ⟨Z8, z8, V8, hrun, hR8, hb, ht⟩ := app3 hR7 t3_7 hk3 hkb hB7.size
                  have hB8 := hB7.trans hb
                  clear hb ht hR7 hB7 t3_7
                  refine step_append_run rfl (.tmp 74) (.tmp 78) 22 rfl rfl rfl hrun ?_
                  clear hrun
                  refine hK.out _ _ (fun _ => trivial) ?_
                  clear hK K
                  try simp only [Act.put, List.setIfInBounds_toArray, List.set_cons_zero, List.set_cons_succ]
                  refine anyL_one 16 rfl (by kernel_rfl) (fun K hK => ?_)
                  go_simp
                  refine hK.out _ _ (fun _ => trivial) ?_
                  clear hK K
                  try simp only [Act.put, List.setIfInBounds_toArray, List.set_cons_zero, List.set_cons_succ]
                  refine anyL_one 17 rfl (by kernel_rfl) (fun K hK => ?_)
                  go_simp
                  refine hK.out _ _ (fun _ => trivial) ?_
                  clear hK K
                  try simp only [Act.put, List.setIfInBounds_toArray, List.set_cons_zero, List.set_cons_succ]
                  refine anyL_one 18 rfl (by kernel_rfl) (fun K hK => ?_)
                  go_simp
                  refine hK.out _ _ (fun _ => trivial) ?_
                  clear hK K
                  try simp only [Act.put, List.setIfInBounds_toArray, List.set_cons_zero, List.set_cons_succ]
                  refine anyC_done (by kernel_rfl) ?_ _
                  try simp only [Exit.then]
                  have hRR := hek.out _ _ _ _ _ _ _ hR8
                  clear hR8 hek
                  go_wp2
                  go_roundw
                  case rel => exact ⟨k + 1, _, _, _, _, _, _, by omega, by go_num, rfl, rfl, rfl, hRR, hB8⟩
                  case measure => simp [intOf]; omega
              · intro K hK
                go_simp
                refine hK.out _ _ (fun _ => trivial) ?_
                clear hK K
                try simp only [Act.put, List.setIfInBounds_toArray, List.set_cons_zero, List.set_cons_succ]
                refine fresh_any (fun W => Rows3 W w1.heap.size Z1 z1 (L1 ++ [q]) A2 c2 L2 A3 c3 L3 ∧ Below w1.heap.size w1 W ∧ TAt W V1.heap.size q2 Z1 A2 A3) ⟨hR1.alloc _, hB1.alloc hB1.size _, hR1.built q2⟩ ?_
                clear hR1 hB1
                rintro W9 ⟨hR9, hB9, t3_9⟩
                refine anyL_one 8 rfl (by kernel_rfl) (fun K hK => ?_)
                go_simp
                refine hK.out _ _ (fun _ => trivial) ?_
                clear hK K
                try simp only [Act.put, List.setIfInBounds_toArray, List.set_cons_zero, List.set_cons_succ]
                refine fresh_any (fun W => Rows3 W w1.heap.size Z1 z1 (L1 ++ [q]) A2 c2 L2 A3 c3 L3 ∧ Below w1.heap.size w1 W ∧ TAt W V1.heap.size q2 Z1 A2 A3 ∧ TAt W W9.heap.size q1 Z1 A2 A3) ⟨hR9.alloc _, hB9.alloc hB9.size _, t3_9.alloc _, hR9.built q1⟩ ?_
                clear hR9 hB9 t3_9
                rintro W10 ⟨hR10, hB10, t3_10, t2_10⟩
                refine anyL_one 9 rfl (by kernel_rfl) (fun K hK => ?_)
                obtain ⟨Z11, z11, V11, hrun, hR11, hb, ht⟩ := app2 hR10 t2_10 hk2 hkb hB10.size
                have hB11 := hB10.trans hb
                have t3_11 := ht _ _ t3_10
                clear hb ht hR10 hB10 t3_10 t2_10
                refine step_append_run rfl (.tmp 68) (.tmp 72) 22 rfl rfl rfl hrun ?_
                clear hrun
                refine hK.out _ _ (fun _ => trivial) ?_
                clear hK K
                try simp only [Act.put, List.setIfInBounds_toArray, List.set_cons_zero, List.set_cons_succ]
                refine anyL_one 15 rfl (by kernel_rfl) (fun K hK => ?_)
                obtain ⟨Z12, z12, V12, hrun, hR12, hb, ht⟩ := app3 hR11 t3_11 hk3 hkb hB11.size
                have hB12 := hB11.trans hb
                clear hb ht hR11 hB11 t3_11
                refine step_append_run rfl (.tmp 74) (.tmp 78) 22 rfl rfl rfl hrun ?_
                clear hrun
                refine hK.out _ _ (fun _ => trivial) ?_
                clear hK K
                try simp only [Act.put, List.setIfInBounds_toArray, List.set_cons_zero, List.set_cons_succ]
                refine anyL_one 16 rfl (by kernel_rfl) (fun K hK => ?_)
                go_simp
                refine hK.out _ _ (fun _ => trivial) ?_
                clear hK K
                try simp only [Act.put, List.setIfInBounds_toArray, List.set_cons_zero, List.set_cons_succ]
                refine anyL_one 17 rfl (by kernel_rfl) (fun K hK => ?_)
                go_simp
                refine hK.out _ _ (fun _ => trivial) ?_
                clear hK K
                try simp only [Act.put, List.setIfInBounds_toArray, List.set_cons_zero, List.set_cons_succ]
                refine anyL_one 18 rfl (by kernel_rfl) (fun K hK => ?_)
                go_simp
                refine hK.out _ _ (fun _ => trivial) ?_
                clear hK K
                try simp only [Act.put, List.setIfInBounds_toArray, List.set_cons_zero, List.set_cons_succ]
                refine anyC_done (by kernel_rfl) ?_ _
                try simp only [Exit.then]
                have hRR := hek.out _ _ _ _ _ _ _ hR12
                clear hR12 hek
                go_wp2
                go_roundw
                case rel => exact ⟨k + 1, _, _, _, _, _, _, by omega, by go_num, rfl, rfl, rfl, hRR, hB12⟩
                case measure => simp [intOf]; omega
            · intro K hK
              go_simp
              refine hK.out _ _ (fun _ => trivial) ?_
              clear hK K
              try simp only [Act.put, List.setIfInBounds_toArray, List.set_cons_zero, List.set_cons_succ]
              refine fresh_any (fun W => Rows3 W w1.heap.size A1 c1 L1 A2 c2 L2 A3 c3 L3 ∧ Below w1.heap.size w1 W ∧ TAt W w4.drew.heap.size q A1 A2 A3 ∧ TAt W W0.heap.size q1 A1 A2 A3) ⟨hR0.alloc _, hB0.alloc hB0.size _, t1_0.alloc _, hR0.built q1⟩ ?_
              clear hR0 hB0 t1_0
              rintro W13 ⟨hR13, hB13, t1_13, t2_13⟩
              refine anyL_two 3 14 rfl rfl (by kernel_rfl) ?_ ?_
              · intro K hK
                obtain ⟨Z14, z14, V14, hrun, hR14, hb, ht⟩ := app1 hR13 t1_13 hk1 hkb hB13.size
                have hB14 := hB13.trans hb
                have t2_14 := ht _ _ t2_13
                clear hb ht hR13 hB13 t1_13 t2_13
                refine step_append_run rfl (.tmp 64) (.tmp 66) 22 rfl rfl rfl hrun ?_
                clear hrun
                refine hK.out _ _ (fun _ => trivial) ?_
                clear hK K
                try simp only [Act.put, List.setIfInBounds_toArray, List.set_cons_zero, List.set_cons_succ]
                refine anyL_two 9 14 rfl rfl (by kernel_rfl) ?_ ?_
                · intro K hK
                  obtain ⟨Z15, z15, V15, hrun, hR15, hb, ht⟩ := app2 hR14 t2_14 hk2 hkb hB14.size
                  have hB15 := hB14.trans hb
                  clear hb ht hR14 hB14 t2_14
                  refine step_append_run rfl (.tmp 68) (.tmp 72) 22 rfl rfl rfl hrun ?_
                  clear hrun
                  refine hK.out _ _ (fun _ => trivial) ?_
                  clear hK K
                  try simp only [Act.put, List.setIfInBounds_toArray, List.set_cons_zero, List.set_cons_succ]
                  refine anyL_one 14 rfl (by kernel_rfl) (fun K hK => ?_)
                  go_simp
                  refine hK.out _ _ (fun _ => trivial) ?_
                  clear hK K
                  try simp only [Act.put, List.setIfInBounds_toArray, List.set_cons_zero, List.set_cons_succ]
                  refine fresh_any (fun W => Rows3 W w1.heap.size Z14 z14 (L1 ++ [q]) Z15 z15 (L2 ++ [q1]) A3 c3 L3 ∧ Below w1.heap.size w1 W ∧ TAt W V15.heap.size q2 Z14 Z15 A3) ⟨hR15.alloc _, hB15.alloc hB15.size _, hR15.built q2⟩ ?_
                  clear hR15 hB15
                  rintro W16 ⟨hR16, hB16, t3_16⟩
                  refine anyL_one 15 rfl (by kernel_rfl) (fun K hK => ?_)
                  obtain ⟨Z17, z17, V17, hrun, hR17, hb, ht⟩ := app3 hR16 t3_16 hk3 hkb hB16.size
                  have hB17 := hB16.trans hb
                  clear hb ht hR16 hB16 t3_16
                  refine step_append_run rfl (.tmp 74) (.tmp 78) 22 rfl rfl rfl hrun ?_
                  clear hrun
                  refine hK.out _ _ (fun _ => trivial) ?_
                  clear hK K
                  try simp only [Act.put, List.setIfInBounds_toArray, List.set_cons_zero, List.set_cons_succ]
                  refine anyL_one 16 rfl (by kernel_rfl) (fun K hK => ?_)
                  go_simp
                  refine hK.out _ _ (fun _ => trivial) ?_
                  clear hK K
                  try simp only [Act.put, List.setIfInBounds_toArray, List.set_cons_zero, List.set_cons_succ]
                  refine anyL_one 17 rfl (by kernel_rfl) (fun K hK => ?_)
                  go_simp
                  refine hK.out _ _ (fun _ => trivial) ?_
                  clear hK K
                  try simp only [Act.put, List.setIfInBounds_toArray, List.set_cons_zero, List.set_cons_succ]
                  refine anyL_one 18 rfl (by kernel_rfl) (fun K hK => ?_)
                  go_simp
                  refine hK.out _ _ (fun _ => trivial) ?_
                  clear hK K
                  try simp only [Act.put, List.setIfInBounds_toArray, List.set_cons_zero, List.set_cons_succ]
                  refine anyC_done (by kernel_rfl) ?_ _
                  try simp only [Exit.then]
                  have hRR := hek.out _ _ _ _ _ _ _ hR17
                  clear hR17 hek
                  go_wp2
                  go_roundw
                  case rel => exact ⟨k + 1, _, _, _, _, _, _, by omega, by go_num, rfl, rfl, rfl, hRR, hB17⟩
                  case measure => simp [intOf]; omega
                · intro K hK
                  go_simp
                  refine hK.out _ _ (fun _ => trivial) ?_
                  clear hK K
                  try simp only [Act.put, List.setIfInBounds_toArray, List.set_cons_zero, List.set_cons_succ]
                  refine fresh_any (fun W => Rows3 W w1.heap.size Z14 z14 (L1 ++ [q]) A2 c2 L2 A3 c3 L3 ∧ Below w1.heap.size w1 W ∧ TAt W W0.heap.size q1 Z14 A2 A3 ∧ TAt W V14.heap.size q2 Z14 A2 A3) ⟨hR14.alloc _, hB14.alloc hB14.size _, t2_14.alloc _, hR14.built q2⟩ ?_
                  clear hR14 hB14 t2_14
                  rintro W18 ⟨hR18, hB18, t2_18, t3_18⟩
                  refine anyL_one 9 rfl (by kernel_rfl) (fun K hK => ?_)
                  obtain ⟨Z19, z19, V19, hrun, hR19, hb, ht⟩ := app2 hR18 t2_18 hk2 hkb hB18.size
                  have hB19 := hB18.trans hb
                  have t3_19 := ht _ _ t3_18
                  clear hb ht hR18 hB18 t2_18 t3_18
                  refine step_append_run rfl (.tmp 68) (.tmp 72) 22 rfl rfl rfl hrun ?_
                  clear hrun
                  refine hK.out _ _ (fun _ => trivial) ?_
                  clear hK K
                  try simp only [Act.put, List.setIfInBounds_toArray, List.set_cons_zero, List.set_cons_succ]
                  refine anyL_one 15 rfl (by kernel_rfl) (fun K hK => ?_)
                  obtain ⟨Z20, z20, V20, hrun, hR20, hb, ht⟩ := app3 hR19 t3_19 hk3 hkb hB19.size
                  have hB20 := hB19.trans hb
                  clear hb ht hR19 hB19 t3_19
                  refine step_append_run rfl (.tmp 74) (.tmp 78) 22 rfl rfl rfl hrun ?_
                  clear hrun
                  refine hK.out _ _ (fun _ => trivial) ?_
                  clear hK K
                  try simp only [Act.put, List.setIfInBounds_toArray, List.set_cons_zero, List.set_cons_succ]
                  refine anyL_one 16 rfl (by kernel_rfl) (fun K hK => ?_)
                  go_simp
                  refine hK.out _ _ (fun _ => trivial) ?_
                  clear hK K
                  try simp only [Act.put, List.setIfInBounds_toArray, List.set_cons_zero, List.set_cons_succ]
                  refine anyL_one 17 rfl (by kernel_rfl) (fun K hK => ?_)
                  go_simp
                  refine hK.out _ _ (fun _ => trivial) ?_
                  clear hK K
                  try simp only [Act.put, List.setIfInBounds_toArray, List.set_cons_zero, List.set_cons_succ]
                  refine anyL_one 18 rfl (by kernel_rfl) (fun K hK => ?_)
                  go_simp
                  refine hK.out _ _ (fun _ => trivial) ?_
                  clear hK K
                  try simp only [Act.put, List.setIfInBounds_toArray, List.set_cons_zero, List.set_cons_succ]
                  refine anyC_done (by kernel_rfl) ?_ _
                  try simp only [Exit.then]
                  have hRR := hek.out _ _ _ _ _ _ _ hR20
                  clear hR20 hek
                  go_wp2
                  go_roundw
                  case rel => exact ⟨k + 1, _, _, _, _, _, _, by omega, by go_num, rfl, rfl, rfl, hRR, hB20⟩
                  case measure => simp [intOf]; omega
              · intro K hK
                go_simp
                refine hK.out _ _ (fun _ => trivial) ?_
                clear hK K
                try simp only [Act.put, List.setIfInBounds_toArray, List.set_cons_zero, List.set_cons_succ]
                refine fresh_any (fun W => Rows3 W w1.heap.size A1 c1 L1 A2 c2 L2 A3 c3 L3 ∧ Below w1.heap.size w1 W ∧ TAt W w4.drew.heap.size q A1 A2 A3 ∧ TAt W W0.heap.size q1 A1 A2 A3 ∧ TAt W W13.heap.size q2 A1 A2 A3) ⟨hR13.alloc _, hB13.alloc hB13.size _, t1_13.alloc _, t2_13.alloc _, hR13.built q2⟩ ?_
                clear hR13 hB13 t1_13 t2_13
                rintro W21 ⟨hR21, hB21, t1_21, t2_21, t3_21⟩
                refine anyL_one 3 rfl (by kernel_rfl) (fun K hK => ?_)
                obtain ⟨Z22, z22, V22, hrun, hR22, hb, ht⟩ := app1 hR21 t1_21 hk1 hkb hB21.size
                have hB22 := hB21.trans hb
                have t2_22 := ht _ _ t2_21
                have t3_22 := ht _ _ t3_21
                clear hb ht hR21 hB21 t1_21 t2_21 t3_21
                refine step_append_run rfl (.tmp 64) (.tmp 66) 22 rfl rfl rfl hrun ?_
                clear hrun
                refine hK.out _ _ (fun _ => trivial) ?_
                clear hK K
                try simp only [Act.put, List.setIfInBounds_toArray, List.set_cons_zero, List.set_cons_succ]
                refine anyL_one 9 rfl (by kernel_rfl) (fun K hK => ?_)
                obtain ⟨Z23, z23, V23, hrun, hR23, hb, ht⟩ := app2 hR22 t2_22 hk2 hkb hB22.size
                have hB23 := hB22.trans hb
                have t3_23 := ht _ _ t3_22
                clear hb ht hR22 hB22 t2_22 t3_22
                refine step_append_run rfl (.tmp 68) (.tmp 72) 22 rfl rfl rfl hrun ?_
                clear hrun
                refine hK.out _ _ (fun _ => trivial) ?_
                clear hK K
                try simp only [Act.put, List.setIfInBounds_toArray, List.set_cons_zero, List.set_cons_succ]
                refine anyL_one 15 rfl (by kernel_rfl) (fun K hK => ?_)
                obtain ⟨Z24, z24, V24, hrun, hR24, hb, ht⟩ := app3 hR23 t3_23 hk3 hkb hB23.size
                have hB24 := hB23.trans hb
                clear hb ht hR23 hB23 t3_23
                refine step_append_run rfl (.tmp 74) (.tmp 78) 22 rfl rfl rfl hrun ?_
                clear hrun
                refine hK.out _ _ (fun _ => trivial) ?_
                clear hK K
                try simp only [Act.put, List.setIfInBounds_toArray, List.set_cons_zero, List.set_cons_succ]
                refine anyL_one 16 rfl (by kernel_rfl) (fun K hK => ?_)
                go_simp
                refine hK.out _ _ (fun _ => trivial) ?_
                clear hK K
                try simp only [Act.put, List.setIfInBounds_toArray, List.set_cons_zero, List.set_cons_succ]
                refine anyL_one 17 rfl (by kernel_rfl) (fun K hK => ?_)
                go_simp
                refine hK.out _ _ (fun _ => trivial) ?_
                clear hK K
                try simp only [Act.put, List.setIfInBounds_toArray, List.set_cons_zero, List.set_cons_succ]
                refine anyL_one 18 rfl (by kernel_rfl) (fun K hK => ?_)
                go_simp
                refine hK.out _ _ (fun _ => trivial) ?_
                clear hK K
                try simp only [Act.put, List.setIfInBounds_toArray, List.set_cons_zero, List.set_cons_succ]
                refine anyC_done (by kernel_rfl) ?_ _
                try simp only [Exit.then]
                have hRR := hek.out _ _ _ _ _ _ _ hR24
                clear hR24 hek
                go_wp2
                go_roundw
                case rel => exact ⟨k + 1, _, _, _, _, _, _, by omega, by go_num, rfl, rfl, rfl, hRR, hB24⟩
                case measure => simp [intOf]; omega
            · intro K hK
              go_simp
              refine hK.out _ _ (fun _ => trivial) ?_
              clear hK K
              try simp only [Act.put, List.setIfInBounds_toArray, List.set_cons_zero, List.set_cons_succ]
              refine fresh_any (fun W => Rows3 W w1.heap.size A1 c1 L1 A2 c2 L2 A3 c3 L3 ∧ Below w1.heap.size w1 W ∧ TAt W w4.drew.heap.size q A1 A2 A3 ∧ TAt W W0.heap.size q2 A1 A2 A3) ⟨hR0.alloc _, hB0.alloc hB0.size _, t1_0.alloc _, hR0.built q2⟩ ?_
              clear hR0 hB0 t1_0
              rintro W25 ⟨hR25, hB25, t1_25, t3_25⟩
              refine anyL_two 3 8 rfl rfl (by kernel_rfl) ?_ ?_
              · intro K hK
                obtain ⟨Z26, z26, V26, hrun, hR26, hb, ht⟩ := app1 hR25 t1_25 hk1 hkb hB25.size
                have hB26 := hB25.trans hb
                have t3_26 := ht _ _ t3_25
                clear hb ht hR25 hB25 t1_25 t3_25
                refine step_append_run rfl (.tmp 64) (.tmp 66) 22 rfl rfl rfl hrun ?_
                clear hrun
                refine hK.out _ _ (fun _ => trivial) ?_
                clear hK K
                try simp only [Act.put, List.setIfInBounds_toArray, List.set_cons_zero, List.set_cons_succ]
                refine anyL_one 8 rfl (by kernel_rfl) (fun K hK => ?_)
                go_simp
                refine hK.out _ _ (fun _ => trivial) ?_
                clear hK K
                try simp only [Act.put, List.setIfInBounds_toArray, List.set_cons_zero, List.set_cons_succ]
                refine fresh_any (fun W => Rows3 W w1.heap.size Z26 z26 (L1 ++ [q]) A2 c2 L2 A3 c3 L3 ∧ Below w1.heap.size w1 W ∧ TAt W W0.heap.size q2 Z26 A2 A3 ∧ TAt W V26.heap.size q1 Z26 A2 A3) ⟨hR26.alloc _, hB26.alloc hB26.size _, t3_26.alloc _, hR26.built q1⟩ ?_
                clear hR26 hB26 t3_26
                rintro W27 ⟨hR27, hB27, t3_27, t2_27⟩
                refine anyL_one 9 rfl (by kernel_rfl) (fun K hK => ?_)
                obtain ⟨Z28, z28, V28, hrun, hR28, hb, ht⟩ := app2 hR27 t2_27 hk2 hkb hB27.size
                have hB28 := hB27.trans hb
                have t3_28 := ht _ _ t3_27
                clear hb ht hR27 hB27 t3_27 t2_27
                refine step_append_run rfl (.tmp 68) (.tmp 72) 22 rfl rfl rfl hrun ?_
                clear hrun
                refine hK.out _ _ (fun _ => trivial) ?_
                clear hK K
                try simp only [Act.put, List.setIfInBounds_toArray, List.set_cons_zero, List.set_cons_succ]
                refine anyL_one 15 rfl (by kernel_rfl) (fun K hK => ?_)
                obtain ⟨Z29, z29, V29, hrun, hR29, hb, ht⟩ := app3 hR28 t3_28 hk3 hkb hB28.size
                have hB29 := hB28.trans hb
                clear hb ht hR28 hB28 t3_28
                refine step_append_run rfl (.tmp 74) (.tmp 78) 22 rfl rfl rfl hrun ?_
                clear hrun
                refine hK.out _ _ (fun _ => trivial) ?_
                clear hK K
                try simp only [Act.put, List.setIfInBounds_toArray, List.set_cons_zero, List.set_cons_succ]
                refine anyL_one 16 rfl (by kernel_rfl) (fun K hK => ?_)
                go_simp
                refine hK.out _ _ (fun _ => trivial) ?_
                clear hK K
                try simp only [Act.put, List.setIfInBounds_toArray, List.set_cons_zero, List.set_cons_succ]
                refine anyL_one 17 rfl (by kernel_rfl) (fun K hK => ?_)
                go_simp
                refine hK.out _ _ (fun _ => trivial) ?_
                clear hK K
                try simp only [Act.put, List.setIfInBounds_toArray, List.set_cons_zero, List.set_cons_succ]
                refine anyL_one 18 rfl (by kernel_rfl) (fun K hK => ?_)
                go_simp
                refine hK.out _ _ (fun _ => trivial) ?_
                clear hK K
                try simp only [Act.put, List.setIfInBounds_toArray, List.set_cons_zero, List.set_cons_succ]
                refine anyC_done (by kernel_rfl) ?_ _
                try simp only [Exit.then]
                have hRR := hek.out _ _ _ _ _ _ _ hR29
                clear hR29 hek
                go_wp2
                go_roundw
                case rel => exact ⟨k + 1, _, _, _, _, _, _, by omega, by go_num, rfl, rfl, rfl, hRR, hB29⟩
                case measure => simp [intOf]; omega
              · intro K hK
                go_simp
                refine hK.out _ _ (fun _ => trivial) ?_
                clear hK K
                try simp only [Act.put, List.setIfInBounds_toArray, List.set_cons_zero, List.set_cons_succ]
                refine fresh_any (fun W => Rows3 W w1.heap.size A1 c1 L1 A2 c2 L2 A3 c3 L3 ∧ Below w1.heap.size w1 W ∧ TAt W w4.drew.heap.size q A1 A2 A3 ∧ TAt W W0.heap.size q2 A1 A2 A3 ∧ TAt W W25.heap.size q1 A1 A2 A3) ⟨hR25.alloc _, hB25.alloc hB25.size _, t1_25.alloc _, t3_25.alloc _, hR25.built q1⟩ ?_
                clear hR25 hB25 t1_25 t3_25
                rintro W30 ⟨hR30, hB30, t1_30, t3_30, t2_30⟩
                refine anyL_one 3 rfl (by kernel_rfl) (fun K hK => ?_)
                obtain ⟨Z31, z31, V31, hrun, hR31, hb, ht⟩ := app1 hR30 t1_30 hk1 hkb hB30.size
                have hB31 := hB30.trans hb
                have t2_31 := ht _ _ t2_30
                have t3_31 := ht _ _ t3_30
                clear hb ht hR30 hB30 t1_30 t3_30 t2_30
                refine step_append_run rfl (.tmp 64) (.tmp 66) 22 rfl rfl rfl hrun ?_
                clear hrun
                refine hK.out _ _ (fun _ => trivial) ?_
                clear hK K
                try simp only [Act.put, List.setIfInBounds_toArray, List.set_cons_zero, List.set_cons_succ]
                refine anyL_one 9 rfl (by kernel_rfl) (fun K hK => ?_)
                obtain ⟨Z32, z32, V32, hrun, hR32, hb, ht⟩ := app2 hR31 t2_31 hk2 hkb hB31.size
                have hB32 := hB31.trans hb
                have t3_32 := ht _ _ t3_31
                clear hb ht hR31 hB31 t2_31 t3_31
                refine step_append_run rfl (.tmp 68) (.tmp 72) 22 rfl rfl rfl hrun ?_
                clear hrun
                refine hK.out _ _ (fun _ => trivial) ?_
                clear hK K
                try simp only [Act.put, List.setIfInBounds_toArray, List.set_cons_zero, List.set_cons_succ]
                refine anyL_one 15 rfl (by kernel_rfl) (fun K hK => ?_)
                obtain ⟨Z33, z33, V33, hrun, hR33, hb, ht⟩ := app3 hR32 t3_32 hk3 hkb hB32.size
                have hB33 := hB32.trans hb
                clear hb ht hR32 hB32 t3_32
                refine step_append_run rfl (.tmp 74) (.tmp 78) 22 rfl rfl rfl hrun ?_
                clear hrun
                refine hK.out _ _ (fun _ => trivial) ?_
                clear hK K
                try simp only [Act.put, List.setIfInBounds_toArray, List.set_cons_zero, List.set_cons_succ]
                refine anyL_one 16 rfl (by kernel_rfl) (fun K hK => ?_)
                go_simp
                refine hK.out _ _ (fun _ => trivial) ?_
                clear hK K
                try simp only [Act.put, List.setIfInBounds_toArray, List.set_cons_zero, List.set_cons_succ]
                refine anyL_one 17 rfl (by kernel_rfl) (fun K hK => ?_)
                go_simp
                refine hK.out _ _ (fun _ => trivial) ?_
                clear hK K
                try simp only [Act.put, List.setIfInBounds_toArray, List.set_cons_zero, List.set_cons_succ]
                refine anyL_one 18 rfl (by kernel_rfl) (fun K hK => ?_)
                go_simp
                refine hK.out _ _ (fun _ => trivial) ?_
                clear hK K
                try simp only [Act.put, List.setIfInBounds_toArray, List.set_cons_zero, List.set_cons_succ]
                refine anyC_done (by kernel_rfl) ?_ _
                try simp only [Exit.then]
                have hRR := hek.out _ _ _ _ _ _ _ hR33
                clear hR33 hek
                go_wp2
                go_roundw
                case rel => exact ⟨k + 1, _, _, _, _, _, _, by omega, by go_num, rfl, rfl, rfl, hRR, hB33⟩
                case measure => simp [intOf]; omega
          · intro K hK
            go_simp
            refine hK.out _ _ (fun _ => trivial) ?_
            clear hK K
            try simp only [Act.put, List.setIfInBounds_toArray, List.set_cons_zero, List.set_cons_succ]
            refine fresh_any (fun W => Rows3 W w1.heap.size A1 c1 L1 A2 c2 L2 A3 c3 L3 ∧ Below w1.heap.size w1 W ∧ TAt W w4.drew.heap.size q1 A1 A2 A3) ⟨hRd.alloc _, hBd.alloc hBd.size _, hRd.built q1⟩ ?_
            clear hRd hBd
            rintro W34 ⟨hR34, hB34, t2_34⟩
            refine anyL_two 2 14 rfl rfl (by kernel_rfl) ?_ ?_
            · intro K hK
              go_simp
              refine hK.out _ _ (fun _ => trivial) ?_
              clear hK K
              try simp only [Act.put, List.setIfInBounds_toArray, List.set_cons_zero, List.set_cons_succ]
              refine fresh_any (fun W => Rows3 W w1.heap.size A1 c1 L1 A2 c2 L2 A3 c3 L3 ∧ Below w1.heap.size w1 W ∧ TAt W w4.drew.heap.size q1 A1 A2 A3 ∧ TAt W W34.heap.size q A1 A2 A3) ⟨hR34.alloc _, hB34.alloc hB34.size _, t2_34.alloc _, hR34.built q⟩ ?_
              clear hR34 hB34 t2_34
              rintro W35 ⟨hR35, hB35, t2_35, t1_35⟩
              refine anyL_two 3 14 rfl rfl (by kernel_rfl) ?_ ?_
              · intro K hK
                obtain ⟨Z36, z36, V36, hrun, hR36, hb, ht⟩ := app1 hR35 t1_35 hk1 hkb hB35.size
                have hB36 := hB35.trans hb
                have t2_36 := ht _ _ t2_35
                clear hb ht hR35 hB35 t2_35 t1_35
                refine step_append_run rfl (.tmp 64) (.tmp 66) 22 rfl rfl rfl hrun ?_
                clear hrun
                refine hK.out _ _ (fun _ => trivial) ?_
                clear hK K
                try simp only [Act.put, List.setIfInBounds_toArray, List.set_cons_zero, List.set_cons_succ]
                refine anyL_two 9 14 rfl rfl (by kernel_rfl) ?_ ?_
                · intro K hK
                  obtain ⟨Z37, z37, V37, hrun, hR37, hb, ht⟩ := app2 hR36 t2_36 hk2 hkb hB36.size
                  have hB37 := hB36.trans hb
                  clear hb ht hR36 hB36 t2_36
                  refine step_append_run rfl (.tmp 68) (.tmp 72) 22 rfl rfl rfl hrun ?_
                  clear hrun
                  refine hK.out _ _ (fun _ => trivial) ?_
                  clear hK K
                  try simp only [Act.put, List.setIfInBounds_toArray, List.set_cons_zero, List.set_cons_succ]
                  refine anyL_one 14 rfl (by kernel_rfl) (fun K hK => ?_)
                  go_simp
                  refine hK.out _ _ (fun _ => trivial) ?_
                  clear hK K
                  try simp only [Act.put, List.setIfInBounds_toArray, List.set_cons_zero, List.set_cons_succ]
                  refine fresh_any (fun W => Rows3 W w1.heap.size Z36 z36 (L1 ++ [q]) Z37 z37 (L2 ++ [q1]) A3 c3 L3 ∧ Below w1.heap.size w1 W ∧ TAt W V37.heap.size q2 Z36 Z37 A3) ⟨hR37.alloc _, hB37.alloc hB37.size _, hR37.built q2⟩ ?_
                  clear hR37 hB37
                  rintro W38 ⟨hR38, hB38, t3_38⟩
                  refine anyL_one 15 rfl (by kernel_rfl) (fun K hK => ?_)
                  obtain ⟨Z39, z39, V39, hrun, hR39, hb, ht⟩ := app3 hR38 t3_38 hk3 hkb hB38.size
                  have hB39 := hB38.trans hb
                  clear hb ht hR38 hB38 t3_38
                  refine step_append_run rfl (.tmp 74) (.tmp 78) 22 rfl rfl rfl hrun ?_
                  clear hrun
                  refine hK.out _ _ (fun _ => trivial) ?_
                  clear hK K
                  try simp only [Act.put, List.setIfInBounds_toArray, List.set_cons_zero, List.set_cons_succ]
                  refine anyL_one 16 rfl (by kernel_rfl) (fun K hK => ?_)
                  go_simp
                  refine hK.out _ _ (fun _ => trivial) ?_
                  clear hK K
                  try simp only [Act.put, List.setIfInBounds_toArray, List.set_cons_zero, List.set_cons_succ]
                  refine anyL_one 17 rfl (by kernel_rfl) (fun K hK => ?_)
                  go_simp
                  refine hK.out _ _ (fun _ => trivial) ?_
                  clear hK K
                  try simp only [Act.put, List.setIfInBounds_toArray, List.set_cons_zero, List.set_cons_succ]
                  refine anyL_one 18 rfl (by kernel_rfl) (fun K hK => ?_)
                  go_simp
                  refine hK.out _ _ (fun _ => trivial) ?_
                  clear hK K
                  try simp only [Act.put, List.setIfInBounds_toArray, List.set_cons_zero, List.set_cons_succ]
                  refine anyC_done (by kernel_rfl) ?_ _
                  try simp only [Exit.then]
                  have hRR := hek.out _ _ _ _ _ _ _ hR39
                  clear hR39 hek
                  go_wp2
                  go_roundw
                  case rel => exact ⟨k + 1, _, _, _, _, _, _, by omega, by go_num, rfl, rfl, rfl, hRR, hB39⟩
                  case measure => simp [intOf]; omega
                · intro K hK
                  go_simp
                  refine hK.out _ _ (fun _ => trivial) ?_
                  clear hK K
                  try simp only [Act.put, List.setIfInBounds_toArray, List.set_cons_zero, List.set_cons_succ]
                  refine fresh_any (fun W => Rows3 W w1.heap.size Z36 z36 (L1 ++ [q]) A2 c2 L2 A3 c3 L3 ∧ Below w1.heap.size w1 W ∧ TAt W w4.drew.heap.size q1 Z36 A2 A3 ∧ TAt W V36.heap.size q2 Z36 A2 A3) ⟨hR36.alloc _, hB36.alloc hB36.size _, t2_36.alloc _, hR36.built q2⟩ ?_
                  clear hR36 hB36 t2_36
                  rintro W40 ⟨hR40, hB40, t2_40, t3_40⟩
                  refine anyL_one 9 rfl (by kernel_rfl) (fun K hK => ?_)
                  obtain ⟨Z41, z41, V41, hrun, hR41, hb, ht⟩ := app2 hR40 t2_40 hk2 hkb hB40.size
                  have hB41 := hB40.trans hb
                  have t3_41 := ht _ _ t3_40
                  clear hb ht hR40 hB40 t2_40 t3_40
                  refine step_append_run rfl (.tmp 68) (.tmp 72) 22 rfl rfl rfl hrun ?_
                  clear hrun
                  refine hK.out _ _ (fun _ => trivial) ?_
                  clear hK K
                  try simp only [Act.put, List.setIfInBounds_toArray, List.set_cons_zero, List.set_cons_succ]
                  refine anyL_one 15 rfl (by kernel_rfl) (fun K hK => ?_)
                  obtain ⟨Z42, z42, V42, hrun, hR42, hb, ht⟩ := app3 hR41 t3_41 hk3 hkb hB41.size
                  have hB42 := hB41.trans hb
                  clear hb ht hR41 hB41 t3_41
                  refine step_append_run rfl (.tmp 74) (.tmp 78) 22 rfl rfl rfl hrun ?_
                  clear hrun
                  refine hK.out _ _ (fun _ => trivial) ?_
                  clear hK K
                  try simp only [Act.put, List.setIfInBounds_toArray, List.set_cons_zero, List.set_cons_succ]
                  refine anyL_one 16 rfl (by kernel_rfl) (fun K hK => ?_)
                  go_simp
                  refine hK.out _ _ (fun _ => trivial) ?_
                  clear hK K
                  try simp only [Act.put, List.setIfInBounds_toArray, List.set_cons_zero, List.set_cons_succ]
                  refine anyL_one 17 rfl (by kernel_rfl) (fun K hK => ?_)
                  go_simp
                  refine hK.out _ _ (fun _ => trivial) ?_
                  clear hK K
                  try simp only [Act.put, List.setIfInBounds_toArray, List.set_cons_zero, List.set_cons_succ]
                  refine anyL_one 18 rfl (by kernel_rfl) (fun K hK => ?_)
                  go_simp
                  refine hK.out _ _ (fun _ => trivial) ?_
                  clear hK K
                  try simp only [Act.put, List.setIfInBounds_toArray, List.set_cons_zero, List.set_cons_succ]
                  refine anyC_done (by kernel_rfl) ?_ _
                  try simp only [Exit.then]
                  have hRR := hek.out _ _ _ _ _ _ _ hR42
                  clear hR42 hek
                  go_wp2
                  go_roundw
                  case rel => exact ⟨k + 1, _, _, _, _, _, _, by omega, by go_num, rfl, rfl, rfl, hRR, hB42⟩
                  case measure => simp [intOf]; omega
              · intro K hK
                go_simp
                refine hK.out _ _ (fun _ => trivial) ?_
                clear hK K
                try simp only [Act.put, List.setIfInBounds_toArray, List.set_cons_zero, List.set_cons_succ]
                refine fresh_any (fun W => Rows3 W w1.heap.size A1 c1 L1 A2 c2 L2 A3 c3 L3 ∧ Below w1.heap.size w1 W ∧ TAt W W34.heap.size q A1 A2 A3 ∧ TAt W w4.drew.heap.size q1 A1 A2 A3 ∧ TAt W W35.heap.size q2 A1 A2 A3) ⟨hR35.alloc _, hB35.alloc hB35.size _, t1_35.alloc _, t2_35.alloc _, hR35.built q2⟩ ?_
                clear hR35 hB35 t1_35 t2_35
                rintro W43 ⟨hR43, hB43, t1_43, t2_43, t3_43⟩
                refine anyL_one 3 rfl (by kernel_rfl) (fun K hK => ?_)
                obtain ⟨Z44, z44, V44, hrun, hR44, hb, ht⟩ := app1 hR43 t1_43 hk1 hkb hB43.size
                have hB44 := hB43.trans hb
                have t2_44 := ht _ _ t2_43
                have t3_44 := ht _ _ t3_43
                clear hb ht hR43 hB43 t1_43 t2_43 t3_43
                refine step_append_run rfl (.tmp 64) (.tmp 66) 22 rfl rfl rfl hrun ?_
                clear hrun
                refine hK.out _ _ (fun _ => trivial) ?_
                clear hK K
                try simp only [Act.put, List.setIfInBounds_toArray, List.set_cons_zero, List.set_cons_succ]
                refine anyL_one 9 rfl (by kernel_rfl) (fun K hK => ?_)
                obtain ⟨Z45, z45, V45, hrun, hR45, hb, ht⟩ := app2 hR44 t2_44 hk2 hkb hB44.size
                have hB45 := hB44.trans hb
                have t3_45 := ht _ _ t3_44
                clear hb ht hR44 hB44 t2_44 t3_44
                refine step_append_run rfl (.tmp 68) (.tmp 72) 22 rfl rfl rfl hrun ?_
                clear hrun
                refine hK.out _ _ (fun _ => trivial) ?_
                clear hK K
                try simp only [Act.put, List.setIfInBounds_toArray, List.set_cons_zero, List.set_cons_succ]
                refine anyL_one 15 rfl (by kernel_rfl) (fun K hK => ?_)
                obtain ⟨Z46, z46, V46, hrun, hR46, hb, ht⟩ := app3 hR45 t3_45 hk3 hkb hB45.size
                have hB46 := hB45.trans hb
                clear hb ht hR45 hB45 t3_45
                refine step_append_run rfl (.tmp 74) (.tmp 78) 22 rfl rfl rfl hrun ?_
                clear hrun
                refine hK.out _ _ (fun _ => trivial) ?_
                clear hK K
                try simp only [Act.put, List.setIfInBounds_toArray, List.set_cons_zero, List.set_cons_succ]
                refine anyL_one 16 rfl (by kernel_rfl) (fun K hK => ?_)
                go_simp
                refine hK.out _ _ (fun _ => trivial) ?_
                clear hK K
                try simp only [Act.put, List.setIfInBounds_toArray, List.set_cons_zero, List.set_cons_succ]
                refine anyL_one 17 rfl (by kernel_rfl) (fun K hK => ?_)
                go_simp
                refine hK.out _ _ (fun _ => trivial) ?_
                clear hK K
                try simp only [Act.put, List.setIfInBounds_toArray, List.set_cons_zero, List.set_cons_succ]
                refine anyL_one 18 rfl (by kernel_rfl) (fun K hK => ?_)
                go_simp
                refine hK.out _ _ (fun _ => trivial) ?_
                clear hK K
                try simp only [Act.put, List.setIfInBounds_toArray, List.set_cons_zero, List.set_cons_succ]
                refine anyC_done (by kernel_rfl) ?_ _
                try simp only [Exit.then]
                have hRR := hek.out _ _ _ _ _ _ _ hR46
                clear hR46 hek
                go_wp2
                go_roundw
                case rel => exact ⟨k + 1, _, _, _, _, _, _, by omega, by go_num, rfl, rfl, rfl, hRR, hB46⟩
                case measure => simp [intOf]; omega
            · intro K hK
              go_simp
              refine hK.out _ _ (fun _ => trivial) ?_
              clear hK K
              try simp only [Act.put, List.setIfInBounds_toArray, List.set_cons_zero, List.set_cons_succ]
              refine fresh_any (fun W => Rows3 W w1.heap.size A1 c1 L1 A2 c2 L2 A3 c3 L3 ∧ Below w1.heap.size w1 W ∧ TAt W w4.drew.heap.size q1 A1 A2 A3 ∧ TAt W W34.heap.size q2 A1 A2 A3) ⟨hR34.alloc _, hB34.alloc hB34.size _, t2_34.alloc _, hR34.built q2⟩ ?_
              clear hR34 hB34 t2_34
              rintro W47 ⟨hR47, hB47, t2_47, t3_47⟩
              refine anyL_one 2 rfl (by kernel_rfl) (fun K hK => ?_)
              go_simp
              refine hK.out _ _ (fun _ => trivial) ?_
              clear hK K
              try simp only [Act.put, List.setIfInBounds_toArray, List.set_cons_zero, List.set_cons_succ]
              refine fresh_any (fun W => Rows3 W w1.heap.size A1 c1 L1 A2 c2 L2 A3 c3 L3 ∧ Below w1.heap.size w1 W ∧ TAt W w4.drew.heap.size q1 A1 A2 A3 ∧ TAt W W34.heap.size q2 A1 A2 A3 ∧ TAt W W47.heap.size q A1 A2 A3) ⟨hR47.alloc _, hB47.alloc hB47.size _, t2_47.alloc _, t3_47.alloc _, hR47.built q⟩ ?_
              clear hR47 hB47 t2_47 t3_47
              rintro W48 ⟨hR48, hB48, t2_48, t3_48, t1_48⟩
              refine anyL_one 3 rfl (by kernel_rfl) (fun K hK => ?_)
              obtain ⟨Z49, z49, V49, hrun, hR49, hb, ht⟩ := app1 hR48 t1_48 hk1 hkb hB48.size
              have hB49 := hB48.trans hb
              have t2_49 := ht _ _ t2_48
              have t3_49 := ht _ _ t3_48
              clear hb ht hR48 hB48 t2_48 t3_48 t1_48
              refine step_append_run rfl (.tmp 64) (.tmp 66) 22 rfl rfl rfl hrun ?_
              clear hrun
              refine hK.out _ _ (fun _ => trivial) ?_
              clear hK K
              try simp only [Act.put, List.setIfInBounds_toArray, List.set_cons_zero, List.set_cons_succ]
              refine anyL_one 9 rfl (by kernel_rfl) (fun K hK => ?_)
              obtain ⟨Z50, z50, V50, hrun, hR50, hb, ht⟩ := app2 hR49 t2_49 hk2 hkb hB49.size
              have hB50 := hB49.trans hb
              have t3_50 := ht _ _ t3_49
              clear hb ht hR49 hB49 t2_49 t3_49
              refine step_append_run rfl (.tmp 68) (.tmp 72) 22 rfl rfl rfl hrun ?_
              clear hrun
              refine hK.out _ _ (fun _ => trivial) ?_
              clear hK K
              try simp only [Act.put, List.setIfInBounds_toArray, List.set_cons_zero, List.set_cons_succ]
              refine anyL_one 15 rfl (by kernel_rfl) (fun K hK => ?_)
              obtain ⟨Z51, z51, V51, hrun, hR51, hb, ht⟩ := app3 hR50 t3_50 hk3 hkb hB50.size
              have hB51 := hB50.trans hb
              clear hb ht hR50 hB50 t3_50
              refine step_append_run rfl (.tmp 74) (.tmp 78) 22 rfl rfl rfl hrun ?_
              clear hrun
              refine hK.out _ _ (fun _ => trivial) ?_
              clear hK K
              try simp only [Act.put, List.setIfInBounds_toArray, List.set_cons_zero, List.set_cons_succ]
              refine anyL_one 16 rfl (by kernel_rfl) (fun K hK => ?_)
              go_simp
              refine hK.out _ _ (fun _ => trivial) ?_
              clear hK K
              try simp only [Act.put, List.setIfInBounds_toArray, List.set_cons_zero, List.set_cons_succ]
              refine anyL_one 17 rfl (by kernel_rfl) (fun K hK => ?_)
              go_simp
              refine hK.out _ _ (fun _ => trivial) ?_
              clear hK K
              try simp only [Act.put, List.setIfInBounds_toArray, List.set_cons_zero, List.set_cons_succ]
              refine anyL_one 18 rfl (by kernel_rfl) (fun K hK => ?_)
              go_simp
              refine hK.out _ _ (fun _ => trivial) ?_
              clear hK K
              try simp only [Act.put, List.setIfInBounds_toArray, List.set_cons_zero, List.set_cons_succ]
              refine anyC_done (by kernel_rfl) ?_ _
              try simp only [Exit.then]
              have hRR := hek.out _ _ _ _ _ _ _ hR51
              clear hR51 hek
              go_wp2
              go_roundw
              case rel => exact ⟨k + 1, _, _, _, _, _, _, by omega, by go_num, rfl, rfl, rfl, hRR, hB51⟩
              case measure => simp [intOf]; omega
          · intro K hK
            go_simp
            refine hK.out _ _ (fun _ => trivial) ?_
            clear hK K
            try simp only [Act.put, List.setIfInBounds_toArray, List.set_cons_zero, List.set_cons_succ]
            refine fresh_any (fun W => Rows3 W w1.heap.size A1 c1 L1 A2 c2 L2 A3 c3 L3 ∧ Below w1.heap.size w1 W ∧ TAt W w4.drew.heap.size q2 A1 A2 A3) ⟨hRd.alloc _, hBd.alloc hBd.size _, hRd.built q2⟩ ?_
            clear hRd hBd
            rintro W52 ⟨hR52, hB52, t3_52⟩
            refine anyL_two 2 8 rfl rfl (by kernel_rfl) ?_ ?_
            · intro K hK
              go_simp
              refine hK.out _ _ (fun _ => trivial) ?_
              clear hK K
              try simp only [Act.put, List.setIfInBounds_toArray, List.set_cons_zero, List.set_cons_succ]
              refine fresh_any (fun W => Rows3 W w1.heap.size A1 c1 L1 A2 c2 L2 A3 c3 L3 ∧ Below w1.heap.size w1 W ∧ TAt W w4.drew.heap.size q2 A1 A2 A3 ∧ TAt W W52.heap.size q A1 A2 A3) ⟨hR52.alloc _, hB52.alloc hB52.size _, t3_52.alloc _, hR52.built q⟩ ?_
              clear hR52 hB52 t3_52
              rintro W53 ⟨hR53, hB53, t3_53, t1_53⟩
              refine anyL_two 3 8 rfl rfl (by kernel_rfl) ?_ ?_
              · intro K hK
                obtain ⟨Z54, z54, V54, hrun, hR54, hb, ht⟩ := app1 hR53 t1_53 hk1 hkb hB53.size
                have hB54 := hB53.trans hb
                have t3_54 := ht _ _ t3_53
                clear hb ht hR53 hB53 t3_53 t1_53
                refine step_append_run rfl (.tmp 64) (.tmp 66) 22 rfl rfl rfl hrun ?_
                clear hrun
                refine hK.out _ _ (fun _ => trivial) ?_
                clear hK K
                try simp only [Act.put, List.setIfInBounds_toArray, List.set_cons_zero, List.set_cons_succ]
                refine anyL_one 8 rfl (by kernel_rfl) (fun K hK => ?_)
                go_simp
                refine hK.out _ _ (fun _ => trivial) ?_
                clear hK K
                try simp only [Act.put, List.setIfInBounds_toArray, List.set_cons_zero, List.set_cons_succ]
                refine fresh_any (fun W => Rows3 W w1.heap.size Z54 z54 (L1 ++ [q]) A2 c2 L2 A3 c3 L3 ∧ Below w1.heap.size w1 W ∧ TAt W w4.drew.heap.size q2 Z54 A2 A3 ∧ TAt W V54.heap.size q1 Z54 A2 A3) ⟨hR54.alloc _, hB54.alloc hB54.size _, t3_54.alloc _, hR54.built q1⟩ ?_
                clear hR54 hB54 t3_54
                rintro W55 ⟨hR55, hB55, t3_55, t2_55⟩
                refine anyL_one 9 rfl (by kernel_rfl) (fun K hK => ?_)
                obtain ⟨Z56, z56, V56, hrun, hR56, hb, ht⟩ := app2 hR55 t2_55 hk2 hkb hB55.size
                have hB56 := hB55.trans hb
                have t3_56 := ht _ _ t3_55
                clear hb ht hR55 hB55 t3_55 t2_55
                refine step_append_run rfl (.tmp 68) (.tmp 72) 22 rfl rfl rfl hrun ?_
                clear hrun
                refine hK.out _ _ (fun _ => trivial) ?_
                clear hK K
                try simp only [Act.put, List.setIfInBounds_toArray, List.set_cons_zero, List.set_cons_succ]
                refine anyL_one 15 rfl (by kernel_rfl) (fun K hK => ?_)
                obtain ⟨Z57, z57, V57, hrun, hR57, hb, ht⟩ := app3 hR56 t3_56 hk3 hkb hB56.size
                have hB57 := hB56.trans hb
                clear hb ht hR56 hB56 t3_56
                refine step_append_run rfl (.tmp 74) (.tmp 78) 22 rfl rfl rfl hrun ?_
                clear hrun
                refine hK.out _ _ (fun _ => trivial) ?_
                clear hK K
                try simp only [Act.put, List.setIfInBounds_toArray, List.set_cons_zero, List.set_cons_succ]
                refine anyL_one 16 rfl (by kernel_rfl) (fun K hK => ?_)
                go_simp
                refine hK.out _ _ (fun _ => trivial) ?_
                clear hK K
                try simp only [Act.put, List.setIfInBounds_toArray, List.set_cons_zero, List.set_cons_succ]
                refine anyL_one 17 rfl (by kernel_rfl) (fun K hK => ?_)
                go_simp
                refine hK.out _ _ (fun _ => trivial) ?_
                clear hK K
                try simp only [Act.put, List.setIfInBounds_toArray, List.set_cons_zero, List.set_cons_succ]
                refine anyL_one 18 rfl (by kernel_rfl) (fun K hK => ?_)
                go_simp
                refine hK.out _ _ (fun _ => trivial) ?_
                clear hK K
                try simp only [Act.put, List.setIfInBounds_toArray, List.set_cons_zero, List.set_cons_succ]
                refine anyC_done (by kernel_rfl) ?_ _
                try simp only [Exit.then]
                have hRR := hek.out _ _ _ _ _ _ _ hR57
                clear hR57 hek
                go_wp2
                go_roundw
                case rel => exact ⟨k + 1, _, _, _, _, _, _, by omega, by go_num, rfl, rfl, rfl, hRR, hB57⟩
                case measure => simp [intOf]; omega
              · intro K hK
                go_simp
                refine hK.out _ _ (fun _ => trivial) ?_
                clear hK K
                try simp only [Act.put, List.setIfInBounds_toArray, List.set_cons_zero, List.set_cons_succ]
                refine fresh_any (fun W => Rows3 W w1.heap.size A1 c1 L1 A2 c2 L2 A3 c3 L3 ∧ Below w1.heap.size w1 W ∧ TAt W W52.heap.size q A1 A2 A3 ∧ TAt W w4.drew.heap.size q2 A1 A2 A3 ∧ TAt W W53.heap.size q1 A1 A2 A3) ⟨hR53.alloc _, hB53.alloc hB53.size _, t1_53.alloc _, t3_53.alloc _, hR53.built q1⟩ ?_
                clear hR53 hB53 t1_53 t3_53
                rintro W58 ⟨hR58, hB58, t1_58, t3_58, t2_58⟩
                refine anyL_one 3 rfl (by kernel_rfl) (fun K hK => ?_)
                obtain ⟨Z59, z59, V59, hrun, hR59, hb, ht⟩ := app1 hR58 t1_58 hk1 hkb hB58.size
                have hB59 := hB58.trans hb
                have t2_59 := ht _ _ t2_58
                have t3_59 := ht _ _ t3_58
                clear hb ht hR58 hB58 t1_58 t3_58 t2_58
                refine step_append_run rfl (.tmp 64) (.tmp 66) 22 rfl rfl rfl hrun ?_
                clear hrun
                refine hK.out _ _ (fun _ => trivial) ?_
                clear hK K
                try simp only [Act.put, List.setIfInBounds_toArray, List.set_cons_zero, List.set_cons_succ]
                refine anyL_one 9 rfl (by kernel_rfl) (fun K hK => ?_)
                obtain ⟨Z60, z60, V60, hrun, hR60, hb, ht⟩ := app2 hR59 t2_59 hk2 hkb hB59.size
                have hB60 := hB59.trans hb
                have t3_60 := ht _ _ t3_59
                clear hb ht hR59 hB59 t2_59 t3_59
                refine step_append_run rfl (.tmp 68) (.tmp 72) 22 rfl rfl rfl hrun ?_
                clear hrun
                refine hK.out _ _ (fun _ => trivial) ?_
                clear hK K
                try simp only [Act.put, List.setIfInBounds_toArray, List.set_cons_zero, List.set_cons_succ]
                refine anyL_one 15 rfl (by kernel_rfl) (fun K hK => ?_)
                obtain ⟨Z61, z61, V61, hrun, hR61, hb, ht⟩ := app3 hR60 t3_60 hk3 hkb hB60.size
                have hB61 := hB60.trans hb
                clear hb ht hR60 hB60 t3_60
                refine step_append_run rfl (.tmp 74) (.tmp 78) 22 rfl rfl rfl hrun ?_
                clear hrun
                refine hK.out _ _ (fun _ => trivial) ?_
                clear hK K
                try simp only [Act.put, List.setIfInBounds_toArray, List.set_cons_zero, List.set_cons_succ]
                refine anyL_one 16 rfl (by kernel_rfl) (fun K hK => ?_)
                go_simp
                refine hK.out _ _ (fun _ => trivial) ?_
                clear hK K
                try simp only [Act.put, List.setIfInBounds_toArray, List.set_cons_zero, List.set_cons_succ]
                refine anyL_one 17 rfl (by kernel_rfl) (fun K hK => ?_)
                go_simp
                refine hK.out _ _ (fun _ => trivial) ?_
                clear hK K
                try simp only [Act.put, List.setIfInBounds_toArray, List.set_cons_zero, List.set_cons_succ]
                refine anyL_one 18 rfl (by kernel_rfl) (fun K hK => ?_)
                go_simp
                refine hK.out _ _ (fun _ => trivial) ?_
                clear hK K
                try simp only [Act.put, List.setIfInBounds_toArray, List.set_cons_zero, List.set_cons_succ]
                refine anyC_done (by kernel_rfl) ?_ _
                try simp only [Exit.then]
                have hRR := hek.out _ _ _ _ _ _ _ hR61
                clear hR61 hek
                go_wp2
                go_roundw
                case rel => exact ⟨k + 1, _, _, _, _, _, _, by omega, by go_num, rfl, rfl, rfl, hRR, hB61⟩
                case measure => simp [intOf]; omega
            · intro K hK
              go_simp
              refine hK.out _ _ (fun _ => trivial) ?_
              clear hK K
              try simp only [Act.put, List.setIfInBounds_toArray, List.set_cons_zero, List.set_cons_succ]
              refine fresh_any (fun W => Rows3 W w1.heap.size A1 c1 L1 A2 c2 L2 A3 c3 L3 ∧ Below w1.heap.size w1 W ∧ TAt W w4.drew.heap.size q2 A1 A2 A3 ∧ TAt W W52.heap.size q1 A1 A2 A3) ⟨hR52.alloc _, hB52.alloc hB52.size _, t3_52.alloc _, hR52.built q1⟩ ?_
              clear hR52 hB52 t3_52
              rintro W62 ⟨hR62, hB62, t3_62, t2_62⟩
              refine anyL_one 2 rfl (by kernel_rfl) (fun K hK => ?_)
              go_simp
              refine hK.out _ _ (fun _ => trivial) ?_
              clear hK K
              try simp only [Act.put, List.setIfInBounds_toArray, List.set_cons_zero, List.set_cons_succ]
              refine fresh_any (fun W => Rows3 W w1.heap.size A1 c1 L1 A2 c2 L2 A3 c3 L3 ∧ Below w1.heap.size w1 W ∧ TAt W W52.heap.size q1 A1 A2 A3 ∧ TAt W w4.drew.heap.size q2 A1 A2 A3 ∧ TAt W W62.heap.size q A1 A2 A3) ⟨hR62.alloc _, hB62.alloc hB62.size _, t2_62.alloc _, t3_62.alloc _, hR62.built q⟩ ?_
              clear hR62 hB62 t2_62 t3_62
              rintro W63 ⟨hR63, hB63, t2_63, t3_63, t1_63⟩
              refine anyL_one 3 rfl (by kernel_rfl) (fun K hK => ?_)
              obtain ⟨Z64, z64, V64, hrun, hR64, hb, ht⟩ := app1 hR63 t1_63 hk1 hkb hB63.size
              have hB64 := hB63.trans hb
              have t2_64 := ht _ _ t2_63
              have t3_64 := ht _ _ t3_63
              clear hb ht hR63 hB63 t2_63 t3_63 t1_63
              refine step_append_run rfl (.tmp 64) (.tmp 66) 22 rfl rfl rfl hrun ?_
              clear hrun
              refine hK.out _ _ (fun _ => trivial) ?_
              clear hK K
              try simp only [Act.put, List.setIfInBounds_toArray, List.set_cons_zero, List.set_cons_succ]
              refine anyL_one 9 rfl (by kernel_rfl) (fun K hK => ?_)
              obtain ⟨Z65, z65, V65, hrun, hR65, hb, ht⟩ := app2 hR64 t2_64 hk2 hkb hB64.size
              have hB65 := hB64.trans hb
              have t3_65 := ht _ _ t3_64
              clear hb ht hR64 hB64 t2_64 t3_64
              refine step_append_run rfl (.tmp 68) (.tmp 72) 22 rfl rfl rfl hrun ?_
              clear hrun
              refine hK.out _ _ (fun _ => trivial) ?_
              clear hK K
              try simp only [Act.put, List.setIfInBounds_toArray, List.set_cons_zero, List.set_cons_succ]
              refine anyL_one 15 rfl (by kernel_rfl) (fun K hK => ?_)
              obtain ⟨Z66, z66, V66, hrun, hR66, hb, ht⟩ := app3 hR65 t3_65 hk3 hkb hB65.size
              have hB66 := hB65.trans hb
              clear hb ht hR65 hB65 t3_65
              refine step_append_run rfl (.tmp 74) (.tmp 78) 22 rfl rfl rfl hrun ?_
              clear hrun
              refine hK.out _ _ (fun _ => trivial) ?_
              clear hK K
              try simp only [Act.put, List.setIfInBounds_toArray, List.set_cons_zero, List.set_cons_succ]
              refine anyL_one 16 rfl (by kernel_rfl) (fun K hK => ?_)
              go_simp
              refine hK.out _ _ (fun _ => trivial) ?_
              clear hK K
              try simp only [Act.put, List.setIfInBounds_toArray, List.set_cons_zero, List.set_cons_succ]
              refine anyL_one 17 rfl (by kernel_rfl) (fun K hK => ?_)
              go_simp
              refine hK.out _ _ (fun _ => trivial) ?_
              clear hK K
              try simp only [Act.put, List.setIfInBounds_toArray, List.set_cons_zero, List.set_cons_succ]
              refine anyL_one 18 rfl (by kernel_rfl) (fun K hK => ?_)
              go_simp
              refine hK.out _ _ (fun _ => trivial) ?_
              clear hK K
              try simp only [Act.put, List.setIfInBounds_toArray, List.set_cons_zero, List.set_cons_succ]
              refine anyC_done (by kernel_rfl) ?_ _
              try simp only [Exit.then]
              have hRR := hek.out _ _ _ _ _ _ _ hR66
              clear hR66 hek
              go_wp2
              go_roundw
              case rel => exact ⟨k + 1, _, _, _, _, _, _, by omega, by go_num, rfl, rfl, rfl, hRR, hB66⟩
              case measure => simp [intOf]; omega
        · obtain rfl : k = ps.length := by omega
          have hR := hRH.out
          rw [List.take_length] at hR
          have hL := hLs.out
          have hlenL := hLl.out
          have hpc := pieces_fold (by omega) hL hcn
          have s1 : longest (padL ps n) ≤ 65536 := longest_le fun p hp => by rw [hL p hp]; omega
          have s2 : longest (heads (padL ps n) cn) ≤ 65536 := longest_le fun p hp => by rw [size_heads hL hcn p hp]; omega
          have s3 : longest (tails (padL ps n) cn) ≤ 65536 := longest_le fun p hp => by rw [size_tails hL p hp]; omega
          have l2 : (heads (padL ps n) cn).length = ps.length := by unfold heads; rw [List.length_map]; exact hlenL
          have l3 : (tails (padL ps n) cn).length = ps.length := by unfold tails; rw [List.length_map]; exact hlenL
          have cf1 := fun W h => fold_any A1 c1 (padL ps n) W (by omega) s1 h
          have cf2 := fun W h => fold_any A2 c2 (heads (padL ps n) cn) W (by omega) s2 h
          have cf3 := fun W h => fold_any A3 c3 (tails (padL ps n) cn) W (by omega) s3 h
          rw [hlenL, hpc] at cf1
          rw [l2] at cf2
          rw [l3] at cf3
          have hsz : ¬ 9223372036854775807 < (foldS (heads (padL ps n) cn)).size + (foldS (tails (padL ps n) cn)).size := by rw [size_foldS, size_foldS]; omega
          generalize foldS (heads (padL ps n) cn) = g1 at cf1 cf2 hsz
          generalize foldS (tails (padL ps n) cn) = g2 at cf1 cf3 hsz
          have cf1H := Lib.hid cf1
          have cf2H := Lib.hid cf2
          have cf3H := Lib.hid cf3
          have hRE := Lib.hid hR
          clear hR hL hlenL hpc s1 s2 s3 l2 l3 cf1 cf2 cf3 hRH hB
          go_wp2_with fail
          (with_reducible refine (cf1H.out _ hRE.out.r1.strs).mono ?_)
          rintro e w5 ⟨rfl, hb5⟩
          have hS2 := Lib.hid (hRE.out.r2.below hb5).strs
          have hB5 := bmore hBH.out hb5
          have hR3 := Lib.hid (hRE.out.r3.below hb5)
          clear hb5
          go_wp2_with fail
          (with_reducible refine (cf2H.out _ hS2.out).mono ?_)
          rintro e w6 ⟨rfl, hb6⟩
          have hS3 := Lib.hid (hR3.out.below hb6).strs
          have hB6 := bmore hB5 hb6
          clear hb6 hB5
          go_wp2_with fail
          (with_reducible refine (cf3H.out _ hS3.out).mono ?_)
          rintro e w7 ⟨rfl, hb7⟩
          have hB7 := bmore hB1H.out (bmore hB6 hb7)
          clear hb7 hB6
          go_wp2
          go_ret
          exact ⟨by simp, hB7⟩
end Go.Proofs.Ytflkkmiehioejaa
