/- What the law XorBack does. -/
import Derived.Test.YtflkkmiehioejaaXorBase
import Derived.Test.YtflkkmiehioejaaXorPad
import Derived.Deep.RegionHeld3
import Derived.Test.YtflkkmiehioejaaHeldTail
namespace Go.Proofs.Ytflkkmiehioejaa
open Go.RowKit Xor

theorem pad_made (W : World) (m n : Nat) (hn : n = m) : (convert 33 9 (.slice (some ⟨W.heap.size, 0, none⟩) m m)).run Try.prog (W.alloc (.cells (madeCells #[.int .u8 0] m) 5)) = .ok (.string ⟨(List.replicate n 0).toArray⟩) (W.alloc (.cells (madeCells #[.int .u8 0] m) 5)) := by
  subst hn
  refine back (fun j hj => ?_) (by simp) Try.underlying33 Try.underlying5 Try.underlying9
  rw [made_noughts W 5 (.int .u8 0) n j (by simpa using hj), List.getElem_replicate]; rfl

theorem pad_made_drew (W : World) (m n : Nat) (hn : n = m) : (convert 33 9 (.slice (some ⟨W.heap.size, 0, none⟩) m m)).run Try.prog (W.alloc (.cells (madeCells #[.int .u8 0] m) 5)).drew = .ok (.string ⟨(List.replicate n 0).toArray⟩) (W.alloc (.cells (madeCells #[.int .u8 0] m) 5)).drew := by
  subst hn
  refine back (fun j hj => ?_) (by simp) Try.underlying33 Try.underlying5 Try.underlying9
  have h := made_noughts W 5 (.int .u8 0) n j (by simpa using hj)
  show (W.alloc (.cells (madeCells #[.int .u8 0] n) 5)).cell? _ = _
  rw [h, List.getElem_replicate]; rfl

set_option maxRecDepth 100000 in
set_option maxHeartbeats 4000000 in
theorem back_law (A : Option Addr) (cap : Nat) (ps : List ByteArray) (x : Int) (w : World) (hS : StrsIn w A ps) (hz : ∀ p ∈ ps, p.size ≤ 140737488351232) :
    Calls Try.prog 5 #[.slice A ps.length cap, .int .i64 x] w fun e w' => e = .returned (.bool true) ∧ Below w.heap.size w w' := by
  have cm := fun W (hb : Below w.heap.size w W) => much_any A cap ps W hz (hS.below hb)
  by_cases hm : muchB ps = true
  · rw [hm] at cm
    have cmH := Lib.hid cm
    clear cm hm hz hS
    go_enter Try.func5, Try.ntmps5
    go_wp2_with fail
    (with_reducible refine (speaks3 _).mono ?_)
    rintro e w1 ⟨rfl, hb1⟩
    have hB1 := hb1
    clear hb1
    go_wp2_with fail
    (with_reducible refine (cmH.out _ hB1).mono ?_)
    rintro e wq ⟨rfl, rfl⟩
    go_wp2
    go_ret
    exact ⟨rfl, hB1⟩
  rw [Bool.not_eq_true] at hm
  rw [hm] at cm
  have cmH := Lib.hid cm
  obtain ⟨hl, hp⟩ := much_false hm
  clear cm hm hz
  by_cases h0 : ps.length = 0
  · have h0b : ((ps.length : Int) == 0) = true := by rw [h0]; rfl
    have h0c : (ps.length : Int) = 0 := by omega
    have h0H := Lib.hid h0
    clear hp hS h0
    go_enter Try.func5, Try.ntmps5
    go_wp2_with fail
    (with_reducible refine (speaks3 _).mono ?_)
    rintro e w1 ⟨rfl, hb1⟩
    have hB1 := hb1
    clear hb1
    go_wp2_with fail
    (with_reducible refine (cmH.out _ hB1).mono ?_)
    rintro e wq ⟨rfl, rfl⟩
    go_wp2
    go_ret
    exact ⟨rfl, hB1⟩
  have h0b : ((ps.length : Int) == 0) = false := by rw [beq_eq_false_iff_ne]; omega
  have h0c : ¬ (ps.length : Int) = 0 := by omega
  have h0d : ¬ ps.length = 0 := h0
  obtain ⟨t, y, ex1, ex2, y1, y2, t1, t2, _, _, _⟩ := mod_in x (ps.length : Int) (by omega) (by omega)
  obtain ⟨wn, rfl⟩ := Int.eq_ofNat_of_zero_le y1
  have hSH := Lib.hid hS
  have hpH := Lib.hid hp
  have exH := Lib.hid (show _ ∧ _ from ⟨ex1, ex2⟩)
  clear hS hp ex1 ex2
  go_enter Try.func5, Try.ntmps5
  go_wp2_with fail
  (with_reducible refine (speaks3 _).mono ?_)
  rintro e w1 ⟨rfl, hb1⟩
  have hB1 := hb1
  clear hb1
  go_wp2_with fail
  (with_reducible refine (cmH.out _ hB1).mono ?_)
  rintro e wq ⟨rfl, rfl⟩
  go_wp2_with fail
  go_loop [5, 6] (fun m i => ∃ k : Nat, k ≤ ps.length ∧ i = .int .i64 (k : Int) ∧ m = .int .i64 ((longest (ps.take k) : Nat) : Int)) (fun _ i => ps.length - (intOf i).toNat)
  case atStart => exact ⟨0, Nat.zero_le _, rfl, rfl⟩
  case round =>
    obtain ⟨k, hk, rfl, rfl⟩ := hrel
    by_cases hlt : k < ps.length
    · obtain ⟨b, off, rfl, _, hc⟩ := (hSH.out.below hB1).at_ hlt
      have hp5 := hpH.out ps[k] (List.getElem_mem _)
      have hsn : longest (ps.take (k + 1)) = max (longest (ps.take k)) ps[k].size := by rw [List.take_succ_eq_append_getElem hlt, longest_snoc]
      have hlk : longest (ps.take k) ≤ 5000 := longest_le fun p hp => hpH.out p (List.mem_of_mem_take hp)
      generalize ps[k] = p at hc hp5 hsn
      have hsnH := Lib.hid hsn
      clear hsn
      generalize longest (ps.take k) = m at hsnH hlk ⊢
      rcases Nat.lt_or_ge m p.size with hx | hx
      all_goals
        go_wp2
        go_round
        case rel => exact ⟨k + 1, by omega, by go_num, by rw [hsnH.out]; go_num⟩
        case measure => simp [intOf]; omega
    · obtain rfl : k = ps.length := by omega
      rw [List.take_length]
      have hlong : longest ps ≤ 5000 := longest_le hpH.out
      obtain ⟨n, hn⟩ : ∃ n, longest ps = n := ⟨_, rfl⟩
      rw [hn] at hlong ⊢
      have hnH := Lib.hid hn
      obtain ⟨ex1, ex2⟩ := exH.out
      clear hn
      go_wp2_with fail
      clear ex1 ex2
      have hLs := Lib.hid (size_padL (ps := ps) (n := n) (Nat.le_of_eq hnH.out))
      have hLl := Lib.hid (show (padL ps n).length = ps.length by unfold padL; rw [List.length_map])
      have hwn : wn < ps.length := by omega
      have hB1H := Lib.hid hB1
      have hB1s := hB1.size
      clear hB1
      go_loopw [7, 8, 9] (fun v u i wr => ∃ (k : Nat) (A1 A2 : Option Addr) (c1 c2 : Nat) (O : List ByteArray), k ≤ ps.length ∧ i = .int .i64 (k : Int) ∧ v = .slice A1 k c1 ∧ u = .slice A2 O.length c2 ∧ Row wr w1.heap.size A1 c1 (padL (ps.take k) n) ∧ Row wr w1.heap.size A2 c2 O ∧ Hid (A1 = none ∨ A1 ≠ A2) ∧ Below w1.heap.size w1 wr ∧ Hid (Others (padL ps n) O wn k n)) (fun _ _ i _ => ps.length - (intOf i).toNat)
      case atStart => exact ⟨0, none, none, 0, 0, [], by omega, rfl, rfl, rfl, Row.nil _ _, Row.nil _ _, Lib.hid (.inl rfl), Below.refl _ _, Lib.hid (Others.start _ _ _)⟩
      case round =>
        obtain ⟨k, A1, A2, c1, c2, O, hk, rfl, rfl, rfl, hR1, hR2, hne, hB, hO⟩ := hrel
        have hR1H := Lib.hid hR1
        have hR2H := Lib.hid hR2
        have hBH := Lib.hid hB
        have hBs := hB.size
        have hkl : (padL (ps.take k) n).length = k := by unfold padL; rw [List.length_map, List.length_take]; omega
        have hklH := Lib.hid hkl
        have hOk : O.length ≤ k := by have := hO.out.2.2; omega
        clear hR1 hR2 hkl
        by_cases hlt : k < ps.length
        · obtain ⟨b, off, rfl, hltb, hc0⟩ := (hSH.out.below (hB1H.out.trans (hB.mono hB1s))).at_ hlt
          have hpk := hpH.out ps[k] (List.getElem_mem _)
          have hpn : ps[k].size ≤ n := by rw [← hnH.out]; exact longest_ge (List.getElem_mem hlt)
          have hLk : (padL ps n)[k]'(by rw [hLl.out]; exact hlt) = pad ps[k] n := by unfold padL; rw [List.getElem_map]
          have htk := padL_take ps n k hlt
          generalize ps[k] = p at hc0 hpk hpn hLk htk
          obtain ⟨m, hm⟩ : ∃ m, m = n - p.size := ⟨_, rfl⟩
          have hmI : IntKind.i64.wrap ((n : Int) - (p.size : Int)) = (m : Int) := by rw [wrap_in (by omega)]; omega
          have hmb : m ≤ 5000 := by omega
          obtain ⟨i0, hi, hz0, hz1, hz2⟩ := info_parts infoB
          have hmk := fun W => run_make_m (P := Try.prog) 33 5 i0 (.int .u8 0) Try.underlying33 hi hz0 .i64 .i64 m m (Nat.le_refl _) (by rw [hz2]; omega) (by omega) W
          rw [hz1, Nat.mul_one] at hmk
          have hmk2 : ∀ W : World, (Instr.makeSlice 33 (.int .i64 (m : Int)) (.int .i64 (m : Int))).run Try.prog W = .ok (.slice (some ⟨W.heap.size, 0, none⟩) m m) (W.alloc (.cells (madeCells #[.int .u8 0] m) 5)) := hmk
          obtain ⟨z, hzz⟩ : ∃ z : ByteArray, (⟨(List.replicate (n - p.size) 0).toArray⟩ : ByteArray) = z := ⟨_, rfl⟩
          have hzs : p.size + z.size ≤ 9223372036854775807 := by
            have h1 : z.size = n - p.size := by rw [← hzz, ofList_size]; simp
            omega
          have hzn : ¬ 9223372036854775807 < p.size + z.size := by omega
          have hcv := fun W => pad_made W m (n - p.size) hm.symm
          rw [hzz] at hcv
          have hcv2 := fun W => pad_made_drew W m (n - p.size) hm.symm
          rw [hzz] at hcv2
          obtain ⟨q, hq⟩ : ∃ q : ByteArray, p ++ z = q := ⟨_, rfl⟩
          have hpadH := Lib.hid (show q = pad p n by rw [← hq, ← hzz]; rfl)
          have hLkH := Lib.hid hLk
          have htkH := Lib.hid htk
          have hmH := Lib.hid hm
          clear hmk hi hz0 hz1 hz2 hLk htk hm hzz hB
          go_wp2_with fail
          have hS5 : Below wr.heap.size wr wr.drew := (Below.refl _ _).drew
          have hS6 : Below wr.heap.size wr (wr.drew.alloc (.cells (madeCells #[.int .u8 0] m) 5)) := hS5.alloc hS5.size _
          refine region_anyC (fun j => decide (j < 13)) (fun W => Below wr.heap.size wr W) (by kernel_rfl) ?_
          refine anyL_take 0 (v := ?_) rfl (by kernel_rfl) (fun _ _ _ h => h) (Or.inl ⟨by rfl, ?_⟩) hS5 ?_
          rotate_left
          focus (intro W hW; go_simp; try with_reducible rfl)
          simp only [Act.put, List.setIfInBounds_toArray, List.set_cons_zero, List.set_cons_succ]
          refine anyL_take 1 (v := ?_) rfl (by kernel_rfl) (fun _ _ _ h => h) (Or.inl ⟨by rfl, ?_⟩) hS5 ?_
          rotate_left
          focus (intro W hW; go_simp; try with_reducible rfl)
          simp only [Act.put, List.setIfInBounds_toArray, List.set_cons_zero, List.set_cons_succ]
          refine anyL_take 2 (v := ?_) rfl (by kernel_rfl) (fun _ _ _ h => h) (Or.inl ⟨by rfl, ?_⟩) hS5 ?_
          rotate_left
          focus (intro W hW; go_simp; try with_reducible rfl)
          simp only [Act.put, List.setIfInBounds_toArray, List.set_cons_zero, List.set_cons_succ]
          refine anyL_take 3 (v := ?_) rfl (by kernel_rfl) (fun _ _ _ h => h) (Or.inl ⟨by rfl, ?_⟩) hS5 ?_
          rotate_left
          focus (intro W hW; have k0 := (hW.cell (p := ⟨b, off + k, none⟩) (lt_of_cell hc0)).trans hc0; go_simp; try with_reducible rfl)
          simp only [Act.put, List.setIfInBounds_toArray, List.set_cons_zero, List.set_cons_succ]
          refine anyL_take 4 (v := ?_) rfl (by kernel_rfl) (fun _ _ _ h => h) (Or.inl ⟨by rfl, ?_⟩) hS5 ?_
          rotate_left
          focus (intro W hW; go_simp; try with_reducible rfl)
          simp only [Act.put, List.setIfInBounds_toArray, List.set_cons_zero, List.set_cons_succ]
          refine anyL_take 5 (v := ?_) rfl (by kernel_rfl) (fun _ _ _ h => h) (Or.inl ⟨by rfl, ?_⟩) hS5 ?_
          rotate_left
          focus (intro W hW; go_simp; try with_reducible rfl)
          simp only [Act.put, List.setIfInBounds_toArray, List.set_cons_zero, List.set_cons_succ]
          refine anyL_take 6 (v := ?_) rfl (by kernel_rfl) (fun _ _ _ h => h) (Or.inl ⟨by rfl, ?_⟩) hS5 ?_
          rotate_left
          focus (intro W hW; go_simp; try with_reducible rfl)
          simp only [Act.put, List.setIfInBounds_toArray, List.set_cons_zero, List.set_cons_succ]
          refine anyL_take 7 (v := ?_) rfl (by kernel_rfl) (fun _ _ _ h => h) (Or.inl ⟨by rfl, ?_⟩) hS5 ?_
          rotate_left
          focus (intro W hW; go_simp; try with_reducible rfl)
          simp only [Act.put, List.setIfInBounds_toArray, List.set_cons_zero, List.set_cons_succ]
          refine anyL_take 8 (v := ?_) rfl (by kernel_rfl) (fun _ _ _ h => h) (Or.inl ⟨by rfl, ?_⟩) hS5 ?_
          rotate_left
          focus (intro W hW; have k0 := (hW.cell (p := ⟨b, off + k, none⟩) (lt_of_cell hc0)).trans hc0; go_simp; try with_reducible rfl)
          simp only [Act.put, List.setIfInBounds_toArray, List.set_cons_zero, List.set_cons_succ]
          refine anyL_take 9 (v := ?_) rfl (by kernel_rfl) (fun _ _ _ h => h) (Or.inl ⟨by rfl, ?_⟩) hS5 ?_
          rotate_left
          focus (intro W hW; go_simp; try with_reducible rfl)
          simp only [Act.put, List.setIfInBounds_toArray, List.set_cons_zero, List.set_cons_succ]
          refine anyL_take 10 (v := ?_) rfl (by kernel_rfl) (fun _ _ _ h => h) (Or.inl ⟨by rfl, ?_⟩) hS5 ?_
          rotate_left
          focus (intro W hW; go_simp; try with_reducible rfl)
          simp only [Act.put, List.setIfInBounds_toArray, List.set_cons_zero, List.set_cons_succ]
          refine anyL_one 11 rfl (by kernel_rfl) (fun K hK => ?_)
          go_simp
          refine hK.out _ _ (fun _ => hS6) ?_
          clear hK K
          try simp only [Act.put, List.setIfInBounds_toArray, List.set_cons_zero, List.set_cons_succ]
          refine anyL_one 12 rfl (by kernel_rfl) (fun K hK => ?_)
          go_simp
          refine hK.out _ _ (fun _ => hS6) ?_
          clear hK K
          try simp only [Act.put, List.setIfInBounds_toArray, List.set_cons_zero, List.set_cons_succ]
          refine anyL_one 13 rfl (by kernel_rfl) (fun K hK => ?_)
          go_simp
          refine hK.out _ _ (fun h => absurd h (by decide)) ?_
          clear hK K
          try simp only [Act.put, List.setIfInBounds_toArray, List.set_cons_zero, List.set_cons_succ]
          refine anyL_one 14 rfl (by kernel_rfl) (fun K hK => ?_)
          go_simp
          refine hK.out _ _ (fun h => absurd h (by decide)) ?_
          clear hK K
          try simp only [Act.put, List.setIfInBounds_toArray, List.set_cons_zero, List.set_cons_succ]
          refine anyC_done (by kernel_rfl) ?_ _
          simp only [Exit.then]
          refine fresh_K (fun W => Row W w1.heap.size A1 c1 (padL (ps.take k) n) ∧ Row W w1.heap.size A2 c2 O ∧ Below w1.heap.size w1 W) ?_ ?_
          · exact ⟨hR1H.out.below hS6, hR2H.out.below hS6, bmore hBH.out hS6⟩
          clear hR1H hR2H hBH hmk2 hcv hcv2 hmI hq hzs hzn hS5 hS6 hc0
          rintro w4 ⟨hR1, hR2, hB⟩
          have hB4s := hB.size
          obtain ⟨B1, d1, w5, hrun, hR1', hg1, ha1⟩ := append_row (hR1.alloc (.cells #[.string q] 9)) (strs_one w4 q) (cap2 := 1) (fun h => by cases h) (by rw [hklH.out]; simp; omega) (by simp; omega) 22
          rw [List.length_append, List.length_singleton, hklH.out] at hrun
          have hB5 : Below w1.heap.size w1 w5 := (hB.alloc hB4s _).trans (below_row (hR1.alloc (.cells #[.string q] 9)) hg1 (by simp; omega))
          have hR2' : Row w5 w1.heap.size A2 c2 O := (hR2.alloc _).kept hg1 (hne.out.elim (fun h => (hR2.form.elim (fun h2 => .inl h2.1) fun ⟨g2, h2, _⟩ => .inr (by rw [h, h2]; simp))) fun h => .inr fun e => h e.symm) (hR1.form.elim (fun h => .inl h.1) fun ⟨g, h, _⟩ => .inr ⟨g, h⟩)
          have hne' : B1 = none ∨ B1 ≠ A2 := by
            rcases ha1 with h | h
            · rw [h]; exact hne.out
            · right
              rw [h]
              rcases hR2.form with ⟨h2, _⟩ | ⟨g2, h2, _, hlt2⟩
              · rw [h2]; simp
              · rw [h2]
                intro e
                have e1 := Option.some.inj e
                injection e1 with e2
                simp at e2
                omega
          have hR1e : Row w5 w1.heap.size B1 d1 (padL (ps.take (k + 1)) n) := by rw [← htkH.out, ← hpadH.out]; exact hR1'
          have hrunH := Lib.hid hrun
          have hneH := Lib.hid hne'
          have hB5s := hB5.size
          have hR1H := Lib.hid hR1e
          have hR2H := Lib.hid hR2'
          have hBH := Lib.hid hB5
          have hkL : k < (padL ps n).length := by rw [hLl.out]; exact hlt
          clear hrun hR1' hg1 ha1 hB hR1 hR2 hR2' hne' hR1e hB5 hne
          by_cases hkw : k = wn
          · have hkb : ((k : Int) == (wn : Int)) = true := by rw [beq_iff_eq]; omega
            have hkb2 : ((k : Int) != (wn : Int)) = false := by rw [bne, hkb]; rfl
            have hnext := Lib.hid (show Others (padL ps n) O wn (k + 1) n by rw [hkw]; exact (hkw ▸ hO.out).skip (by rw [← hkw]; exact hkL))
            clear hkw hO
            go_wp2_with (at_builtin; refine wpList_append_run (by first | rfl | (simp [Region.wanted, yielded])) (.tmp 63) (.tmp 65) 22 rfl (by first | rfl | (rw [hklH.out]; rfl)) rfl hrunH.out ?_)
            go_roundw
            case rel => exact ⟨k + 1, B1, A2, d1, c2, O, by omega, by go_num, rfl, rfl, hR1H.out, hR2H.out, hneH, hBH.out, hnext⟩
            case measure => simp [intOf]; omega
          · have hkb : ((k : Int) == (wn : Int)) = false := by rw [beq_eq_false_iff_ne]; omega
            have hkb2 : ((k : Int) != (wn : Int)) = true := by rw [bne, hkb]; rfl
            have hqL : (padL ps n)[k] = q := by rw [hLkH.out, hpadH.out]
            have hnext := Lib.hid (show Others (padL ps n) (O ++ [q]) wn (k + 1) n by
              have h := hO.out.more hkL hkw (hLs.out _ (List.getElem_mem hkL))
              rw [hqL] at h; exact h)
            obtain ⟨B2, d2, w6, hrun2, hR2', hg2, ha2⟩ := append_row (hR2H.out.alloc (.cells #[.string q] 9)) (strs_one w5 q) (cap2 := 1) (fun h => by cases h) (by simp; omega) (by simp; omega) 22
            rw [List.length_append, List.length_singleton] at hrun2
            have hB6 : Below w1.heap.size w1 w6 := (hBH.out.alloc hB5s _).trans (below_row (hR2H.out.alloc (.cells #[.string q] 9)) hg2 (by simp; omega))
            have hR1' : Row w6 w1.heap.size B1 d1 (padL (ps.take (k + 1)) n) := (hR1H.out.alloc _).kept hg2 hneH.out (hR2H.out.form.elim (fun h => .inl h.1) fun ⟨g, h, _⟩ => .inr ⟨g, h⟩)
            have hne' : B1 = none ∨ B1 ≠ B2 := by
              rcases hneH.out with h | h
              · exact .inl h
              · right
                rcases ha2 with h2 | h2
                · rw [h2]; exact h
                · rw [h2]
                  rcases hR1H.out.form with ⟨h3, _⟩ | ⟨g3, h3, _, hlt3⟩
                  · rw [h3]; simp
                  · rw [h3]
                    intro e
                    have e1 := Option.some.inj e
                    injection e1 with e2
                    simp at e2
                    omega
            have hrun2H := Lib.hid hrun2
            have hne2H := Lib.hid hne'
            have hR1N := Lib.hid hR1'
            have hR2N := Lib.hid hR2'
            have hBN := Lib.hid hB6
            clear hkw hO hqL hrun2 hR2' hg2 ha2 hB6 hR1' hne'
            go_wp2_with (first | (at_builtin; refine wpList_append_run (by first | rfl | (simp [Region.wanted, yielded])) (.tmp 63) (.tmp 65) 22 rfl (by first | rfl | (rw [hklH.out]; rfl)) rfl hrunH.out ?_) | (at_builtin; refine wpList_append_run (by first | rfl | (simp [Region.wanted, yielded])) (.tmp 70) (.tmp 72) 22 rfl rfl rfl hrun2H.out ?_))
            go_roundw
            case rel => exact ⟨k + 1, B1, B2, d1, d2, O ++ [q], by omega, by go_num, rfl, by rw [List.length_append]; rfl, hR1N.out, hR2N.out, hne2H, hBN.out, hnext⟩
            case measure => simp [intOf]; omega
        · obtain rfl : k = ps.length := by omega
          have hL := hLs.out
          have hlenL := hLl.out
          have hR1 := hR1H.out
          rw [List.take_length] at hR1
          have hOt : Others (padL ps n) O wn (padL ps n).length n := by rw [hlenL]; exact hO.out
          have hwL : wn < (padL ps n).length := by rw [hlenL]; exact hwn
          have htell := hOt.tells hwL hL
          have hlongL : longest (padL ps n) ≤ 65536 := longest_le fun p hp => by rw [hL p hp]; omega
          have hlongO : longest O ≤ 65536 := longest_le fun p hp => by rw [hO.out.2.1 p hp]; omega
          have cf := fun W h => fold_any A1 c1 (padL ps n) W (by rw [hlenL]; omega) hlongL h
          have cmi := fun W h => missing_any (foldS (padL ps n)) A2 c2 O W (by rw [size_foldS]; exact hlongL) (by omega) hlongO h
          rw [htell] at cmi
          rw [hlenL] at cf
          obtain ⟨g, hgA, hgb, hgl⟩ : ∃ g, A1 = some ⟨g, 0, none⟩ ∧ w1.heap.size ≤ g ∧ g < wr.heap.size := by
            rcases hR1.form with ⟨_, _, h⟩ | h
            · rw [h] at hlenL; simp at hlenL; omega
            · exact h
          subst hgA
          have hS1 := Lib.hid (fun W (hb : Below wr.heap.size wr W) => (hR1.below hb).strs)
          have hS2 := Lib.hid (fun W (hb : Below wr.heap.size wr W) => (hR2H.out.below hb).strs)
          have hc : wr.cell? ⟨g, wn, none⟩ = some (.string (padL ps n)[wn]) := by
            have h1 := hR1.cellAt wn (by omega)
            rw [h1, List.getElem?_map, List.getElem?_eq_getElem hwL]; rfl
          generalize (padL ps n)[wn] = q at cmi hc
          generalize foldS (padL ps n) = f at cf cmi
          have hkeep := Lib.hid (fun W (hb : Below wr.heap.size wr W) => (hb.cell (p := ⟨g, wn, none⟩) hgl).trans hc)
          have cfH := Lib.hid cf
          have cmiH := Lib.hid cmi
          have hwnI : (wn : Int) < (ps.length : Int) := by omega
          clear hL hlenL hR1 hOt hwL htell hlongL hlongO cf cmi hc hB hO
          go_wp2_with fail
          go_region_held3 (fun W => W.cell? ⟨g, wn, none⟩ = some (.string q))
            (first | exact hkeep.out _ (Below.refl _ _).drew | exact hkeep.out _ hq2' | exact hkeep.out _ hq1')
            (first | (go_at_call 13; ((with_reducible refine (cfH.out _ (hS1.out _ (Below.refl _ _).drew)).mono ?_); rintro e' v1 ⟨rfl, hq1⟩); have hq1' := ((Below.refl wr.heap.size wr).drew).trans (hq1.mono (by simp))) | (go_at_call 14; ((with_reducible refine (cmiH.out _ (hS2.out _ hq1')).mono ?_); rintro e' v2 ⟨rfl, hq2⟩); have hq2' := bmore hq1' hq2))
          have hW := hB1H.out.trans ((hBH.out.trans (hq2'.mono hBH.out.size)).mono hB1s)
          go_wp2
          go_ret
          exact ⟨by simp, hW⟩
end Go.Proofs.Ytflkkmiehioejaa
