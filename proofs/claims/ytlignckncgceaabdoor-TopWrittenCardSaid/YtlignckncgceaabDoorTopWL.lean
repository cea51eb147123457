/- TopWritten: records that are written into a zone as long as they fit. -/
import Derived.Test.YtlignckncgceaabDoorTopGoes
import Derived.Test.YtlignckncgceaabDoorTopContent
import Derived.Test.YtlignckncgceaabDoorCmds
import Derived.Test.YtlignckncgceaabDoorRecApL
namespace Go.Proofs.YtlignckncgceaabDoor
open Go.RowKit Rec Crc Num Zon

/-- What stands while records are written: the slices, the machine. -/
def Wr (w W : World) (base g z b : Nat) (A : Option Addr) (cap : Nat) (qs : List Rc) (E : Option Addr) (capE : Nat) : Prop :=
  TwoB W base A cap qs E capE ∧ MAt W g z (Mw (b : Int) ((blk qs : Nat) : Int)) ∧ base ≤ W.heap.size ∧ Below w.heap.size w W
theorem Wr.below {w W W' : World} {base g z b : Nat} {A : Option Addr} {cap : Nat} {qs : List Rc} {E : Option Addr} {capE : Nat} (h : Wr w W base g z b A cap qs E capE) (hb : Below W.heap.size W W') : Wr w W' base g z b A cap qs E capE :=
  ⟨h.1.below hb, h.2.1.below hb, Nat.le_trans h.2.2.1 hb.size, h.2.2.2.trans (hb.mono h.2.2.2.size)⟩
theorem rec_good {k i a b c : Int} {body : ByteArray} (hk : 3 ≤ k ∧ k ≤ 6) (hi : 0 ≤ i ∧ i ≤ 1000) (ha : 0 ≤ a ∧ a ≤ 255) (hb : 0 ≤ b ∧ b ≤ 255) (hc : 0 ≤ c ∧ c ≤ 1073741823) (hbd : body.size = if k = 4 then 64 else 0) : Rec.Good ⟨k, i, a, b, c, 0, body⟩ := by
  refine ⟨⟨by show 1 ≤ k ∧ k ≤ 6; omega, by show 0 ≤ i ∧ i ≤ 1099511627776; omega, by show 0 ≤ a ∧ a ≤ 65535; omega, by show 0 ≤ b ∧ b ≤ 65535; omega, by show 0 ≤ c ∧ c ≤ 1099511627776; omega, by show (0 : Int) ≤ 0 ∧ (0 : Int) ≤ 65535; omega⟩, ?_⟩
  show body.size = (nBlocks k - 1) * 64
  by_cases h4 : k = 4
  · rw [if_pos h4] at hbd
    have e : nBlocks k = 2 := by unfold nBlocks; rw [if_neg (by omega), if_pos h4]
    rw [hbd, e]
  · rw [if_neg h4] at hbd
    have e : nBlocks k = 1 := by unfold nBlocks; rw [if_neg (by omega), if_neg h4]
    rw [hbd, e]
theorem tdiv64 (n : Nat) : ((64 * n : Nat) : Int).tdiv 64 = (n : Int) := by
  rw [Int.tdiv_eq_ediv_of_nonneg (by omega)]; omega

set_option maxRecDepth 100000 in
set_option maxHeartbeats 32000000 in
theorem written_law (A0 : Option Addr) (cap0 : Nat) (cs : List Cm) (bl cut : Int) (w : World) (hT : Tab w) (hC : CmdsIn w A0 cs) :
    Calls Tryd.prog 8 #[.slice A0 cs.length cap0, .int .i64 bl, .int .i64 cut] w fun e w' => e = .returned (.bool true) ∧ Below w.heap.size w w' := by
  have hTA := Lib.hid (fun W (h : Below w.heap.size w W) => hT.below h)
  have hCH := Lib.hid (fun W (h : Below w.heap.size w W) => hC.below h)
  clear hT hC
  obtain ⟨bN, hb1, hb2, hbits, gwb⟩ : ∃ bN : Nat, 1 ≤ bN ∧ bN ≤ 64 ∧ (∃ m : Int, bits .and .i64 bl 63 = m ∧ IntKind.i64.wrap (1 + m) = (bN : Int)) ∧ True := by
    obtain ⟨m, hm, he⟩ := mask_nat bl 6 63 rfl (by omega)
    exact ⟨m + 1, by omega, by omega, ⟨(m : Int), he, by rw [wrap_in (by omega)]; omega⟩, trivial⟩
  obtain ⟨m6, hm6, hw6⟩ := hbits
  clear gwb
  have hNew := Lib.hid (fun W => new_good 1 (bN : Int) 1 1 W (by unfold newOk; simp; omega))
  go_enter Tryd.func8, Tryd.ntmps8
  go_wp2_with (first | (go_at_call 18; with_reducible refine (goes_any _ (hTA.out _ (Below.refl _ _))).mono ?_; rintro e w1 ⟨rfl, hb1'⟩) | (go_at_call 19; (with_reducible refine (hNew.out _).mono ?_); rintro e w2 ⟨g, z, rfl, hM, hz, hg, hb2'⟩))
  rw [mw_new] at hM
  have hgb : g < w2.heap.size := hM.gl
  have hzb : z < w2.heap.size := hM.zl
  have hzw : w.heap.size ≤ z := Nat.le_trans hb1'.size hz
  have hB2 := hb1'.trans (hb2'.mono hb1'.size)
  have hW0 := Lib.hid (show Wr w w2 w2.heap.size g z bN none 0 [] none 0 from ⟨⟨RRow.nil _ _ _, NRow.nil _ _, .inl rfl⟩, hM, Nat.le_refl _, hB2⟩)
  clear hM hz hg hb1' hb2' hB2 hNew hm6 hw6
  generalize w2.heap.size = base at hgb hzb hW0
  go_loopw [9, 10, 11, 12] (fun s5 s6 s7 s8 wr => ∃ (k : Nat) (qs : List Rc) (t : ByteArray) (A : Option Addr) (cap : Nat) (E : Option Addr) (capE : Nat), s5 = .string t ∧ s6 = .slice A qs.length cap ∧ s7 = .slice E (endsB qs).length capE ∧ s8 = .int .i64 (k : Int) ∧ k ≤ 100 ∧ k ≤ cs.length ∧ qs.length ≤ k ∧ (∀ q ∈ qs, Rec.Good q) ∧ TextOf t (catL qs) ∧ blk qs ≤ bN ∧ Wr w wr base g z bN A cap qs E capE) (fun _ _ _ i _ => 100 - (intOf i).toNat)
  case atStart => exact ⟨0, [], ⟨#[]⟩, none, 0, none, 0, rfl, rfl, rfl, rfl, by omega, by omega, Nat.le_refl _, by simp, rfl, Nat.zero_le _, hW0.out⟩
  case round =>
    clear hW0
    obtain ⟨k, qs, t, A, cap, E, capE, rfl, rfl, rfl, rfl, hk40, hkl, hqk, hgood, htext, hbq, hWr⟩ := hrel
    have hWrH := Lib.hid hWr
    have hgoodH := Lib.hid hgood
    have htextH := Lib.hid htext
    have hlenc := catL_len hgood
    have hts : t.size = 64 * blk qs := by rw [htext.size, hlenc]
    have htsz : t.size ≤ 4096 := by omega
    have htsH := Lib.hid hts
    clear hgood htext hlenc hts
    by_cases hlt : k < cs.length ∧ k < 100
    case pos =>
      obtain ⟨hlt1, hlt2⟩ := hlt
      have hl1 : decide ((k : Int) < (cs.length : Int)) = true := by simp; omega
      have hl2 : decide ((k : Int) < 100) = true := by simp; omega
      obtain ⟨b, off, rfl, hblt, e0, e1, e2, e3⟩ := (hCH.out _ hWr.2.2.2).at_ hlt1
      generalize cs[k] = cm at e0 e1 e2 e3
      obtain ⟨m0, hm0, b0⟩ := mask_nat cm.k 2 3 rfl (by omega)
      obtain ⟨m1, hm1, b1⟩ := mask_nat cm.z 8 255 rfl (by omega)
      obtain ⟨m2, hm2, b2⟩ := mask_nat cm.a 8 255 rfl (by omega)
      obtain ⟨m3, hm3, b3⟩ := mask_nat cm.n 30 1073741823 rfl (by omega)
      have b0' : bits .and .i64 cm.k 3 = (m0 : Int) := b0
      have b1' : bits .and .i64 cm.z 255 = (m1 : Int) := b1
      have b2' : bits .and .i64 cm.a 255 = (m2 : Int) := b2
      have b3' : bits .and .i64 cm.n 1073741823 = (m3 : Int) := b3
      clear b0 b1 b2 b3
      have bk : IntKind.i64.wrap (3 + (m0 : Int)) = 3 + (m0 : Int) := wrap_in (by omega)
      have hki : (k : Int) < (cs.length : Int) := by omega
      clear hWr
      go_upto_region 11 with fail
      go_cut [13] (fun s13 wx => ∃ X : Nat, s13 = .pointer (some ⟨X, 0, none⟩) ∧ wr.heap.size ≤ X ∧ RcW wx X ⟨3 + (m0 : Int), (k : Int), (m1 : Int), (m2 : Int), (m3 : Int), 0, ⟨#[]⟩⟩ ∧ Below wr.heap.size wr wx)
      case first =>
        refine region_anyC (fun _ => true) (fun W => Below wr.heap.size wr W) (by kernel_rfl) ?_
        have hS5 : Below wr.heap.size wr wr.drew := (Below.refl _ _).drew
        refine anyL_take 0 (v := ?_) rfl (by kernel_rfl) (fun _ _ _ h => h) (Or.inl ⟨by rfl, ?_⟩) hS5 ?_
        rotate_left
        focus (intro W hW; go_simp; try with_reducible rfl)
        simp only [Act.put, List.setIfInBounds_toArray, List.set_cons_zero, List.set_cons_succ]
        refine anyL_take 1 (v := ?_) rfl (by kernel_rfl) (fun _ _ _ h => h) (Or.inl ⟨by rfl, ?_⟩) hS5 ?_
        rotate_left
        focus (intro W hW; go_simp; try with_reducible rfl)
        simp only [Act.put, List.setIfInBounds_toArray, List.set_cons_zero, List.set_cons_succ]
        refine anyL_take 2 (v := ?_) rfl (by kernel_rfl) (fun _ _ _ h => h) (Or.inl ⟨by rfl, ?_⟩) hS5 ?_
        rotate_left
        focus (intro W hW; go_simp; try with_reducible rfl)
        simp only [Act.put, List.setIfInBounds_toArray, List.set_cons_zero, List.set_cons_succ]
        refine anyL_take 3 (v := ?_) rfl (by kernel_rfl) (fun _ _ _ h => h) (Or.inl ⟨by rfl, ?_⟩) hS5 ?_
        rotate_left
        focus (intro W hW; go_simp; try with_reducible rfl)
        simp only [Act.put, List.setIfInBounds_toArray, List.set_cons_zero, List.set_cons_succ]
        refine anyL_take 4 (v := ?_) rfl (by kernel_rfl) (fun _ _ _ h => h) (Or.inl ⟨by rfl, ?_⟩) hS5 ?_
        rotate_left
        focus (intro W hW; have k0 := (hW.cell (p := ⟨b, off + k * 4, none⟩) hblt).trans e0; go_simp; try with_reducible rfl)
        simp only [Act.put, List.setIfInBounds_toArray, List.set_cons_zero, List.set_cons_succ]
        refine anyL_take 5 (v := ?_) rfl (by kernel_rfl) (fun _ _ _ h => h) (Or.inl ⟨by rfl, ?_⟩) hS5 ?_
        rotate_left
        focus (intro W hW; go_simp; try with_reducible rfl)
        simp only [Act.put, List.setIfInBounds_toArray, List.set_cons_zero, List.set_cons_succ]
        refine anyL_take 6 (v := ?_) rfl (by kernel_rfl) (fun _ _ _ h => h) (Or.inl ⟨by rfl, ?_⟩) hS5 ?_
        rotate_left
        focus (intro W hW; go_simp; try with_reducible rfl)
        simp only [Act.put, List.setIfInBounds_toArray, List.set_cons_zero, List.set_cons_succ]
        refine anyL_take 7 (v := ?_) rfl (by kernel_rfl) (fun _ _ _ h => h) (Or.inl ⟨by rfl, ?_⟩) hS5 ?_
        rotate_left
        focus (intro W hW; go_simp; try with_reducible rfl)
        simp only [Act.put, List.setIfInBounds_toArray, List.set_cons_zero, List.set_cons_succ]
        refine anyL_take 8 (v := ?_) rfl (by kernel_rfl) (fun _ _ _ h => h) (Or.inl ⟨by rfl, ?_⟩) hS5 ?_
        rotate_left
        focus (intro W hW; go_simp; try with_reducible rfl)
        simp only [Act.put, List.setIfInBounds_toArray, List.set_cons_zero, List.set_cons_succ]
        refine anyL_take 9 (v := ?_) rfl (by kernel_rfl) (fun _ _ _ h => h) (Or.inl ⟨by rfl, ?_⟩) hS5 ?_
        rotate_left
        focus (intro W hW; go_simp; try with_reducible rfl)
        simp only [Act.put, List.setIfInBounds_toArray, List.set_cons_zero, List.set_cons_succ]
        refine anyL_take 10 (v := ?_) rfl (by kernel_rfl) (fun _ _ _ h => h) (Or.inl ⟨by rfl, ?_⟩) hS5 ?_
        rotate_left
        focus (intro W hW; go_simp; try with_reducible rfl)
        simp only [Act.put, List.setIfInBounds_toArray, List.set_cons_zero, List.set_cons_succ]
        refine anyL_take 11 (v := ?_) rfl (by kernel_rfl) (fun _ _ _ h => h) (Or.inl ⟨by rfl, ?_⟩) hS5 ?_
        rotate_left
        focus (intro W hW; go_simp; try with_reducible rfl)
        simp only [Act.put, List.setIfInBounds_toArray, List.set_cons_zero, List.set_cons_succ]
        refine anyL_take 12 (v := ?_) rfl (by kernel_rfl) (fun _ _ _ h => h) (Or.inl ⟨by rfl, ?_⟩) hS5 ?_
        rotate_left
        focus (intro W hW; have k1 := (hW.cell (p := ⟨b, off + k * 4 + 1, none⟩) hblt).trans e1; go_simp; try with_reducible rfl)
        simp only [Act.put, List.setIfInBounds_toArray, List.set_cons_zero, List.set_cons_succ]
        refine anyL_take 13 (v := ?_) rfl (by kernel_rfl) (fun _ _ _ h => h) (Or.inl ⟨by rfl, ?_⟩) hS5 ?_
        rotate_left
        focus (intro W hW; go_simp; try with_reducible rfl)
        simp only [Act.put, List.setIfInBounds_toArray, List.set_cons_zero, List.set_cons_succ]
        refine anyL_take 14 (v := ?_) rfl (by kernel_rfl) (fun _ _ _ h => h) (Or.inl ⟨by rfl, ?_⟩) hS5 ?_
        rotate_left
        focus (intro W hW; go_simp; try with_reducible rfl)
        simp only [Act.put, List.setIfInBounds_toArray, List.set_cons_zero, List.set_cons_succ]
        refine anyL_take 15 (v := ?_) rfl (by kernel_rfl) (fun _ _ _ h => h) (Or.inl ⟨by rfl, ?_⟩) hS5 ?_
        rotate_left
        focus (intro W hW; go_simp; try with_reducible rfl)
        simp only [Act.put, List.setIfInBounds_toArray, List.set_cons_zero, List.set_cons_succ]
        refine anyL_take 16 (v := ?_) rfl (by kernel_rfl) (fun _ _ _ h => h) (Or.inl ⟨by rfl, ?_⟩) hS5 ?_
        rotate_left
        focus (intro W hW; go_simp; try with_reducible rfl)
        simp only [Act.put, List.setIfInBounds_toArray, List.set_cons_zero, List.set_cons_succ]
        refine anyL_take 17 (v := ?_) rfl (by kernel_rfl) (fun _ _ _ h => h) (Or.inl ⟨by rfl, ?_⟩) hS5 ?_
        rotate_left
        focus (intro W hW; go_simp; try with_reducible rfl)
        simp only [Act.put, List.setIfInBounds_toArray, List.set_cons_zero, List.set_cons_succ]
        refine anyL_take 18 (v := ?_) rfl (by kernel_rfl) (fun _ _ _ h => h) (Or.inl ⟨by rfl, ?_⟩) hS5 ?_
        rotate_left
        focus (intro W hW; have k2 := (hW.cell (p := ⟨b, off + k * 4 + 2, none⟩) hblt).trans e2; go_simp; try with_reducible rfl)
        simp only [Act.put, List.setIfInBounds_toArray, List.set_cons_zero, List.set_cons_succ]
        refine anyL_take 19 (v := ?_) rfl (by kernel_rfl) (fun _ _ _ h => h) (Or.inl ⟨by rfl, ?_⟩) hS5 ?_
        rotate_left
        focus (intro W hW; go_simp; try with_reducible rfl)
        simp only [Act.put, List.setIfInBounds_toArray, List.set_cons_zero, List.set_cons_succ]
        refine anyL_take 20 (v := ?_) rfl (by kernel_rfl) (fun _ _ _ h => h) (Or.inl ⟨by rfl, ?_⟩) hS5 ?_
        rotate_left
        focus (intro W hW; go_simp; try with_reducible rfl)
        simp only [Act.put, List.setIfInBounds_toArray, List.set_cons_zero, List.set_cons_succ]
        refine anyL_take 21 (v := ?_) rfl (by kernel_rfl) (fun _ _ _ h => h) (Or.inl ⟨by rfl, ?_⟩) hS5 ?_
        rotate_left
        focus (intro W hW; go_simp; try with_reducible rfl)
        simp only [Act.put, List.setIfInBounds_toArray, List.set_cons_zero, List.set_cons_succ]
        refine anyL_take 22 (v := ?_) rfl (by kernel_rfl) (fun _ _ _ h => h) (Or.inl ⟨by rfl, ?_⟩) hS5 ?_
        rotate_left
        focus (intro W hW; go_simp; try with_reducible rfl)
        simp only [Act.put, List.setIfInBounds_toArray, List.set_cons_zero, List.set_cons_succ]
        refine anyL_take 23 (v := ?_) rfl (by kernel_rfl) (fun _ _ _ h => h) (Or.inl ⟨by rfl, ?_⟩) hS5 ?_
        rotate_left
        focus (intro W hW; go_simp; try with_reducible rfl)
        simp only [Act.put, List.setIfInBounds_toArray, List.set_cons_zero, List.set_cons_succ]
        refine anyL_take 24 (v := ?_) rfl (by kernel_rfl) (fun _ _ _ h => h) (Or.inl ⟨by rfl, ?_⟩) hS5 ?_
        rotate_left
        focus (intro W hW; have k3 := (hW.cell (p := ⟨b, off + k * 4 + 3, none⟩) hblt).trans e3; go_simp; try with_reducible rfl)
        simp only [Act.put, List.setIfInBounds_toArray, List.set_cons_zero, List.set_cons_succ]
        refine anyL_take 25 (v := ?_) rfl (by kernel_rfl) (fun _ _ _ h => h) (Or.inl ⟨by rfl, ?_⟩) hS5 ?_
        rotate_left
        focus (intro W hW; go_simp; try with_reducible rfl)
        simp only [Act.put, List.setIfInBounds_toArray, List.set_cons_zero, List.set_cons_succ]
        refine anyL_take 26 (v := ?_) rfl (by kernel_rfl) (fun _ _ _ h => h) (Or.inl ⟨by rfl, ?_⟩) hS5 ?_
        rotate_left
        focus (intro W hW; go_simp; try with_reducible rfl)
        simp only [Act.put, List.setIfInBounds_toArray, List.set_cons_zero, List.set_cons_succ]
        refine anyL_one 27 rfl (by kernel_rfl) (fun K hK => ?_)
        go_simp
        refine hK.out _ _ (fun _ => hS5.alloc hS5.size _) ?_
        clear hK K
        try simp only [Act.put, List.setIfInBounds_toArray, List.set_cons_zero, List.set_cons_succ]
        have g5 := hS5.size
        have a5 := RcW.new wr.drew zeroR 29
        refine fresh_anyC (fun W => Below wr.heap.size wr W ∧ RcW W wr.heap.size zeroR) ⟨hS5.alloc hS5.size _, a5⟩ ?_
        clear a5 hS5 g5
        rintro U1 ⟨hS, h5⟩
        obtain ⟨d0, d1, d2, d3, d4, d5, d6⟩ := h5.at_
        have z0 := h5.fr 0; have z1 := h5.fr 1; have z2 := h5.fr 2; have z3 := h5.fr 3; have z4 := h5.fr 4; have z5 := h5.fr 5; have z6 := h5.fr 6
        refine anyL_one 28 rfl (by kernel_rfl) (fun K hK => ?_)
        go_simp
        refine hK.out _ _ (fun _ => below_setAll hS (Nat.le_refl _) ⟨3 + (m0 : Int), (k : Int), (m1 : Int), (m2 : Int), (m3 : Int), 0, ⟨#[]⟩⟩) ?_
        clear hK K
        try simp only [Act.put, List.setIfInBounds_toArray, List.set_cons_zero, List.set_cons_succ]
        refine anyC_done (by kernel_rfl) ?_ _
        clear d0 d1 d2 d3 d4 d5 d6 z0 z1 z2 z3 z4 z5 z6
        refine fresh_cut (fun W => RcW W wr.heap.size ⟨3 + (m0 : Int), (k : Int), (m1 : Int), (m2 : Int), (m3 : Int), 0, ⟨#[]⟩⟩ ∧ Below wr.heap.size wr W) ⟨h5.all ⟨3 + (m0 : Int), (k : Int), (m1 : Int), (m2 : Int), (m3 : Int), 0, ⟨#[]⟩⟩, below_setAll hS (Nat.le_refl _) ⟨3 + (m0 : Int), (k : Int), (m1 : Int), (m2 : Int), (m3 : Int), 0, ⟨#[]⟩⟩⟩ ?_
        clear h5 hS
        rintro U6 ⟨h5, h7⟩
        go_wp2_with fail
        go_meet
        exact ⟨wr.heap.size, rfl, Nat.le_refl _, h5, h7⟩
      case rest =>
        clear e0 e1 e2 e3 b0' b1' b2' b3' bk hblt hki
        obtain ⟨X, rfl, hXge, hX, hBX⟩ := hcut
        have hXH := Lib.hid hX
        have hBXH := Lib.hid hBX
        obtain ⟨c0, c1, c2, c3, c4, c5, c6⟩ := hX.at_
        dsimp only at c0 c1 c2 c3 c4 c5 c6
        have z6 := hX.fr 6
        clear hX hBX
        go_upto_if 74 with fail
        go_cut [13] (fun s13 wx => s13 = .pointer (some ⟨X, 0, none⟩) ∧ ∃ q : Rc, Rec.Good q ∧ RcAt wx X q ∧ Below wr.heap.size wr wx)
        case first =>
          by_cases h4 : m0 = 1
          · subst h4
            go_wp2_with (go_at_call 20; (with_reducible refine (content_any _ _ _).mono ?_); rintro e w4 ⟨body, hbody, rfl, hb4⟩; have hX4 := hXH.out.below hb4; have z6 := hX4.fr 6; obtain ⟨c0, c1, c2, c3, c4, c5, c6⟩ := hX4.at_; dsimp only at c0 c1 c2 c3 c4 c5 c6)
            go_meet
            exact ⟨rfl, ⟨4, (k : Int), (m1 : Int), (m2 : Int), (m3 : Int), 0, body⟩, rec_good (by omega) (by omega) (by omega) (by omega) (by omega) (by rw [if_pos rfl]; exact hbody), (hX4.put6 body).at_, (hBXH.out.trans (hb4.mono hBXH.out.size)).setCell (by exact hXge) _⟩
          · have h4i : (3 + (m0 : Int) == 4) = false := beq_eq_false_iff_ne.2 (by omega)
            have h4j : ¬ 3 + (m0 : Int) = 4 := by omega
            go_wp2_with fail
            go_meet
            exact ⟨rfl, ⟨3 + (m0 : Int), (k : Int), (m1 : Int), (m2 : Int), (m3 : Int), 0, ⟨#[]⟩⟩, rec_good (by omega) (by omega) (by omega) (by omega) (by omega) (by rw [if_neg (by omega)]; rfl), hXH.out.at_, hBXH.out⟩
        case rest =>
          clear c0 c1 c2 c3 c4 c5 c6 z6 hXH hBXH hm0 hm1 hm2 hm3
          obtain ⟨rfl, q, hgd, hX, hBX⟩ := hcut
          have hWX := hWrH.out.below hBX
          have hXb : base ≤ X := Nat.le_trans hWrH.out.2.2.1 hXge
          clear hBX hWrH hXge
          have hWH := Lib.hid hWX
          have hXH := Lib.hid hX
          obtain ⟨c0, c1, c2, c3, c4, c5, c6⟩ := hX
          have hBwH := Lib.hid hWX.2.2.2
          clear hWX
          have henc := Lib.hid (fun W (h : Tab W) => encode_any q W h)
          rw [if_pos (good_iff.2 hgd)] at henc
          have hes : TextOf (encS q) (encL q) := by rw [encS_good hgd]; rfl
          have hesz := encS_size hgd
          have hnb := nBlocks_pos hgd.1
          have hgood2 := Lib.hid (show ∀ x ∈ qs ++ [q], Rec.Good x from fun x hx => by
            rcases List.mem_append.1 hx with h | h
            · exact hgoodH.out x h
            · rw [List.mem_singleton.1 h]; exact hgd)
          have htext2 : TextOf (t ++ encS q) (catL (qs ++ [q])) := by
            rw [catL_append]
            show TextOf _ (catL qs ++ (encL q ++ []))
            rw [List.append_nil]
            exact htextH.out.append hes
          have hblk2 : blk (qs ++ [q]) = blk qs + nBlocks q.k := by rw [blk_append]; rfl
          have hcat : ¬ 9223372036854775807 < t.size + (encS q).size := by omega
          have htextH2 := Lib.hid htext2
          have hk1 := Lib.hid (show k + 1 ≤ 100 ∧ k + 1 ≤ cs.length ∧ qs.length + 1 ≤ k + 1 ∧ qs.length ≤ k + 1 by omega)
          have hkw : IntKind.i64.wrap ((k : Int) + 1) = (k : Int) + 1 := IntWalk.i64_in _ (by omega)
          obtain ⟨n, hn⟩ : ∃ n, n = nBlocks q.k := ⟨_, rfl⟩
          rw [← hn] at hesz hnb hblk2
          have q1 : ((encS q).size : Int).tdiv 64 = (n : Int) := by rw [hesz]; exact tdiv64 n
          have q2 : IntKind.i64.wrap (n : Int) = (n : Int) := wrap_in (by omega)
          obtain ⟨T2, hT2⟩ : ∃ T2, T2 = t.size + (encS q).size := ⟨_, rfl⟩
          have q3 : IntKind.i64.wrap ((t.size : Int) + ((encS q).size : Int)) = (T2 : Int) := by rw [wrap_in (by omega)]; omega
          obtain ⟨B6, hB6⟩ : ∃ B6, B6 = 64 * bN := ⟨_, rfl⟩
          have q4 : IntKind.i64.wrap ((bN : Int) * 64) = (B6 : Int) := by rw [wrap_in (by omega)]; omega
          have hts := htsH.out
          by_cases hfit : blk qs + n ≤ bN
          case pos =>
            have hDo := Lib.hid (fun W (h : MAt W g z (Mw (bN : Int) ((blk qs : Nat) : Int))) => do_any g z (Mw (bN : Int) ((blk qs : Nat) : Int)) 2 0 0 (n : Int) W h (mw_ok (by omega) (by omega) (by omega) (by omega)) (by decide))
            rw [mw_fits (by omega) (by omega) (by omega), show ((blk qs : Nat) : Int) + (n : Int) = ((blk (qs ++ [q]) : Nat) : Int) by rw [hblk2]; omega] at hDo
            have q5 : T2 ≤ B6 := by omega
            have q5i : (T2 : Int) ≤ (B6 : Int) := by omega
            have q5d : decide (T2 ≤ B6) = true := decide_eq_true q5
            have q6 : IntKind.i64.wrap (((blk qs : Nat) : Int) * 64) = (t.size : Int) := by rw [wrap_in (by omega)]; omega
            have q7 : ((t.size : Int) != (t.size : Int)) = false := by simp
            have hbq2 := Lib.hid (show blk (qs ++ [q]) ≤ bN by omega)
            have hql := Lib.hid (show qs.length ≤ 1000 by omega)
            have hz2 := Lib.hid (show ∀ t2 : ByteArray, TextOf t2 (catL (qs ++ [q])) → (t2.size : Int).tdiv 64 = ((blk (qs ++ [q]) : Nat) : Int) ∧ IntKind.i64.wrap ((blk (qs ++ [q]) : Nat) : Int) = ((blk (qs ++ [q]) : Nat) : Int) from fun t2 h => by
              have h1 : t2.size = 64 * blk (qs ++ [q]) := by rw [h.size, catL_len hgood2.out]
              exact ⟨by rw [h1]; exact tdiv64 _, wrap_in (by omega)⟩)
            clear hesz hnb hblk2 hT2 hB6 hts htsz hfit hn hgd hes htext2 hqk hk40 hkl hlt1 hlt2 hbq
            generalize encS q = t1 at henc hcat htextH2 q1 q3
            go_upto_region 22 with (first | (go_at_call 11; (with_reducible refine (henc.out _ (hTA.out _ hBwH.out)).mono ?_); rintro e w4 ⟨rfl, hb4⟩; have hW4 := hWH.out.below hb4; have hM4 := hW4.2.1) | (go_at_call 21; (with_reducible refine (hDo.out _ hM4).mono ?_); rintro e w5 ⟨rfl, hM5, hO5⟩))
            have hX5 := Lib.hid ((hXH.out.below hb4).only hO5 (by omega))
            have hW5 := Lib.hid (And.intro (hW4.1.only hO5 hzb) (And.intro (show MAt w5 g z (Mw (bN : Int) ((blk (qs ++ [q]) : Nat) : Int)) from hM5) (And.intro (Nat.le_trans hW4.2.2.1 hO5.size) (hW4.2.2.2.trans (hO5.below hzw hW4.2.2.2.size)))))
            clear hXH hWH hBwH hb4 hW4 hM4 hM5 hO5 c0 c1 c2 c3 c4 c5 c6 hDo henc q1 q2 q3 q4 q5 q5i q5d q6 q7
            go_upto_region 23 with fail
            clear hcat
            generalize t ++ t1 = t2 at htextH2 ⊢
            obtain ⟨q8, q9⟩ := hz2.out t2 htextH2.out
            obtain ⟨A', cap', w6, E', capE', w7, hrun1, hrun2, hTwo7, hB7⟩ := hW5.out.1.append q ((blk (qs ++ [q]) : Nat) : Int) rfl hql.out hW5.out.2.2.1
            have hW7 := Lib.hid (show Wr w w7 base g z bN A' cap' (qs ++ [q]) E' capE' from ⟨hTwo7, hW5.out.2.1.low hB7 hgb hzb, Nat.le_trans hW5.out.2.2.1 hB7.size, hW5.out.2.2.2.trans (hB7.mono (Nat.le_trans hzw (Nat.le_of_lt hzb)))⟩)
            have hrun1H := Lib.hid hrun1
            have hrun2H := Lib.hid hrun2
            clear hTwo7 hB7 hrun1 hrun2 hW5 hz2
            obtain ⟨c0, c1, c2, c3, c4, c5, c6⟩ := hX5.out
            go_wp2_with (first | (at_builtin; refine append_run_wp (by first | rfl | (simp [Region.wanted, yielded])) (.tmp 122) (.tmp 124) 38 rfl rfl rfl hrun1H.out ?_; clear c0 c1 c2 c3 c4 c5 c6 hrun1H) | (at_builtin; refine append_run_wp (by first | rfl | (simp [Region.wanted, yielded])) (.tmp 126) (.tmp 130) 46 rfl rfl rfl hrun2H.out ?_; clear hrun2H))
            go_roundw
            case rel => exact ⟨k + 1, qs ++ [q], t2, A', cap', E', capE', rfl, by simp, by rw [endsB_len, endsB_len]; simp, by go_num, hk1.out.1, hk1.out.2.1, by rw [List.length_append]; exact hk1.out.2.2.1, hgood2.out, htextH2.out, hbq2.out, hW7.out⟩
            case measure => simp only [intOf]; have := hk1.out.1; omega
          case neg =>
            have hDo := Lib.hid (fun W (h : MAt W g z (Mw (bN : Int) ((blk qs : Nat) : Int))) => do_any g z (Mw (bN : Int) ((blk qs : Nat) : Int)) 2 0 0 (n : Int) W h (mw_ok (by omega) (by omega) (by omega) (by omega)) (by decide))
            obtain ⟨ev, hev, hfull⟩ := mw_full (b := (bN : Int)) (L := ((blk qs : Nat) : Int)) (n := (n : Int)) (by omega)
            rw [hfull] at hDo
            have q5 : ¬ T2 ≤ B6 := by omega
            have q5i : ¬ (T2 : Int) ≤ (B6 : Int) := by omega
            have q5d : decide (T2 ≤ B6) = false := decide_eq_false q5
            have q6 : (ev == 0) = false := beq_eq_false_iff_ne.2 hev
            have hbq2 := Lib.hid hbq
            clear hesz hnb hblk2 hT2 hB6 hts htsz hfit hn hgd hes htext2 hqk hk40 hkl hlt1 hlt2 hbq hev hfull
            generalize encS q = t1 at henc hcat htextH2 q1 q3
            go_wp2_with (first | (go_at_call 11; (with_reducible refine (henc.out _ (hTA.out _ hBwH.out)).mono ?_); rintro e w4 ⟨rfl, hb4⟩; have hW4 := hWH.out.below hb4; have hM4 := hW4.2.1) | (go_at_call 21; (with_reducible refine (hDo.out _ hM4).mono ?_); rintro e w5 ⟨rfl, hM5, hO5⟩))
            go_roundw
            case rel => exact ⟨k + 1, qs, t, A, cap, E, capE, rfl, rfl, rfl, by go_num, hk1.out.1, hk1.out.2.1, hk1.out.2.2.2, hgoodH.out, htextH.out, hbq2.out, ⟨hW4.1.only hO5 hzb, hM5, Nat.le_trans hW4.2.2.1 hO5.size, hW4.2.2.2.trans (hO5.below hzw hW4.2.2.2.size)⟩⟩
            case measure => simp only [intOf]; have := hk1.out.1; omega
    case neg =>
      have hgd := hgoodH.out
      have htx := htextH.out
      have hlen := catL_len hgd
      go_upto_region 9 with fail
      go_cut [42] (fun c wx => c = .bool false ∧ Wr w wx base g z bN A cap qs E capE)
      case first =>
        by_cases h1 : k < cs.length
        · have hl1 : decide ((k : Int) < (cs.length : Int)) = true := by simp; omega
          have hl2 : decide ((k : Int) < 100) = false := by simp; omega
          clear hlen
          go_wp2_with fail
          go_meet
          exact ⟨rfl, hWrH.out⟩
        · have hl1 : decide ((k : Int) < (cs.length : Int)) = false := by simp; omega
          clear hlen
          go_wp2_with fail
          go_meet
          exact ⟨rfl, hWrH.out⟩
      case rest =>
        clear hWr hWrH
        obtain ⟨rfl, hWr⟩ := hcut
        have hM := hWr.2.1
        have hWrH := Lib.hid hWr
        clear hWr
        have hqs : qs.length ≤ 100 := by omega
        have hts := htsH.out
        have hGet := Lib.hid (fun W (h : MAt W g z (Mw (bN : Int) ((blk qs : Nat) : Int))) => (show Calls Tryd.prog 22 #[.pointer (some ⟨g, 0, none⟩), .int .i64 0] W fun e w' => e = .returned (.tuple #[.agg #[.int .i64 (zst (bN : Int) ((blk qs : Nat) : Int)).s, .int .i64 ((blk qs : Nat) : Int)], .bool true]) ∧ Below W.heap.size W w' from by
          have h1 := get_any g z (Mw (bN : Int) ((blk qs : Nat) : Int)) 0 W h
          rw [mw_get, show hasB (Mw (bN : Int) ((blk qs : Nat) : Int)) 0 = true by unfold hasB Mw; simp] at h1
          exact h1))
        generalize (zst (bN : Int) ((blk qs : Nat) : Int)).s = zs at hGet
        obtain ⟨u, y, hu, hy, y0, y1, u0, u1, wu, wun, wy⟩ := mod_in cut (((blk qs : Nat) : Int) + 1) (by omega) (by omega)
        obtain ⟨c, hcy⟩ : ∃ c : Nat, (c : Int) = y := ⟨y.toNat, by omega⟩
        have hcL : c ≤ blk qs := by omega
        rw [← hcy] at hy wy
        have g1 : IntKind.i64.wrap (((blk qs : Nat) : Int) + 1) = ((blk qs : Nat) : Int) + 1 := wrap_in (by omega)
        have g2 : IntKind.i64.wrap (u + ((blk qs : Nat) : Int)) = u + ((blk qs : Nat) : Int) := wrap_in (by omega)
        have g3 : IntKind.i64.wrap (u + ((blk qs : Nat) : Int) + 1) = u + (((blk qs : Nat) : Int) + 1) := by rw [wrap_in (by omega)]; omega
        have g0 : (((blk qs : Nat) : Int) + 1 == 0) = false := beq_eq_false_iff_ne.2 (by omega)
        have g0' : ¬ ((blk qs : Nat) : Int) + 1 = 0 := by omega
        have q1 : IntKind.i64.wrap (((blk qs : Nat) : Int) * 64) = (t.size : Int) := by rw [wrap_in (by omega)]; omega
        have q2 : ((t.size : Int) != (t.size : Int)) = false := by simp
        have hfacts := Lib.hid (show TextOf (t.extract 0 (64 * c)) ((catL qs).take (64 * c)) ∧ c ≤ blk qs from ⟨by
          have h := cut_of (s := t) (A := []) (B := (catL qs).take (64 * c)) (C := (catL qs).drop (64 * c)) (a := 0) (b := 64 * c) (by rw [List.nil_append, List.take_append_drop]; exact htx) rfl (by rw [List.length_take, hlen]; omega)
          exact h, hcL⟩)
        obtain ⟨c64, hc64⟩ : ∃ c64, c64 = 64 * c := ⟨_, rfl⟩
        have gc : IntKind.i64.wrap ((c : Int) * 64) = (c64 : Int) := by rw [wrap_in (by omega)]; omega
        have hc1 : c64 ≤ t.size := by omega
        have hc2 : (c64 : Int) ≤ (t.size : Int) := by omega
        rw [← hc64] at hfacts
        have hc64H := Lib.hid hc64
        have hscan := Lib.hid (fun W (h : Tab W) => scan_any (t.extract 0 c64) W (by rw [ByteArray.size_extract]; omega) h)
        clear hgd htx hlen hts hcy wun y0 y1 u0 u1 hc64 hbq hlt hkl hqk hk40
        go_upto_region 27 with (go_at_call 22; (with_reducible refine (hGet.out _ hM).mono ?_); rintro e w3 ⟨rfl, hb3⟩)
        refine fresh_world (fun W => W.cell? ⟨w3.heap.size, 1, none⟩ = some (.int .i64 ((blk qs : Nat) : Int)) ∧ Wr w W base g z bN A cap qs E capE) ⟨by go_simp, (hWrH.out.below hb3).below ((Below.refl _ _).alloc (Nat.le_refl _) _)⟩ ?_
        clear hM hWrH hb3 hGet q1 q2
        generalize w3.heap.size = Z
        rintro W4 ⟨z1, hW4⟩
        have hW4H := Lib.hid hW4
        clear hW4
        go_quiet (fail)
        refine fresh_K (fun W => Wr w W base g z bN A cap qs E capE) (hW4H.out.below (below_drewN (Below.refl _ _) _)) ?_
        clear z1 hW4H hu hy g0 g0' g1 g2 g3 wu wy
        rintro W5 hW5
        have hW5H := Lib.hid hW5
        clear hW5
        go_wp2_with fail
        go_loopw [21] (fun s12 wx => ∃ k : Nat, s12 = .int .i64 (k : Int) ∧ k ≤ qs.length ∧ blk (qs.take k) ≤ c ∧ Wr w wx base g z bN A cap qs E capE) (fun i _ => 101 - (intOf i).toNat)
        case atStart => exact ⟨0, rfl, Nat.zero_le _, by simp [blk], hW5H.out⟩
        case round =>
          clear hW5H
          obtain ⟨k, rfl, hkq, hkc, hWr⟩ := hrel
          have hWrH := Lib.hid hWr
          have heL := endsB_len qs
          by_cases hmore : k < qs.length ∧ blk (qs.take (k + 1)) ≤ c
          case pos =>
            obtain ⟨hk1, hk2⟩ := hmore
            obtain ⟨gE, hE, hglt, hgc⟩ := hWr.1.2.1.at_ (i := k) (by rw [heL]; exact hk1)
            subst hE
            rw [endsB_at] at hgc
            have hl1 : decide ((k : Int) < ((endsB qs).length : Int)) = true := by rw [heL]; simp; omega
            have hl1' : k < (endsB qs).length := by rw [heL]; exact hk1
            have hnx := Lib.hid (show k + 1 ≤ qs.length ∧ blk (qs.take (k + 1)) ≤ c from ⟨hk1, hk2⟩)
            generalize blk (qs.take (k + 1)) = zz at hgc hk2
            have hl2 : decide ((zz : Int) ≤ (c : Int)) = true := by simp; omega
            have hl2' : (zz : Int) ≤ (c : Int) := by omega
            have hl2'' : zz ≤ c := hk2
            have hl2d : decide (zz ≤ c) = true := decide_eq_true hk2
            have hkw : IntKind.i64.wrap ((k : Int) + 1) = (k : Int) + 1 := IntWalk.i64_in _ (by omega)
            clear hWr heL hglt hkc hk1 hk2
            go_wp2_with fail
            go_roundw
            case rel => exact ⟨k + 1, by go_num, hnx.out.1, hnx.out.2, hWrH.out⟩
            case measure => simp only [intOf]; omega
          case neg =>
            go_upto_region 29 with fail
            go_cut [167] (fun c wx => c = .bool false ∧ Wr w wx base g z bN A cap qs E capE)
            case first =>
              by_cases hk1 : k < qs.length
              · obtain ⟨gE, hE, hglt, hgc⟩ := hWr.1.2.1.at_ (i := k) (by rw [heL]; exact hk1)
                subst hE
                rw [endsB_at] at hgc
                have hl1 : decide ((k : Int) < ((endsB qs).length : Int)) = true := by rw [heL]; simp; omega
                have hl1' : k < (endsB qs).length := by rw [heL]; exact hk1
                have hz : c < blk (qs.take (k + 1)) := by omega
                generalize blk (qs.take (k + 1)) = zz at hgc hz
                have hl2 : decide ((zz : Int) ≤ (c : Int)) = false := by simp; omega
                have hl2' : ¬ (zz : Int) ≤ (c : Int) := by omega
                have hl2'' : ¬ zz ≤ c := by omega
                have hl2d : decide (zz ≤ c) = false := decide_eq_false hl2''
                clear hWr heL hglt hkc hk1 hmore hz
                go_wp2_with fail
                go_meet
                exact ⟨rfl, hWrH.out⟩
              · have hl1 : decide ((k : Int) < ((endsB qs).length : Int)) = false := by rw [heL]; simp; omega
                have hl1' : ¬ k < (endsB qs).length := by rw [heL]; exact hk1
                clear hWr heL hkc hmore
                go_wp2_with fail
                go_meet
                exact ⟨rfl, hWrH.out⟩
            case rest =>
              clear hWr hWrH
              obtain ⟨rfl, hWr⟩ := hcut
              have hWrH := Lib.hid hWr
              have hBwH := Lib.hid hWr.2.2.2
              have hsc := scan_cat qs k c64 (t.extract 0 c64) hgoodH.out hkq (by have := hc64H.out; omega) (fun h => by have := hc64H.out; omega) (fun h => by have := hc64H.out; have := hfacts.out.2; omega) hfacts.out.1
              have hlk : (qs.take k).length = k := by rw [List.length_take]; omega
              have hscan2 : Hid (∀ W, Tab W → Calls Tryd.prog 16 #[.string (t.extract 0 c64)] W fun e w' => ∃ (A2 : Option Addr) (cap2 : Nat), e = .returned (.tuple #[.slice A2 k cap2, .int .i64 ((blk (qs.take k) : Nat) : Int)]) ∧ RRow w' W.heap.size 29 A2 cap2 (qs.take k) ∧ Below W.heap.size W w') := Lib.hid (fun W h => (hscan.out W h).mono (by
                rintro e w' ⟨l, n, A2, cap2, rfl, hs, hr, hb⟩
                obtain ⟨rfl, rfl⟩ := hs.uniq hsc
                rw [hlk]
                exact ⟨A2, cap2, rfl, hr, hb⟩))
              have hbk : blk (qs.take k) ≤ 200 := by have h1 := blk_le (qs.take k); omega
              have hwk : 0 < k → IntKind.i64.wrap ((k : Int) - 1) = ((k - 1 : Nat) : Int) := fun h => by rw [wrap_in (by omega)]; omega
              have hend : ∀ h : 0 < k, ∃ gE, E = some ⟨gE, 0, none⟩ ∧ ∀ W, Wr w W base g z bN A cap qs E capE → W.cell? ⟨gE, k - 1, none⟩ = some (.int .i64 ((blk (qs.take k) : Nat) : Int)) := fun h => by
                obtain ⟨gE, hE, _, _⟩ := hWr.1.2.1.at_ (i := k - 1) (by rw [heL]; omega)
                refine ⟨gE, hE, fun W hW => ?_⟩
                obtain ⟨g', hE', _, hc'⟩ := hW.1.2.1.at_ (i := k - 1) (by rw [heL]; omega)
                rw [hE] at hE'
                injection hE' with hE'
                injection hE' with hE'
                subst hE'
                rw [endsB_at, show k - 1 + 1 = k by omega] at hc'
                exact hc'
              have hlkH := Lib.hid hlk
              clear hlk
              have hgot : ∀ i (h : i < k), (qs.take k)[i]'(by rw [hlkH.out]; exact h) = qs[i]'(Nat.lt_of_lt_of_le h hkq) := fun i h => by rw [List.getElem_take]
              have hgotH := Lib.hid hgot
              clear hscan hsc hWr hkc hmore hfacts hgot
              generalize blk (qs.take k) = n at hscan2 hbk hend
              have q2 : ((n : Int) != (n : Int)) = false := by simp
              go_upto_region 32 with (go_at_call 16; (with_reducible refine (hscan2.out _ (hTA.out _ hBwH.out)).mono ?_); rintro e w3 ⟨A2, cap2, rfl, hrow2, hb3⟩)
              have hWr3 := hWrH.out.below hb3
              have hrowH := Lib.hid (show RRow w3 0 29 A2 cap2 (qs.take k) from ⟨hrow2.1, hrow2.2.imp id fun ⟨g, c', cur, h1, h2, h3⟩ => ⟨g, c', cur, h1, Nat.zero_le _, h3⟩⟩)
              have hWr3H := Lib.hid hWr3
              clear hWrH hBwH hrow2 hb3 hscan2
              go_cut [194] (fun c wx => c = .bool false ∧ RRow wx 0 29 A2 cap2 (qs.take k) ∧ Wr w wx base g z bN A cap qs E capE)
              case first =>
                by_cases hk0 : k = 0
                · subst hk0
                  clear hend hwk hWr3
                  go_wp2_with fail
                  go_meet
                  exact ⟨rfl, hrowH.out, hWr3H.out⟩
                · have hkp : 0 < k := by omega
                  have hwk1 := hwk hkp
                  obtain ⟨gE, hE, hgc⟩ := hend hkp
                  have hgc1 := hgc _ hWr3
                  subst hE
                  have hl1 : decide (0 < (k : Int)) = true := by simp; omega
                  have hl3 : k - 1 < (endsB qs).length := by rw [heL]; omega
                  clear hend hwk hgc hWr3 heL
                  go_wp2_with fail
                  go_meet
                  exact ⟨rfl, hrowH.out, hWr3H.out⟩
              case rest =>
                clear hWr3H hrowH hWr3 hend hwk q2
                obtain ⟨rfl, hrow, hWr⟩ := hcut
                have hWrH := Lib.hid hWr
                have hrowH := Lib.hid hrow
                clear hWr hrow
                go_wp2_with fail
                go_loopw [24] (fun s15 wx => ∃ i : Nat, s15 = .int .i64 (i : Int) ∧ i ≤ k ∧ RRow wx 0 29 A2 cap2 (qs.take k) ∧ Wr w wx base g z bN A cap qs E capE) (fun i _ => 101 - (intOf i).toNat)
                case atStart => exact ⟨0, rfl, Nat.zero_le _, hrowH.out, hWrH.out⟩
                case round =>
                  clear hWrH hrowH
                  obtain ⟨i, rfl, hik, hrow, hWr⟩ := hrel
                  have hWrH := Lib.hid hWr
                  have hrowH := Lib.hid hrow
                  by_cases hi : i < k
                  · obtain ⟨g1, hA2, _, c0, c1, c2, c3, c4, c5, c6⟩ := hrow.recs.at_ (i := i) (by rw [hlkH.out]; exact hi)
                    obtain ⟨g2, hA1, _, d0, d1, d2, d3, d4, d5, d6⟩ := hWr.1.1.recs.at_ (i := i) (by omega)
                    rw [hgotH.out i hi] at c0 c1 c2 c3 c4 c5 c6
                    subst hA2
                    subst hA1
                    have hiq : i < qs.length := by omega
                    generalize qs[i] = q at c0 c1 c2 c3 c4 c5 c6 d0 d1 d2 d3 d4 d5 d6
                    have hneq : ∀ W, (binOp .neq 29 (.agg #[.int .i64 q.k, .int .i64 q.s, .int .i64 q.a, .int .i64 q.b, .int .i64 q.c, .int .i64 q.d, .string q.body]) (.agg #[.int .i64 q.k, .int .i64 q.s, .int .i64 q.a, .int .i64 q.b, .int .i64 q.c, .int .i64 q.d, .string q.body])).run Tryd.prog W = .ok (.bool false) W := fun W => by
                      have h := (rec_eql W q q).2
                      rw [eqR_self] at h
                      exact h
                    have hl1 : decide ((i : Int) < (k : Int)) = true := by simp; omega
                    have hkw : IntKind.i64.wrap ((i : Int) + 1) = (i : Int) + 1 := IntWalk.i64_in _ (by omega)
                    clear hWr hrow heL
                    go_wp2_with fail
                    go_region
                    all_goals
                      go_wp2_with fail
                      go_roundw
                      case rel => exact ⟨i + 1, by go_num, by omega, hrowH.out.below (Below.refl _ _).drew, hWrH.out.below (Below.refl _ _).drew⟩
                      case measure => simp only [intOf]; omega
                  · have hl1 : decide ((i : Int) < (k : Int)) = false := by simp; omega
                    clear hWr hrow heL
                    go_wp2_with fail
                    go_ret
                    exact ⟨rfl, hWrH.out.2.2.2⟩
end Go.Proofs.YtlignckncgceaabDoor
