/- What the document's own Add and Fold answer for texts. -/
import Derived.Test.YtflkkmiehioejaaXorTwiceW
import Derived.Deep.AppendLies
import Derived.Laws.BytesArg
namespace Go.Proofs.Ytflkkmiehioejaa
open Go.RowKit Xor

theorem foldS_snoc (ps : List ByteArray) (p : ByteArray) : foldS [foldS ps, p] = foldS (ps ++ [p]) := by
  refine text_ext (by rw [size_two, size_foldS, size_foldS, longest_snoc]) fun i _ => ?_
  rw [byteAt_foldS, byteAt_foldS, xorAt_two, byteAt_foldS, xorAt_snoc]
theorem xor_u8 (x y : UInt8) : bits .xor .u8 (x.toNat : Int) (y.toNat : Int) = ((x ^^^ y).toNat : Int) := by
  show IntKind.u8.wrap ((BitVec.ofInt 8 (x.toNat : Int) ^^^ BitVec.ofInt 8 (y.toNat : Int)).toNat : Int) = _
  have hx := x.toNat_lt
  have hy := y.toNat_lt
  have e : ∀ z : Nat, z < 256 → (BitVec.ofInt 8 (z : Int)).toNat = z := fun z hz => by rw [BitVec.ofInt_natCast, BitVec.toNat_ofNat]; exact Nat.mod_eq_of_lt hz
  rw [BitVec.toNat_xor, e _ hx, e _ hy, UInt8.toNat_xor]
  have hl : x.toNat ^^^ y.toNat < 2 ^ 8 := Nat.xor_lt_two_pow hx hy
  rw [IntKind.wrap_u8]; omega

/-- So many bytes of the sum have been laid. -/
def LaidB (w wr : World) (v : Value) (f : Nat → UInt8) (j : Nat) : Prop := wr.ownsRow w.heap.size 5 1 v j (bytesV f j) ∧ (v = .slice none 0 0 ↔ j = 0) ∧ Below w.heap.size w wr
theorem LaidB.step {w wr w' : World} {v v' : Value} {f : Nat → UInt8} {j : Nat} {o : Obj} (h : LaidB w wr v f j) (hown : w'.ownsRow w.heap.size 5 1 v' (j + 1) (bytesV f j ++ [.int .u8 ((f j).toNat : Int)])) (hg : (wr.alloc o).grownBy w' v.ownBlock) : LaidB w w' v' f (j + 1) := by
  obtain ⟨h1, h2, h3⟩ := h
  refine ⟨by rw [← bytesV_succ]; exact hown, ?_, (h3.alloc h3.size o).grown hg (by have := h3.size; simp; omega) fun k e => (h1.lt k e).1⟩
  constructor
  · intro e
    obtain ⟨g, cap, hv, _⟩ := hown.form (by omega)
    rw [e] at hv; cases hv
  · omega

set_option maxHeartbeats 1000000 in
theorem refadd_any (a b : ByteArray) (w : World) (ha : a.size ≤ 65536) (hb : b.size ≤ 65536) :
    Calls Try.prog 15 #[.string a, .string b] w fun e w' => e = .returned (.string (foldS [a, b])) ∧ Below w.heap.size w w' := by
  have hsz := size_two a b
  have hszH := Lib.hid hsz
  clear hsz
  go_enter Try.func15, Try.ntmps15
  go_wp2_with fail
  go_loopw [5, 6] (fun v i wr => ∃ j : Nat, j ≤ 65536 ∧ (j ≤ a.size ∨ j ≤ b.size) ∧ i = .int .i64 (j : Int) ∧ LaidB w wr v (xorAt [a, b]) j) (fun _ i _ => (65536 - (intOf i).toNat))
  case atStart => exact ⟨0, Nat.zero_le _, .inl (Nat.zero_le _), rfl, World.ownsRow_nil _ _ _ _, by simp, Below.refl _ _⟩
  case round =>
    obtain ⟨j, hj, hjj, rfl, hL⟩ := hrel
    have hLH := Lib.hid hL
    obtain ⟨hown, _, hB⟩ := hL
    have hz := hB.size
    clear hB
    obtain ⟨i0, hi, hz0, hz1, hz2⟩ := info_parts infoB
    have hxe := xorAt_two a b j
    by_cases h1 : j < a.size
    · have e1 := byteAt_lt h1
      by_cases h2 : j < b.size
      · have e2 := byteAt_lt h2
        have hx := xor_u8 a[j] b[j]
        rw [e1, e2] at hxe
        rw [← hxe] at hx
        have hxeH := Lib.hid hxe
        clear e1 e2 hxe
        go_wp2_with (at_builtin; refine wpList_append_own _ rfl (.tmp 36) (.tmp 38) 33 rfl w.heap.size 5 i0 (.int .u8 0) 1 1 Try.underlying33 hi hz0 hz1 hz2 rfl (by decide) _ j _ rfl (hown.alloc _) ⟨wr.heap.size, 0, none⟩ 1 1 [.int .u8 ((xorAt [a, b] j).toNat : Int)] rfl rfl (cell_one_new _ _ _) (by simp [Value.oneCell']) (by unfold maxLen; omega) (by omega) (by simp; omega) ?_; intro v' w' hown' hgrow _; have hnext := Lib.hid (hLH.out.step hown' hgrow))
        go_roundw
        case rel => exact ⟨j + 1, by omega, .inl (by omega), by go_num, hnext.out⟩
        case measure => simp [intOf]; omega
      · rw [e1, byteAt_ge (s := b) (by omega), UInt8.xor_zero] at hxe
        have hx : (a[j].toNat : Int) = ((xorAt [a, b] j).toNat : Int) := by rw [hxe]
        have hxH := Lib.hid hx
        clear e1 hxe hx
        go_wp2_with (at_builtin; refine wpList_append_own _ rfl (.tmp 36) (.tmp 38) 33 rfl w.heap.size 5 i0 (.int .u8 0) 1 1 Try.underlying33 hi hz0 hz1 hz2 rfl (by decide) _ j _ rfl (hown.alloc _) ⟨wr.heap.size, 0, none⟩ 1 1 [.int .u8 (a[j].toNat : Int)] rfl rfl (cell_one_new _ _ _) (by simp [Value.oneCell']) (by unfold maxLen; omega) (by omega) (by simp; omega) ?_; intro v' w' hown' hgrow _; have hnext := Lib.hid (hLH.out.step (by rw [← hxH.out]; exact hown') hgrow))
        go_roundw
        case rel => exact ⟨j + 1, by omega, .inl (by omega), by go_num, hnext.out⟩
        case measure => simp [intOf]; omega
    · by_cases h2 : j < b.size
      · have e2 := byteAt_lt h2
        have hx := xor_u8 0 b[j]
        rw [e2, byteAt_ge (s := a) (by omega)] at hxe
        rw [← hxe] at hx
        have hx0 : bits .xor .u8 0 (b[j].toNat : Int) = ((xorAt [a, b] j).toNat : Int) := hx
        have hxeH := Lib.hid hxe
        clear e2 hxe hx
        go_wp2_with (at_builtin; refine wpList_append_own _ rfl (.tmp 36) (.tmp 38) 33 rfl w.heap.size 5 i0 (.int .u8 0) 1 1 Try.underlying33 hi hz0 hz1 hz2 rfl (by decide) _ j _ rfl (hown.alloc _) ⟨wr.heap.size, 0, none⟩ 1 1 [.int .u8 ((xorAt [a, b] j).toNat : Int)] rfl rfl (cell_one_new _ _ _) (by simp [Value.oneCell']) (by unfold maxLen; omega) (by omega) (by simp; omega) ?_; intro v' w' hown' hgrow _; have hnext := Lib.hid (hLH.out.step hown' hgrow))
        go_roundw
        case rel => exact ⟨j + 1, by omega, .inr (by omega), by go_num, hnext.out⟩
        case measure => simp [intOf]; omega
      · have hje : j = (foldS [a, b]).size := by rw [hszH.out]; omega
        rcases Nat.eq_zero_or_pos j with h0 | h0
        · subst h0
          obtain ⟨_, hv, _⟩ := hLH.out
          obtain rfl := hv.2 rfl
          have hre : foldS [a, b] = ⟨#[]⟩ := by
            unfold foldS textOf
            rw [size_foldS] at hje
            rw [← hje]; rfl
          have hreH := Lib.hid hre
          have hcn := run_convert_bytes_nil (P := Try.prog) wr 33 5 Try.underlying33 Try.underlying5 0 0 9 Try.underlying9
          clear hre hje hown hxe
          go_wp2
          go_ret
          exact ⟨by rw [hreH.out]; rfl, hLH.out.2.2⟩
        · obtain ⟨g, cap, rfl, _, _⟩ := hown.form h0
          have hBy : BytesAt wr g ((List.range j).map (xorAt [a, b])) := fun i hi => by
            have hi' : i < j := by simpa using hi
            have h1 := (hown.cells (g := g) rfl) i (.int .u8 ((xorAt [a, b] i).toNat : Int)) (by
              unfold bytesV
              rw [List.getElem?_map, List.getElem?_range (by omega)]; rfl)
            have h2 : (⟨g, 0, none⟩ : Addr).add i = ⟨g, i, none⟩ := by unfold Addr.add; split <;> simp_all
            rw [h2] at h1
            rw [h1]; simp
          have hcb := back hBy (show ((List.range j).map (xorAt [a, b])).length = j by simp) (cap := cap) Try.underlying33 Try.underlying5 Try.underlying9
          have hre : foldS [a, b] = ⟨((List.range j).map (xorAt [a, b])).toArray⟩ := by
            rw [size_foldS] at hje
            rw [hje]; rfl
          have hreH := Lib.hid hre
          clear hre hje hown hxe hBy
          go_wp2
          go_ret
          exact ⟨by rw [hreH.out]; rfl, hLH.out.2.2⟩

/-- One behind the other. -/
theorem reffold_any (A : Option Addr) (cap : Nat) (ps : List ByteArray) (w : World) (hl : ps.length ≤ 1000000) (hp : ∀ p ∈ ps, p.size ≤ 65536) (hS : StrsIn w A ps) :
    Calls Try.prog 12 #[.slice A ps.length cap] w fun e w' => e = .returned (.string (foldS ps)) ∧ Below w.heap.size w w' := by
  have hSH := Lib.hid hS
  have hpH := Lib.hid hp
  clear hS hp
  go_enter Try.func12, Try.ntmps12
  go_wp2_with fail
  go_loopw [3, 4] (fun s i wr => ∃ k : Nat, k ≤ ps.length ∧ i = .int .i64 (k : Int) ∧ s = .string (foldS (ps.take k)) ∧ Below w.heap.size w wr) (fun _ i _ => ps.length - (intOf i).toNat)
  case atStart => exact ⟨0, Nat.zero_le _, rfl, rfl, Below.refl _ _⟩
  case round =>
    obtain ⟨k, hk, rfl, rfl, hB⟩ := hrel
    by_cases hlt : k < ps.length
    · obtain ⟨b, off, rfl, hltb, hc0⟩ := hSH.out.at_ hlt
      have hc := (hB.cell (p := ⟨b, off + k, none⟩) hltb).trans hc0
      have hsn := foldS_snoc (ps.take k) ps[k]
      rw [← List.take_succ_eq_append_getElem hlt] at hsn
      have ha := fun W => refadd_any (foldS (ps.take k)) ps[k] W (size_fold_le fun p hp => hpH.out p (List.mem_of_mem_take hp)) (hpH.out _ (List.getElem_mem _))
      rw [hsn] at ha
      generalize ps[k] = p at hc hc0 ha
      generalize foldS (ps.take k) = x at ha
      have haH := Lib.hid ha
      have hBH := Lib.hid hB
      clear ha hsn hc0 hB
      go_wp2_with fail
      (with_reducible refine (haH.out _).mono ?_)
      rintro e w2 ⟨rfl, hb2⟩
      have hB2 := bmore hBH.out hb2
      clear hb2 hBH
      go_wp2
      go_roundw
      case rel => exact ⟨k + 1, by omega, by go_num, rfl, hB2⟩
      case measure => simp [intOf]; omega
    · obtain rfl : k = ps.length := by omega
      rw [List.take_length]
      go_wp2
      go_ret
      exact ⟨rfl, hB⟩
end Go.Proofs.Ytflkkmiehioejaa
