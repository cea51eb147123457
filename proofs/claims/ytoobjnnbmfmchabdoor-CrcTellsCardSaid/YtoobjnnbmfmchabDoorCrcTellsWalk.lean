/- What the law CrcTells does. -/
import Derived.Test.YtoobjnnbmfmchabDoorCrcBytes
namespace Go.Proofs.YtoobjnnbmfmchabDoor
open Go.RowKit Crc

/-- What stands in memory with k of the four bytes turned. -/
def Told (w wr : World) (g n B : Nat) (l bs : List UInt8) (p k : Nat) : Prop :=
  l.length = n ∧ bs.length = 4 ∧ B < g ∧ BytesAt wr g (upd l p (bs.take k)) ∧ (∀ j, j < n → wr.frozen? ⟨g, j, none⟩ = false) ∧ (∀ j, j < 4 → wr.cell? ⟨B, j, none⟩ = some (.int .u8 ((bs.getD j 0).toNat : Int))) ∧ Below w.heap.size w wr ∧ w.heap.size ≤ g

theorem Told.drew {w wr : World} {g n B : Nat} {l bs : List UInt8} {p k : Nat} (h : Told w wr g n B l bs p k) : Told w wr.drew g n B l bs p k :=
  ⟨h.1, h.2.1, h.2.2.1, h.2.2.2.1, h.2.2.2.2.1, h.2.2.2.2.2.1, h.2.2.2.2.2.2.1.drew, h.2.2.2.2.2.2.2⟩

theorem Told.step {w wr : World} {g n B : Nat} {l bs : List UInt8} {p k : Nat} (h : Told w wr g n B l bs p k) (hk : k < 4) (hp : p + k < n) (d : UInt8)
    (hd : d = (upd l p (bs.take k)).getD (p + k) 0 ^^^ bs.getD k 0) : Told w (wr.setCell ⟨g, p + k, none⟩ (.int .u8 (d.toNat : Int))) g n B l bs p (k + 1) := by
  obtain ⟨h1, h2, h3, h4, h5, h6, h7, h8⟩ := h
  refine ⟨h1, h2, h3, ?_, ?_, ?_, h7.setCell (by exact h8) _, h8⟩
  · rw [List.take_succ_eq_append_getElem (by omega), upd_snoc]
    have e : (bs.take k).length = k := by simp; omega
    have e2 : bs[k]'(by omega) = bs.getD k 0 := by simp [List.getD, show k < bs.length by omega]
    rw [e, e2, ← hd]
    exact h4.set (by rw [upd_length]; omega) d
  · intro j hj
    rw [World.frozen?_setCell]
    exact h5 j hj
  · intro j hj
    rw [World.cell?_setCell_other _ _ _ _ (by intro e; injection e with e; omega)]
    exact h6 j hj

theorem Told.at_ {w wr : World} {g n B : Nat} {l bs : List UInt8} {p k : Nat} (h : Told w wr g n B l bs p k) (hk : k < 4) (hp : p + k < n) :
    wr.cell? ⟨g, p + k, none⟩ = some (.int .u8 (((upd l p (bs.take k)).getD (p + k) 0).toNat : Int)) ∧ wr.frozen? ⟨g, p + k, none⟩ = false ∧ wr.cell? ⟨B, k, none⟩ = some (.int .u8 ((bs.getD k 0).toNat : Int)) := by
  obtain ⟨h1, h2, h3, h4, h5, h6, h7, h8⟩ := h
  refine ⟨?_, h5 _ hp, h6 k hk⟩
  have hl : p + k < (upd l p (bs.take k)).length := by rw [upd_length]; omega
  rw [h4 _ hl]
  simp [List.getD, hl]

theorem sum_tells (l m : List UInt8) (p : Nat) (hm : m.length ≤ 4) (hp : p + m.length ≤ l.length) : (sumI (upd l p m) != sumI l) = m.any (· != 0) := by
  have h1 := reg_upd R0 m l p hp
  have h2 : sumW (upd l p m) = sumW l ^^^ zs (l.length - p - m.length) (reg 0#32 m) := by unfold sumW; rw [h1, not_xor]
  have h3 : sumI (upd l p m) = sumI l ↔ zs (l.length - p - m.length) (reg 0#32 m) = 0#32 := by
    unfold sumI
    constructor
    · intro h
      have : sumW (upd l p m) = sumW l := BitVec.eq_of_toNat_eq (by omega)
      rw [h2] at this
      have e := congrArg (fun x => sumW l ^^^ x) this
      simpa [← BitVec.xor_assoc] using e
    · intro h
      rw [h2, h, BitVec.xor_zero]
  rw [reg_tells m hm] at h3
  rw [Bool.eq_iff_iff, bne_iff_ne, ne_eq, h3]
  simp

set_option maxHeartbeats 1000000 in
theorem tells_any (s : ByteArray) (a : Int) (bs : List UInt8) (h4 : bs.length = 4) (w : World) (hT : Tab w) (hs : s.size ≤ maxLen) :
    Calls Tryd.prog 5 #[.string s, .int .i64 a, .agg (bs.map fun b => Value.int .u8 (b.toNat : Int)).toArray] w fun e w' => e = .returned (.bool true) ∧ Below w.heap.size w w' := by
  have hTA : ∀ wx, Below w.heap.size w wx → Tab wx := fun wx h => hT.below h
  have hTH := Lib.hid hTA
  clear hT hTA
  go_enter Tryd.func5, Tryd.ntmps5
  go_upto_region 3 with (go_at_call 9; refine (speaks_any _ (hTH.out _ ?_)).mono ?_; (first | exact (Below.refl _ _).alloc (Nat.le_refl _) _ | skip); rintro e w1 ⟨rfl, hb⟩)
  have hz1 : w.heap.size < w1.heap.size := by have := hb.size; simp at this; omega
  refine fresh_world (fun wx => Below w.heap.size w wx ∧ w.heap.size < wx.heap.size ∧ ∀ j, j < 4 → wx.cell? ⟨w.heap.size, j, none⟩ = some (.int .u8 ((bs.getD j 0).toNat : Int))) ⟨((Below.refl _ _).alloc (Nat.le_refl _) _).trans (hb.mono (by simp)), hz1, ?_⟩ ?_
  · intro j hj
    have hjl : j < bs.length := by omega
    rw [hb.cell (p := ⟨w.heap.size, j, none⟩) (by simp), World.cell?_alloc_new]
    simp [List.getD, hjl]
  clear hb hz1 w1
  rintro wc ⟨hbc, hzc, hbox⟩
  by_cases h0 : s.size = 0
  · obtain rfl : s = ByteArray.empty := by
      rcases s with ⟨⟨l⟩⟩
      obtain rfl : l = [] := by simpa [ByteArray.size] using h0
      rfl
    go_wp2
    go_ret
    exact ⟨rfl, hbc⟩
  by_cases h5 : 5000 < s.size
  · have hs1 : ¬ s = ByteArray.empty := by rintro rfl; exact h0 rfl
    have hs2 : ((s.size : Int) == 0) = false := by rw [beq_eq_false_iff_ne]; omega
    have hs3 : decide (5000 < (s.size : Int)) = true := by simp; omega
    unfold maxLen at hs
    go_wp2
    go_ret
    exact ⟨rfl, hbc⟩
  have h0 : 0 < s.size := by omega
  have h5 : s.size ≤ 5000 := by omega
  have hs1 : ¬ s = ByteArray.empty := by rintro rfl; exact absurd h0 (by decide)
  have hs2 : ((s.size : Int) == 0) = false := by rw [beq_eq_false_iff_ne]; omega
  have hs3 : decide (5000 < (s.size : Int)) = false := by simp; omega
  obtain ⟨p, hp, hplace, hp1, hp2⟩ := place a s.size h0 h5
  have hcv := fun wx => run_bytes_of_string (P := Tryd.prog) wx 9 31 5 s Tryd.underlying9 Tryd.underlying31 Tryd.underlying5
  have hboxH := Lib.hid hbox
  clear hbox
  go_wp2
  clear hcv hplace
  refine fresh_world (fun wx => Told w wx wc.heap.size s.size w.heap.size s.data.toList bs p 0) ?_ ?_
  · refine ⟨by simp, h4, hzc, ?_, ?_, ?_, ((hbc.alloc hbc.size _).drew), hbc.size⟩
    · exact BytesAt.new wc s (grownCap wc s.size 0 5) 5 ((bytesRow s (grownCap wc s.size 0 5)).size, (bytesRow s (grownCap wc s.size 0 5)).size + 1)
    · intro j hj
      have : j < (bytesRow s (grownCap wc s.size 0 5)).size := by unfold bytesRow; simp; omega
      have e := World.frozen?_alloc_mark wc (bytesRow s (grownCap wc s.size 0 5)) 5 (bytesRow s (grownCap wc s.size 0 5)).size ((bytesRow s (grownCap wc s.size 0 5)).size + 1) j
      exact e.trans (by simp; omega)
    · intro j hj
      exact (World.cell?_alloc_lt wc _ ⟨w.heap.size, j, none⟩ hzc).trans (hboxH.out j hj)
  rintro W2 hI
  clear hbc hzc hboxH
  generalize grownCap wc s.size 0 5 = cap
  generalize wc.heap.size = g at hI ⊢
  generalize hBB : w.heap.size = B at hI ⊢
  have hBH := Lib.hid hBB
  clear hBB
  go_loopw [8, 9] (fun c i wr => ∃ k : Nat, k ≤ 4 ∧ p + k ≤ s.size ∧ i = .int .i64 (k : Int) ∧ c = .bool ((bs.take k).any (· != 0)) ∧ Told w wr g s.size B s.data.toList bs p k) (fun _ i _ => 4 - (intOf i).toNat)
  case atStart => exact ⟨0, by omega, by omega, rfl, by simp, hI⟩
  case round =>
    clear hI
    obtain ⟨k, hk4, hkn, rfl, rfl, hI⟩ := hrel
    by_cases hlt : k < 4 ∧ p + k < s.size
    · obtain ⟨hk, hkp⟩ := hlt
      obtain ⟨hc1, hc2, hc3⟩ := hI.at_ hk hkp
      have hg1 : decide ((k : Int) < 4) = true := by simp; omega
      have hg2 : decide ((k : Int) < (s.size : Int) - (p : Int)) = true := by simp; omega
      have hw1 : IntKind.i64.wrap ((p : Int) + (k : Int)) = (p : Int) + (k : Int) := IntWalk.i64_in _ (by omega)
      have hw2 : ((p : Int) + (k : Int)).toNat = p + k := by omega
      obtain ⟨d, hx, hd⟩ : ∃ d : UInt8, bits .xor .u8 (((upd s.data.toList p (bs.take k)).getD (p + k) 0).toNat : Int) ((bs.getD k 0).toNat : Int) = (d.toNat : Int) ∧ Hid (d = (upd s.data.toList p (bs.take k)).getD (p + k) 0 ^^^ bs.getD k 0) := ⟨_, u8_xor_bytes _ _, Lib.hid rfl⟩
      have hnext := Lib.hid (hI.step hk hkp d hd.out)
      have hany : (bs.take (k + 1)).any (· != 0) = ((bs.take k).any (· != 0) || (bs.getD k 0 != 0)) := by
        rw [List.take_succ_eq_append_getElem (by omega), List.any_append]
        simp [List.getD, show k < bs.length by omega]
      have hc4 : (wr.setCell ⟨g, p + k, none⟩ (.int .u8 (d.toNat : Int))).cell? ⟨B, k, none⟩ = some (.int .u8 ((bs.getD k 0).toNat : Int)) := hnext.out.2.2.2.2.2.1 k hk
      have hanyH := Lib.hid hany
      clear hI hany
      generalize (upd s.data.toList p (bs.take k)).getD (p + k) 0 = c0 at hc1 hx hd
      generalize (bs.take k).any (· != 0) = ch at hanyH ⊢
      generalize bs.getD k 0 = bk at hc3 hc4 hx hd hanyH
      obtain ⟨z, hz1, hz2⟩ : ∃ z : Bool, ((bk.toNat : Int) != 0) = z ∧ Hid ((bk != 0) = z) := by
        refine ⟨bk != 0, ?_, Lib.hid rfl⟩
        rw [Bool.eq_iff_iff, bne_iff_ne, bne_iff_ne, ne_eq, ne_eq, ← UInt8.toNat_inj]
        simp
      go_wp2
      go_region
      cases ch
      all_goals
        go_wp2
        go_roundw
        case rel => exact ⟨k + 1, by omega, by omega, by go_num, by rw [hanyH.out, hz2.out]; simp, hnext.out.drew⟩
        case measure => simp [intOf]; omega
    · have hW := hI.2.2.2.2.2.2.1
      have hB := hI.2.2.2.1
      have hg1 : decide ((k : Int) < 4) = decide (k < 4) := by rw [decide_eq_decide]; omega
      have hg2 : k < 4 → decide ((k : Int) < (s.size : Int) - (p : Int)) = false := fun h => by simp; omega
      have hlen : (upd s.data.toList p (bs.take k)).length = s.size := by rw [upd_length]; simp
      have hfin := sum_tells s.data.toList (bs.take k) p (by simp; omega) (by simp; omega)
      clear hI
      generalize (bs.take k).any (· != 0) = ch at hfin ⊢
      generalize upd s.data.toList p (bs.take k) = l' at hB hlen hfin
      have hb1 : ∀ o, Below wr.heap.size wr (wr.alloc o) := fun o => (Below.refl _ _).alloc (Nat.le_refl _) o
      have hb2 : ∀ o o', Below wr.heap.size wr ((wr.alloc o).alloc o') := fun o o' => ((Below.refl _ _).alloc (Nat.le_refl _) o).alloc (by simp) o'
      have hcb : (convert 31 9 (.slice (some ⟨g, 0, none⟩) s.size cap)).run Tryd.prog wr = .ok (.string ⟨l'.toArray⟩) wr :=
        back hB hlen Tryd.underlying31 Tryd.underlying5 Tryd.underlying9
      have ht : (⟨l'.toArray⟩ : ByteArray).size ≤ maxLen := by
        rw [(ofList_size _).trans hlen]; unfold maxLen; omega
      have hWB : Below w.heap.size w wr := hW
      have hT1 := hTH.out _ (hWB.trans ((hb1 (.cells #[.string ⟨l'.toArray⟩] 9)).mono hWB.size))
      have hT2 := hTH.out _ (hWB.trans ((hb2 (.cells #[.string ⟨l'.toArray⟩] 9) (.cells #[.string s] 9)).mono hWB.size))
      have hS1 := Lib.hid (sum_one ⟨l'.toArray⟩ wr.heap.size _ hT1 ht (by go_simp))
      have hS2 := Lib.hid (sum_one s (wr.heap.size + 1) _ hT2 (by unfold maxLen; omega) (by go_simp))
      have hWe := hWB.trans ((hb2 (.cells #[.string ⟨l'.toArray⟩] 9) (.cells #[.string s] 9)).mono hWB.size)
      clear hB hlen hb1 hb2 ht hT1 hT2 hWB
      by_cases hk : k < 4
      · have hg3 := hg2 hk
        go_wp2_with fail
        refine hS1.out.mono ?_
        rintro e w' ⟨rfl, rfl⟩
        go_wp2_with fail
        refine hS2.out.mono ?_
        rintro e w' ⟨rfl, rfl⟩
        go_wp2
        go_ret
        exact ⟨by simp, hWe⟩
      · go_wp2_with fail
        refine hS1.out.mono ?_
        rintro e w' ⟨rfl, rfl⟩
        go_wp2_with fail
        refine hS2.out.mono ?_
        rintro e w' ⟨rfl, rfl⟩
        go_wp2
        go_ret
        exact ⟨by simp, hWe⟩
end Go.Proofs.YtoobjnnbmfmchabDoor
