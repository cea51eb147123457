/- What nums.Put does with a number that has room. -/
import Derived.Test.YtlignckncgceaabDoorBytes
import Derived.Test.YtlignckncgceaabDoorNumMath
import Derived.Laws.MakeOwn
namespace Go.Proofs.YtlignckncgceaabDoor
open Go.RowKit Num

theorem run_make_rowN {P : Program} (t e : TypeId) (i : TypeInfo) (z : Value) (ht : P.underlying t = some (.slice e)) (hi : P.info? e = some i) (hz : i.zero = some z)
    (kl kc : IntKind) (n c : Nat) (hnc : n ≤ c) (hbytes : i.bytes * c ≤ 281474976710656) (h63 : c ≤ 9223372036854775807) (w : World) :
    (Instr.makeSlice t (.int kl (n : Int)) (.int kc (c : Int))).run P w = .ok (.slice (some ⟨w.heap.size, 0, none⟩) n c) (w.alloc (.cells (madeCells z.cells (c * i.size)) e)) := by
  have hb : (i.bytes : Int) * (c : Int) ≤ 281474976710656 := by
    have h : ((i.bytes * c : Nat) : Int) ≤ 281474976710656 := by omega
    rwa [Int.natCast_mul] at h
  have hr := run_make (P := P) w t e i z ht hi hz kl kc n c (by omega) (by omega) hb (by omega)
  simp only [Int.toNat_natCast] at hr
  exact hr

theorem infoByte : (Tryd.prog.info? 5).map (fun i => (i.zero, i.size, i.bytes)) = some (some (.int .u8 0), 1, 1) := by kernel_rfl

theorem made_bytes (w : World) (k : Nat) : BytesAt (w.alloc (.cells (madeCells #[.int .u8 0] k) 5)) w.heap.size (List.replicate k 0) := fun j hj => by
  rw [World.cell?_alloc_new, ← Array.getElem?_toList, toList_madeCells_one]
  simp at hj
  simp [hj]

theorem digit_int (n j : Nat) : (n : Int) / 2 ^ (8 * j) % 256 = ((UInt8.ofNat (n / 256 ^ j % 256)).toNat : Int) := by
  rw [byte_digit, ← pow8]
  simp

/-- What stands in memory with the lowest j bytes laid. -/
def Laid (w wr : World) (g n k j : Nat) : Prop := BytesAt wr g (fill n k j) ∧ (∀ i, i < k → wr.frozen? ⟨g, i, none⟩ = false) ∧ Below w.heap.size w wr ∧ w.heap.size ≤ g
theorem Laid.step {w wr : World} {g n k j : Nat} (h : Laid w wr g n k j) (hj : j < k) {d : Int} (hd : d = ((UInt8.ofNat (n / 256 ^ j % 256)).toNat : Int)) : Laid w (wr.setCell ⟨g, k - 1 - j, none⟩ (.int .u8 d)) g n k (j + 1) := by
  obtain ⟨h1, h2, h3, h4⟩ := h
  subst hd
  refine ⟨?_, ?_, h3.setCell (by exact h4) _, h4⟩
  · rw [← fill_step n k j hj]
    exact h1.set (by rw [fill_length _ _ _ (by omega)]; omega) _
  · intro i hi
    rw [World.frozen?_setCell]
    exact h2 i hi
theorem Laid.at_ {w wr : World} {g n k j : Nat} (h : Laid w wr g n k j) (hj : j < k) : (∃ u, wr.cell? ⟨g, k - 1 - j, none⟩ = some (.int .u8 u)) ∧ wr.frozen? ⟨g, k - 1 - j, none⟩ = false :=
  ⟨⟨_, h.1 (k - 1 - j) (by rw [fill_length _ _ _ (by omega)]; omega)⟩, h.2.1 _ (by omega)⟩

set_option maxHeartbeats 400000 in
theorem put_ok (n k : Nat) (w : World) (h1 : 1 ≤ k) (h7 : k ≤ 7) (hn : n < 256 ^ k) :
    Calls Tryd.prog 25 #[.int .i64 (n : Int), .int .i64 (k : Int)] w fun e w' => e = .returned (.string ⟨(putL n k).toArray⟩) ∧ Below w.heap.size w w' := by
  have hp7 := pow_le7 h7
  have hn56 : n < 72057594037927936 := by omega
  have hsh : (n : Int) / 2 ^ (8 * k) = 0 := by
    have : ((n / 2 ^ (8 * k) : Nat) : Int) = 0 := by rw [pow8, Nat.div_eq_of_lt hn]; rfl
    simpa using this
  obtain ⟨i0, hi, hz0, hz1, hz2⟩ := info_parts infoByte
  have hmk := fun W => run_make_rowN (P := Tryd.prog) 49 5 i0 (.int .u8 0) Tryd.underlying49 hi hz0 .i64 .i64 k k (Nat.le_refl _) (by rw [hz2]; omega) (by omega) W
  rw [hz1] at hmk
  clear hi hz0 hz1 hz2
  go_enter Tryd.func25, Tryd.ntmps25
  go_wp2
  refine fresh_world (fun wx => Laid w wx w.heap.size n k 0) ⟨by rw [fill_start]; exact made_bytes w k, fun i _ => ?_, (Below.refl _ _).alloc (Nat.le_refl _) _, Nat.le_refl _⟩ ?_
  · have := World.frozen?_alloc_mark w (madeCells #[.int .u8 0] k) 5 0 0 i
    exact this.trans (by simp)
  intro W2 hL
  generalize hg : w.heap.size = g at hL ⊢
  have hgH := Lib.hid hg
  clear hg hmk hsh
  go_loopw [27] (fun i wr => ∃ j : Nat, j ≤ k ∧ i = .int .i64 (j : Int) ∧ Laid w wr g n k j) (fun i _ => k - (intOf i).toNat)
  case atStart => exact ⟨0, by omega, rfl, hL⟩
  case round =>
    clear hL
    obtain ⟨j, hj, rfl, hL⟩ := hrel
    by_cases hlt : j < k
    · obtain ⟨⟨u, hc⟩, hf⟩ := hL.at_ hlt
      have hLH := Lib.hid hL
      clear hL
      have hi1 : ((k : Int) - 1 - (j : Int)).toNat = k - 1 - j := by omega
      go_wp2
      go_roundw
      case rel => exact ⟨j + 1, by omega, by go_num, hLH.out.step hlt (digit_int n j)⟩
      case measure => simp [intOf]; omega
    · obtain rfl : j = k := by omega
      have hB := hL.1
      have hW := hL.2.2.1
      rw [fill_end] at hB
      have hcb : (convert 49 9 (.slice (some ⟨g, 0, none⟩) j j)).run Tryd.prog wr = .ok (.string ⟨(putL n j).toArray⟩) wr :=
        back hB (putL_length n j) Tryd.underlying49 Tryd.underlying5 Tryd.underlying9
      clear hL hB
      go_wp2
      go_ret
      exact ⟨rfl, hW⟩

end Go.Proofs.YtlignckncgceaabDoor
