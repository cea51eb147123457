/- What a block is. -/
import Derived.Test.YtncbkegflkjlfaaDoorAXor
import Derived.Test.YtncbkegflkjlfaaDoorABase
namespace Go.Proofs.YtncbkegflkjlfaaDoor
open Go.RowKit Xor
def SomeText (w : World) (e : Ending) (w' : World) : Prop := ∃ s : ByteArray, s.size = 64 ∧ e = .returned (.string s) ∧ Below w.heap.size w w'
/-- Bytes that have been laid, whatever they are. -/
def SomeBytes (w W : World) (g : Nat) : Prop := (∃ l : List UInt8, l.length = 64 ∧ BytesAt W g l) ∧ (∀ i, i < 64 → W.frozen? ⟨g, i, none⟩ = false) ∧ Below w.heap.size w W ∧ w.heap.size ≤ g
theorem SomeBytes.set {w W : World} {g j : Nat} (h : SomeBytes w W g) (hj : j < 64) (x : Int) (h0 : 0 ≤ x) (h1 : x ≤ 255) : SomeBytes w (W.setCell ⟨g, j, none⟩ (.int .u8 x)) g := by
  obtain ⟨⟨l, hl, hB⟩, hf, hb, hg⟩ := h
  obtain ⟨d, rfl⟩ : ∃ d : UInt8, x = (d.toNat : Int) := ⟨UInt8.ofNat x.toNat, by rw [UInt8.toNat_ofNat']; omega⟩
  exact ⟨⟨l.set j d, by simpa using hl, hB.set (by omega) d⟩, fun i hi => by rw [World.frozen?_setCell]; exact hf i hi, hb.setCell (by exact hg) _, hg⟩
set_option maxHeartbeats 1000000 in
theorem content_any (zone b : Int) (w : World) :
    Calls Tryd.prog 10 #[.int .i64 zone, .int .i64 b] w (SomeText w) := by
  obtain ⟨i0, hi, hz0, hz1, hz2⟩ := info_parts infoB
  have hmk := fun W => run_make_m (P := Tryd.prog) 69 5 i0 (.int .u8 0) Tryd.underlying69 hi hz0 .i64 .i64 64 64 (Nat.le_refl _) (by rw [hz2]; omega) (by omega) W
  rw [hz1] at hmk
  have hmk2 : ∀ W : World, (Instr.makeSlice 69 (.int .i64 64) (.int .i64 64)).run Tryd.prog W = .ok (.slice (some ⟨W.heap.size, 0, none⟩) 64 64) (W.alloc (.cells (madeCells #[.int .u8 0] 64) 5)) := hmk
  clear hmk hi hz0 hz1 hz2
  go_enter Tryd.func10, Tryd.ntmps10
  go_wp2_with fail
  clear hmk2
  refine fresh_world (fun W => SomeBytes w W w.heap.size) ⟨⟨List.replicate 64 0, by simp, fun j hj => ?_⟩, fun i _ => made_free w _ _ _ _, (Below.refl _ _).alloc (Nat.le_refl _) _, Nat.le_refl _⟩ ?_
  · rw [made_noughts w 5 (.int .u8 0) 64 j (by simpa using hj), List.getElem_replicate]; rfl
  intro W2 hS
  generalize hg : w.heap.size = g at hS ⊢
  have hgH := Lib.hid hg
  clear hg
  go_loopw [6] (fun i wr => ∃ j : Nat, j ≤ 64 ∧ i = .int .i64 (j : Int) ∧ SomeBytes w wr g) (fun i _ => 64 - (intOf i).toNat)
  case atStart => exact ⟨0, Nat.zero_le _, rfl, hS⟩
  case round =>
    clear hS
    obtain ⟨j, hj, rfl, hS⟩ := hrel
    have hSH := Lib.hid hS
    by_cases hlt : j < 64
    · obtain ⟨⟨l, hl, hB⟩, hf, _, _⟩ := hS
      obtain ⟨v, hc⟩ : ∃ v, wr.cell? ⟨g, j, none⟩ = some v := ⟨_, hB j (by omega)⟩
      have hfj := hf j hlt
      clear hB hf hl l
      go_wp2
      go_roundw
      case rel => exact ⟨j + 1, by omega, by go_num, hSH.out.set hlt _ (by omega) (by omega)⟩
      case measure => simp [intOf]; omega
    · obtain rfl : j = 64 := by omega
      obtain ⟨⟨l, hl, hB⟩, _, hW, _⟩ := hS
      have hcb := back hB hl (cap := 64) Tryd.underlying69 Tryd.underlying5 Tryd.underlying9
      clear hB
      go_wp2
      refine bodyPost_ret (v := .string ⟨l.toArray⟩) (by simp [results, Tryd.results10, go_sem]) rfl ⟨⟨l.toArray⟩, ?_, rfl, hW⟩
      rw [ofList_size]; exact hl
end Go.Proofs.YtncbkegflkjlfaaDoor
