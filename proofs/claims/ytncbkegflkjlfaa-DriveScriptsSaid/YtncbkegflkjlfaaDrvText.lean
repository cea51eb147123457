/- The bytes of an act. -/
import Derived.Test.YtncbkegflkjlfaaDrvSpk
import Derived.Test.YtncbkegflkjlfaaDActs
import Derived.Test.YtncbkegflkjlfaaMask
namespace Go.Proofs.Ytncbkegflkjlfaa
open Go.RowKit Zon Drv

def TextPost (w : World) (n : Nat) (e : Ending) (w' : World) : Prop := ∃ s : ByteArray, s.size = n ∧ e = .returned (.string s) ∧ Below w.heap.size w w'
/-- Bytes that have been laid, whatever they are; the act's byte in its box. -/
def TxtB (w W : World) (g n : Nat) (u : Int) : Prop := (∃ l : List UInt8, l.length = n ∧ BytesAt W g l) ∧ (∀ i, i < n → W.frozen? ⟨g, i, none⟩ = false) ∧ Below w.heap.size w W ∧ w.heap.size ≤ g ∧ W.cell? ⟨w.heap.size, 5, none⟩ = some (.int .u8 u) ∧ w.heap.size ≠ g
theorem TxtB.set {w W : World} {g n j : Nat} {u : Int} (h : TxtB w W g n u) (hj : j < n) (x : Int) (h0 : 0 ≤ x) (h1 : x ≤ 255) : TxtB w (W.setCell ⟨g, j, none⟩ (.int .u8 x)) g n u := by
  obtain ⟨⟨l, hl, hB⟩, hf, hb, hg, hu, hne⟩ := h
  obtain ⟨d, rfl⟩ : ∃ d : UInt8, x = (d.toNat : Int) := ⟨UInt8.ofNat x.toNat, by rw [UInt8.toNat_ofNat']; omega⟩
  exact ⟨⟨l.set j d, by simpa using hl, hB.set (by omega) d⟩, fun i hi => by rw [World.frozen?_setCell]; exact hf i hi, hb.setCell (by exact hg) _, hg, (World.cell?_setCell_other _ _ _ _ (by intro e'; injection e' with e' _; exact hne e'.symm)).trans hu, hne⟩
/-- How many bytes. -/
def textN (p s t : Int) : Nat := (if (p = 1 ∨ p = 2) ∧ 0 < s ∧ s < 40 then (64 * s).toNat else 0) + (bits .and .i64 t 3).toNat
theorem text_new (w : World) (p q r s t u : Int) (v : Value) (n : Nat) (ty ty' : TypeId) :
    TxtB w ((w.alloc (.cells #[.int .i64 p, .int .i64 q, .int .i64 r, .int .i64 s, .int .i64 t, .int .u8 u, v] ty)).alloc (.cells (madeCells #[.int .u8 0] n) ty')) (w.heap.size + 1) n u := by
  have hs : (w.alloc (.cells #[.int .i64 p, .int .i64 q, .int .i64 r, .int .i64 s, .int .i64 t, .int .u8 u, v] ty)).heap.size = w.heap.size + 1 := by simp
  have hb : Below w.heap.size w (w.alloc (.cells #[.int .i64 p, .int .i64 q, .int .i64 r, .int .i64 s, .int .i64 t, .int .u8 u, v] ty)) := (Below.refl _ _).alloc (Nat.le_refl _) _
  have hb2 : Below (w.alloc (.cells #[.int .i64 p, .int .i64 q, .int .i64 r, .int .i64 s, .int .i64 t, .int .u8 u, v] ty)).heap.size _ ((w.alloc (.cells #[.int .i64 p, .int .i64 q, .int .i64 r, .int .i64 s, .int .i64 t, .int .u8 u, v] ty)).alloc (.cells (madeCells #[.int .u8 0] n) ty')) := (Below.refl _ _).alloc (Nat.le_refl _) _
  refine ⟨⟨List.replicate n 0, by simp, fun j hj => ?_⟩, fun i _ => ?_, hb.trans (hb2.mono (by simp)), by omega, ?_, by omega⟩
  · rw [← hs, made_noughts _ ty' (.int .u8 0) n j (by simpa using hj), List.getElem_replicate]; rfl
  · rw [← hs]; exact made_free _ _ _ _ _
  · rw [hb2.cell (p := ⟨w.heap.size, 5, none⟩) (by simp)]; go_simp

set_option maxRecDepth 100000 in
set_option maxHeartbeats 1000000 in
theorem text_two (p q r s t u i : Int) (v : Value) (w : World) (hp : p = 2) (hs : 0 < s) (hs2 : s < 40) :
    Calls Try.prog 20 #[.agg #[.int .i64 p, .int .i64 q, .int .i64 r, .int .i64 s, .int .i64 t, .int .u8 u, v], .int .i64 i] w (TextPost w (textN p s t)) := by
  obtain ⟨m, hm, hmask⟩ := mask_nat2 t 2 3 rfl (by omega)
  have hmask' : bits .and .i64 t 3 = (m : Int) := hmask
  have hmask2 : (IntKind.i64.wrap ((BitVec.ofInt 64 t &&& BitVec.ofInt 64 (3 : Int)).toNat : Int)) = (m : Int) := hmask
  obtain ⟨n, hn⟩ : ∃ n : Nat, (n : Int) = s * 64 + (m : Int) := ⟨(s * 64 + m).toNat, by omega⟩
  have hN : textN p s t = n := by unfold textN; rw [if_pos ⟨.inr hp, hs, hs2⟩, hmask']; omega
  rw [hN]
  clear hN
  have hw1 : IntKind.i64.wrap (s * 64) = s * 64 := IntWalk.i64_in _ (by omega)
  have hw2 : IntKind.i64.wrap (s * 64 + (m : Int)) = (n : Int) := by rw [IntWalk.i64_in _ (by omega)]; omega
  have hnn : n ≤ 4096 := by omega
  have hnm : s * 64 + (m : Int) = (n : Int) := hn.symm
  clear hn
  clear hmask hmask2
  obtain ⟨i0, hi, hz0, hz1, hz2⟩ := info_parts infoU8
  have hmk := fun W => run_make_m (P := Try.prog) 68 5 i0 (.int .u8 0) Try.underlying68 hi hz0 .i64 .i64 n n (Nat.le_refl _) (by rw [hz2]; omega) (by omega) W
  rw [hz1] at hmk
  clear hi hz0 hz1 hz2
  have hnew := Lib.hid (text_new w p q r s t u v n 33 5)
  subst hp
  go_enter Try.func20, Try.ntmps20
  go_wp2_with fail
  clear hmk
  refine fresh_world (fun W => TxtB w W (w.heap.size + 1) n u) hnew.out ?_
  intro W2 hS
  clear hnew
  generalize hg : w.heap.size + 1 = g at hS ⊢
  have hgH := Lib.hid hg
  clear hg
  go_loopw [7] (fun i wr => ∃ j : Nat, j ≤ n ∧ i = .int .i64 (j : Int) ∧ TxtB w wr g n u) (fun i _ => n - (intOf i).toNat)
  case atStart => exact ⟨0, Nat.zero_le _, rfl, hS⟩
  case round =>
    clear hS
    obtain ⟨j, hj, rfl, hS⟩ := hrel
    have hSH := Lib.hid hS
    by_cases hlt : j < n
    · obtain ⟨⟨l, hl, hB⟩, hf, _, _, hcu, hne⟩ := hS
      obtain ⟨v0, hc⟩ : ∃ v, wr.cell? ⟨g, j, none⟩ = some v := ⟨_, hB j (by omega)⟩
      have hfj := hf j hlt
      clear hB hf hl l
      go_wp2
      go_roundw
      case rel => exact ⟨j + 1, by omega, by go_num, hSH.out.set hlt _ (by omega) (by omega)⟩
      case measure => simp [intOf]; omega
    · obtain rfl : j = n := by omega
      obtain ⟨⟨l, hl, hB⟩, _, hW, _⟩ := hS
      have hcb := back hB hl (cap := j) Try.underlying68 Try.underlying5 Try.underlying9
      clear hB
      go_wp2
      refine bodyPost_ret (v := .string ⟨l.toArray⟩) (by simp [results, Try.results20, go_sem]) rfl ⟨⟨l.toArray⟩, ?_, rfl, hW⟩
      rw [ofList_size]; exact hl

end Go.Proofs.Ytncbkegflkjlfaa
