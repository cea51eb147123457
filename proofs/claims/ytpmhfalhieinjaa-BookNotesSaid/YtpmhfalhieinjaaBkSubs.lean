/- What a book has records of. -/
import Derived.Test.YtpmhfalhieinjaaBkNewM
import Derived.IntWalk
import Derived.LoopTactic
namespace Go.Proofs.Ytpmhfalhieinjaa
open Go.RowKit Rec Bk

def suE : Enc (Int × Int) := ⟨fun u => [.int .i64 u.1, .int .i64 u.2], 2, fun _ => rfl, fun _ u hu => by
  simp only [List.mem_cons, List.not_mem_nil, or_false] at hu
  rcases hu with rfl | rfl <;> rfl⟩
theorem infSu : Enc.Inf Try.prog 76 2 16 := by unfold Enc.Inf; kernel_rfl
def sbZ (k : Nat) : List (Int × Int) := (6, 0) :: (List.range k).map (fun z : Nat => (3, (z : Int)))
def sbM (n k : Nat) : List (Int × Int) := sbZ n ++ (List.range k).map (fun s : Nat => (5, (s : Int)))
theorem sbZ_len (k : Nat) : (sbZ k).length = k + 1 := by unfold sbZ; simp
theorem sbM_len (n k : Nat) : (sbM n k).length = n + 1 + k := by unfold sbM; rw [List.length_append, sbZ_len]; simp
theorem sbZ_succ (k : Nat) : sbZ k ++ [(3, (k : Int))] = sbZ (k + 1) := by unfold sbZ; rw [List.range_succ, List.map_append]; rfl
theorem sbM_succ (n k : Nat) : sbM n k ++ [(5, (k : Int))] = sbM n (k + 1) := by unfold sbM; rw [List.range_succ, List.map_append, List.append_assoc]; rfl
theorem sbM_zero (n : Nat) : sbM n 0 = sbZ n := by unfold sbM; simp
theorem sbM_all (n m : Nat) : sbM n m = subs n m := by unfold sbM sbZ subs; rfl
def SuPost (w : World) (n m : Nat) (e : Ending) (w' : World) : Prop := ∃ A cap, e = .returned (.slice A (n + 1 + m) cap) ∧ suE.Row w' w.heap.size 76 A cap (subs n m) ∧ Below w.heap.size w w'
/-- The world within subjects. -/
structure SubW (w W : World) (D Z B O A : Int) (A1 : Option Addr) (c1 : Nat) (us : List (Int × Int)) : Prop where
  g : GzAt W w.heap.size D Z B O A
  r : suE.Row W (w.heap.size + 1) 76 A1 c1 us
  bw : Below w.heap.size w W
theorem SubW.below {w W W' : World} {D Z B O A : Int} {A1 : Option Addr} {c1 : Nat} {us : List (Int × Int)} (h : SubW w W D Z B O A A1 c1 us) (hb : Below W.heap.size W W') : SubW w W' D Z B O A A1 c1 us :=
  ⟨h.g.below hb, h.r.below hb, h.bw.trans (hb.mono h.bw.size)⟩
theorem SubW.app {w W : World} {D Z B O A : Int} {A1 : Option Addr} {c1 : Nat} {us : List (Int × Int)} (h : SubW w W D Z B O A A1 c1 us) (u : Int × Int) (hl : us.length ≤ 1000) :
    ∃ A' cap' W2, (Builtin.append_ #[73, 73] 73 #[.slice A1 us.length c1, .slice (some ⟨W.heap.size, 0, none⟩) 1 1]).run Try.prog (W.alloc (.cells #[.int .i64 u.1, .int .i64 u.2] 76)) = .ok (.slice A' (us.length + 1) cap') W2 ∧ SubW w W2 D Z B O A A' cap' (us ++ [u]) := by
  have hg := h.g.2.2.2.2.2
  have h1 := h.below (W' := W.alloc (.cells #[.int .i64 u.1, .int .i64 u.2] 76)) ((Below.refl _ _).alloc (Nat.le_refl _) _)
  obtain ⟨A', cap', W2, hrun, hrow, hgr, _⟩ := h1.r.append (P := Try.prog) Try.underlying73 infSu (by decide) (by decide) (m := W.heap.size) (x := u) (by
    intro j hj
    have hj2 : j < 2 := hj
    rw [World.cell?_alloc_new]
    rcases (by omega : j = 0 ∨ j = 1) with rfl | rfl <;> rfl) (by omega) (by simp; omega) 73
  have hown : ∀ k, (Value.slice A1 us.length c1).ownBlock = some k → w.heap.size + 1 ≤ k := fun k e => (World.ownsRow.lt h1.r k e).1
  have hk : ∀ k, k < w.heap.size + 1 → W2.heap[k]? = (W.alloc (.cells #[.int .i64 u.1, .int .i64 u.2] 76)).heap[k]? := fun k hk => hgr.block k (by simp; omega) (fun e => by have := hown k e.symm; omega)
  exact ⟨A', cap', W2, hrun, h1.g.of (hk _ (by omega)) hgr.size, hrow, ⟨hgr.os.trans h1.bw.os, hgr.tape.trans h1.bw.tape, hgr.output.trans h1.bw.output, Nat.le_trans h1.bw.size hgr.size, fun k h2 => (hk k (by omega)).trans (h1.bw.block k h2)⟩⟩
theorem subW_start (w : World) (D Z B O A : Int) :
    SubW w ((w.alloc (.cells #[.int .i64 D, .int .i64 Z, .int .i64 B, .int .i64 O, .int .i64 A] 37)).alloc (.cells #[.int .i64 6, .int .i64 0] 76)) D Z B O A (some ⟨w.heap.size + 1, 0, none⟩) 1 (sbZ 0) := by
  have h1 := GzAt.new w D Z B O A 37
  generalize hW1 : w.alloc _ = W1 at h1 ⊢
  have e1 : W1.heap.size = w.heap.size + 1 := by rw [← hW1, World.size_alloc]
  have hb1 : Below w.heap.size w W1 := by rw [← hW1]; exact (Below.refl _ _).alloc (Nat.le_refl _) _
  have hb2 : Below W1.heap.size W1 (W1.alloc (.cells #[.int .i64 6, .int .i64 0] 76)) := (Below.refl _ _).alloc (Nat.le_refl _) _
  have h2 := World.ownsRow_lit (base := w.heap.size + 1) (size := 2) (e := 76) W1 #[.int .i64 6, .int .i64 0] 1 (by omega) (by unfold maxLen; omega) rfl
  rw [e1] at h2
  exact ⟨h1.below hb2, h2, hb1.trans (hb2.mono hb1.size)⟩
set_option maxRecDepth 100000 in
set_option maxHeartbeats 2000000 in
theorem subjects_any (w : World) (Z B O A : Int) (n m : Nat) (hn : n ≤ 64) (hm : m ≤ 64) (hg : gzV (m : Int) Z B O A = (n : Int)) :
    Calls Try.prog 21 #[.agg #[.int .i64 (m : Int), .int .i64 Z, .int .i64 B, .int .i64 O, .int .i64 A]] w (SuPost w n m) := by
  have hz := Lib.hid (fun W => gz_any (m : Int) Z B O A W)
  rw [hg] at hz
  have hst := Lib.hid (subW_start w (m : Int) Z B O A)
  clear hg
  go_enter Try.func21, Try.ntmps21
  go_wp2_with fail
  refine fresh_C (fun W => SubW w W (m : Int) Z B O A (some ⟨w.heap.size + 1, 0, none⟩) 1 (sbZ 0)) hst.out ?_
  clear hst
  rintro W hN
  have hNH := Lib.hid hN
  clear hN
  refine (hz.out _).mono ?_
  rintro e w2 ⟨rfl, hb2⟩
  have hN2 := hNH.out.below hb2
  have hN2H := Lib.hid hN2
  clear hNH hb2 hN2 hz
  go_wp2_with fail
  go_loopw [3, 10] (fun s i wr => ∃ (k q : Nat) (A1 : Option Addr) (c1 : Nat), k ≤ n ∧ q = k + 1 ∧ i = .int .i64 (k : Int) ∧ s = .slice A1 q c1 ∧ SubW w wr (m : Int) Z B O A A1 c1 (sbZ k)) (fun _ i _ => n - (intOf i).toNat)
  case atStart => exact ⟨0, 1, _, 1, Nat.zero_le _, rfl, rfl, rfl, hN2H.out⟩
  case round =>
    clear hN2H
    obtain ⟨k, q, A1, c1, hkn, hq, rfl, rfl, hN⟩ := hrel
    have hlen : (sbZ k).length = q := by rw [sbZ_len, hq]
    by_cases hlt : k < n
    case pos =>
      obtain ⟨A', cap', W2, hrun, hN'⟩ := hN.app (3, (k : Int)) (by omega)
      dsimp only at hrun
      rw [hlen] at hrun
      rw [sbZ_succ] at hN'
      have hrunH := Lib.hid hrun
      have hNH := Lib.hid hN'
      have hqH := Lib.hid hq
      have hkw : IntKind.i64.wrap ((k : Int) + 1) = (k : Int) + 1 := IntWalk.i64_in _ (by omega)
      clear hrun hN' hN hlen hq
      go_wp2_with (at_builtin; refine append_run_wp (by first | rfl | (simp [Region.wanted, yielded])) (.tmp 13) (.tmp 16) 73 rfl rfl rfl hrunH.out ?_; clear hrunH)
      go_roundw
      case rel => exact ⟨k + 1, q + 1, A', cap', by omega, by rw [hqH.out], by go_num, rfl, hNH.out⟩
      case measure => simp only [intOf]; omega
    case neg =>
      obtain rfl : k = n := by omega
      obtain ⟨y0, y1, y2, y3, y4, yf⟩ := hN.g
      have hNH := Lib.hid hN
      have hqH := Lib.hid hq
      clear hN hlen hq
      go_wp2_with fail
      go_loopw [3, 21] (fun s i wr => ∃ (j p : Nat) (A1 : Option Addr) (c1 : Nat), j ≤ m ∧ p = k + 1 + j ∧ i = .int .i64 (j : Int) ∧ s = .slice A1 p c1 ∧ SubW w wr (m : Int) Z B O A A1 c1 (sbM k j)) (fun _ i _ => m - (intOf i).toNat)
      case atStart => exact ⟨0, q, A1, c1, Nat.zero_le _, by rw [hqH.out], rfl, rfl, by rw [sbM_zero]; exact hNH.out⟩
      case round =>
        clear hNH y0 y1 y2 y3 y4 yf
        obtain ⟨j, p, A1, c1, hjm, hp, rfl, rfl, hN⟩ := hrel
        have hlen : (sbM k j).length = p := by rw [sbM_len, hp]
        by_cases hlt2 : j < m
        case pos =>
          obtain ⟨A', cap', W2, hrun, hN'⟩ := hN.app (5, (j : Int)) (by omega)
          dsimp only at hrun
          rw [hlen] at hrun
          rw [sbM_succ] at hN'
          have hrunH := Lib.hid hrun
          have hNH := Lib.hid hN'
          have hpH := Lib.hid hp
          have hkw : IntKind.i64.wrap ((j : Int) + 1) = (j : Int) + 1 := IntWalk.i64_in _ (by omega)
          clear hrun hN' hN hlen hp
          go_wp2_with (at_builtin; refine append_run_wp (by first | rfl | (simp [Region.wanted, yielded])) (.tmp 24) (.tmp 27) 73 rfl rfl rfl hrunH.out ?_; clear hrunH)
          go_roundw
          case rel => exact ⟨j + 1, p + 1, A', cap', by omega, by rw [hpH.out]; rfl, by go_num, rfl, hNH.out⟩
          case measure => simp only [intOf]; omega
        case neg =>
          obtain rfl : j = m := by omega
          rw [sbM_all] at hN
          have hNH := Lib.hid hN
          have hpH := Lib.hid hp
          clear hN hlen hp
          go_wp2_with fail
          go_ret
          exact ⟨A1, c1, by have e := hpH.out; subst e; rfl, hNH.out.r.mono (by omega), hNH.out.bw⟩
end Go.Proofs.Ytpmhfalhieinjaa
