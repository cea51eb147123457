/- The law's own comparing of two books: of equal ones. -/
import Derived.Test.YtpmhfalhieinjaaBkRM
import Derived.IntWalk
import Derived.LoopTactic
namespace Go.Proofs.Ytpmhfalhieinjaa
open Go.RowKit Rec Bk

/-- The world within same. -/
structure SmW (w W : World) (A1 : Option Addr) (c1 : Nat) (A2 : Option Addr) (c2 : Nat) (A3 : Option Addr) (c3 : Nat) (A4 : Option Addr) (c4 : Nat) (b : Bo) : Prop where
  x : BkAt W w.heap.size A1 c1 A2 c2 b
  y : BkAt W (w.heap.size + 1) A3 c3 A4 c4 b
  i : BkIn W A1 c1 A2 c2 b
  j : BkIn W A3 c3 A4 c4 b
  bw : Below w.heap.size w W
theorem SmW.below {w W W' : World} {A1 : Option Addr} {c1 : Nat} {A2 : Option Addr} {c2 : Nat} {A3 : Option Addr} {c3 : Nat} {A4 : Option Addr} {c4 : Nat} {b : Bo} (h : SmW w W A1 c1 A2 c2 A3 c3 A4 c4 b) (hb : Below W.heap.size W W') : SmW w W' A1 c1 A2 c2 A3 c3 A4 c4 b :=
  ⟨h.x.below hb, h.y.below hb, h.i.below hb, h.j.below hb, h.bw.trans (hb.mono h.bw.size)⟩
theorem smW_start (w : World) (A1 : Option Addr) (c1 : Nat) (A2 : Option Addr) (c2 : Nat) (A3 : Option Addr) (c3 : Nat) (A4 : Option Addr) (c4 : Nat) (b : Bo) (h : BkIn w A1 c1 A2 c2 b) (h' : BkIn w A3 c3 A4 c4 b) :
    SmW w ((w.alloc (.cells #[.int .i64 b.q, .slice A1 b.zs.length c1, .slice A2 b.ms.length c2, .int .i64 b.sl, .int .i64 b.cu] 33)).alloc (.cells #[.int .i64 b.q, .slice A3 b.zs.length c3, .slice A4 b.ms.length c4, .int .i64 b.sl, .int .i64 b.cu] 40)) A1 c1 A2 c2 A3 c3 A4 c4 b := by
  have h1 := BkAt.new w A1 c1 A2 c2 b 33
  generalize hW1 : w.alloc _ = W1 at h1 ⊢
  have e1 : W1.heap.size = w.heap.size + 1 := by rw [← hW1, World.size_alloc]
  have hb1 : Below w.heap.size w W1 := by rw [← hW1]; exact (Below.refl _ _).alloc (Nat.le_refl _) _
  have h2 := BkAt.new W1 A3 c3 A4 c4 b 40
  generalize hW2 : W1.alloc _ = W2 at h2 ⊢
  have hb2 : Below W1.heap.size W1 W2 := by rw [← hW2]; exact (Below.refl _ _).alloc (Nat.le_refl _) _
  rw [e1] at h2
  have hb := hb1.trans (hb2.mono hb1.size)
  exact ⟨h1.below hb2, h2, h.below hb, h'.below hb, hb⟩
set_option maxRecDepth 100000 in
set_option maxHeartbeats 4000000 in
theorem same10 (w : World) (A1 : Option Addr) (c1 : Nat) (A2 : Option Addr) (c2 : Nat) (A3 : Option Addr) (c3 : Nat) (A4 : Option Addr) (c4 : Nat) (b : Bo) (h : BkIn w A1 c1 A2 c2 b) (h' : BkIn w A3 c3 A4 c4 b) :
    Calls Try.prog 11 #[.agg #[.int .i64 b.q, .slice A1 b.zs.length c1, .slice A2 b.ms.length c2, .int .i64 b.sl, .int .i64 b.cu], .agg #[.int .i64 b.q, .slice A3 b.zs.length c3, .slice A4 b.ms.length c4, .int .i64 b.sl, .int .i64 b.cu]] w fun e w' => e = .returned (.bool true) ∧ Below w.heap.size w w' := by
  have hst := Lib.hid (smW_start w A1 c1 A2 c2 A3 c3 A4 c4 b h h')
  have hzl := h.zl
  have hml := h.ml
  clear h h'
  go_enter Try.func11, Try.ntmps11
  obtain ⟨ff, hff⟩ : ∃ ff, ff = Try.f11 := ⟨_, rfl⟩
  rw [← hff]
  have hffH := Lib.hid hff
  clear hff
  go_upto_region 1 with fail
  refine fresh_world (fun W => SmW w W A1 c1 A2 c2 A3 c3 A4 c4 b) hst.out ?_
  clear hst
  rintro W hN
  have hNH := Lib.hid hN
  obtain ⟨b0, b1, b2, b3, b4, bf⟩ := hN.x
  obtain ⟨d0, d1, d2, d3, d4, df⟩ := hN.y
  clear hN
  go_wp2_with fail
  clear b0 b1 b2 b3 b4 bf d0 d1 d2 d3 d4 df
  go_loopw [5] (fun i wr => ∃ k : Nat, k ≤ b.zs.length ∧ i = .int .i64 (k : Int) ∧ SmW w wr A1 c1 A2 c2 A3 c3 A4 c4 b) (fun i _ => b.zs.length - (intOf i).toNat)
  case atStart => exact ⟨0, Nat.zero_le _, rfl, hNH.out⟩
  case round =>
    clear hNH
    obtain ⟨k, hk, rfl, hN⟩ := hrel
    have hNH := Lib.hid hN
    obtain ⟨b0, b1, b2, b3, b4, bf⟩ := hN.x
    obtain ⟨d0, d1, d2, d3, d4, df⟩ := hN.y
    by_cases hlt : k < b.zs.length
    case pos =>
      obtain ⟨g, off, rfl, -, x0, x1, x2⟩ := zo_at hN.i.z hlt
      obtain ⟨g', off', rfl, -, y0, y1, y2⟩ := zo_at hN.j.z hlt
      have hk1 : (k : Int) < (b.zs.length : Int) := by omega
      have hkw : IntKind.i64.wrap ((k : Int) + 1) = (k : Int) + 1 := IntWalk.i64_in _ (by omega)
      clear hN
      generalize b.zs[k] = z at x0 x1 x2 y0 y1 y2
      go_wp2_with fail
      go_quiet (fail)
      go_wp2_with fail
      go_roundw
      case rel => exact ⟨k + 1, by omega, by go_num, hNH.out.below (below_drewN (Below.refl _ _) _)⟩
      case measure => simp only [intOf]; omega
    case neg =>
      have hk1 : ¬ (k : Int) < (b.zs.length : Int) := by omega
      clear hN
      go_wp2_with fail
      clear b0 b1 b2 b3 b4 bf d0 d1 d2 d3 d4 df
      go_loopw [6] (fun i wr => ∃ j : Nat, j ≤ b.ms.length ∧ i = .int .i64 (j : Int) ∧ SmW w wr A1 c1 A2 c2 A3 c3 A4 c4 b) (fun i _ => b.ms.length - (intOf i).toNat)
      case atStart => exact ⟨0, Nat.zero_le _, rfl, hNH.out⟩
      case round =>
        clear hNH
        obtain ⟨j, hj, rfl, hN⟩ := hrel
        have hNH := Lib.hid hN
        obtain ⟨b0, b1, b2, b3, b4, bf⟩ := hN.x
        obtain ⟨d0, d1, d2, d3, d4, df⟩ := hN.y
        by_cases hlt2 : j < b.ms.length
        case pos =>
          obtain ⟨g, off, rfl, -, x0⟩ := hN.i.m.at_ hlt2
          obtain ⟨g', off', rfl, -, y0⟩ := hN.j.m.at_ hlt2
          have hj1 : (j : Int) < (b.ms.length : Int) := by omega
          have hkw : IntKind.i64.wrap ((j : Int) + 1) = (j : Int) + 1 := IntWalk.i64_in _ (by omega)
          clear hN
          generalize b.ms[j] = z at x0 y0
          go_wp2_with fail
          go_quiet (fail)
          go_wp2_with fail
          go_roundw
          case rel => exact ⟨j + 1, by omega, by go_num, hNH.out.below (below_drewN (Below.refl _ _) _)⟩
          case measure => simp only [intOf]; omega
        case neg =>
          have hj1 : ¬ (j : Int) < (b.ms.length : Int) := by omega
          clear hN
          go_wp2_with fail
          rw [hffH.out]
          exact bodyPost_ret (v := .bool true) (by simp [results, Try.results11, go_sem]) rfl ⟨rfl, hNH.out.bw⟩
end Go.Proofs.Ytpmhfalhieinjaa
