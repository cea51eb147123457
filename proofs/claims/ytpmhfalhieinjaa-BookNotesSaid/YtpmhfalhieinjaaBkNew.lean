/- A new book. -/
import Derived.Test.YtpmhfalhieinjaaBkNewM
import Derived.IntWalk
import Derived.LoopTactic
namespace Go.Proofs.Ytpmhfalhieinjaa
open Go.RowKit Rec Bk

def nilBk : Bo := ⟨0, [], [], -1, 0⟩
theorem newW_start (w : World) (D Z B O A : Int) :
    NewW w (((w.alloc (.cells #[.int .i64 D, .int .i64 Z, .int .i64 B, .int .i64 O, .int .i64 A] 37)).alloc (.cells #[.int .i64 0, .slice none 0 0, .slice none 0 0, .int .i64 0, .int .i64 0] 33)).alloc (.cells #[.int .i64 0, .slice none 0 0, .slice none 0 0, .int .i64 (-1), .int .i64 0] 33)) D Z B O A none 0 none 0 nilBk := by
  have h1 := GzAt.new w D Z B O A 37
  generalize hW1 : w.alloc _ = W1 at h1 ⊢
  have e1 : W1.heap.size = w.heap.size + 1 := by rw [← hW1, World.size_alloc]
  have hb1 : Below w.heap.size w W1 := by rw [← hW1]; exact (Below.refl _ _).alloc (Nat.le_refl _) _
  have h2 := BkAt.new W1 none 0 none 0 noB 33
  have h2' : BkAt (W1.alloc (.cells #[.int .i64 0, .slice none 0 0, .slice none 0 0, .int .i64 0, .int .i64 0] 33)) W1.heap.size none 0 none 0 noB := h2
  clear h2
  generalize hW2 : W1.alloc _ = W2 at h2' ⊢
  have e2 : W2.heap.size = w.heap.size + 1 + 1 := by rw [← hW2, World.size_alloc, e1]
  have hb2 : Below W1.heap.size W1 W2 := by rw [← hW2]; exact (Below.refl _ _).alloc (Nat.le_refl _) _
  have h3 : BkAt (W2.alloc (.cells #[.int .i64 0, .slice none 0 0, .slice none 0 0, .int .i64 (-1), .int .i64 0] 33)) W2.heap.size none 0 none 0 nilBk := BkAt.new W2 none 0 none 0 nilBk 33
  generalize hW3 : W2.alloc _ = W3 at h3 ⊢
  have hb3 : Below W2.heap.size W2 W3 := by rw [← hW3]; exact (Below.refl _ _).alloc (Nat.le_refl _) _
  rw [e1] at h2'
  rw [e2] at h3
  exact ⟨(h1.below hb2).below hb3, h2'.below hb3, ⟨h3, ⟨Enc.Row.nil _ _ _, NRow.nil _ _, (fun g e => by cases e), by decide, by decide⟩, (by intro e; cases e), (by intro e; cases e)⟩, (hb1.trans (hb2.mono hb1.size)).trans (hb3.mono (by omega))⟩
def newOf (D Z B O A : Int) : Bo := if goodB D Z B O A = true then newBk (Z - 3).toNat D.toNat else nilBk
set_option maxRecDepth 100000 in
set_option maxHeartbeats 2000000 in
theorem new_anyB (w : World) (D Z B O A : Int) : Calls Try.prog 14 #[.agg #[.int .i64 D, .int .i64 Z, .int .i64 B, .int .i64 O, .int .i64 A]] w (BPost w (newOf D Z B O A)) := by
  have hg := Lib.hid (fun W => good_any D Z B O A W)
  have hz := Lib.hid (fun W => gz_any D Z B O A W)
  have hst := Lib.hid (newW_start w D Z B O A)
  unfold newOf
  unfold gzV at hz
  by_cases hgd : goodB D Z B O A = true
  case neg =>
    rw [if_neg hgd]
    rw [Bool.not_eq_true] at hgd
    rw [hgd] at hg
    clear hgd hz
    generalize hnb : nilBk = b at hst ⊢
    have hnH := Lib.hid hnb
    clear hnb
    go_enter Try.func14, Try.ntmps14
    go_wp2_with fail
    refine fresh_C (fun W => NewW w W D Z B O A none 0 none 0 b) hst.out ?_
    clear hst
    rintro W hN
    have hNH := Lib.hid hN
    refine (hg.out _).mono ?_
    rintro e w1 ⟨rfl, hb1⟩
    have hN1 := hNH.out.below hb1
    have hout := Lib.hid (book_out hN1.o hN1.k.o (show w.heap.size + 1 < w.heap.size + 1 + 1 + 1 by omega) (show w.heap.size ≤ w.heap.size + 1 by omega) hN1.bw)
    obtain ⟨b0, b1, b2, b3, b4, bf⟩ := hN1.k.a
    obtain ⟨y0, y1, y2, y3, y4, yf⟩ := hN1.o
    clear hN hNH hN1 hb1 hg
    go_wp2_with fail
    refine fresh_post (fun W => BkAt W (w.heap.size + 1) none 0 none 0 b ∧ BkO W w.heap.size none 0 none 0 b ∧ Below w.heap.size w W) hout.out ?_
    rintro W10 ⟨⟨z0, z1, z2, z3, z4, _⟩, hO10, hb10⟩
    refine bodyPost_ret (v := .agg #[.int .i64 b.q, .slice none b.zs.length 0, .slice none b.ms.length 0, .int .i64 b.sl, .int .i64 b.cu]) (by simp [results, Try.results14, go_sem, z0, z1, z2, z3, z4]) rfl ⟨none, 0, none, 0, rfl, hO10, hb10⟩
  case pos =>
    rw [if_pos hgd] at hz ⊢
    obtain ⟨g1, g2, g3, g4, _⟩ := goodB_iff.1 hgd
    rw [hgd] at hg
    obtain ⟨n, hn⟩ : ∃ n : Nat, Z - 3 = (n : Int) := ⟨(Z - 3).toNat, by omega⟩
    obtain ⟨m, rfl⟩ : ∃ m : Nat, D = (m : Int) := ⟨D.toNat, by omega⟩
    rw [hn] at hz
    rw [hn, Int.toNat_natCast, Int.toNat_natCast]
    have hn61 : n ≤ 61 := by omega
    have hm16 : m ≤ 16 := by omega
    clear hgd hn g1 g2 g3 g4
    obtain ⟨b', hb'⟩ : ∃ b', b' = newBk n m := ⟨_, rfl⟩
    rw [← hb']
    have hbH := Lib.hid hb'
    clear hb'
    go_enter Try.func14, Try.ntmps14
    go_wp2_with fail
    refine fresh_C (fun W => NewW w W (m : Int) Z B O A none 0 none 0 nilBk) hst.out ?_
    clear hst
    rintro W hN
    have hNH := Lib.hid hN
    refine (hg.out _).mono ?_
    rintro e w1 ⟨rfl, hb1⟩
    have hN1 := hNH.out.below hb1
    obtain ⟨y0, y1, y2, y3, y4, yf⟩ := hN1.g
    have hN1H := Lib.hid hN1
    clear hN hNH hN1 hb1 hg
    go_wp2_with fail
    refine (hz.out _).mono ?_
    rintro e w2 ⟨rfl, hb2⟩
    have hN2 := hN1H.out.below hb2
    have hN2H := Lib.hid hN2
    clear y0 y1 y2 y3 y4 yf hN1H hb2 hN2 hz
    go_wp2_with fail
    go_loopw [13] (fun i wr => ∃ (k : Nat) (A1 : Option Addr) (c1 : Nat), k ≤ n ∧ i = .int .i64 (k : Int) ∧ NewW w wr (m : Int) Z B O A A1 c1 none 0 ⟨0, newZ k, [], -1, 0⟩) (fun i _ => n - (intOf i).toNat)
    case atStart => exact ⟨0, none, 0, Nat.zero_le _, rfl, hN2H.out⟩
    case round =>
      clear hN2H
      obtain ⟨k, A1, c1, hkn, rfl, hN⟩ := hrel
      have hlen := newZ_len k
      by_cases hlt : k < n
      · obtain ⟨A', cap', W2, hrun, hc1, hf1, hN'⟩ := hN.zone ⟨(k : Int) + 2, 1, 0⟩ (by show (newZ k).length < 64; omega)
        have b1 := hN.k.a.c1
        dsimp only at hrun hc1 hN' b1
        rw [hlen] at hrun hc1 hN' b1
        rw [← newZ_succ] at hN'
        have hrunH := Lib.hid hrun
        have hNH := Lib.hid hN'
        have hkw : IntKind.i64.wrap ((k : Int) + 1) = (k : Int) + 1 := IntWalk.i64_in _ (by omega)
        clear hrun hN' hN hlen
        go_wp2_with (at_builtin; refine append_run_wp (by first | rfl | (simp [Region.wanted, yielded])) (.tmp 17) (.tmp 21) 30 rfl rfl rfl hrunH.out ?_; clear hrunH b1)
        go_roundw
        case rel => exact ⟨k + 1, A', cap', by omega, by go_num, hNH.out⟩
        case measure => simp only [intOf]; omega
      · obtain rfl : k = n := by omega
        obtain ⟨y0, y1, y2, y3, y4, yf⟩ := hN.g
        have hNH := Lib.hid hN
        clear hN hlt
        go_wp2_with fail
        go_loopw [27] (fun i wr => ∃ (j : Nat) (A2 : Option Addr) (c2 : Nat), j ≤ m ∧ i = .int .i64 (j : Int) ∧ NewW w wr (m : Int) Z B O A A1 c1 A2 c2 ⟨0, newZ k, newMs j, -1, 0⟩) (fun i _ => m - (intOf i).toNat)
        case atStart => exact ⟨0, none, 0, Nat.zero_le _, rfl, hNH.out⟩
        case round =>
          clear hNH y0 y1 y2 y3 y4 yf
          obtain ⟨j, A2, c2, hjm, rfl, hN⟩ := hrel
          have hlen2 := newMs_len j
          by_cases hlt : j < m
          · obtain ⟨A', cap', W2, hrun, hc1, hf1, hN'⟩ := hN.mem (j : Int) (by show (newMs j).length < 64; omega)
            have b1 := hN.k.a.c2
            dsimp only at hrun hc1 hN' b1
            rw [hlen2] at hrun hc1 hN' b1
            rw [← newMs_succ] at hN'
            have hrunH := Lib.hid hrun
            have hNH := Lib.hid hN'
            have hkw : IntKind.i64.wrap ((j : Int) + 1) = (j : Int) + 1 := IntWalk.i64_in _ (by omega)
            clear hrun hN' hN hlen hlen2
            go_wp2_with (at_builtin; refine append_run_wp (by first | rfl | (simp [Region.wanted, yielded])) (.tmp 31) (.tmp 33) 31 rfl rfl rfl hrunH.out ?_; clear hrunH b1)
            go_roundw
            case rel => exact ⟨j + 1, A', cap', by omega, by go_num, hNH.out⟩
            case measure => simp only [intOf]; omega
          · obtain rfl : j = m := by omega
            have e : (⟨0, newZ k, newMs j, -1, 0⟩ : Bo) = b' := hbH.out.symm
            rw [e] at hN
            have hout := Lib.hid (book_out hN.o hN.k.o (show w.heap.size + 1 < w.heap.size + 1 + 1 + 1 by omega) (show w.heap.size ≤ w.heap.size + 1 by omega) hN.bw)
            obtain ⟨b0, b1, b2, b3, b4, bf⟩ := hN.k.a
            obtain ⟨y0, y1, y2, y3, y4, yf⟩ := hN.o
            clear hN e hlt hlen hlen2
            go_wp2_with fail
            refine fresh_post (fun W => BkAt W (w.heap.size + 1) A1 c1 A2 c2 b' ∧ BkO W w.heap.size A1 c1 A2 c2 b' ∧ Below w.heap.size w W) hout.out ?_
            rintro W10 ⟨⟨z0, z1, z2, z3, z4, _⟩, hO10, hb10⟩
            refine bodyPost_ret (v := .agg #[.int .i64 b'.q, .slice A1 b'.zs.length c1, .slice A2 b'.ms.length c2, .int .i64 b'.sl, .int .i64 b'.cu]) (by simp [results, Try.results14, go_sem, z0, z1, z2, z3, z4]) rfl ⟨A1, c1, A2, c2, rfl, hO10, hb10⟩
end Go.Proofs.Ytpmhfalhieinjaa
