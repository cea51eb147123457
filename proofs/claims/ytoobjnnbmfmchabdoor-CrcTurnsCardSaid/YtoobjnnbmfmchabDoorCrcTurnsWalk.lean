/- What the law CrcTurns does. -/
import Derived.Test.YtoobjnnbmfmchabDoorCrcBytes
namespace Go.Proofs.YtoobjnnbmfmchabDoor
open Go.RowKit Crc

set_option maxHeartbeats 1000000 in
theorem turns_any (s : ByteArray) (a f : Int) (y : UInt8) (w : World) (hT : Tab w) (hs : s.size ≤ maxLen) :
    Calls Tryd.prog 4 #[.string s, .agg #[.int .i64 a, .int .i64 f], .int .u8 (y.toNat : Int)] w fun e w' => e = .returned (.bool true) ∧ Below w.heap.size w w' := by
  have hTA : ∀ wx, Below w.heap.size w wx → Tab wx := fun wx h => hT.below h
  have hTH := Lib.hid hTA
  clear hT hTA
  go_enter Tryd.func4, Tryd.ntmps4
  go_wp2_with fail
  go_quiet (fail)
  go_upto_region 4 with (go_at_call 9; refine (speaks_any _ (hTH.out _ ?_)).mono ?_; (first | exact below_drewN ((Below.refl _ _).alloc (Nat.le_refl _) _) _ | skip); rintro e w1 ⟨rfl, hb⟩)
  have hb0 := below_drewN ((Below.refl w.heap.size w).alloc (Nat.le_refl _) (.cells #[.int .i64 a, .int .i64 f] 29)) nq
  have hb1 := hb0.trans (hb.mono hb0.size)
  clear hb hb0
  go_cut [27] (fun c wx => c = .bool false ∧ Below w.heap.size w wx)
  case first =>
    by_cases hlo : f < 0
    · have hg1 : decide (f < 0) = true := by simp; omega
      go_wp2_with (go_at_call 12; refine (turn_far f y _ (.inl hlo)).mono ?_; rintro e w' ⟨rfl, rfl⟩)
      go_meet
      exact ⟨rfl, hb1⟩
    · have hg1 : decide (f < 0) = false := by simp; omega
      by_cases hhi : 65536 < f
      · have hg2 : decide (65536 < f) = true := by simp; omega
        go_wp2_with (go_at_call 12; refine (turn_far f y _ (.inr hhi)).mono ?_; rintro e w' ⟨rfl, rfl⟩)
        go_meet
        exact ⟨rfl, hb1⟩
      · have hg2 : decide (65536 < f) = false := by simp; omega
        go_wp2
        go_meet
        exact ⟨rfl, hb1⟩
  case rest =>
    obtain ⟨rfl, hbc⟩ := hcut
    clear hb1
    by_cases h0 : s.size = 0
    · obtain rfl : s = ByteArray.empty := by
        rcases s with ⟨⟨l⟩⟩
        obtain rfl : l = [] := by simpa [ByteArray.size] using h0
        rfl
      go_wp2
      go_ret
      exact ⟨rfl, hbc⟩
    by_cases h5 : 5000 < s.size
    · have hs1 : ¬ s = ByteArray.empty := by rintro rfl; exact h0 rfl
      have hs2 : ((s.size : Int) == 0) = false := by rw [beq_eq_false_iff_ne]; omega
      have hs3 : decide (5000 < (s.size : Int)) = true := by simp; omega
      unfold maxLen at hs
      go_wp2
      go_ret
      exact ⟨rfl, hbc⟩
    have h0 : 0 < s.size := by omega
    have h5 : s.size ≤ 5000 := by omega
    have hs1 : ¬ s = ByteArray.empty := by rintro rfl; exact absurd h0 (by decide)
    have hs2 : ((s.size : Int) == 0) = false := by rw [beq_eq_false_iff_ne]; omega
    have hs3 : decide (5000 < (s.size : Int)) = false := by simp; omega
    obtain ⟨p, hp, hplace, hp1, hp2⟩ := place a s.size h0 h5
    obtain ⟨d, hx, hd⟩ : ∃ d : UInt8, bits .xor .u8 (s.data[p].toNat : Int) (y.toNat : Int) = (d.toNat : Int) ∧ Hid (d = s.data[p] ^^^ y) := ⟨_, u8_xor_bytes _ _, Lib.hid rfl⟩
    have hcv := fun wx => run_bytes_of_string (P := Tryd.prog) wx 9 31 5 s Tryd.underlying9 Tryd.underlying31 Tryd.underlying5
    have hc0 : ∀ (wx : World) cap fr, (wx.alloc (.cells (bytesRow s cap) 5 fr)).cell? ⟨wx.heap.size, p, none⟩ = some (.int .u8 (s.data[p].toNat : Int)) := fun wx cap fr => by
      have := BytesAt.new wx s cap 5 fr p (by simpa using hp)
      simpa using this
    have hf0 : ∀ (wx : World) cap, (wx.alloc (.cells (bytesRow s cap) 5 ((bytesRow s cap).size, (bytesRow s cap).size + 1))).frozen? ⟨wx.heap.size, p, none⟩ = false := fun wx cap => by
      rw [World.frozen?_alloc_mark]
      have : p < (bytesRow s cap).size := by unfold bytesRow; simp; omega
      simp; omega
    go_upto_region 11 with fail
    clear hcv hc0 hf0 hx hplace
    refine fresh_world (fun wx => BytesAt wx wc.heap.size (s.data.toList.set p d) ∧ Below w.heap.size w wx) ?_ ?_
    · have h1 := BytesAt.new wc s (grownCap wc s.size 0 5) 5 ((bytesRow s (grownCap wc s.size 0 5)).size, (bytesRow s (grownCap wc s.size 0 5)).size + 1)
      have hz := hbc.size
      refine ⟨h1.set (p := p) (by simpa using hp) d, ?_⟩
      exact ((hbc.alloc hz _).drew).setCell hz _
    · rintro W2 ⟨hB, hW⟩
      generalize grownCap wc s.size 0 5 = cap
      generalize wc.heap.size = g at hB ⊢
      have hlen : (s.data.toList.set p d).length = s.size := by simp
      have hb1 : Below W2.heap.size W2 W2.drew := (Below.refl _ _).drew
      have hb2 : ∀ o, Below W2.heap.size W2 (W2.alloc o).drew := fun o => ((Below.refl _ _).alloc (Nat.le_refl _) o).drew
      have hcb : (convert 31 9 (.slice (some ⟨g, 0, none⟩) s.size cap)).run Tryd.prog W2.drew = .ok (.string ⟨(s.data.toList.set p d).toArray⟩) W2.drew :=
        back (hB.below hb1) hlen Tryd.underlying31 Tryd.underlying5 Tryd.underlying9
      have hcb2 : ∀ o, (convert 31 9 (.slice (some ⟨g, 0, none⟩) s.size cap)).run Tryd.prog (W2.alloc o).drew = .ok (.string ⟨(s.data.toList.set p d).toArray⟩) (W2.alloc o).drew := fun o =>
        back (hB.below (hb2 o)) hlen Tryd.underlying31 Tryd.underlying5 Tryd.underlying9
      have hS := Lib.hid (sum_one s W2.heap.size _ (hTH.out _ (hW.trans ((hb2 (.cells #[.string s] 9)).mono hW.size))) (by unfold maxLen; omega) (by go_simp))
      have hT1 := Lib.hid (hTH.out _ (hW.trans (hb1.mono hW.size)))
      have hT2 := Lib.hid (hTH.out _ (hW.trans ((hb2 (.cells #[.string s] 9)).mono hW.size)))
      have hw1 : IntKind.i64.wrap ((s.size : Int) - 1) = (s.size : Int) - 1 := IntWalk.i64_in _ (by omega)
      obtain ⟨q, hw2, hqH⟩ : ∃ q : Nat, IntKind.i64.wrap ((s.size : Int) - 1 - (p : Int)) = (q : Int) ∧ Hid (q = s.size - 1 - p) :=
        ⟨s.size - 1 - p, by rw [IntWalk.i64_in _ (by omega)]; omega, Lib.hid rfl⟩
      have hq5 : q ≤ 65536 := by have := hqH.out; omega
      have tu1H := Lib.hid (turn_any q y _ hT1.out hq5)
      have tu2H := Lib.hid (turn_any q y _ hT2.out hq5)
      have hR := Lib.hid (fun w => ref_any ⟨(s.data.toList.set p d).toArray⟩ w (by
        have : (⟨(s.data.toList.set p d).toArray⟩ : ByteArray).size = s.size := (ofList_size _).trans hlen
        rw [this]; unfold maxLen; omega))
      have hfin := Lib.hid (sum_turn s.data.toList p q (by simpa using hp) y d (by have := hd.out; simpa using this) (by have := hqH.out; simpa using this))
      have hWe := hW.trans ((hb2 (.cells #[.string s] 9)).mono hW.size)
      clear hB hlen hb1 hb2
      go_region_with (first | (go_at_call 11; refine hS.out.mono ?_; rintro e w' ⟨rfl, rfl⟩) | (go_at_call 10; refine (hR.out _).mono ?_; rintro e w' ⟨rfl, rfl⟩) | (go_at_call 12; ((with_reducible refine tu1H.out.mono ?_); rintro e w' ⟨rfl, rfl⟩)) | (go_at_call 12; ((with_reducible refine tu2H.out.mono ?_); rintro e w' ⟨rfl, rfl⟩)))
      all_goals
        go_wp2
        go_ret
        refine ⟨?_, hWe⟩
        have hfin2 : (bits .xor .u32 (sumI s.data.toList) (turnI q y) == sumI (s.data.toList.set p d)) = true := by rw [hfin.out]; simp
        rw [hfin2]
        rfl
end Go.Proofs.YtoobjnnbmfmchabDoor
