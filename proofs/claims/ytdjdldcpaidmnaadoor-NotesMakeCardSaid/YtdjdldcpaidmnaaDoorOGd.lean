/- The document's word on records. -/
import Derived.Test.YtdjdldcpaidmnaaDoorOCrc
import Derived.Test.YtdjdldcpaidmnaaDoorORec
import Derived.Test.YtdjdldcpaidmnaaDoorOEmp
namespace Go.Proofs.YtdjdldcpaidmnaaDoor
open Go.RowKit Num
theorem digits_succ (n k : Nat) : n / 256 ^ (k + 1) = n / 256 ^ k / 256 := by rw [Nat.pow_succ, Nat.div_div_eq_div_mul]
theorem one_byte (N : Nat) (W : World) : ∃ t : ByteArray, t.data.toList = [UInt8.ofNat (N % 256)] ∧
    (convert 40 9 (.slice (some ⟨W.heap.size, 0, none⟩) 1 1)).run Tryd.prog (W.alloc (.cells #[.int .u8 ((N : Int) % 256)] 5)) = .ok (.string t) (W.alloc (.cells #[.int .u8 ((N : Int) % 256)] 5)) := by
  refine ⟨⟨[UInt8.ofNat (N % 256)].toArray⟩, rfl, back (g := W.heap.size) (n := 1) (cap := 1) (l := [UInt8.ofNat (N % 256)]) (fun j hj => ?_) rfl Tryd.underlying40 Tryd.underlying5 Tryd.underlying9⟩
  obtain rfl : j = 0 := by simpa using hj
  have h := World.cell?_alloc_mark W #[.int .u8 ((N : Int) % 256)] 5 (0, 0) 0
  refine h.trans ?_
  have e : ((UInt8.ofNat (N % 256)).toNat : Int) = (N : Int) % 256 := by rw [UInt8.toNat_ofNat']; omega
  show some (Value.int .u8 ((N : Int) % 256)) = some (.int .u8 ((UInt8.ofNat (N % 256)).toNat : Int))
  rw [e]
end Go.Proofs.YtdjdldcpaidmnaaDoor
namespace Go.Proofs.YtdjdldcpaidmnaaDoor
open Go.RowKit Rec Crc Num
set_option maxRecDepth 100000 in
set_option maxHeartbeats 4000000 in
theorem refgood_any (r : Rc) (w : World) :
    Calls Tryd.prog 15 #[.agg #[.int .i64 r.k, .int .i64 r.s, .int .i64 r.a, .int .i64 r.b, .int .i64 r.c, .int .i64 r.d, .string r.body]] w fun e w' => e = .returned (.bool (good r)) ∧ Below w.heap.size w w' := by
  obtain ⟨q, hq⟩ : ∃ q, good r = q := ⟨_, rfl⟩
  rw [hq]
  have hbadH := Lib.hid (show ¬ Rec.Good r → q = false from fun h => by rw [← hq]; exact decide_eq_false h)
  have hgoodH := Lib.hid (show Rec.Good r → q = true from fun h => by rw [← hq]; exact decide_eq_true h)
  clear hq
  have hBH := Lib.hid (show Below w.heap.size w (w.alloc (.cells #[.int .i64 r.k, .int .i64 r.s, .int .i64 r.a, .int .i64 r.b, .int .i64 r.c, .int .i64 r.d, .string r.body] 30)) from (Below.refl _ _).alloc (Nat.le_refl _) _)
  by_cases h0 : r.k < 1
  · rw [hbadH.out (fun h => by unfold Rec.Good NumOk at h; omega)]
    clear hbadH hgoodH
    go_enter Tryd.func15, Tryd.ntmps15
    go_wp2_with fail
    go_ret
    exact ⟨rfl, hBH.out⟩
  by_cases h1 : 6 < r.k
  · rw [hbadH.out (fun h => by unfold Rec.Good NumOk at h; omega)]
    clear hbadH hgoodH
    go_enter Tryd.func15, Tryd.ntmps15
    go_wp2_with fail
    go_ret
    exact ⟨rfl, hBH.out⟩
  by_cases h2 : r.s < 0
  · rw [hbadH.out (fun h => by unfold Rec.Good NumOk at h; omega)]
    clear hbadH hgoodH
    go_enter Tryd.func15, Tryd.ntmps15
    go_wp2_with fail
    go_ret
    exact ⟨rfl, hBH.out⟩
  by_cases h3 : 1099511627776 < r.s
  · rw [hbadH.out (fun h => by unfold Rec.Good NumOk at h; omega)]
    clear hbadH hgoodH
    go_enter Tryd.func15, Tryd.ntmps15
    go_wp2_with fail
    go_ret
    exact ⟨rfl, hBH.out⟩
  by_cases h4 : r.c < 0
  · rw [hbadH.out (fun h => by unfold Rec.Good NumOk at h; omega)]
    clear hbadH hgoodH
    go_enter Tryd.func15, Tryd.ntmps15
    go_wp2_with fail
    go_ret
    exact ⟨rfl, hBH.out⟩
  by_cases h5 : 1099511627776 < r.c
  · rw [hbadH.out (fun h => by unfold Rec.Good NumOk at h; omega)]
    clear hbadH hgoodH
    go_enter Tryd.func15, Tryd.ntmps15
    go_wp2_with fail
    go_ret
    exact ⟨rfl, hBH.out⟩
  by_cases h6 : r.a < 0
  · rw [hbadH.out (fun h => by unfold Rec.Good NumOk at h; omega)]
    clear hbadH hgoodH
    go_enter Tryd.func15, Tryd.ntmps15
    go_wp2_with fail
    go_ret
    exact ⟨rfl, hBH.out⟩
  by_cases h7 : 65535 < r.a
  · rw [hbadH.out (fun h => by unfold Rec.Good NumOk at h; omega)]
    clear hbadH hgoodH
    go_enter Tryd.func15, Tryd.ntmps15
    go_wp2_with fail
    go_ret
    exact ⟨rfl, hBH.out⟩
  by_cases h8 : r.b < 0
  · rw [hbadH.out (fun h => by unfold Rec.Good NumOk at h; omega)]
    clear hbadH hgoodH
    go_enter Tryd.func15, Tryd.ntmps15
    go_wp2_with fail
    go_ret
    exact ⟨rfl, hBH.out⟩
  by_cases h9 : 65535 < r.b
  · rw [hbadH.out (fun h => by unfold Rec.Good NumOk at h; omega)]
    clear hbadH hgoodH
    go_enter Tryd.func15, Tryd.ntmps15
    go_wp2_with fail
    go_ret
    exact ⟨rfl, hBH.out⟩
  by_cases h10 : r.d < 0
  · rw [hbadH.out (fun h => by unfold Rec.Good NumOk at h; omega)]
    clear hbadH hgoodH
    go_enter Tryd.func15, Tryd.ntmps15
    go_wp2_with fail
    go_ret
    exact ⟨rfl, hBH.out⟩
  by_cases h11 : 65535 < r.d
  · rw [hbadH.out (fun h => by unfold Rec.Good NumOk at h; omega)]
    clear hbadH hgoodH
    go_enter Tryd.func15, Tryd.ntmps15
    go_wp2_with fail
    go_ret
    exact ⟨rfl, hBH.out⟩
  have hn : NumOk r := by unfold NumOk; omega
  by_cases h4 : r.k = 4
  · by_cases hs : r.body.size = 64
    · rw [hgoodH.out ⟨hn, by rw [h4, hs]; rfl⟩]
      have hs' : (r.body.size : Int) = 64 := by omega
      rw [h4] at hBH ⊢
      clear hbadH hgoodH hn
      go_enter Tryd.func15, Tryd.ntmps15
      go_wp2_with fail
      go_ret
      exact ⟨rfl, hBH.out⟩
    · rw [hbadH.out (fun h => hs (by have := h.2; rw [h4] at this; exact this))]
      have hs' : ((r.body.size : Int) == 64) = false := by simp; omega
      rw [h4] at hBH ⊢
      clear hbadH hgoodH hn
      go_enter Tryd.func15, Tryd.ntmps15
      go_wp2_with fail
      go_ret
      exact ⟨rfl, hBH.out⟩
  · have hb1 : nBlocks r.k = 1 := by unfold nBlocks; rw [if_neg (by omega), if_neg h4]
    have h4' : (r.k == 4) = false := by simp [h4]
    have h4n : (r.k != 4) = true := by simp [h4]
    by_cases hs : r.body = ⟨#[]⟩
    · rw [hgoodH.out ⟨hn, by rw [hb1, hs]; rfl⟩]
      rw [hs]
      rw [hs] at hBH
      clear hbadH hgoodH hn hb1 h4 hs
      go_enter Tryd.func15, Tryd.ntmps15
      go_wp2_with fail
      go_ret
      exact ⟨rfl, hBH.out⟩
    · rw [hbadH.out (fun h => hs (ByteArray.size_eq_zero_iff.1 (by have := h.2; rw [hb1] at this; exact this)))]
      obtain ⟨he1, he2⟩ := not_empty_of (full_of hs)
      clear hbadH hgoodH hn hb1 h4 hs
      go_enter Tryd.func15, Tryd.ntmps15
      go_wp2_with fail
      go_ret
      exact ⟨rfl, hBH.out⟩
end Go.Proofs.YtdjdldcpaidmnaaDoor
