/- What the small functions of drive do. -/
import Derived.Test.YtncbkegflkjlfaaDrvMem
import Derived.Test.YtncbkegflkjlfaaZonWalks
namespace Go.Proofs.Ytncbkegflkjlfaa
open Go.RowKit Zon Drv

theorem ddead_any (w : World) (F : Nat → Prop) (d : Nat) (D : Dr) (h : DAt w F d D) :
    Calls Try.prog 26 #[.pointer (some ⟨d, 0, none⟩)] w fun e w' => e = .returned (.bool D.dead) ∧ w = w' := by
  obtain ⟨B, h, _⟩ := h
  have c3 := h.c3
  clear h
  go_enter Try.func26, Try.ntmps26
  go_wp2
  go_ret
  exact ⟨rfl, rfl⟩
theorem ddead_nil (w : World) :
    Calls Try.prog 26 #[.pointer none] w fun e w' => e = .returned (.bool false) ∧ w = w' := by
  go_enter Try.func26, Try.ntmps26
  go_wp2
  go_ret
  exact ⟨rfl, rfl⟩
/-- Of the zone that is asked for, as many. -/
def lastsD (D : Dr) (z : Int) : Int := if 0 ≤ z ∧ z < D.ls.length then (D.l z.toNat : Int) else 0
theorem lasts_any (w : World) (F : Nat → Prop) (d : Nat) (D : Dr) (z : Int) (h : DAt w F d D) :
    Calls Try.prog 25 #[.pointer (some ⟨d, 0, none⟩), .int .i64 z] w fun e w' => e = .returned (.int .i64 (lastsD D z)) ∧ w = w' := by
  obtain ⟨B, h, _⟩ := h
  have c2 := h.c2
  by_cases h0 : 0 ≤ z
  · by_cases h1 : z < D.ls.length
    · have e : lastsD D z = (D.l z.toNat : Int) := if_pos ⟨h0, h1⟩
      rw [e]
      clear e
      obtain ⟨i, rfl⟩ := Int.eq_ofNat_of_zero_le h0
      obtain ⟨k1, _⟩ := h.lrow i (by omega)
      rw [Int.toNat_natCast]
      have hi : i < D.ls.length := by omega
      generalize (D.l i : Int) = y at k1 ⊢
      clear h h1 h0
      go_enter Try.func25, Try.ntmps25
      go_wp2
      go_ret
      exact ⟨rfl, rfl⟩
    · have e : lastsD D z = 0 := if_neg (by omega)
      rw [e]
      clear e h
      go_enter Try.func25, Try.ntmps25
      go_wp2
      go_ret
      exact ⟨rfl, rfl⟩
  · have e : lastsD D z = 0 := if_neg (by omega)
    rw [e]
    clear e h
    go_enter Try.func25, Try.ntmps25
    go_wp2
    go_ret
    exact ⟨rfl, rfl⟩
theorem lasts_nil (w : World) (z : Int) :
    Calls Try.prog 25 #[.pointer none, .int .i64 z] w fun e w' => e = .returned (.int .i64 0) ∧ w = w' := by
  go_enter Try.func25, Try.ntmps25
  go_wp2
  go_ret
  exact ⟨rfl, rfl⟩
theorem dzone_any (w : World) (F : Nat → Prop) (d : Nat) (D : Dr) (z : Int) (h : DAt w F d D) :
    Calls Try.prog 24 #[.pointer (some ⟨d, 0, none⟩), .int .i64 z] w fun e w' => e = .returned (.tuple #[.agg #[.int .i64 (getM D.m z).s, .int .i64 (getM D.m z).l], .bool (hasB D.m z)]) ∧ Below w.heap.size w w' := by
  obtain ⟨B, h, _⟩ := h
  have c0 := h.c0
  have hg := Lib.hid (fun W (hb : Below w.heap.size w W) => get_any B.g B.z D.m z W (h.m.below hb))
  have hdl := h.dlt
  clear h
  generalize getM D.m z = y at hg ⊢
  generalize hasB D.m z = q at hg ⊢
  go_enter Try.func24, Try.ntmps24
  have hBa : Below w.heap.size w (w.alloc (.cells #[.int .i64 0, .int .i64 0] 54)) := (Below.refl _ _).alloc (Nat.le_refl _) _
  go_wp2_with (go_at_call 49; refine (hg.out _ hBa).mono ?_; rintro e w1 ⟨rfl, hb⟩; obtain ⟨hc, hf⟩ := bcell hb)
  refine fresh_endD (fun W => Zn2 W w.heap.size y.s y.l ∧ Below w.heap.size w W) ⟨Zn2.set (u := .int .i64 0) (v := .int .i64 0) (by rw [hc _ _ (by simp)]; go_simp) (by rw [hc _ _ (by simp)]; go_simp) _ _, bput (bput (hBa.trans (hb.mono (by simp))) (Nat.le_refl _)) (Nat.le_refl _)⟩ ?_
  rintro W9 ⟨⟨d0, d1⟩, hB9⟩
  refine bodyPost_ret (v := .tuple #[.agg #[.int .i64 y.s, .int .i64 y.l], .bool q]) (by simp [results, Try.results24, go_sem, d0, d1]) rfl ⟨rfl, ?_⟩
  exact hB9
theorem dzone_nil (w : World) (z : Int) :
    Calls Try.prog 24 #[.pointer none, .int .i64 z] w fun e w' => e = .returned (.tuple #[.agg #[.int .i64 0, .int .i64 0], .bool false]) ∧ Below w.heap.size w w' := by
  go_enter Try.func24, Try.ntmps24
  go_wp2
  refine bodyPost_ret (v := .tuple #[.agg #[.int .i64 0, .int .i64 0], .bool false]) (by simp [results, Try.results24, go_sem]) rfl ⟨rfl, ?_⟩
  exact (Below.refl _ _).alloc (Nat.le_refl _) _
theorem die_any (w : World) (F : Nat → Prop) (d : Nat) (D : Dr) (h : DAt w F d D) :
    Calls Try.prog 19 #[.pointer (some ⟨d, 0, none⟩)] w fun e w' => e = .returned (.tuple #[]) ∧ DAt w' F d { D with dead := true } ∧ Turn w w' F := by
  obtain ⟨B, h, hF⟩ := h
  have c3 := h.c3
  have f3 := h.f3
  have hH := Lib.hid h
  clear h
  go_enter Try.func19, Try.ntmps19
  go_wp2
  go_end0
  exact ⟨rfl, ⟨B, hH.out.die, hF⟩, Turn.set _ hF.d _ _⟩
theorem die_nil (w : World) :
    Calls Try.prog 19 #[.pointer none] w fun e w' => e = .returned (.tuple #[]) ∧ w = w' := by
  go_enter Try.func19, Try.ntmps19
  go_wp2
  go_end0
  exact ⟨rfl, rfl⟩

theorem writes_any (k z a n : Int) (w : World) :
    Calls Try.prog 61 #[.agg #[.int .i64 k, .int .i64 z, .int .i64 a, .int .i64 n]] w fun e w' => e = .returned (.bool (writesB k)) ∧ Below w.heap.size w w' := by
  by_cases h1 : k = 1
  · subst h1
    go_enter Try.func61, Try.ntmps61
    go_wp2
    go_ret
    exact ⟨rfl, (Below.refl _ _).alloc (Nat.le_refl _) _⟩
  · have e1 : (k == 1) = false := by simp [h1]
    have e2 : writesB k = (k == 2) := by simp [writesB, e1]
    rw [e2]
    clear e2
    go_enter Try.func61, Try.ntmps61
    go_wp2
    go_ret
    exact ⟨rfl, (Below.refl _ _).alloc (Nat.le_refl _) _⟩
theorem written_any (w : World) (d : Nat) (B : Blk) (D : Dr) (i : Nat) (h : Lies w d B D) (hi : i < D.cs.length) (hn : (D.c i).length ≤ 262144) :
    Calls Try.prog 59 #[.pointer (some ⟨d, 0, none⟩), .int .i64 (i : Int)] w fun e w' => e = .returned (.int .i64 (((D.c i).length / 64 : Nat) : Int)) ∧ w = w' := by
  have c1 := h.c1
  obtain ⟨k1, _⟩ := h.row i hi
  have hv : ∃ A cap, B.v i = .slice A (D.c i).length cap := by
    rcases (h.own i hi).2 with ⟨e, e2⟩ | ⟨g, cap, _, e, _⟩
    · exact ⟨none, 0, by rw [e, e2]⟩
    · exact ⟨_, cap, e⟩
  obtain ⟨A, cap, hv⟩ := hv
  rw [hv] at k1
  clear hv h
  generalize (D.c i).length = y at k1 hn ⊢
  rw [show (((y / 64 : Nat)) : Int) = (y : Int) / 64 by omega]
  go_enter Try.func59, Try.ntmps59
  go_wp2
  go_ret
  exact ⟨rfl, rfl⟩
end Go.Proofs.Ytncbkegflkjlfaa
