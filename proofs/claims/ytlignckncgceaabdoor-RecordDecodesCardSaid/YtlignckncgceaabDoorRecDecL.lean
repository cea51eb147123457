/- RecordDecodes: what any bytes are, or what is wrong with them. -/
import Derived.Test.YtlignckncgceaabDoorRecSpeak
import Derived.Test.YtlignckncgceaabDoorRecScan
import Derived.Test.YtlignckncgceaabDoorRecRScan
namespace Go.Proofs.YtlignckncgceaabDoor
open Go.RowKit Rec Crc Num

theorem RRow.low {W : World} {base cap : Nat} {t : TypeId} {A : Option Addr} {l : List Rc} (h : RRow W base t A cap l) : RRow W 0 t A cap l :=
  ⟨h.1, h.2.imp id fun ⟨g, c', cur, h1, _, h3⟩ => ⟨g, c', cur, h1, Nat.zero_le _, h3⟩⟩

set_option maxRecDepth 100000 in
set_option maxHeartbeats 16000000 in
theorem decodes_law (s : ByteArray) (w : World) (hT : Tab w) (hs : s.size ≤ maxLen) :
    Calls Tryd.prog 4 #[.string s] w fun e w' => e = .returned (.bool true) ∧ Below w.heap.size w w' := by
  have hTA := Lib.hid (fun W (h : Below w.heap.size w W) => hT.below h)
  clear hT
  by_cases hl : 3000 < s.size
  case pos =>
    have hl1 : (3000 : Int) < (s.size : Int) := by omega
    unfold maxLen at hs
    clear hl
    go_enter Tryd.func4, Tryd.ntmps4
    go_wp2_with (go_at_call 9; refine (speaks6 _ (hTA.out _ (Below.refl _ _))).mono ?_; rintro e w1 ⟨rfl, hb1⟩)
    go_ret
    exact ⟨rfl, hb1⟩
  have hl1 : ¬ (3000 : Int) < (s.size : Int) := by omega
  have hdec := Lib.hid (fun W (h : Tab W) => decode_any s W hs h)
  have href := Lib.hid (fun W => refdecode_any s W hs)
  have hscan := Lib.hid (fun W (h : Tab W) => scan_any s W (by omega) h)
  have hrscan := Lib.hid (fun W => refscan_any s W (by omega))
  clear hl hs
  generalize dec s = d at hdec href
  obtain ⟨r0, n0, e0⟩ := d
  dsimp only at hdec href
  have q1 : (e0 != e0) = false := by simp
  have q2 : (n0 != n0) = false := by simp
  have hneq : ∀ W, (binOp .neq 31 (.agg #[.int .i64 r0.k, .int .i64 r0.s, .int .i64 r0.a, .int .i64 r0.b, .int .i64 r0.c, .int .i64 r0.d, .string r0.body]) (.agg #[.int .i64 r0.k, .int .i64 r0.s, .int .i64 r0.a, .int .i64 r0.b, .int .i64 r0.c, .int .i64 r0.d, .string r0.body])).run Tryd.prog W = .ok (.bool false) W := fun W => by
    have h := (refrec_eql W r0 r0).2
    rw [eqR_self] at h
    exact h
  go_enter Tryd.func4, Tryd.ntmps4
  go_upto_region 9 with (first | (go_at_call 9; refine (speaks6 _ (hTA.out _ (Below.refl _ _))).mono ?_; rintro e w1 ⟨rfl, hb1⟩) | (go_at_call 14; with_reducible refine (hdec.out _ (hTA.out _ hb1)).mono ?_; rintro e w2 ⟨rfl, hb2⟩) | (go_at_call 15; with_reducible refine (href.out _).mono ?_; rintro e w3 ⟨rfl, hb3⟩; obtain ⟨c0, c1, c2, c3, c4, c5, c6⟩ := ((RcAt.new w2 r0 29).below hb3).below ((Below.refl _ _).alloc (Nat.le_refl _) (.cells #[.int .i64 r0.k, .int .i64 r0.s, .int .i64 r0.a, .int .i64 r0.b, .int .i64 r0.c, .int .i64 r0.d, .string r0.body] 31))))
  have hB2 := hb1.trans (hb2.mono hb1.size)
  have hB3 := (hB2.alloc hB2.size (.cells #[.int .i64 r0.k, .int .i64 r0.s, .int .i64 r0.a, .int .i64 r0.b, .int .i64 r0.c, .int .i64 r0.d, .string r0.body] 29)).trans (hb3.mono (by have := hB2.size; simp; omega))
  refine fresh_world (fun W => Below w.heap.size w W) (hB3.alloc hB3.size _) ?_
  clear hb1 hb2 hb3 hB2 hB3 c0 c1 c2 c3 c4 c5 c6 hdec href
  rintro W4 hB4
  have hB4H := Lib.hid hB4
  clear hB4
  go_upto_region 11 with (first | (go_at_call 16; with_reducible refine (hscan.out _ (hTA.out _ hB4H.out)).mono ?_; rintro e w5 ⟨l, n, A, cap, rfl, hsc, hrow, hb5⟩; have hscH := Lib.hid hsc; have hrowH := Lib.hid hrow; have hb5H := Lib.hid hb5; clear hsc hrow hb5) | (go_at_call 17; with_reducible refine (hrscan.out _).mono ?_; rintro e w6 ⟨l', n', A', cap', rfl, hsc', hrow', hb6⟩; obtain ⟨rfl, rfl⟩ := hscH.out.uniq hsc'))
  have hBf := Lib.hid (hB4H.out.trans ((hb5H.out.trans (hb6.mono hb5H.out.size)).mono hB4H.out.size))
  have hr1 := Lib.hid ((hrowH.out.below hb6).low)
  have hr2 := Lib.hid (hrow'.low)
  have hlsz := Lib.hid (show l.length ≤ 3000 by have h1 := hscH.out.len; omega)
  clear hB4H hb5H hb6 hrowH hrow' hsc' hscH hscan hrscan q1 q2 hneq
  have q3 : ((l.length : Int) != (l.length : Int)) = false := by simp
  have q4 : ((n : Int) != (n : Int)) = false := by simp
  have hlen : Hid (l.length ≤ 100000000000) := Lib.hid (by have h1 := hlsz.out; omega)
  go_wp2_with fail
  go_loopw [13] (fun s13 wx => ∃ i : Nat, s13 = .int .i64 (i : Int) ∧ i ≤ l.length ∧ RRow wx 0 29 A cap l ∧ RRow wx 0 31 A' cap' l ∧ Below w.heap.size w wx) (fun i _ => l.length + 1 - (intOf i).toNat)
  case atStart => exact ⟨0, rfl, Nat.zero_le _, hr1.out, hr2.out, hBf.out⟩
  case round =>
    clear hr1 hr2 hBf
    obtain ⟨i, rfl, hil, hr1, hr2, hB⟩ := hrel
    have hr1H := Lib.hid hr1
    have hr2H := Lib.hid hr2
    have hBH := Lib.hid hB
    by_cases hi : i < l.length
    · obtain ⟨g1, hA1, _, c0, c1, c2, c3, c4, c5, c6⟩ := hr1.recs.at_ hi
      obtain ⟨g2, hA2, _, d0, d1, d2, d3, d4, d5, d6⟩ := hr2.recs.at_ hi
      subst hA1
      subst hA2
      generalize l[i] = q at c0 c1 c2 c3 c4 c5 c6 d0 d1 d2 d3 d4 d5 d6
      have hneq : ∀ W, (binOp .neq 31 (.agg #[.int .i64 q.k, .int .i64 q.s, .int .i64 q.a, .int .i64 q.b, .int .i64 q.c, .int .i64 q.d, .string q.body]) (.agg #[.int .i64 q.k, .int .i64 q.s, .int .i64 q.a, .int .i64 q.b, .int .i64 q.c, .int .i64 q.d, .string q.body])).run Tryd.prog W = .ok (.bool false) W := fun W => by
        have h := (refrec_eql W q q).2
        rw [eqR_self] at h
        exact h
      have hl1 : decide ((i : Int) < (l.length : Int)) = true := by simp; omega
      have hkw : IntKind.i64.wrap ((i : Int) + 1) = (i : Int) + 1 := IntWalk.i64_in _ (by have := hlen.out; omega)
      clear hr1 hr2 hB
      go_wp2_with fail
      go_region
      all_goals
        go_wp2_with fail
        go_roundw
        case rel => exact ⟨i + 1, by go_num, by omega, hr1H.out.below (Below.refl _ _).drew, hr2H.out.below (Below.refl _ _).drew, hBH.out.drew⟩
        case measure => simp only [intOf]; omega
    · have hl1 : decide ((i : Int) < (l.length : Int)) = false := by simp; omega
      clear hr1 hr2 hB
      go_wp2_with fail
      go_ret
      exact ⟨rfl, hBH.out⟩
end Go.Proofs.YtlignckncgceaabDoor
