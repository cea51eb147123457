/- What valid of mend does. -/
import Derived.Test.YtdnedahbghhpgaaTlV
namespace Go.Proofs.Ytdnedahbghhpgaa
open Go.RowKit Tl

theorem mvalid1_any (n B : Int) (W : World) (g : Nat) (hg : W.cell? ⟨g, 2, none⟩ = some (.int .i64 B)) :
    Calls Try.prog 90 #[.int .i64 n, .pointer (some ⟨g, 0, none⟩)] W fun e w' => e = .returned (.bool (badL B n)) ∧ W = w' := by
  unfold badL
  by_cases h0 : n < 0
  · rw [decide_eq_true (.inl h0)]
    go_enter Try.func90, Try.ntmps90
    go_wp2
    go_ret
    exact ⟨rfl, rfl⟩
  by_cases h1 : B < n
  · rw [decide_eq_true (.inr h1)]
    go_enter Try.func90, Try.ntmps90
    go_wp2
    go_ret
    exact ⟨rfl, rfl⟩
  rw [decide_eq_false (fun h => h.elim h0 h1)]
  have h2 : decide (B < n) = false := decide_eq_false h1
  go_enter Try.func90, Try.ntmps90
  go_wp2
  go_ret
  exact ⟨rfl, rfl⟩
set_option maxHeartbeats 1000000 in
theorem mindex_any (W : World) (A : Option Addr) (cap : Nat) (ps : List Int) (Bx : Int) (g : Nat) (hS : IntsIn W A ps) (hl : ps.length ≤ 1000000) (hg : W.cell? ⟨g, 2, none⟩ = some (.int .i64 Bx)) :
    Calls Try.prog 95 #[.slice A ps.length cap, .func (.func 90) #[] #[.pointer (some ⟨g, 0, none⟩)]] W fun e w' => ∃ i : Int, e = .returned (.int .i64 i) ∧ FirstI (badL Bx) ps i ∧ W = w' := by
  have hSH := Lib.hid hS
  have h1 := Lib.hid (fun (n : Int) => mvalid1_any n Bx W g hg)
  have eg : ∀ args w, (callFunc 90 args).run Try.prog w = .ok (.enter 90 args) w := enters_of Try.func90 (by kernel_rfl) rfl
  obtain ⟨f, hf⟩ : ∃ f : Int → Bool, f = (badL Bx) := ⟨_, rfl⟩
  rw [← hf]
  rw [← hf] at h1
  clear hS hf hg
  go_enter Try.func95, Try.ntmps95
  go_wp2_with fail
  go_loopw [8] (fun i wr => ∃ k : Nat, k ≤ ps.length ∧ i = .int .i64 (k : Int) ∧ (ps.take k).any f = false ∧ W = wr) (fun i _ => ps.length - (intOf i).toNat)
  case atStart => exact ⟨0, Nat.zero_le _, rfl, rfl, rfl⟩
  case round =>
    obtain ⟨k, hk, rfl, hno, rfl⟩ := hrel
    by_cases hlt : k < ps.length
    case pos =>
      have g1 : (k : Int) < (ps.length : Int) := by omega
      obtain ⟨b, off, rfl, s0⟩ : ∃ b off, A = some ⟨b, off, none⟩ ∧ W.cell? ⟨b, off + k, none⟩ = some (.int .i64 ps[k]) := by
        rcases hSH.out with h0 | ⟨b, off, e, _, hc⟩
        · rw [h0] at hlt; simp at hlt
        · exact ⟨b, off, e, hc k hlt⟩
      have hst : (ps.take (k + 1)).any f = f ps[k] := by rw [List.take_succ_eq_append_getElem hlt, List.any_append, hno]; simp
      have hall : f ps[k] = true → ps.any f = true := fun h => List.any_eq_true.2 ⟨_, List.getElem_mem hlt, h⟩
      have hstH := Lib.hid hst
      have hallH := Lib.hid hall
      have h1k := Lib.hid (h1.out ps[k])
      have hkw : IntKind.i64.wrap ((k : Int) + 1) = (k : Int) + 1 := IntWalk.i64_in _ (by omega)
      clear hno hst h1 hall
      generalize f ps[k] = v at hstH hallH h1k
      cases v
      case false =>
        go_wp2_with fail
        (with_reducible refine h1k.out.mono ?_)
        rintro e w1 ⟨rfl, rfl⟩
        go_wp2_with fail
        go_roundw
        case rel => exact ⟨k + 1, by omega, by first | rfl | go_num, hstH.out, trivial⟩
        case measure => simp [intOf]; omega
      case true =>
        go_wp2_with fail
        (with_reducible refine h1k.out.mono ?_)
        rintro e w1 ⟨rfl, rfl⟩
        go_wp2
        go_ret
        exact ⟨_, rfl, .inr ⟨k, rfl, hallH.out trivial⟩, rfl⟩
    case neg =>
      have e : k = ps.length := by omega
      subst e
      rw [List.take_length] at hno
      have hnoH := Lib.hid hno
      clear hno
      go_wp2
      go_ret
      exact ⟨-1, rfl, .inl ⟨rfl, hnoH.out⟩, rfl⟩
theorem mcontains_any (W : World) (A : Option Addr) (cap : Nat) (ps : List Int) (Bx : Int) (g : Nat) (hS : IntsIn W A ps) (hl : ps.length ≤ 1000000) (hg : W.cell? ⟨g, 2, none⟩ = some (.int .i64 Bx)) :
    Calls Try.prog 81 #[.slice A ps.length cap, .func (.func 90) #[] #[.pointer (some ⟨g, 0, none⟩)]] W fun e w' => e = .returned (.bool (ps.any (badL Bx))) ∧ W = w' := by
  have h1 := Lib.hid (mindex_any W A cap ps Bx g hS hl hg)
  clear hS hg
  obtain ⟨v, hv0⟩ : ∃ v, ps.any (badL Bx) = v := ⟨_, rfl⟩
  rw [hv0]
  have hv0H := Lib.hid hv0
  clear hv0
  go_enter Try.func81, Try.ntmps81
  go_wp2_with fail
  (with_reducible refine h1.out.mono ?_)
  rintro e w1 ⟨i, rfl, hi, rfl⟩
  clear h1
  rcases hi with ⟨rfl, hv⟩ | ⟨k, rfl, hv⟩
  · go_wp2
    go_ret
    exact ⟨by rw [← hv0H.out, hv]; rfl, rfl⟩
  · go_wp2
    go_ret
    exact ⟨by rw [← hv0H.out, hv]; rfl, rfl⟩


set_option maxHeartbeats 1000000 in
theorem mvalid_any (D Z Bk O Ac : Int) (A : Option Addr) (ca : Nat) (ls : List Int) (m : Int) (w : World) (h : IntsIn w A ls) (hl : ls.length ≤ 1000000) :
    Calls Try.prog 64 #[.agg #[.int .i64 D, .int .i64 Z, .int .i64 Bk, .int .i64 O, .int .i64 Ac], .slice A ls.length ca, .int .i64 m] w fun e w' => e = .returned (.bool (okB D Bk ⟨ls, m, []⟩)) ∧ Below w.heap.size w w' := by
  have hIH := Lib.hid (fun W (hb : Below w.heap.size w W) => h.below hb)
  have hc := Lib.hid (fun W (hS : IntsIn W A ls) (hg : W.cell? ⟨w.heap.size, 2, none⟩ = some (.int .i64 Bk)) => mcontains_any W A ca ls Bk w.heap.size hS hl hg)
  have e := ok_parts (D := D) (B := Bk) (v := ⟨ls, m, []⟩)
  dsimp only at e
  rw [e]
  obtain ⟨an, han⟩ : ∃ an, ls.any (badL Bk) = an := ⟨_, rfl⟩
  rw [han] at hc ⊢
  obtain ⟨b1, hb1⟩ : ∃ b1, decide ((ls.length : Int) = D) = b1 := ⟨_, rfl⟩
  obtain ⟨b2, hb2⟩ : ∃ b2, decide (-1 ≤ m) = b2 := ⟨_, rfl⟩
  obtain ⟨b3, hb3⟩ : ∃ b3, decide (m < D) = b3 := ⟨_, rfl⟩
  rw [hb1, hb2, hb3]
  have e1 : ((ls.length : Int) == D) = b1 := by rw [← hb1, Bool.eq_iff_iff]; simp
  clear e han hb1
  have hB0 : Below w.heap.size w (w.alloc (.cells #[.int .i64 D, .int .i64 Z, .int .i64 Bk, .int .i64 O, .int .i64 Ac] 37)) := (Below.refl _ _).alloc (Nat.le_refl _) _
  have hB0H := Lib.hid hB0
  clear hB0 h
  generalize hn : ls.length = nl at e1 hc hB0H ⊢
  cases b1
  · go_enter Try.func64, Try.ntmps64
    go_wp2
    go_ret
    exact ⟨rfl, hB0H.out⟩
  cases b2
  · go_enter Try.func64, Try.ntmps64
    go_wp2
    go_ret
    exact ⟨rfl, hB0H.out⟩
  cases b3
  · go_enter Try.func64, Try.ntmps64
    go_wp2
    go_ret
    exact ⟨rfl, hB0H.out⟩
  go_enter Try.func64, Try.ntmps64
  go_wp2_with fail
  (with_reducible refine (hc.out _ (hIH.out _ hB0H.out) (by go_simp)).mono ?_)
  rintro e w2 ⟨rfl, rfl⟩
  cases an
  · go_wp2
    go_ret
    exact ⟨rfl, hB0H.out⟩
  · go_wp2
    go_ret
    exact ⟨rfl, hB0H.out⟩
end Go.Proofs.Ytdnedahbghhpgaa
