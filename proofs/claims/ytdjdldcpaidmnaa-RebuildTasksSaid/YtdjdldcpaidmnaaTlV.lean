/- What valid of tail does. -/
import Derived.Test.YtdjdldcpaidmnaaTlS
namespace Go.Proofs.Ytdjdldcpaidmnaa
open Go.RowKit Tl

/-- The first of which f holds. -/
def FirstI (f : Int → Bool) (ps : List Int) (i : Int) : Prop := (i = -1 ∧ ps.any f = false) ∨ ∃ k : Nat, i = (k : Int) ∧ ps.any f = true
set_option maxHeartbeats 1000000 in
theorem iindex_any (W : World) (A : Option Addr) (cap : Nat) (ps : List Int) (Bx : Int) (g : Nat) (hS : IntsIn W A ps) (hl : ps.length ≤ 1000000) (hg : W.cell? ⟨g, 2, none⟩ = some (.int .i64 Bx)) :
    Calls Try.prog 78 #[.slice A ps.length cap, .func (.func 66) #[] #[.pointer (some ⟨g, 0, none⟩)]] W fun e w' => ∃ i : Int, e = .returned (.int .i64 i) ∧ FirstI (badL Bx) ps i ∧ W = w' := by
  have hSH := Lib.hid hS
  have h1 := Lib.hid (fun (n : Int) => valid1_any n Bx W g hg)
  have eg : ∀ args w, (callFunc 66 args).run Try.prog w = .ok (.enter 66 args) w := enters_of Try.func66 (by kernel_rfl) rfl
  obtain ⟨f, hf⟩ : ∃ f : Int → Bool, f = (badL Bx) := ⟨_, rfl⟩
  rw [← hf]
  rw [← hf] at h1
  clear hS hf hg
  go_enter Try.func78, Try.ntmps78
  go_wp2_with fail
  go_loopw [8] (fun i wr => ∃ k : Nat, k ≤ ps.length ∧ i = .int .i64 (k : Int) ∧ (ps.take k).any f = false ∧ W = wr) (fun i _ => ps.length - (intOf i).toNat)
  case atStart => exact ⟨0, Nat.zero_le _, rfl, rfl, rfl⟩
  case round =>
    obtain ⟨k, hk, rfl, hno, rfl⟩ := hrel
    by_cases hlt : k < ps.length
    case pos =>
      have g1 : (k : Int) < (ps.length : Int) := by omega
      obtain ⟨b, off, rfl, s0⟩ : ∃ b off, A = some ⟨b, off, none⟩ ∧ W.cell? ⟨b, off + k, none⟩ = some (.int .i64 ps[k]) := by
        rcases hSH.out with h0 | ⟨b, off, e, _, hc⟩
        · rw [h0] at hlt; simp at hlt
        · exact ⟨b, off, e, hc k hlt⟩
      have hst : (ps.take (k + 1)).any f = f ps[k] := by rw [List.take_succ_eq_append_getElem hlt, List.any_append, hno]; simp
      have hall : f ps[k] = true → ps.any f = true := fun h => List.any_eq_true.2 ⟨_, List.getElem_mem hlt, h⟩
      have hstH := Lib.hid hst
      have hallH := Lib.hid hall
      have h1k := Lib.hid (h1.out ps[k])
      have hkw : IntKind.i64.wrap ((k : Int) + 1) = (k : Int) + 1 := IntWalk.i64_in _ (by omega)
      clear hno hst h1 hall
      generalize f ps[k] = v at hstH hallH h1k
      cases v
      case false =>
        go_wp2_with fail
        (with_reducible refine h1k.out.mono ?_)
        rintro e w1 ⟨rfl, rfl⟩
        go_wp2_with fail
        go_roundw
        case rel => exact ⟨k + 1, by omega, by first | rfl | go_num, hstH.out, trivial⟩
        case measure => simp [intOf]; omega
      case true =>
        go_wp2_with fail
        (with_reducible refine h1k.out.mono ?_)
        rintro e w1 ⟨rfl, rfl⟩
        go_wp2
        go_ret
        exact ⟨_, rfl, .inr ⟨k, rfl, hallH.out trivial⟩, rfl⟩
    case neg =>
      have e : k = ps.length := by omega
      subst e
      rw [List.take_length] at hno
      have hnoH := Lib.hid hno
      clear hno
      go_wp2
      go_ret
      exact ⟨-1, rfl, .inl ⟨rfl, hnoH.out⟩, rfl⟩
theorem icontains_any (W : World) (A : Option Addr) (cap : Nat) (ps : List Int) (Bx : Int) (g : Nat) (hS : IntsIn W A ps) (hl : ps.length ≤ 1000000) (hg : W.cell? ⟨g, 2, none⟩ = some (.int .i64 Bx)) :
    Calls Try.prog 65 #[.slice A ps.length cap, .func (.func 66) #[] #[.pointer (some ⟨g, 0, none⟩)]] W fun e w' => e = .returned (.bool (ps.any (badL Bx))) ∧ W = w' := by
  have h1 := Lib.hid (iindex_any W A cap ps Bx g hS hl hg)
  clear hS hg
  obtain ⟨v, hv0⟩ : ∃ v, ps.any (badL Bx) = v := ⟨_, rfl⟩
  rw [hv0]
  have hv0H := Lib.hid hv0
  clear hv0
  go_enter Try.func65, Try.ntmps65
  go_wp2_with fail
  (with_reducible refine h1.out.mono ?_)
  rintro e w1 ⟨i, rfl, hi, rfl⟩
  clear h1
  rcases hi with ⟨rfl, hv⟩ | ⟨k, rfl, hv⟩
  · go_wp2
    go_ret
    exact ⟨by rw [← hv0H.out, hv]; rfl, rfl⟩
  · go_wp2
    go_ret
    exact ⟨by rw [← hv0H.out, hv]; rfl, rfl⟩


theorem ok_parts {D B : Int} {v : Vw} : okB D B v = (decide ((v.ls.length : Int) = D) && (decide (-1 ≤ v.m) && (decide (v.m < D) && !v.ls.any (badL B)))) := by
  unfold okB
  rw [Bool.eq_iff_iff]
  simp only [decide_eq_true_eq, Bool.and_eq_true, Bool.not_eq_true', List.any_eq_false]
  constructor
  · rintro ⟨h1, h2, h3, h4⟩
    refine ⟨h1, h2, h3, fun x hx => ?_⟩
    have := h4 x hx
    unfold badL
    simp; omega
  · rintro ⟨h1, h2, h3, h4⟩
    refine ⟨h1, h2, h3, fun x hx => ?_⟩
    have := h4 x hx
    unfold badL at this
    simp at this; omega
set_option maxHeartbeats 1000000 in
theorem valid_any12 (D Z Bk O Ac : Int) (A : Option Addr) (ca : Nat) (B : Option Addr) (cb : Nat) (v : Vw) (w : World) (h : VwIn w A B v) (hl : v.ls.length ≤ 1000000) :
    Calls Try.prog 40 #[.agg #[.int .i64 D, .int .i64 Z, .int .i64 Bk, .int .i64 O, .int .i64 Ac], .agg #[.slice A v.ls.length ca, .int .i64 v.m, .slice B v.ns.length cb]] w fun e w' => e = .returned (.bool (okB D Bk v)) ∧ Below w.heap.size w w' := by
  have hIH := Lib.hid (fun W (hb : Below w.heap.size w W) => h.ls.below hb)
  have hc := Lib.hid (fun W (hS : IntsIn W A v.ls) (hg : W.cell? ⟨w.heap.size, 2, none⟩ = some (.int .i64 Bk)) => icontains_any W A ca v.ls Bk w.heap.size hS hl hg)
  have e := ok_parts (D := D) (B := Bk) (v := v)
  rw [e]
  obtain ⟨an, han⟩ : ∃ an, v.ls.any (badL Bk) = an := ⟨_, rfl⟩
  rw [han] at hc ⊢
  obtain ⟨b1, hb1⟩ : ∃ b1, decide ((v.ls.length : Int) = D) = b1 := ⟨_, rfl⟩
  obtain ⟨b2, hb2⟩ : ∃ b2, decide (-1 ≤ v.m) = b2 := ⟨_, rfl⟩
  obtain ⟨b3, hb3⟩ : ∃ b3, decide (v.m < D) = b3 := ⟨_, rfl⟩
  rw [hb1, hb2, hb3]
  have e1 : ((v.ls.length : Int) == D) = b1 := by rw [← hb1, Bool.eq_iff_iff]; simp
  clear e han hb1
  have hB0 : Below w.heap.size w ((w.alloc (.cells #[.int .i64 D, .int .i64 Z, .int .i64 Bk, .int .i64 O, .int .i64 Ac] 30)).alloc (.cells #[.slice A v.ls.length ca, .int .i64 v.m, .slice B v.ns.length cb] 39)) := ((Below.refl _ _).alloc (Nat.le_refl _) _).alloc (by simp) _
  have hB0H := Lib.hid hB0
  clear hB0 h
  generalize hn : v.ls.length = nl at e1 hc hB0H ⊢
  cases b1
  · go_enter Try.func40, Try.ntmps40
    go_wp2
    go_ret
    exact ⟨rfl, hB0H.out⟩
  cases b2
  · go_enter Try.func40, Try.ntmps40
    go_wp2
    go_ret
    exact ⟨rfl, hB0H.out⟩
  cases b3
  · go_enter Try.func40, Try.ntmps40
    go_wp2
    go_ret
    exact ⟨rfl, hB0H.out⟩
  go_enter Try.func40, Try.ntmps40
  go_wp2_with fail
  (with_reducible refine (hc.out _ (hIH.out _ hB0H.out) (by go_simp)).mono ?_)
  rintro e w2 ⟨rfl, rfl⟩
  cases an
  · go_wp2
    go_ret
    exact ⟨rfl, hB0H.out⟩
  · go_wp2
    go_ret
    exact ⟨rfl, hB0H.out⟩
end Go.Proofs.Ytdjdldcpaidmnaa
