/- What unlike of mend does, and slices.Equal. -/
import Derived.Test.YtdnedahbghhpgaaMdM
import Derived.Test.YtdnedahbghhpgaaTlVi
namespace Go.Proofs.Ytdnedahbghhpgaa
open Go.RowKit Tl Pl Md

def UnPost (w : World) (l : List Int) (e : Ending) (w' : World) : Prop := ∃ A cap, e = .returned (.slice A l.length cap) ∧ inE.Row w' w.heap.size 3 A cap l ∧ Below w.heap.size w w'
theorem ints_at {W : World} {A : Option Addr} {zs : List Int} (h : IntsIn W A zs) {k : Nat} (hk : k < zs.length) : ∃ b off, A = some ⟨b, off, none⟩ ∧ W.cell? ⟨b, off + k, none⟩ = some (.int .i64 (zs.getD k 0)) := by
  rcases h with h0 | ⟨b, off, e, _, hc⟩
  · rw [h0] at hk; simp at hk
  · refine ⟨b, off, e, ?_⟩
    rw [hc k hk, List.getD_eq_getElem?_getD, List.getElem?_eq_getElem hk]; rfl
set_option maxRecDepth 100000 in
set_option maxHeartbeats 2000000 in
theorem unlike_any (w : World) (A1 : Option Addr) (c1 : Nat) (want : List Int) (A2 : Option Addr) (c2 : Nat) (ls : List Int) (m : Int) (h1 : IntsIn w A1 want) (h2 : IntsIn w A2 ls) (hw : want.length = ls.length) (hl : ls.length ≤ 1000) :
    Calls Try.prog 65 #[.slice A1 want.length c1, .slice A2 ls.length c2, .int .i64 m] w (UnPost w (unl want ls m ls.length)) := by
  have happ := Lib.hid (fun W base A cap (l : List Int) (x : Int) (h : inE.Row W base 3 A cap l) mm hm hl hb => Enc.Row.append (E := inE) (P := Try.prog) Try.underlying24 infoIn (by decide) (by decide) h (m := mm) (x := x) hm hl hb 24)
  have h1H := Lib.hid (fun W (hb : Below w.heap.size w W) => h1.below hb)
  have h2H := Lib.hid (fun W (hb : Below w.heap.size w W) => h2.below hb)
  have hulH := Lib.hid (fun k => unl_len want ls m k)
  obtain ⟨n, hn⟩ : ∃ n, ls.length = n := ⟨_, rfl⟩
  rw [hn] at hw hl
  rw [hw, hn]
  have hwH := Lib.hid hw
  have hnH := Lib.hid hn
  clear h1 h2 hw hn
  go_enter Try.func65, Try.ntmps65
  go_wp2_with fail
  go_loopw [7, 12] (fun s ii wr => ∃ (i : Nat) (q : List Int) (A' : Option Addr) (cap' : Nat), ii = .int .i64 (i : Int) ∧ s = .slice A' q.length cap' ∧ i ≤ n ∧ q.length ≤ i ∧ Hid (q = unl want ls m i) ∧ Hid (inE.Row wr w.heap.size 3 A' cap' q) ∧ Hid (Below w.heap.size w wr)) (fun _ ii _ => n - (intOf ii).toNat)
  case atStart => exact ⟨0, [], none, 0, rfl, rfl, Nat.zero_le _, Nat.le_refl _, Lib.hid rfl, Lib.hid (Enc.Row.nil _ _ _), Lib.hid (Below.refl _ _)⟩
  case round =>
    obtain ⟨i, q, A', cap', rfl, rfl, hi, hqi, hq, hR, hB⟩ := hrel
    by_cases hlt : i < n
    case neg =>
      have e : i = n := by omega
      have hF : UnPost w (unl want ls m n) (.returned (.slice A' q.length cap')) wr := by
        rw [← e, ← hq.out]; exact ⟨A', cap', rfl, hR.out, hB.out⟩
      have hFH := Lib.hid hF
      clear hF hq hR hB happ h1H h2H
      go_wp2
      go_ret
      exact hFH.out
    case pos =>
      obtain ⟨b1, o1, rfl, a1⟩ := ints_at (h1H.out wr hB.out) (k := i) (by rw [hwH.out]; exact hlt)
      obtain ⟨b2, o2, rfl, a2⟩ := ints_at (h2H.out wr hB.out) (k := i) (by rw [hnH.out]; exact hlt)
      have iw : IntKind.i64.wrap ((i : Int) + 1) = (i : Int) + 1 := IntWalk.i64_in _ (by omega)
      have hql : q.length ≤ 1000000 := by omega
      have hqi2 : q.length ≤ i + 1 := by omega
      have hm : n - (i + 1) < n - i := by omega
      have hst : unl want ls m (i + 1) = q ++ if bad want ls m i = true then [(i : Int)] else [] := by rw [hq.out]; rfl
      clear hq
      obtain ⟨x, hx⟩ : ∃ x, want.getD i 0 = x := ⟨_, rfl⟩
      obtain ⟨y, hy⟩ : ∃ y, ls.getD i 0 = y := ⟨_, rfl⟩
      have hbd : bad want ls m i = decide ((i : Int) ≠ m ∧ y ≠ x) := by unfold bad; rw [hx, hy]
      rw [hx] at a1
      rw [hy] at a2
      clear hx hy
      have hstH := Lib.hid hst
      have hbdH := Lib.hid hbd
      clear hst hbd
      by_cases hne : (i : Int) = m
      · have hnt : Hid (q = unl want ls m (i + 1)) := Lib.hid (by rw [hstH.out, hbdH.out, decide_eq_false (fun h => h.1 hne), if_neg (by decide), List.append_nil])
        clear hstH hbdH
        subst hne
        go_wp2_with fail
        go_roundw
        case rel => exact ⟨i + 1, q, A', cap', by go_num, rfl, hlt, hqi2, hnt, hR, hB⟩
        case measure => simp [intOf]; exact hm
      · by_cases hxy : y = x
        · have hnt : Hid (q = unl want ls m (i + 1)) := Lib.hid (by rw [hstH.out, hbdH.out, decide_eq_false (fun h => h.2 hxy), if_neg (by decide), List.append_nil])
          clear hstH hbdH
          subst hxy
          go_wp2_with fail
          go_roundw
          case rel => exact ⟨i + 1, q, A', cap', by go_num, rfl, hlt, hqi2, hnt, hR, hB⟩
          case measure => simp [intOf]; exact hm
        · have e1 : ((i : Int) != m) = true := by simp [hne]
          have e2 : (y != x) = true := by simp [hxy]
          have hnt : Hid (q ++ [(i : Int)] = unl want ls m (i + 1)) := Lib.hid (by rw [hstH.out, hbdH.out, decide_eq_true ⟨hne, hxy⟩, if_pos rfl])
          clear hstH hbdH
          have hR4 := hR.out.alloc (.cells #[.int .i64 (i : Int)] 3)
          have hB4 := hB.out.alloc hB.out.size (.cells #[.int .i64 (i : Int)] 3)
          obtain ⟨A3, cap3, W6, hrun6, hR6, hG6, _⟩ := happ.out _ w.heap.size A' cap' q (i : Int) hR4 wr.heap.size (fun j hj => by
            match j, hj with
            | 0, _ => show _ = some (Value.int .i64 (i : Int)); go_simp) hql hB4.size
          have hrun6H := Lib.hid hrun6
          have hB6H := Lib.hid (hB4.trans (hR4.grown hG6 hB4.size))
          have hR6H := Lib.hid hR6
          have hlx : (q ++ [(i : Int)]).length = q.length + 1 := by rw [List.length_append]; rfl
          have hqi3 : q.length + 1 ≤ i + 1 := by omega
          clear hrun6 hR6 hG6 hR4 hB4 hR hB
          go_wp2_with (at_builtin; refine append_run_wp rfl _ _ _ rfl rfl rfl hrun6H.out ?_; clear hrun6H)
          go_roundw
          case rel => exact ⟨i + 1, q ++ [(i : Int)], A3, cap3, by go_num, by rw [hlx], hlt, by rw [hlx]; exact hqi3, hnt, hR6H, hB6H⟩
          case measure => simp [intOf]; exact hm
set_option maxHeartbeats 2000000 in
theorem equal_any (w : World) (A1 : Option Addr) (c1 : Nat) (xs : List Int) (A2 : Option Addr) (c2 : Nat) (ys : List Int) (h1 : IntsIn w A1 xs) (h2 : IntsIn w A2 ys) (hl : xs.length ≤ 1000) :
    Calls Try.prog 66 #[.slice A1 xs.length c1, .slice A2 ys.length c2] w fun e w' => e = .returned (.bool (decide (xs = ys))) ∧ Below w.heap.size w w' := by
  have h1H := Lib.hid (fun W (hb : Below w.heap.size w W) => h1.below hb)
  have h2H := Lib.hid (fun W (hb : Below w.heap.size w W) => h2.below hb)
  clear h1 h2
  by_cases hne : xs.length = ys.length
  case neg =>
    have hf : decide (xs = ys) = false := decide_eq_false (fun e => hne (by rw [e]))
    rw [hf]
    have hne2 : ¬ (xs.length : Int) = (ys.length : Int) := by omega
    go_enter Try.func66, Try.ntmps66
    go_wp2
    go_ret
    exact ⟨rfl, Below.refl _ _⟩
  case pos =>
    obtain ⟨n, hn⟩ : ∃ n, xs.length = n := ⟨_, rfl⟩
    rw [hn] at hne hl
    rw [hn, ← hne]
    have hnH := Lib.hid hn
    have hneH := Lib.hid hne
    clear hn hne
    obtain ⟨v, hv⟩ : ∃ v, decide (xs = ys) = v := ⟨_, rfl⟩
    rw [hv]
    have hvH := Lib.hid hv
    clear hv
    go_enter Try.func66, Try.ntmps66
    go_wp2_with fail
    go_loopw [13] (fun ii wr => ∃ i : Nat, ii = .int .i64 (i : Int) ∧ i ≤ n ∧ Hid (∀ j, j < i → xs.getD j 0 = ys.getD j 0) ∧ Hid (Below w.heap.size w wr)) (fun ii _ => n - (intOf ii).toNat)
    case atStart => exact ⟨0, rfl, Nat.zero_le _, Lib.hid (fun j hj => absurd hj (Nat.not_lt_zero _)), Lib.hid (Below.refl _ _)⟩
    case round =>
      obtain ⟨i, rfl, hi, hq, hB⟩ := hrel
      by_cases hlt : i < n
      case neg =>
        have e : i = n := by omega
        have heq : xs = ys := by
          apply List.ext_getElem
          · rw [hnH.out, hneH.out]
          · intro j j1 j2
            have := hq.out j (by rw [e, ← hnH.out]; exact j1)
            rw [List.getD_eq_getElem?_getD, List.getD_eq_getElem?_getD, List.getElem?_eq_getElem j1, List.getElem?_eq_getElem j2] at this
            exact this
        have hf : Hid (v = true) := Lib.hid (by rw [← hvH.out]; exact decide_eq_true heq)
        clear heq hq h1H h2H hvH
        go_wp2
        go_ret
        exact ⟨by rw [hf.out]; rfl, hB.out⟩
      case pos =>
        obtain ⟨b1, o1, rfl, a1⟩ := ints_at (h1H.out wr hB.out) (k := i) (by rw [hnH.out]; exact hlt)
        obtain ⟨b2, o2, rfl, a2⟩ := ints_at (h2H.out wr hB.out) (k := i) (by rw [← hneH.out]; exact hlt)
        have iw : IntKind.i64.wrap ((i : Int) + 1) = (i : Int) + 1 := IntWalk.i64_in _ (by omega)
        have hm : n - (i + 1) < n - i := by omega
        obtain ⟨x, hx⟩ : ∃ x, xs.getD i 0 = x := ⟨_, rfl⟩
        obtain ⟨y, hy⟩ : ∃ y, ys.getD i 0 = y := ⟨_, rfl⟩
        rw [hx] at a1
        rw [hy] at a2
        have hxH := Lib.hid hx
        have hyH := Lib.hid hy
        clear hx hy
        by_cases hxy : x = y
        · have hnt : Hid (∀ j, j < i + 1 → xs.getD j 0 = ys.getD j 0) := Lib.hid (fun j hj => by
            by_cases e : j = i
            · rw [e, hxH.out, hyH.out, hxy]
            · exact hq.out j (by omega))
          have hBd := Lib.hid (fun k => below_drewN hB.out k)
          clear hq hxH hyH
          subst hxy
          go_wp2_with fail
          go_quiet (fail)
          go_wp2_with fail
          go_roundw
          case rel => exact ⟨i + 1, by go_num, hlt, hnt, Lib.hid (hBd.out _)⟩
          case measure => simp [intOf]; exact hm
        · have hf : Hid (v = false) := Lib.hid (by rw [← hvH.out]; exact decide_eq_false (fun e => hxy (by rw [← hxH.out, ← hyH.out, e])))
          have hBd := Lib.hid (fun k => below_drewN hB.out k)
          clear hq hxH hyH hvH
          go_wp2_with fail
          go_quiet (fail)
          go_wp2
          go_ret
          exact ⟨by rw [hf.out]; rfl, hBd.out _⟩
end Go.Proofs.Ytdnedahbghhpgaa
