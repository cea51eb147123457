/- Lists of records in memory; the newest of them, walked. -/
import Derived.Test.YtpmhfalhieinjaaBkMap
import Derived.Test.YtpmhfalhieinjaaBkRecM
import Derived.IntWalk
import Derived.LoopTactic
namespace Go.Proofs.Ytpmhfalhieinjaa
open Go.RowKit Rec Bk

/-- A list of records: where it lies, its capacity, its records. -/
structure LRow where
  A : Option Addr
  cap : Nat
  rs : List Rc
instance : Inhabited LRow := ⟨⟨none, 0, []⟩⟩
def LRow.In (W : World) (x : LRow) : Prop := RecsAt W x.A x.rs
def ListsIn (W : World) (A : Option Addr) (ls : List LRow) : Prop :=
  ls = [] ∨ ∃ b off, A = some ⟨b, off, none⟩ ∧ b < W.heap.size ∧ ∀ (i : Nat) (h : i < ls.length), W.cell? ⟨b, off + i, none⟩ = some (.slice ls[i].A ls[i].rs.length ls[i].cap) ∧ ls[i].In W
theorem ListsIn.below {W W' : World} {A : Option Addr} {ls : List LRow} (h : ListsIn W A ls) (hb : Below W.heap.size W W') : ListsIn W' A ls := by
  rcases h with h | ⟨b, off, rfl, hlt, hc⟩
  · exact .inl h
  · exact .inr ⟨b, off, rfl, Nat.lt_of_lt_of_le hlt hb.size, fun i hi => ⟨(hb.cell (p := ⟨b, off + i, none⟩) hlt).trans (hc i hi).1, RecsAt.below (hc i hi).2 hb⟩⟩
theorem ListsIn.at_ {W : World} {A : Option Addr} {ls : List LRow} (h : ListsIn W A ls) {i : Nat} (hi : i < ls.length) : ∃ b off, A = some ⟨b, off, none⟩ ∧ b < W.heap.size ∧ W.cell? ⟨b, off + i, none⟩ = some (.slice ls[i].A ls[i].rs.length ls[i].cap) ∧ RecsAt W ls[i].A ls[i].rs := by
  rcases h with rfl | ⟨b, off, rfl, hlt, hc⟩
  · simp at hi
  · exact ⟨b, off, rfl, hlt, (hc i hi).1, (hc i hi).2⟩
def flatL (ls : List LRow) : List Rc := ls.flatMap LRow.rs
theorem flatL_take {ls : List LRow} {k : Nat} (h : k < ls.length) : flatL (ls.take (k + 1)) = flatL (ls.take k) ++ ls[k].rs := by
  unfold flatL
  rw [List.take_succ_eq_append_getElem h, List.flatMap_append]
  simp
theorem flatL_part {ls : List LRow} {k j : Nat} (h : k < ls.length) (hj : j < ls[k].rs.length) : (flatL (ls.take k) ++ ls[k].rs.take j) ++ [ls[k].rs[j]] = flatL (ls.take k) ++ ls[k].rs.take (j + 1) := by
  rw [List.append_assoc, List.take_succ_eq_append_getElem hj]
/-- Numbers that a record may have. -/
structure RcOk (x : Rc) : Prop where
  k : WfI x.k
  a : WfI x.a
  s : 0 ≤ x.s ∧ x.s ≤ 4398046511104
def ListsOk (ls : List LRow) : Prop := ls.length ≤ 64 ∧ ∀ l ∈ ls, l.rs.length ≤ 1000 ∧ ∀ x ∈ l.rs, RcOk x
theorem sub_wf {x : Rc} (h : RcOk x) : WfI (sub x).1 ∧ WfI (sub x).2 := by
  unfold sub
  split
  · exact ⟨(by unfold WfI; decide : WfI 6), (by unfold WfI; decide : WfI 0)⟩
  · exact ⟨h.k, h.a⟩
def NwPost (w : World) (ls : List LRow) (e : Ending) (w' : World) : Prop := ∃ (b n : Nat), e = .returned (.map (some b)) ∧ w.heap.size ≤ b ∧ MapIs w' b n (flatL ls) ∧ Below w.heap.size w w'
set_option maxRecDepth 100000 in
set_option maxHeartbeats 4000000 in
theorem newest_any (w : World) (A : Option Addr) (cap : Nat) (ls : List LRow) (hI : ListsIn w A ls) (hok : ListsOk ls) :
    Calls Try.prog 20 #[.slice A ls.length cap] w (NwPost w ls) := by
  have hll := hok.1
  have hIH := Lib.hid (fun W (hb : Below w.heap.size w W) => hI.below hb)
  have hokH := Lib.hid hok.2
  have hsu := Lib.hid (fun x W => subjectOf_any x W)
  have hmm := @run_makeMap Try.prog
  clear hI hok
  go_enter Try.func20, Try.ntmps20
  go_wp2_with fail
  clear hmm
  refine fresh_world (fun W => MapIs W w.heap.size 0 [] ∧ Below w.heap.size w W) ⟨MapIs.made w, (Below.refl _ _).alloc (Nat.le_refl _) _⟩ ?_
  rintro W ⟨hM, hB⟩
  have hMH := Lib.hid hM
  have hBH := Lib.hid hB
  clear hM hB
  go_loopw [14] (fun i wr => ∃ (k n : Nat), k ≤ ls.length ∧ i = .int .i64 (k : Int) ∧ n ≤ 1000 * k ∧ MapIs wr w.heap.size n (flatL (ls.take k)) ∧ Below w.heap.size w wr) (fun i _ => ls.length - (intOf i).toNat)
  case atStart => exact ⟨0, 0, Nat.zero_le _, rfl, by omega, hMH.out, hBH.out⟩
  case round =>
    clear hMH hBH
    obtain ⟨k, n, hk, rfl, hn, hM, hB⟩ := hrel
    have hMH := Lib.hid hM
    have hBH := Lib.hid hB
    by_cases hlt : k < ls.length
    case pos =>
      obtain ⟨_, _, -, -, -, hR⟩ := (hIH.out w (Below.refl _ _)).at_ hlt
      obtain ⟨b, off, rfl, -, hc, -⟩ := (hIH.out wr hB).at_ hlt
      obtain ⟨hr1, hr2⟩ := hokH.out _ (List.getElem_mem hlt)
      have hpart := flatL_take hlt
      have hRH := Lib.hid (fun W (hb : Below w.heap.size w W) => hR.below hb)
      have hr2H := Lib.hid hr2
      have hpH := Lib.hid hpart
      obtain ⟨wo, rfl⟩ : ∃ wo, wo = wr := ⟨_, rfl⟩
      clear hM hB hR hr2 hpart
      generalize ls[k] = r at hc hr1 hRH hr2H hpH
      obtain ⟨Ar, capr, rs⟩ := r
      dsimp only at hc hr1 hRH hr2H hpH
      obtain ⟨L, hL⟩ : ∃ L, L = flatL (ls.take k) := ⟨_, rfl⟩
      rw [← hL] at hMH hpH
      clear hL
      go_wp2_with fail
      go_loopw [20] (fun i wr => ∃ (j m : Nat), j ≤ rs.length ∧ i = .int .i64 (j : Int) ∧ m ≤ n + j ∧ MapIs wr w.heap.size m (L ++ rs.take j) ∧ Below w.heap.size w wr) (fun i _ => rs.length - (intOf i).toNat)
      case atStart => exact ⟨0, n, Nat.zero_le _, rfl, by omega, by rw [List.take_zero, List.append_nil]; exact hMH.out, hBH.out⟩
      case round =>
        clear hMH
        obtain ⟨j, m, hj, rfl, hm, hM, hB⟩ := hrel
        have hMH := Lib.hid hM
        have hB2H := Lib.hid hB
        by_cases hlt2 : j < rs.length
        case pos =>
          obtain ⟨b2, off2, rfl, hb2l, c0, c1, c2, c3, c4, c5, c6⟩ := (hRH.out wr hB).at_ hlt2
          have hx := hr2H.out _ (List.getElem_mem hlt2)
          have htk : (L ++ rs.take j) ++ [rs[j]] = L ++ rs.take (j + 1) := by rw [List.append_assoc, List.take_succ_eq_append_getElem hlt2]
          have hj1 : (j : Int) < (rs.length : Int) := by omega
          have hkw : IntKind.i64.wrap ((j : Int) + 1) = (j : Int) + 1 := IntWalk.i64_in _ (by omega)
          have hwf := sub_wf hx
          have hjb := Lib.hid (show j + 1 ≤ rs.length ∧ m + 1 ≤ n + (j + 1) by omega)
          have hmx : m < maxLen := by unfold maxLen; omega
          have hmxH := Lib.hid hmx
          have hxsb := hx.s
          have htH := Lib.hid htk
          have hwfH := Lib.hid hwf
          clear hM hB htk hx hwf hmx hm
          generalize rs[j] = x at c0 c1 c2 c3 c4 c5 c6 hxsb htH hwfH
          generalize L ++ rs.take j = M at hMH htH
          obtain ⟨y, hy⟩ : ∃ y, y = fnd M (sub x) := ⟨_, rfl⟩
          obtain ⟨t, ht⟩ : ∃ t, t = (found M (sub x)).isSome := ⟨_, rfl⟩
          have hyH := Lib.hid hy
          have htt := Lib.hid ht
          have hsx := Lib.hid (fun W => hsu.out x W)
          obtain ⟨u1, hu1⟩ : ∃ u, u = (sub x).1 := ⟨_, rfl⟩
          obtain ⟨u2, hu2⟩ : ∃ u, u = (sub x).2 := ⟨_, rfl⟩
          rw [← hu1, ← hu2] at hsx
          have hu1H := Lib.hid hu1
          have hu2H := Lib.hid hu2
          clear hy ht hu1 hu2
          go_upto_region 9 with (go_at_call 34; refine (hsx.out _).mono ?_; rintro e w1 ⟨rfl, hb1⟩)
          have hN : RcAt w1 wr.heap.size x := (RcAt.new wr x _).below hb1
          have hM1 := (hMH.out.below ((Below.refl _ _).alloc (Nat.le_refl _) _)).below hb1
          have hB1 := (hB2H.out.alloc hB2H.out.size _).trans (hb1.mono (by have := hB2H.out.size; simp; omega))
          refine fresh_world (fun W => RcAt W wr.heap.size x ∧ (W.cell? ⟨w1.heap.size, 0, none⟩ = some (.int .i64 u1) ∧ W.cell? ⟨w1.heap.size, 1, none⟩ = some (.int .i64 u2)) ∧ MapIs W w.heap.size m M ∧ Below w.heap.size w W) ⟨hN.below ((Below.refl _ _).alloc (Nat.le_refl _) _), ⟨by go_simp, by go_simp⟩, hM1.below ((Below.refl _ _).alloc (Nat.le_refl _) _), hB1.alloc hB1.size _⟩ ?_
          clear hN hM1 hB1 hb1 hMH hB2H c0 c1 c2 c3 c4 c5 c6 hsx
          generalize w1.heap.size = S
          generalize wr.heap.size = X
          rintro W2 ⟨hN, ⟨s0, s1⟩, hM, hB⟩
          have hMH := Lib.hid hM
          have hB2H := Lib.hid hB
          have hNH := Lib.hid hN
          obtain ⟨c0, c1, c2, c3, c4, c5, c6⟩ := hN
          have hk1 : WfI u1 := by rw [hu1H.out]; exact hwfH.out.1
          have hk2 : WfI u2 := by rw [hu2H.out]; exact hwfH.out.2
          have hk1H := Lib.hid hk1
          have hk2H := Lib.hid hk2
          have hlo := Lib.hid (show y = fnd M (u1, u2) by rw [hu1H.out, hu2H.out]; exact hyH.out)
          have hlt3 := Lib.hid (show t = (found M (u1, u2)).isSome by rw [hu1H.out, hu2H.out]; exact htt.out)
          clear hM hB hk1 hk2
          go_upto_region 10 with (at_lookup; refine wpList_look2 rfl (.tmp 27) (.tmp 28) rfl hMH.out rfl hk1H.out hk2H.out rfl hlo.out hlt3.out ?_)
          have hY : RcAt (W2.alloc (.cells #[.int .i64 y.k, .int .i64 y.s, .int .i64 y.a, .int .i64 y.b, .int .i64 y.c, .int .i64 y.d, .string y.body] 53)) W2.heap.size y := RcAt.new W2 y _
          refine fresh_world (fun W => RcAt W W2.heap.size y ∧ RcAt W X x ∧ (W.cell? ⟨S, 0, none⟩ = some (.int .i64 u1) ∧ W.cell? ⟨S, 1, none⟩ = some (.int .i64 u2)) ∧ MapIs W w.heap.size m M ∧ Below w.heap.size w W) ⟨hY, hNH.out.below ((Below.refl _ _).alloc (Nat.le_refl _) _), ⟨(((Below.refl _ W2).alloc (Nat.le_refl _) _).cell (p := ⟨S, 0, none⟩) (lt_of_cell s0)).trans s0, (((Below.refl _ W2).alloc (Nat.le_refl _) _).cell (p := ⟨S, 1, none⟩) (lt_of_cell s1)).trans s1⟩, hMH.out.below ((Below.refl _ _).alloc (Nat.le_refl _) _), hB2H.out.alloc hB2H.out.size _⟩ ?_
          clear hY hNH hMH hB2H c0 c1 c2 c3 c4 c5 c6 s0 s1
          generalize W2.heap.size = Y
          rintro W3 ⟨hY, hN, ⟨s0, s1⟩, hM, hB⟩
          have hMH := Lib.hid hM
          have hB2H := Lib.hid hB
          obtain ⟨c0, c1, c2, c3, c4, c5, c6⟩ := hN
          obtain ⟨-, y1, -, -, -, -, -⟩ := hY
          clear hM hB
          by_cases hst : t = true ∧ ¬ y.s < x.s
          case pos =>
            obtain ⟨rfl, hns⟩ := hst
            have hsk := hMH.out.skip (x := x) (by rw [← htt.out]) (by rw [← hyH.out]; exact hns)
            rw [htH.out] at hsk
            have hskH := Lib.hid hsk
            have hns' : decide (y.s < x.s) = false := decide_eq_false hns
            clear hsk
            go_wp2_with fail
            go_roundw
            case rel => exact ⟨j + 1, m + 1, hjb.out.1, by go_num, hjb.out.2, hskH.out, hB2H.out⟩
            case measure => simp only [intOf]; omega
          case neg =>
            have hput := Lib.hid (show (found M (sub x)).isSome = true → (fnd M (sub x)).s < x.s by
              rw [← htt.out, ← hyH.out]
              intro e
              exact Decidable.byContradiction fun hn => hst ⟨e, hn⟩)
            have hgo : t = false ∨ (t = true ∧ decide (y.s < x.s) = true) := by
              cases t with
              | false => exact .inl rfl
              | true => exact .inr ⟨rfl, decide_eq_true (Decidable.byContradiction fun hn => hst ⟨rfl, hn⟩)⟩
            clear hst
            rcases hgo with rfl | ⟨rfl, hgo⟩
            all_goals
              go_wp2_with (at_mapUpdate; refine wpList_put rfl (.tmp 41) (.tmp 42) (.tmp 43) rfl hMH.out rfl hmxH.out hwfH.out.1 hwfH.out.2 (by rw [← hu1H.out, ← hu2H.out]; rfl) rfl hput.out ?_; intro W4 hM4 hg4)
              have hB4 := hB2H.out.grown hg4 hB2H.out.size (fun k e => by injection e with e; omega)
              rw [htH.out] at hM4
              go_roundw
              case rel => exact ⟨j + 1, m + 1, hjb.out.1, by go_num, hjb.out.2, hM4, hB4⟩
              case measure => simp only [intOf]; omega
        case neg =>
          have hje : j = rs.length := by omega
          have hjl : ¬ (j : Int) < (rs.length : Int) := by omega
          rw [hje, List.take_length] at hM
          have hM2 := Lib.hid hM
          have hkw : IntKind.i64.wrap ((k : Int) + 1) = (k : Int) + 1 := IntWalk.i64_in _ (by omega)
          have hmb := Lib.hid (show m ≤ 1000 * (k + 1) by omega)
          clear hM hB hje
          go_wp2_with fail
          go_roundw
          case rel => exact ⟨k + 1, m, by omega, by go_num, hmb.out, by rw [hpH.out]; exact hM2.out, hB2H.out⟩
          case measure => simp only [intOf]; omega
    case neg =>
      have hke : k = ls.length := by omega
      rw [hke, List.take_length] at hM
      have hM2 := Lib.hid hM
      clear hM hB hke
      go_wp2_with fail
      go_ret
      exact ⟨_, n, rfl, Nat.le_refl _, hM2.out, hBH.out⟩
end Go.Proofs.Ytpmhfalhieinjaa
