/- Steps without notes. -/
import Derived.Test.YtpgnajcbahklgaaPlWrL
namespace Go.Proofs.Ytpgnajcbahklgaa
open Go.RowKit Pl Tl

theorem nn_take {l : List St} {i : Nat} (h : i < l.length) : nn (l.take (i + 1)) = nn (l.take i) ++ (if l[i].k ≠ 3 then [l[i]] else []) := by
  rw [List.take_succ_eq_append_getElem h, nn_append]
  congr 1
  unfold nn
  by_cases hk : l[i].k ≠ 3
  · rw [if_pos hk, List.filter_cons_of_pos (by simpa using hk)]; rfl
  · rw [if_neg hk, List.filter_cons_of_neg (by simpa using hk)]; rfl
theorem nn_len (l : List St) : (nn l).length ≤ l.length := List.length_filter_le _ _
def WnPost (w : World) (l : List St) (e : Ending) (w' : World) : Prop := ∃ A cap, e = .returned (.slice A l.length cap) ∧ stE.Row w' w.heap.size 76 A cap l ∧ Below w.heap.size w w'
set_option maxRecDepth 100000 in
set_option maxHeartbeats 2000000 in
theorem without_any (w : World) (A : Option Addr) (cap : Nat) (l : List St) (hI : stE.In w A l) (hl : l.length ≤ 16000) :
    Calls Try.prog 29 #[.slice A l.length cap] w (WnPost w (nn l)) := by
  have happ := Lib.hid (fun W base A cap (l : List St) (x : St) (h : stE.Row W base 76 A cap l) m hm hl hb => Enc.Row.append (E := stE) (P := Try.prog) Try.underlying68 infoSt (by decide) (by decide) h (m := m) (x := x) hm hl hb 68)
  have hIH := Lib.hid hI
  obtain ⟨nl, hnl⟩ : ∃ nl, l.length = nl := ⟨_, rfl⟩
  rw [hnl] at hl
  rw [hnl]
  obtain ⟨N, hN⟩ : ∃ N, nn l = N := ⟨_, rfl⟩
  rw [hN]
  have hNH := Lib.hid hN
  have hnlH := Lib.hid hnl
  clear hI hnl hN
  go_enter Try.func29, Try.ntmps29
  go_wp2_with fail
  go_loopw [3, 4] (fun s ii wr => ∃ (i : Nat) (q : List St) (A' : Option Addr) (cap' : Nat), ii = .int .i64 (i : Int) ∧ s = .slice A' q.length cap' ∧ i ≤ nl ∧ q.length ≤ i ∧ Hid (q = nn (l.take i)) ∧ Hid (stE.Row wr w.heap.size 76 A' cap' q) ∧ Hid (Below w.heap.size w wr)) (fun _ ii _ => nl - (intOf ii).toNat)
  case atStart => exact ⟨0, [], none, 0, rfl, rfl, Nat.zero_le _, Nat.le_refl _, Lib.hid rfl, Lib.hid (Enc.Row.nil _ _ _), Lib.hid (Below.refl _ _)⟩
  case round =>
    obtain ⟨i, q, A', cap', rfl, rfl, hi, hqi, hq, hR, hB⟩ := hrel
    by_cases hlt : i < nl
    case neg =>
      have e : i = nl := by omega
      have hq2 : q = N := by rw [hq.out, ← hNH.out, List.take_of_length_le (by rw [hnlH.out]; omega)]
      clear hNH
      subst hq2
      have hF : WnPost w q (.returned (.slice A' q.length cap')) wr := ⟨A', cap', rfl, hR.out, hB.out⟩
      have hFH := Lib.hid hF
      clear hF hq hR hB happ hIH hnlH
      go_wp2
      go_ret
      exact hFH.out
    case pos =>
      have hlt' : i < l.length := by rw [hnlH.out]; exact hlt
      obtain ⟨b, off, rfl, hblt, hc⟩ := (hIH.out.below hB.out).at_ hlt'
      have a0 := hc 0 (by decide)
      have a1 := hc 1 (by decide)
      have a2 := hc 2 (by decide)
      have a3 := hc 3 (by decide)
      have a4 := hc 4 (by decide)
      have e5 : stE.k = 5 := rfl
      rw [e5] at a0 a1 a2 a3 a4
      rw [Nat.add_zero] at a0
      have hnt := nn_take hlt'
      rw [← hq.out] at hnt
      obtain ⟨x, hx⟩ : ∃ x, l[i] = x := ⟨_, rfl⟩
      rw [hx] at a0 a1 a2 a3 a4 hnt
      change _ = some (Value.int .i64 x.k) at a0
      change _ = some (Value.int .i64 x.s) at a1
      change _ = some (Value.int .i64 x.r) at a2
      change _ = some (Value.int .i64 x.b) at a3
      change _ = some (Value.int .i64 x.c) at a4
      have iw : IntKind.i64.wrap ((i : Int) + 1) = (i : Int) + 1 := IntWalk.i64_in _ (by omega)
      have hql : q.length ≤ 1000000 := by omega
      have hqi2 : q.length ≤ i + 1 := by omega
      have hqi3 : q.length + 1 ≤ i + 1 := by omega
      have hm : nl - (i + 1) < nl - i := by omega
      clear hc hq hqi hx
      by_cases hk : x.k = 3
      · rw [if_neg (by simpa using hk), List.append_nil] at hnt
        have hntH : Hid (q = nn (l.take (i + 1))) := Lib.hid hnt.symm
        clear hnt
        go_wp2_with fail
        go_roundw
        case rel => exact ⟨i + 1, q, A', cap', by go_num, rfl, hlt, hqi2, hntH, hR, hB⟩
        case measure => simp [intOf]; exact hm
      · rw [if_pos hk] at hnt
        have hR4 := hR.out.alloc (.cells #[.int .i64 x.k, .int .i64 x.s, .int .i64 x.r, .int .i64 x.b, .int .i64 x.c] 76)
        have hB4 := hB.out.alloc hB.out.size (.cells #[.int .i64 x.k, .int .i64 x.s, .int .i64 x.r, .int .i64 x.b, .int .i64 x.c] 76)
        obtain ⟨A3, cap3, W6, hrun6, hR6, hG6, _⟩ := happ.out _ w.heap.size A' cap' q x hR4 wr.heap.size (fun j hj => by
          match j, hj with
          | 0, _ => show _ = some (Value.int .i64 x.k); go_simp
          | 1, _ => show _ = some (Value.int .i64 x.s); go_simp
          | 2, _ => show _ = some (Value.int .i64 x.r); go_simp
          | 3, _ => show _ = some (Value.int .i64 x.b); go_simp
          | 4, _ => show _ = some (Value.int .i64 x.c); go_simp) hql hB4.size
        have hrun6H := Lib.hid hrun6
        have hB6H := Lib.hid (hB4.trans (hR4.grown hG6 hB4.size))
        have hR6H := Lib.hid hR6
        have hntH : Hid (q ++ [x] = nn (l.take (i + 1))) := Lib.hid hnt.symm
        have hlx : (q ++ [x]).length = q.length + 1 := by rw [List.length_append]; rfl
        have hqi4 : (q ++ [x]).length ≤ i + 1 := by rw [hlx]; exact hqi3
        clear hrun6 hR6 hG6 hR4 hB4 hnt
        go_wp2_with (at_builtin; refine append_run_wp rfl _ _ _ rfl rfl rfl hrun6H.out ?_)
        go_roundw
        case rel => exact ⟨i + 1, q ++ [x], A3, cap3, by go_num, by rw [hlx], hlt, hqi4, hntH, hR6H, hB6H⟩
        case measure => simp [intOf]; exact hm
end Go.Proofs.Ytpgnajcbahklgaa
