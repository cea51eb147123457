/- The document's Live. -/
import Derived.Test.YtbgkmppngnedlaaLnA
namespace Go.Proofs.Ytbgkmppngnedlaa
open Go.RowKit

theorem ad_none (W : World) (base : Nat) (B : Option Addr) (capB : Nat) (l : List Ad) (h : adE.Row W base 60 B capB l) : (Builtin.append_ #[56, 56] 56 #[.slice B l.length capB, .slice none 0 0]).run Try.prog W = .ok (.slice B l.length capB) W := by
  have hinf := infAd
  unfold Enc.Inf at hinf
  rw [Option.map_eq_some_iff] at hinf
  obtain ⟨i0, hi, _⟩ := hinf
  exact run_append_owned_none _ base 56 56 60 i0 6 Try.underlying56 hi _ _ _ h
def RlPost (w : World) (l : List Ad) (z : Int) (e : Ending) (w' : World) : Prop := ∃ A cap, e = .returned (.slice A (lvK l z l.length).length cap) ∧ adE.Row w' w.heap.size 60 A cap (lvK l z l.length) ∧ Below w.heap.size w w'
set_option maxRecDepth 100000 in
set_option maxHeartbeats 8000000 in
theorem rlive_any (w : World) (Ain : Option Addr) (cap : Nat) (l : List Ad) (z : Int) (hI : adE.In w Ain l) (hs : SortA l) (hl : l.length ≤ 1000) : Calls Try.prog 32 #[.slice Ain l.length cap, .int .i64 z] w (RlPost w l z) := by
  have hIH := Lib.hid (fun W (hb : Below w.heap.size w W) => hI.below hb)
  have hnw := Lib.hid (fun W (hb : Below w.heap.size w W) b => rnewest_any W Ain cap l b (hI.below hb) hl)
  have hB0 := Lib.hid (Below.refl w.heap.size w)
  have hR0 : Hid (adE.Row w w.heap.size 60 none 0 (lvK l z 0)) := Lib.hid (Enc.Row.nil _ _ _)
  have hsH := Lib.hid hs
  clear hI hs
  unfold RlPost
  obtain ⟨n, hn⟩ : ∃ n, l.length = n := ⟨_, rfl⟩
  rw [hn] at hl hnw ⊢
  have hnH := Lib.hid hn
  clear hn
  go_enter Try.func32, Try.ntmps32
  go_wp2_with fail
  go_loopw [5, 6] (fun ov iv wr => ∃ (k m : Nat) (A : Option Addr) (c : Nat), k ≤ n ∧ iv = .int .i64 (k : Int) ∧ ov = .slice A m c ∧ Hid (m = (lvK l z k).length) ∧ Hid (adE.Row wr w.heap.size 60 A c (lvK l z k)) ∧ Hid (Below w.heap.size w wr)) (fun _ iv _ => n - (Go.RowKit.intOf iv).toNat)
  case atStart => exact ⟨0, 0, none, 0, Nat.zero_le _, rfl, rfl, Lib.hid rfl, hR0, hB0⟩
  case round =>
    clear hR0 hB0
    obtain ⟨k, m, A, c, hkn, rfl, rfl, hmm, hR, hB⟩ := hrel
    by_cases hlt : k < n
    case neg =>
      have hke : k = n := by omega
      subst hke
      have hkI : ¬ (k : Int) < (k : Int) := by omega
      go_wp2_with fail
      go_ret
      exact ⟨A, c, by first | (rw [← hmm.out]; done) | (rw [← hmm.out]; rfl), hR.out, hB.out⟩
    case pos =>
      have hkl : k < l.length := by rw [hnH.out]; exact hlt
      have hkI : (k : Int) < (n : Int) := by omega
      have hkw : IntKind.i64.wrap ((k : Int) + 1) = (k : Int) + 1 := IntWalk.i64_in _ (by omega)
      obtain ⟨eb, eo, hAin, hebl, e0, e1, e2, e3, e4, e5⟩ := adin_at (hIH.out wr hB.out) hkl
      subst hAin
      have hinl : Hid (inL l z k = (l[k].z == z && nwK l l[k].b n == some k)) := Lib.hid (by unfold inL; rw [adAt_eq hkl, hnH.out])
      have hcall := Lib.hid (hnw.out wr hB.out l[k].b)
      have hq0 : wr.cell? ⟨eb, eo + k * 6, none⟩ = some (.int .i64 l[k].z) := e0
      have hq4 : wr.cell? ⟨eb, eo + k * 6 + 4, none⟩ = some (.int .i64 l[k].b) := e4
      clear e0 e1 e2 e3 e4 e5
      generalize hxz : l[k].z = xz at hq0 hinl
      generalize hxb : l[k].b = xb at hq4 hinl hcall
      clear hxz hxb
      by_cases hz : xz = z
      case neg =>
        have hzb : (xz != z) = true := by simp [hz]
        have hsk : Hid (lvK l z (k + 1) = lvK l z k) := Lib.hid (by show (if inL l z k = true then _ else _) = _; rw [hinl.out, if_neg]; simp [hz])
        clear hinl hcall
        go_wp2_with fail
        go_roundw
        case rel => exact ⟨k + 1, m, A, c, hlt, by go_num, rfl, Lib.hid (by rw [hsk.out]; exact hmm.out), Lib.hid (by rw [hsk.out]; exact hR.out), hB⟩
        case measure => simp only [Go.RowKit.intOf]; omega
      case pos =>
        subst hz
        have hzb : (xz != xz) = false := by simp
        cases hnv : nwK l xb n == some k with
        | false =>
          have hsk : Hid (lvK l xz (k + 1) = lvK l xz k) := Lib.hid (by show (if inL l xz k = true then _ else _) = _; rw [hinl.out, hnv, if_neg]; simp)
          have hneq : (optI (nwK l xb n) != (k : Int)) = true := by
            cases ho : nwK l xb n with
            | none => first | (simp [optI]; done) | (simp [optI]; omega)
            | some p => rw [ho] at hnv; simp only [beq_eq_false_iff_ne, ne_eq, Option.some.injEq] at hnv; simp [optI]; omega
          generalize optI (nwK l xb n) = v at hcall hneq
          clear hinl hnv
          go_wp2_with fail
          (with_reducible refine hcall.out.mono ?_)
          rintro e w6 ⟨rfl, hb6⟩
          have hR6 := Lib.hid (hR.out.below hb6)
          have hB6 := Lib.hid (hB.out.trans (hb6.mono hB.out.size))
          clear hb6 hR hB hcall hq0 hq4
          go_wp2_with fail
          go_roundw
          case rel => exact ⟨k + 1, m, A, c, hlt, by go_num, rfl, Lib.hid (by rw [hsk.out]; exact hmm.out), Lib.hid (by rw [hsk.out]; exact hR6.out), hB6⟩
          case measure => simp only [Go.RowKit.intOf]; omega
        | true =>
          have hsuc : Hid (lvK l xz (k + 1) = lvK l xz k ++ [adAt l k]) := Lib.hid (by show (if inL l xz k = true then _ else _) = _; rw [hinl.out, hnv, if_pos]; simp)
          have hneq : (optI (nwK l xb n) != (k : Int)) = false := by
            rw [beq_iff_eq] at hnv
            rw [hnv]
            simp [optI]
          generalize optI (nwK l xb n) = v at hcall hneq
          obtain ⟨z, hzz⟩ : ∃ z, xz = z := ⟨_, rfl⟩
          have hxz2 := Lib.hid hzz
          clear hinl hnv
          go_wp2_with fail
          (with_reducible refine hcall.out.mono ?_)
          rintro e w6 ⟨rfl, hb6⟩
          have hR6 := Lib.hid (hR.out.below hb6)
          have hB6 := Lib.hid (hB.out.trans (hb6.mono hB.out.size))
          clear hb6 hR hB hcall hq0 hq4
          go_wp2_with fail
          go_loopw [7] (fun jv wq => ∃ j : Nat, j ≤ m ∧ jv = .int .i64 (j : Int) ∧ Hid (adE.Row wq w.heap.size 60 A c (lvK l xz k)) ∧ Hid (Below w.heap.size w wq)) (fun jv _ => m - (Go.RowKit.intOf jv).toNat)
          case atStart => exact ⟨0, Nat.zero_le _, rfl, hR6, hB6⟩
          case round =>
            clear hR6 hB6
            obtain ⟨j, hjm, rfl, hRq, hBq⟩ := hrel
            by_cases hjl : j < m
            case pos =>
              have hjI : (j : Int) < (m : Int) := by omega
              have hjw : IntKind.i64.wrap ((j : Int) + 1) = (j : Int) + 1 := IntWalk.i64_in _ (by have := hmm.out; have := lvK_len l xz k; omega)
              have hjl2 : j < (lvK l xz k).length := by rw [← hmm.out]; exact hjl
              obtain ⟨g, rfl, hgb, hgl, -, hc, -⟩ := hRq.out.at_ hjl2
              have c1 := hc 1 (by decide)
              have c2 := hc 2 (by decide)
              have hbef := lvK_before hsH.out xz hkl (List.getElem_mem hjl2)
              rw [adAt_eq hkl] at hbef
              obtain ⟨eb', eo', hAin, hebl', e0, e1, e2, e3, e4, e5⟩ := adin_at (hIH.out wr hBq.out) hkl
              simp only [Option.some.injEq, Addr.mk.injEq, and_true] at hAin
              obtain ⟨rfl, rfl⟩ := hAin
              replace c1 : wr.cell? ⟨g, j * 6 + 1, none⟩ = some (.int .i64 (lvK l xz k)[j].a) := c1
              replace c2 : wr.cell? ⟨g, j * 6 + 2, none⟩ = some (.int .i64 (lvK l xz k)[j].e) := c2
              unfold adLt at hbef
              generalize (lvK l xz k)[j].a = ya at c1 hbef
              generalize (lvK l xz k)[j].e = ye at c2 hbef
              generalize l[k].a = xa at e1 hbef
              generalize l[k].e = xe at e2 hbef
              obtain ⟨Wd, hWd, hRd, hBd, d1, d2, f1, f2⟩ : ∃ Wd, Wd = wr.drew ∧ Hid (adE.Row Wd w.heap.size 60 (some ⟨g, 0, none⟩) c (lvK l xz k)) ∧ Hid (Below w.heap.size w Wd) ∧ Wd.cell? ⟨g, j * 6 + 1, none⟩ = some (.int .i64 ya) ∧ Wd.cell? ⟨g, j * 6 + 2, none⟩ = some (.int .i64 ye) ∧ Wd.cell? ⟨eb, eo + k * 6 + 1, none⟩ = some (.int .i64 xa) ∧ Wd.cell? ⟨eb, eo + k * 6 + 2, none⟩ = some (.int .i64 xe) :=
                ⟨_, rfl, Lib.hid (hRq.out.below (Below.refl _ _).drew), Lib.hid hBq.out.drew, c1, c2, e1, e2⟩
              have hWdH := Lib.hid hWd
              clear hc c1 c2 e0 e1 e2 e3 e4 e5 hWd hRq hBq hjl2
              go_upto_region 7 with fail
              have hS0 : (fun V => V = Wd) Wd := rfl
              go_cut [75] from 33 to 75 (fun v W => v = .bool true ∧ W = Wd)
              case first =>
                by_cases hya : ya < xa
                case pos =>
                  have hyI : decide (ya < xa) = true := decide_eq_true hya
                  clear hbef
                  refine region_anyC (fun _ => true) (fun V => V = Wd) (by kernel_rfl) ?_
                  rw [← hWdH.out]
                  refine anyL_take 0 (v := ?_) rfl (by kernel_rfl) (fun _ _ _ h => h) (Or.inl ⟨by rfl, ?_⟩) hS0 ?_
                  rotate_left
                  focus (intro W hW; go_simp; try with_reducible rfl)
                  simp only [Act.put, List.setIfInBounds_toArray, List.set_cons_zero, List.set_cons_succ]
                  refine anyL_take 1 (v := ?_) rfl (by kernel_rfl) (fun _ _ _ h => h) (Or.inl ⟨by rfl, ?_⟩) hS0 ?_
                  rotate_left
                  focus (intro W hW; go_simp; try with_reducible rfl)
                  simp only [Act.put, List.setIfInBounds_toArray, List.set_cons_zero, List.set_cons_succ]
                  refine anyL_take 2 (v := ?_) rfl (by kernel_rfl) (fun _ _ _ h => h) (Or.inl ⟨by rfl, ?_⟩) hS0 ?_
                  rotate_left
                  focus (intro W hW; go_simp; try with_reducible rfl)
                  simp only [Act.put, List.setIfInBounds_toArray, List.set_cons_zero, List.set_cons_succ]
                  refine anyL_take 3 (v := ?_) rfl (by kernel_rfl) (fun _ _ _ h => h) (Or.inl ⟨by rfl, ?_⟩) hS0 ?_
                  rotate_left
                  focus (intro W hW; go_simp; try with_reducible rfl)
                  simp only [Act.put, List.setIfInBounds_toArray, List.set_cons_zero, List.set_cons_succ]
                  refine anyL_take 4 (v := ?_) rfl (by kernel_rfl) (fun _ _ _ h => h) (Or.inl ⟨by rfl, ?_⟩) hS0 ?_
                  rotate_left
                  focus (intro W hW; go_simp; try with_reducible rfl)
                  simp only [Act.put, List.setIfInBounds_toArray, List.set_cons_zero, List.set_cons_succ]
                  refine anyL_take 5 (v := ?_) rfl (by kernel_rfl) (fun _ _ _ h => h) (Or.inl ⟨by rfl, ?_⟩) hS0 ?_
                  rotate_left
                  focus (intro W hW; go_simp; try with_reducible rfl)
                  simp only [Act.put, List.setIfInBounds_toArray, List.set_cons_zero, List.set_cons_succ]
                  refine anyL_take 6 (v := ?_) rfl (by kernel_rfl) (fun _ _ _ h => h) (Or.inl ⟨by rfl, ?_⟩) hS0 ?_
                  rotate_left
                  focus (intro W hW; go_simp; try with_reducible rfl)
                  simp only [Act.put, List.setIfInBounds_toArray, List.set_cons_zero, List.set_cons_succ]
                  refine anyL_take 7 (v := ?_) rfl (by kernel_rfl) (fun _ _ _ h => h) (Or.inl ⟨by rfl, ?_⟩) hS0 ?_
                  rotate_left
                  focus (intro W hW; go_simp; try with_reducible rfl)
                  simp only [Act.put, List.setIfInBounds_toArray, List.set_cons_zero, List.set_cons_succ]
                  refine anyL_take 8 (v := ?_) rfl (by kernel_rfl) (fun _ _ _ h => h) (Or.inl ⟨by rfl, ?_⟩) hS0 ?_
                  rotate_left
                  focus (intro W hW; go_simp; try with_reducible rfl)
                  simp only [Act.put, List.setIfInBounds_toArray, List.set_cons_zero, List.set_cons_succ]
                  refine anyL_take 9 (v := ?_) rfl (by kernel_rfl) (fun _ _ _ h => h) (Or.inl ⟨by rfl, ?_⟩) hS0 ?_
                  rotate_left
                  focus (intro W hW; obtain rfl := hW; go_simp; try with_reducible rfl)
                  simp only [Act.put, List.setIfInBounds_toArray, List.set_cons_zero, List.set_cons_succ]
                  refine anyL_take 10 (v := ?_) rfl (by kernel_rfl) (fun _ _ _ h => h) (Or.inl ⟨by rfl, ?_⟩) hS0 ?_
                  rotate_left
                  focus (intro W hW; go_simp; try with_reducible rfl)
                  simp only [Act.put, List.setIfInBounds_toArray, List.set_cons_zero, List.set_cons_succ]
                  refine anyL_take 11 (v := ?_) rfl (by kernel_rfl) (fun _ _ _ h => h) (Or.inl ⟨by rfl, ?_⟩) hS0 ?_
                  rotate_left
                  focus (intro W hW; go_simp; try with_reducible rfl)
                  simp only [Act.put, List.setIfInBounds_toArray, List.set_cons_zero, List.set_cons_succ]
                  refine anyL_take 12 (v := ?_) rfl (by kernel_rfl) (fun _ _ _ h => h) (Or.inl ⟨by rfl, ?_⟩) hS0 ?_
                  rotate_left
                  focus (intro W hW; go_simp; try with_reducible rfl)
                  simp only [Act.put, List.setIfInBounds_toArray, List.set_cons_zero, List.set_cons_succ]
                  refine anyL_take 13 (v := ?_) rfl (by kernel_rfl) (fun _ _ _ h => h) (Or.inl ⟨by rfl, ?_⟩) hS0 ?_
                  rotate_left
                  focus (intro W hW; go_simp; try with_reducible rfl)
                  simp only [Act.put, List.setIfInBounds_toArray, List.set_cons_zero, List.set_cons_succ]
                  refine anyL_take 14 (v := ?_) rfl (by kernel_rfl) (fun _ _ _ h => h) (Or.inl ⟨by rfl, ?_⟩) hS0 ?_
                  rotate_left
                  focus (intro W hW; obtain rfl := hW; go_simp; try with_reducible rfl)
                  simp only [Act.put, List.setIfInBounds_toArray, List.set_cons_zero, List.set_cons_succ]
                  refine anyL_take 15 (v := ?_) rfl (by kernel_rfl) (fun _ _ _ h => h) (Or.inl ⟨by rfl, ?_⟩) hS0 ?_
                  rotate_left
                  focus (intro W hW; go_simp; try with_reducible rfl)
                  simp only [Act.put, List.setIfInBounds_toArray, List.set_cons_zero, List.set_cons_succ]
                  refine anyL_take 16 (v := ?_) rfl (by kernel_rfl) (fun _ _ _ h => h) (Or.inl ⟨by rfl, ?_⟩) hS0 ?_
                  rotate_left
                  focus (intro W hW; go_simp; try with_reducible rfl)
                  simp only [Act.put, List.setIfInBounds_toArray, List.set_cons_zero, List.set_cons_succ]
                  refine anyL_take 17 (v := undef) rfl (by kernel_rfl) (fun _ _ _ h => h) (Or.inr ⟨by rfl, rfl⟩) hS0 ?_
                  simp only [Act.put, List.setIfInBounds_toArray, List.set_cons_zero, List.set_cons_succ]
                  refine anyL_take 18 (v := undef) rfl (by kernel_rfl) (fun _ _ _ h => h) (Or.inr ⟨by rfl, rfl⟩) hS0 ?_
                  simp only [Act.put, List.setIfInBounds_toArray, List.set_cons_zero, List.set_cons_succ]
                  refine anyL_take 19 (v := undef) rfl (by kernel_rfl) (fun _ _ _ h => h) (Or.inr ⟨by rfl, rfl⟩) hS0 ?_
                  simp only [Act.put, List.setIfInBounds_toArray, List.set_cons_zero, List.set_cons_succ]
                  refine anyL_take 20 (v := undef) rfl (by kernel_rfl) (fun _ _ _ h => h) (Or.inr ⟨by rfl, rfl⟩) hS0 ?_
                  simp only [Act.put, List.setIfInBounds_toArray, List.set_cons_zero, List.set_cons_succ]
                  refine anyL_take 21 (v := undef) rfl (by kernel_rfl) (fun _ _ _ h => h) (Or.inr ⟨by rfl, rfl⟩) hS0 ?_
                  simp only [Act.put, List.setIfInBounds_toArray, List.set_cons_zero, List.set_cons_succ]
                  refine anyL_take 22 (v := undef) rfl (by kernel_rfl) (fun _ _ _ h => h) (Or.inr ⟨by rfl, rfl⟩) hS0 ?_
                  simp only [Act.put, List.setIfInBounds_toArray, List.set_cons_zero, List.set_cons_succ]
                  refine anyL_take 23 (v := undef) rfl (by kernel_rfl) (fun _ _ _ h => h) (Or.inr ⟨by rfl, rfl⟩) hS0 ?_
                  simp only [Act.put, List.setIfInBounds_toArray, List.set_cons_zero, List.set_cons_succ]
                  refine anyL_take 24 (v := undef) rfl (by kernel_rfl) (fun _ _ _ h => h) (Or.inr ⟨by rfl, rfl⟩) hS0 ?_
                  simp only [Act.put, List.setIfInBounds_toArray, List.set_cons_zero, List.set_cons_succ]
                  refine anyL_take 25 (v := undef) rfl (by kernel_rfl) (fun _ _ _ h => h) (Or.inr ⟨by rfl, rfl⟩) hS0 ?_
                  simp only [Act.put, List.setIfInBounds_toArray, List.set_cons_zero, List.set_cons_succ]
                  refine anyL_take 26 (v := undef) rfl (by kernel_rfl) (fun _ _ _ h => h) (Or.inr ⟨by rfl, rfl⟩) hS0 ?_
                  simp only [Act.put, List.setIfInBounds_toArray, List.set_cons_zero, List.set_cons_succ]
                  refine anyL_take 27 (v := undef) rfl (by kernel_rfl) (fun _ _ _ h => h) (Or.inr ⟨by rfl, rfl⟩) hS0 ?_
                  simp only [Act.put, List.setIfInBounds_toArray, List.set_cons_zero, List.set_cons_succ]
                  refine anyL_take 28 (v := undef) rfl (by kernel_rfl) (fun _ _ _ h => h) (Or.inr ⟨by rfl, rfl⟩) hS0 ?_
                  simp only [Act.put, List.setIfInBounds_toArray, List.set_cons_zero, List.set_cons_succ]
                  refine anyL_take 29 (v := undef) rfl (by kernel_rfl) (fun _ _ _ h => h) (Or.inr ⟨by rfl, rfl⟩) hS0 ?_
                  simp only [Act.put, List.setIfInBounds_toArray, List.set_cons_zero, List.set_cons_succ]
                  refine anyL_take 30 (v := undef) rfl (by kernel_rfl) (fun _ _ _ h => h) (Or.inr ⟨by rfl, rfl⟩) hS0 ?_
                  simp only [Act.put, List.setIfInBounds_toArray, List.set_cons_zero, List.set_cons_succ]
                  refine anyL_take 31 (v := undef) rfl (by kernel_rfl) (fun _ _ _ h => h) (Or.inr ⟨by rfl, rfl⟩) hS0 ?_
                  simp only [Act.put, List.setIfInBounds_toArray, List.set_cons_zero, List.set_cons_succ]
                  refine anyL_take 32 (v := undef) rfl (by kernel_rfl) (fun _ _ _ h => h) (Or.inr ⟨by rfl, rfl⟩) hS0 ?_
                  simp only [Act.put, List.setIfInBounds_toArray, List.set_cons_zero, List.set_cons_succ]
                  refine anyL_take 33 (v := undef) rfl (by kernel_rfl) (fun _ _ _ h => h) (Or.inr ⟨by rfl, rfl⟩) hS0 ?_
                  simp only [Act.put, List.setIfInBounds_toArray, List.set_cons_zero, List.set_cons_succ]
                  refine anyL_take 34 (v := undef) rfl (by kernel_rfl) (fun _ _ _ h => h) (Or.inr ⟨by rfl, rfl⟩) hS0 ?_
                  simp only [Act.put, List.setIfInBounds_toArray, List.set_cons_zero, List.set_cons_succ]
                  refine anyL_take 35 (v := undef) rfl (by kernel_rfl) (fun _ _ _ h => h) (Or.inr ⟨by rfl, rfl⟩) hS0 ?_
                  simp only [Act.put, List.setIfInBounds_toArray, List.set_cons_zero, List.set_cons_succ]
                  refine anyL_take 36 (v := undef) rfl (by kernel_rfl) (fun _ _ _ h => h) (Or.inr ⟨by rfl, rfl⟩) hS0 ?_
                  simp only [Act.put, List.setIfInBounds_toArray, List.set_cons_zero, List.set_cons_succ]
                  refine anyL_take 37 (v := undef) rfl (by kernel_rfl) (fun _ _ _ h => h) (Or.inr ⟨by rfl, rfl⟩) hS0 ?_
                  simp only [Act.put, List.setIfInBounds_toArray, List.set_cons_zero, List.set_cons_succ]
                  refine anyL_take 38 (v := undef) rfl (by kernel_rfl) (fun _ _ _ h => h) (Or.inr ⟨by rfl, rfl⟩) hS0 ?_
                  simp only [Act.put, List.setIfInBounds_toArray, List.set_cons_zero, List.set_cons_succ]
                  refine anyL_take 39 (v := undef) rfl (by kernel_rfl) (fun _ _ _ h => h) (Or.inr ⟨by rfl, rfl⟩) hS0 ?_
                  simp only [Act.put, List.setIfInBounds_toArray, List.set_cons_zero, List.set_cons_succ]
                  refine anyL_take 40 (v := undef) rfl (by kernel_rfl) (fun _ _ _ h => h) (Or.inr ⟨by rfl, rfl⟩) hS0 ?_
                  simp only [Act.put, List.setIfInBounds_toArray, List.set_cons_zero, List.set_cons_succ]
                  refine anyL_take 41 (v := ?_) rfl (by kernel_rfl) (fun _ _ _ h => h) (Or.inl ⟨by rfl, ?_⟩) hS0 ?_
                  rotate_left
                  focus (intro W hW; go_simp; try with_reducible rfl)
                  simp only [Act.put, List.setIfInBounds_toArray, List.set_cons_zero, List.set_cons_succ]
                  refine anyL_take 42 (v := ?_) rfl (by kernel_rfl) (fun _ _ _ h => h) (Or.inl ⟨by rfl, ?_⟩) hS0 ?_
                  rotate_left
                  focus (intro W hW; go_simp; try with_reducible rfl)
                  simp only [Act.put, List.setIfInBounds_toArray, List.set_cons_zero, List.set_cons_succ]
                  refine anyC_done (by kernel_rfl) ?_ _
                  go_wp2_with fail
                  go_meet
                  exact ⟨rfl, rfl⟩
                case neg =>
                  have hyI : decide (ya < xa) = false := decide_eq_false hya
                  have hyeq : (ya == xa) = true := by simp; omega
                  have hye : decide (ye ≤ xe) = true := by simp; omega
                  clear hbef
                  refine region_anyC (fun _ => true) (fun V => V = Wd) (by kernel_rfl) ?_
                  rw [← hWdH.out]
                  refine anyL_take 0 (v := ?_) rfl (by kernel_rfl) (fun _ _ _ h => h) (Or.inl ⟨by rfl, ?_⟩) hS0 ?_
                  rotate_left
                  focus (intro W hW; go_simp; try with_reducible rfl)
                  simp only [Act.put, List.setIfInBounds_toArray, List.set_cons_zero, List.set_cons_succ]
                  refine anyL_take 1 (v := ?_) rfl (by kernel_rfl) (fun _ _ _ h => h) (Or.inl ⟨by rfl, ?_⟩) hS0 ?_
                  rotate_left
                  focus (intro W hW; go_simp; try with_reducible rfl)
                  simp only [Act.put, List.setIfInBounds_toArray, List.set_cons_zero, List.set_cons_succ]
                  refine anyL_take 2 (v := ?_) rfl (by kernel_rfl) (fun _ _ _ h => h) (Or.inl ⟨by rfl, ?_⟩) hS0 ?_
                  rotate_left
                  focus (intro W hW; go_simp; try with_reducible rfl)
                  simp only [Act.put, List.setIfInBounds_toArray, List.set_cons_zero, List.set_cons_succ]
                  refine anyL_take 3 (v := ?_) rfl (by kernel_rfl) (fun _ _ _ h => h) (Or.inl ⟨by rfl, ?_⟩) hS0 ?_
                  rotate_left
                  focus (intro W hW; go_simp; try with_reducible rfl)
                  simp only [Act.put, List.setIfInBounds_toArray, List.set_cons_zero, List.set_cons_succ]
                  refine anyL_take 4 (v := ?_) rfl (by kernel_rfl) (fun _ _ _ h => h) (Or.inl ⟨by rfl, ?_⟩) hS0 ?_
                  rotate_left
                  focus (intro W hW; go_simp; try with_reducible rfl)
                  simp only [Act.put, List.setIfInBounds_toArray, List.set_cons_zero, List.set_cons_succ]
                  refine anyL_take 5 (v := ?_) rfl (by kernel_rfl) (fun _ _ _ h => h) (Or.inl ⟨by rfl, ?_⟩) hS0 ?_
                  rotate_left
                  focus (intro W hW; go_simp; try with_reducible rfl)
                  simp only [Act.put, List.setIfInBounds_toArray, List.set_cons_zero, List.set_cons_succ]
                  refine anyL_take 6 (v := ?_) rfl (by kernel_rfl) (fun _ _ _ h => h) (Or.inl ⟨by rfl, ?_⟩) hS0 ?_
                  rotate_left
                  focus (intro W hW; go_simp; try with_reducible rfl)
                  simp only [Act.put, List.setIfInBounds_toArray, List.set_cons_zero, List.set_cons_succ]
                  refine anyL_take 7 (v := ?_) rfl (by kernel_rfl) (fun _ _ _ h => h) (Or.inl ⟨by rfl, ?_⟩) hS0 ?_
                  rotate_left
                  focus (intro W hW; go_simp; try with_reducible rfl)
                  simp only [Act.put, List.setIfInBounds_toArray, List.set_cons_zero, List.set_cons_succ]
                  refine anyL_take 8 (v := ?_) rfl (by kernel_rfl) (fun _ _ _ h => h) (Or.inl ⟨by rfl, ?_⟩) hS0 ?_
                  rotate_left
                  focus (intro W hW; go_simp; try with_reducible rfl)
                  simp only [Act.put, List.setIfInBounds_toArray, List.set_cons_zero, List.set_cons_succ]
                  refine anyL_take 9 (v := ?_) rfl (by kernel_rfl) (fun _ _ _ h => h) (Or.inl ⟨by rfl, ?_⟩) hS0 ?_
                  rotate_left
                  focus (intro W hW; obtain rfl := hW; go_simp; try with_reducible rfl)
                  simp only [Act.put, List.setIfInBounds_toArray, List.set_cons_zero, List.set_cons_succ]
                  refine anyL_take 10 (v := ?_) rfl (by kernel_rfl) (fun _ _ _ h => h) (Or.inl ⟨by rfl, ?_⟩) hS0 ?_
                  rotate_left
                  focus (intro W hW; go_simp; try with_reducible rfl)
                  simp only [Act.put, List.setIfInBounds_toArray, List.set_cons_zero, List.set_cons_succ]
                  refine anyL_take 11 (v := ?_) rfl (by kernel_rfl) (fun _ _ _ h => h) (Or.inl ⟨by rfl, ?_⟩) hS0 ?_
                  rotate_left
                  focus (intro W hW; go_simp; try with_reducible rfl)
                  simp only [Act.put, List.setIfInBounds_toArray, List.set_cons_zero, List.set_cons_succ]
                  refine anyL_take 12 (v := ?_) rfl (by kernel_rfl) (fun _ _ _ h => h) (Or.inl ⟨by rfl, ?_⟩) hS0 ?_
                  rotate_left
                  focus (intro W hW; go_simp; try with_reducible rfl)
                  simp only [Act.put, List.setIfInBounds_toArray, List.set_cons_zero, List.set_cons_succ]
                  refine anyL_take 13 (v := ?_) rfl (by kernel_rfl) (fun _ _ _ h => h) (Or.inl ⟨by rfl, ?_⟩) hS0 ?_
                  rotate_left
                  focus (intro W hW; go_simp; try with_reducible rfl)
                  simp only [Act.put, List.setIfInBounds_toArray, List.set_cons_zero, List.set_cons_succ]
                  refine anyL_take 14 (v := ?_) rfl (by kernel_rfl) (fun _ _ _ h => h) (Or.inl ⟨by rfl, ?_⟩) hS0 ?_
                  rotate_left
                  focus (intro W hW; obtain rfl := hW; go_simp; try with_reducible rfl)
                  simp only [Act.put, List.setIfInBounds_toArray, List.set_cons_zero, List.set_cons_succ]
                  refine anyL_take 15 (v := ?_) rfl (by kernel_rfl) (fun _ _ _ h => h) (Or.inl ⟨by rfl, ?_⟩) hS0 ?_
                  rotate_left
                  focus (intro W hW; go_simp; try with_reducible rfl)
                  simp only [Act.put, List.setIfInBounds_toArray, List.set_cons_zero, List.set_cons_succ]
                  refine anyL_take 16 (v := ?_) rfl (by kernel_rfl) (fun _ _ _ h => h) (Or.inl ⟨by rfl, ?_⟩) hS0 ?_
                  rotate_left
                  focus (intro W hW; go_simp; try with_reducible rfl)
                  simp only [Act.put, List.setIfInBounds_toArray, List.set_cons_zero, List.set_cons_succ]
                  refine anyL_take 17 (v := ?_) rfl (by kernel_rfl) (fun _ _ _ h => h) (Or.inl ⟨by rfl, ?_⟩) hS0 ?_
                  rotate_left
                  focus (intro W hW; go_simp; try with_reducible rfl)
                  simp only [Act.put, List.setIfInBounds_toArray, List.set_cons_zero, List.set_cons_succ]
                  refine anyL_take 18 (v := ?_) rfl (by kernel_rfl) (fun _ _ _ h => h) (Or.inl ⟨by rfl, ?_⟩) hS0 ?_
                  rotate_left
                  focus (intro W hW; go_simp; try with_reducible rfl)
                  simp only [Act.put, List.setIfInBounds_toArray, List.set_cons_zero, List.set_cons_succ]
                  refine anyL_take 19 (v := ?_) rfl (by kernel_rfl) (fun _ _ _ h => h) (Or.inl ⟨by rfl, ?_⟩) hS0 ?_
                  rotate_left
                  focus (intro W hW; go_simp; try with_reducible rfl)
                  simp only [Act.put, List.setIfInBounds_toArray, List.set_cons_zero, List.set_cons_succ]
                  refine anyL_take 20 (v := ?_) rfl (by kernel_rfl) (fun _ _ _ h => h) (Or.inl ⟨by rfl, ?_⟩) hS0 ?_
                  rotate_left
                  focus (intro W hW; go_simp; try with_reducible rfl)
                  simp only [Act.put, List.setIfInBounds_toArray, List.set_cons_zero, List.set_cons_succ]
                  refine anyL_take 21 (v := ?_) rfl (by kernel_rfl) (fun _ _ _ h => h) (Or.inl ⟨by rfl, ?_⟩) hS0 ?_
                  rotate_left
                  focus (intro W hW; obtain rfl := hW; go_simp; try with_reducible rfl)
                  simp only [Act.put, List.setIfInBounds_toArray, List.set_cons_zero, List.set_cons_succ]
                  refine anyL_take 22 (v := ?_) rfl (by kernel_rfl) (fun _ _ _ h => h) (Or.inl ⟨by rfl, ?_⟩) hS0 ?_
                  rotate_left
                  focus (intro W hW; go_simp; try with_reducible rfl)
                  simp only [Act.put, List.setIfInBounds_toArray, List.set_cons_zero, List.set_cons_succ]
                  refine anyL_take 23 (v := ?_) rfl (by kernel_rfl) (fun _ _ _ h => h) (Or.inl ⟨by rfl, ?_⟩) hS0 ?_
                  rotate_left
                  focus (intro W hW; go_simp; try with_reducible rfl)
                  simp only [Act.put, List.setIfInBounds_toArray, List.set_cons_zero, List.set_cons_succ]
                  refine anyL_take 24 (v := ?_) rfl (by kernel_rfl) (fun _ _ _ h => h) (Or.inl ⟨by rfl, ?_⟩) hS0 ?_
                  rotate_left
                  focus (intro W hW; go_simp; try with_reducible rfl)
                  simp only [Act.put, List.setIfInBounds_toArray, List.set_cons_zero, List.set_cons_succ]
                  refine anyL_take 25 (v := ?_) rfl (by kernel_rfl) (fun _ _ _ h => h) (Or.inl ⟨by rfl, ?_⟩) hS0 ?_
                  rotate_left
                  focus (intro W hW; go_simp; try with_reducible rfl)
                  simp only [Act.put, List.setIfInBounds_toArray, List.set_cons_zero, List.set_cons_succ]
                  refine anyL_take 26 (v := ?_) rfl (by kernel_rfl) (fun _ _ _ h => h) (Or.inl ⟨by rfl, ?_⟩) hS0 ?_
                  rotate_left
                  focus (intro W hW; obtain rfl := hW; go_simp; try with_reducible rfl)
                  simp only [Act.put, List.setIfInBounds_toArray, List.set_cons_zero, List.set_cons_succ]
                  refine anyL_take 27 (v := ?_) rfl (by kernel_rfl) (fun _ _ _ h => h) (Or.inl ⟨by rfl, ?_⟩) hS0 ?_
                  rotate_left
                  focus (intro W hW; go_simp; try with_reducible rfl)
                  simp only [Act.put, List.setIfInBounds_toArray, List.set_cons_zero, List.set_cons_succ]
                  refine anyL_take 28 (v := ?_) rfl (by kernel_rfl) (fun _ _ _ h => h) (Or.inl ⟨by rfl, ?_⟩) hS0 ?_
                  rotate_left
                  focus (intro W hW; go_simp; try with_reducible rfl)
                  simp only [Act.put, List.setIfInBounds_toArray, List.set_cons_zero, List.set_cons_succ]
                  refine anyL_take 29 (v := ?_) rfl (by kernel_rfl) (fun _ _ _ h => h) (Or.inl ⟨by rfl, ?_⟩) hS0 ?_
                  rotate_left
                  focus (intro W hW; go_simp; try with_reducible rfl)
                  simp only [Act.put, List.setIfInBounds_toArray, List.set_cons_zero, List.set_cons_succ]
                  refine anyL_take 30 (v := ?_) rfl (by kernel_rfl) (fun _ _ _ h => h) (Or.inl ⟨by rfl, ?_⟩) hS0 ?_
                  rotate_left
                  focus (intro W hW; go_simp; try with_reducible rfl)
                  simp only [Act.put, List.setIfInBounds_toArray, List.set_cons_zero, List.set_cons_succ]
                  refine anyL_take 31 (v := ?_) rfl (by kernel_rfl) (fun _ _ _ h => h) (Or.inl ⟨by rfl, ?_⟩) hS0 ?_
                  rotate_left
                  focus (intro W hW; go_simp; try with_reducible rfl)
                  simp only [Act.put, List.setIfInBounds_toArray, List.set_cons_zero, List.set_cons_succ]
                  refine anyL_take 32 (v := ?_) rfl (by kernel_rfl) (fun _ _ _ h => h) (Or.inl ⟨by rfl, ?_⟩) hS0 ?_
                  rotate_left
                  focus (intro W hW; go_simp; try with_reducible rfl)
                  simp only [Act.put, List.setIfInBounds_toArray, List.set_cons_zero, List.set_cons_succ]
                  refine anyL_take 33 (v := ?_) rfl (by kernel_rfl) (fun _ _ _ h => h) (Or.inl ⟨by rfl, ?_⟩) hS0 ?_
                  rotate_left
                  focus (intro W hW; obtain rfl := hW; go_simp; try with_reducible rfl)
                  simp only [Act.put, List.setIfInBounds_toArray, List.set_cons_zero, List.set_cons_succ]
                  refine anyL_take 34 (v := ?_) rfl (by kernel_rfl) (fun _ _ _ h => h) (Or.inl ⟨by rfl, ?_⟩) hS0 ?_
                  rotate_left
                  focus (intro W hW; go_simp; try with_reducible rfl)
                  simp only [Act.put, List.setIfInBounds_toArray, List.set_cons_zero, List.set_cons_succ]
                  refine anyL_take 35 (v := ?_) rfl (by kernel_rfl) (fun _ _ _ h => h) (Or.inl ⟨by rfl, ?_⟩) hS0 ?_
                  rotate_left
                  focus (intro W hW; go_simp; try with_reducible rfl)
                  simp only [Act.put, List.setIfInBounds_toArray, List.set_cons_zero, List.set_cons_succ]
                  refine anyL_take 36 (v := ?_) rfl (by kernel_rfl) (fun _ _ _ h => h) (Or.inl ⟨by rfl, ?_⟩) hS0 ?_
                  rotate_left
                  focus (intro W hW; go_simp; try with_reducible rfl)
                  simp only [Act.put, List.setIfInBounds_toArray, List.set_cons_zero, List.set_cons_succ]
                  refine anyL_take 37 (v := ?_) rfl (by kernel_rfl) (fun _ _ _ h => h) (Or.inl ⟨by rfl, ?_⟩) hS0 ?_
                  rotate_left
                  focus (intro W hW; go_simp; try with_reducible rfl)
                  simp only [Act.put, List.setIfInBounds_toArray, List.set_cons_zero, List.set_cons_succ]
                  refine anyL_take 38 (v := ?_) rfl (by kernel_rfl) (fun _ _ _ h => h) (Or.inl ⟨by rfl, ?_⟩) hS0 ?_
                  rotate_left
                  focus (intro W hW; obtain rfl := hW; go_simp; try with_reducible rfl)
                  simp only [Act.put, List.setIfInBounds_toArray, List.set_cons_zero, List.set_cons_succ]
                  refine anyL_take 39 (v := ?_) rfl (by kernel_rfl) (fun _ _ _ h => h) (Or.inl ⟨by rfl, ?_⟩) hS0 ?_
                  rotate_left
                  focus (intro W hW; go_simp; try with_reducible rfl)
                  simp only [Act.put, List.setIfInBounds_toArray, List.set_cons_zero, List.set_cons_succ]
                  refine anyL_take 40 (v := ?_) rfl (by kernel_rfl) (fun _ _ _ h => h) (Or.inl ⟨by rfl, ?_⟩) hS0 ?_
                  rotate_left
                  focus (intro W hW; go_simp; try with_reducible rfl)
                  simp only [Act.put, List.setIfInBounds_toArray, List.set_cons_zero, List.set_cons_succ]
                  refine anyL_take 41 (v := ?_) rfl (by kernel_rfl) (fun _ _ _ h => h) (Or.inl ⟨by rfl, ?_⟩) hS0 ?_
                  rotate_left
                  focus (intro W hW; go_simp; try with_reducible rfl)
                  simp only [Act.put, List.setIfInBounds_toArray, List.set_cons_zero, List.set_cons_succ]
                  refine anyL_take 42 (v := ?_) rfl (by kernel_rfl) (fun _ _ _ h => h) (Or.inl ⟨by rfl, ?_⟩) hS0 ?_
                  rotate_left
                  focus (intro W hW; go_simp; try with_reducible rfl)
                  simp only [Act.put, List.setIfInBounds_toArray, List.set_cons_zero, List.set_cons_succ]
                  refine anyC_done (by kernel_rfl) ?_ _
                  go_wp2_with fail
                  go_meet
                  exact ⟨rfl, rfl⟩
              obtain ⟨rfl, hWc⟩ := hcut
              rw [hWc]
              clear hWc hbef d1 d2 f1 f2
              go_wp2_with fail
              go_roundw
              case rel => exact ⟨j + 1, hjl, by go_num, hRd, hBd⟩
              case measure => simp only [Go.RowKit.intOf]; omega
            case neg =>
              have hje : j = m := by omega
              subst hje
              have hjI : ¬ (j : Int) < (j : Int) := by omega
              obtain ⟨Wd, hWd, hRd, hBd⟩ : ∃ Wd, Wd = wr.drew ∧ Hid (adE.Row Wd w.heap.size 60 A c (lvK l xz k)) ∧ Hid (Below w.heap.size w Wd) := ⟨_, rfl, Lib.hid (hRq.out.below (Below.refl _ _).drew), Lib.hid hBq.out.drew⟩
              have hWdH := Lib.hid hWd
              clear hWd hRq hBq
              go_upto_region 7 with fail
              have hS0 : (fun V => V = Wd) Wd := rfl
              go_cut [75] from 33 to 75 (fun v W => v = .bool false ∧ W = Wd)
              case first =>
                refine region_anyC (fun _ => true) (fun V => V = Wd) (by kernel_rfl) ?_
                rw [← hWdH.out]
                refine anyL_take 0 (v := ?_) rfl (by kernel_rfl) (fun _ _ _ h => h) (Or.inl ⟨by rfl, ?_⟩) hS0 ?_
                rotate_left
                focus (intro W hW; go_simp; try with_reducible rfl)
                simp only [Act.put, List.setIfInBounds_toArray, List.set_cons_zero, List.set_cons_succ]
                refine anyL_take 1 (v := ?_) rfl (by kernel_rfl) (fun _ _ _ h => h) (Or.inl ⟨by rfl, ?_⟩) hS0 ?_
                rotate_left
                focus (intro W hW; go_simp; try with_reducible rfl)
                simp only [Act.put, List.setIfInBounds_toArray, List.set_cons_zero, List.set_cons_succ]
                refine anyL_take 2 (v := ?_) rfl (by kernel_rfl) (fun _ _ _ h => h) (Or.inl ⟨by rfl, ?_⟩) hS0 ?_
                rotate_left
                focus (intro W hW; go_simp; try with_reducible rfl)
                simp only [Act.put, List.setIfInBounds_toArray, List.set_cons_zero, List.set_cons_succ]
                refine anyL_take 3 (v := ?_) rfl (by kernel_rfl) (fun _ _ _ h => h) (Or.inl ⟨by rfl, ?_⟩) hS0 ?_
                rotate_left
                focus (intro W hW; go_simp; try with_reducible rfl)
                simp only [Act.put, List.setIfInBounds_toArray, List.set_cons_zero, List.set_cons_succ]
                refine anyL_take 4 (v := ?_) rfl (by kernel_rfl) (fun _ _ _ h => h) (Or.inl ⟨by rfl, ?_⟩) hS0 ?_
                rotate_left
                focus (intro W hW; go_simp; try with_reducible rfl)
                simp only [Act.put, List.setIfInBounds_toArray, List.set_cons_zero, List.set_cons_succ]
                refine anyL_take 5 (v := undef) rfl (by kernel_rfl) (fun _ _ _ h => h) (Or.inr ⟨by rfl, rfl⟩) hS0 ?_
                simp only [Act.put, List.setIfInBounds_toArray, List.set_cons_zero, List.set_cons_succ]
                refine anyL_take 6 (v := undef) rfl (by kernel_rfl) (fun _ _ _ h => h) (Or.inr ⟨by rfl, rfl⟩) hS0 ?_
                simp only [Act.put, List.setIfInBounds_toArray, List.set_cons_zero, List.set_cons_succ]
                refine anyL_take 7 (v := undef) rfl (by kernel_rfl) (fun _ _ _ h => h) (Or.inr ⟨by rfl, rfl⟩) hS0 ?_
                simp only [Act.put, List.setIfInBounds_toArray, List.set_cons_zero, List.set_cons_succ]
                refine anyL_take 8 (v := undef) rfl (by kernel_rfl) (fun _ _ _ h => h) (Or.inr ⟨by rfl, rfl⟩) hS0 ?_
                simp only [Act.put, List.setIfInBounds_toArray, List.set_cons_zero, List.set_cons_succ]
                refine anyL_take 9 (v := undef) rfl (by kernel_rfl) (fun _ _ _ h => h) (Or.inr ⟨by rfl, rfl⟩) hS0 ?_
                simp only [Act.put, List.setIfInBounds_toArray, List.set_cons_zero, List.set_cons_succ]
                refine anyL_take 10 (v := undef) rfl (by kernel_rfl) (fun _ _ _ h => h) (Or.inr ⟨by rfl, rfl⟩) hS0 ?_
                simp only [Act.put, List.setIfInBounds_toArray, List.set_cons_zero, List.set_cons_succ]
                refine anyL_take 11 (v := undef) rfl (by kernel_rfl) (fun _ _ _ h => h) (Or.inr ⟨by rfl, rfl⟩) hS0 ?_
                simp only [Act.put, List.setIfInBounds_toArray, List.set_cons_zero, List.set_cons_succ]
                refine anyL_take 12 (v := undef) rfl (by kernel_rfl) (fun _ _ _ h => h) (Or.inr ⟨by rfl, rfl⟩) hS0 ?_
                simp only [Act.put, List.setIfInBounds_toArray, List.set_cons_zero, List.set_cons_succ]
                refine anyL_take 13 (v := undef) rfl (by kernel_rfl) (fun _ _ _ h => h) (Or.inr ⟨by rfl, rfl⟩) hS0 ?_
                simp only [Act.put, List.setIfInBounds_toArray, List.set_cons_zero, List.set_cons_succ]
                refine anyL_take 14 (v := undef) rfl (by kernel_rfl) (fun _ _ _ h => h) (Or.inr ⟨by rfl, rfl⟩) hS0 ?_
                simp only [Act.put, List.setIfInBounds_toArray, List.set_cons_zero, List.set_cons_succ]
                refine anyL_take 15 (v := undef) rfl (by kernel_rfl) (fun _ _ _ h => h) (Or.inr ⟨by rfl, rfl⟩) hS0 ?_
                simp only [Act.put, List.setIfInBounds_toArray, List.set_cons_zero, List.set_cons_succ]
                refine anyL_take 16 (v := undef) rfl (by kernel_rfl) (fun _ _ _ h => h) (Or.inr ⟨by rfl, rfl⟩) hS0 ?_
                simp only [Act.put, List.setIfInBounds_toArray, List.set_cons_zero, List.set_cons_succ]
                refine anyL_take 17 (v := undef) rfl (by kernel_rfl) (fun _ _ _ h => h) (Or.inr ⟨by rfl, rfl⟩) hS0 ?_
                simp only [Act.put, List.setIfInBounds_toArray, List.set_cons_zero, List.set_cons_succ]
                refine anyL_take 18 (v := undef) rfl (by kernel_rfl) (fun _ _ _ h => h) (Or.inr ⟨by rfl, rfl⟩) hS0 ?_
                simp only [Act.put, List.setIfInBounds_toArray, List.set_cons_zero, List.set_cons_succ]
                refine anyL_take 19 (v := undef) rfl (by kernel_rfl) (fun _ _ _ h => h) (Or.inr ⟨by rfl, rfl⟩) hS0 ?_
                simp only [Act.put, List.setIfInBounds_toArray, List.set_cons_zero, List.set_cons_succ]
                refine anyL_take 20 (v := undef) rfl (by kernel_rfl) (fun _ _ _ h => h) (Or.inr ⟨by rfl, rfl⟩) hS0 ?_
                simp only [Act.put, List.setIfInBounds_toArray, List.set_cons_zero, List.set_cons_succ]
                refine anyL_take 21 (v := undef) rfl (by kernel_rfl) (fun _ _ _ h => h) (Or.inr ⟨by rfl, rfl⟩) hS0 ?_
                simp only [Act.put, List.setIfInBounds_toArray, List.set_cons_zero, List.set_cons_succ]
                refine anyL_take 22 (v := undef) rfl (by kernel_rfl) (fun _ _ _ h => h) (Or.inr ⟨by rfl, rfl⟩) hS0 ?_
                simp only [Act.put, List.setIfInBounds_toArray, List.set_cons_zero, List.set_cons_succ]
                refine anyL_take 23 (v := undef) rfl (by kernel_rfl) (fun _ _ _ h => h) (Or.inr ⟨by rfl, rfl⟩) hS0 ?_
                simp only [Act.put, List.setIfInBounds_toArray, List.set_cons_zero, List.set_cons_succ]
                refine anyL_take 24 (v := undef) rfl (by kernel_rfl) (fun _ _ _ h => h) (Or.inr ⟨by rfl, rfl⟩) hS0 ?_
                simp only [Act.put, List.setIfInBounds_toArray, List.set_cons_zero, List.set_cons_succ]
                refine anyL_take 25 (v := undef) rfl (by kernel_rfl) (fun _ _ _ h => h) (Or.inr ⟨by rfl, rfl⟩) hS0 ?_
                simp only [Act.put, List.setIfInBounds_toArray, List.set_cons_zero, List.set_cons_succ]
                refine anyL_take 26 (v := undef) rfl (by kernel_rfl) (fun _ _ _ h => h) (Or.inr ⟨by rfl, rfl⟩) hS0 ?_
                simp only [Act.put, List.setIfInBounds_toArray, List.set_cons_zero, List.set_cons_succ]
                refine anyL_take 27 (v := undef) rfl (by kernel_rfl) (fun _ _ _ h => h) (Or.inr ⟨by rfl, rfl⟩) hS0 ?_
                simp only [Act.put, List.setIfInBounds_toArray, List.set_cons_zero, List.set_cons_succ]
                refine anyL_take 28 (v := undef) rfl (by kernel_rfl) (fun _ _ _ h => h) (Or.inr ⟨by rfl, rfl⟩) hS0 ?_
                simp only [Act.put, List.setIfInBounds_toArray, List.set_cons_zero, List.set_cons_succ]
                refine anyL_take 29 (v := undef) rfl (by kernel_rfl) (fun _ _ _ h => h) (Or.inr ⟨by rfl, rfl⟩) hS0 ?_
                simp only [Act.put, List.setIfInBounds_toArray, List.set_cons_zero, List.set_cons_succ]
                refine anyL_take 30 (v := undef) rfl (by kernel_rfl) (fun _ _ _ h => h) (Or.inr ⟨by rfl, rfl⟩) hS0 ?_
                simp only [Act.put, List.setIfInBounds_toArray, List.set_cons_zero, List.set_cons_succ]
                refine anyL_take 31 (v := undef) rfl (by kernel_rfl) (fun _ _ _ h => h) (Or.inr ⟨by rfl, rfl⟩) hS0 ?_
                simp only [Act.put, List.setIfInBounds_toArray, List.set_cons_zero, List.set_cons_succ]
                refine anyL_take 32 (v := undef) rfl (by kernel_rfl) (fun _ _ _ h => h) (Or.inr ⟨by rfl, rfl⟩) hS0 ?_
                simp only [Act.put, List.setIfInBounds_toArray, List.set_cons_zero, List.set_cons_succ]
                refine anyL_take 33 (v := undef) rfl (by kernel_rfl) (fun _ _ _ h => h) (Or.inr ⟨by rfl, rfl⟩) hS0 ?_
                simp only [Act.put, List.setIfInBounds_toArray, List.set_cons_zero, List.set_cons_succ]
                refine anyL_take 34 (v := undef) rfl (by kernel_rfl) (fun _ _ _ h => h) (Or.inr ⟨by rfl, rfl⟩) hS0 ?_
                simp only [Act.put, List.setIfInBounds_toArray, List.set_cons_zero, List.set_cons_succ]
                refine anyL_take 35 (v := undef) rfl (by kernel_rfl) (fun _ _ _ h => h) (Or.inr ⟨by rfl, rfl⟩) hS0 ?_
                simp only [Act.put, List.setIfInBounds_toArray, List.set_cons_zero, List.set_cons_succ]
                refine anyL_take 36 (v := undef) rfl (by kernel_rfl) (fun _ _ _ h => h) (Or.inr ⟨by rfl, rfl⟩) hS0 ?_
                simp only [Act.put, List.setIfInBounds_toArray, List.set_cons_zero, List.set_cons_succ]
                refine anyL_take 37 (v := undef) rfl (by kernel_rfl) (fun _ _ _ h => h) (Or.inr ⟨by rfl, rfl⟩) hS0 ?_
                simp only [Act.put, List.setIfInBounds_toArray, List.set_cons_zero, List.set_cons_succ]
                refine anyL_take 38 (v := undef) rfl (by kernel_rfl) (fun _ _ _ h => h) (Or.inr ⟨by rfl, rfl⟩) hS0 ?_
                simp only [Act.put, List.setIfInBounds_toArray, List.set_cons_zero, List.set_cons_succ]
                refine anyL_take 39 (v := undef) rfl (by kernel_rfl) (fun _ _ _ h => h) (Or.inr ⟨by rfl, rfl⟩) hS0 ?_
                simp only [Act.put, List.setIfInBounds_toArray, List.set_cons_zero, List.set_cons_succ]
                refine anyL_take 40 (v := undef) rfl (by kernel_rfl) (fun _ _ _ h => h) (Or.inr ⟨by rfl, rfl⟩) hS0 ?_
                simp only [Act.put, List.setIfInBounds_toArray, List.set_cons_zero, List.set_cons_succ]
                refine anyL_take 41 (v := undef) rfl (by kernel_rfl) (fun _ _ _ h => h) (Or.inr ⟨by rfl, rfl⟩) hS0 ?_
                simp only [Act.put, List.setIfInBounds_toArray, List.set_cons_zero, List.set_cons_succ]
                refine anyL_take 42 (v := ?_) rfl (by kernel_rfl) (fun _ _ _ h => h) (Or.inl ⟨by rfl, ?_⟩) hS0 ?_
                rotate_left
                focus (intro W hW; go_simp; try with_reducible rfl)
                simp only [Act.put, List.setIfInBounds_toArray, List.set_cons_zero, List.set_cons_succ]
                refine anyC_done (by kernel_rfl) ?_ _
                go_wp2_with fail
                go_meet
                exact ⟨rfl, rfl⟩
              obtain ⟨rfl, hWc⟩ := hcut
              rw [hWc]
              clear hWc
              subst hzz
              have hjn : j ≤ 1000 := by have := hmm.out; have := lvK_len l xz k; omega
              have hkn2 : Hid (k ≤ 1000) := Lib.hid (by omega)
              rcases hRd.out.form with ⟨rfl, rfl, hnil⟩ | ⟨g, rfl, hgb, hgl, hcap⟩
              case inl =>
                have hj0 : j = 0 := by rw [hmm.out, hnil]; rfl
                subst hj0
                have hap0 : (Builtin.append_ #[56, 56] 56 #[.slice none 0 0, .slice none 0 0]).run Try.prog Wd = .ok (.slice none 0 0) Wd := ad_none Wd w.heap.size none 0 [] (Enc.Row.nil _ _ _)
                have hap0H := Lib.hid hap0
                clear hap0
                go_upto_region 11 with (at_builtin; refine append_run_wp rfl _ _ _ rfl rfl rfl hap0H.out ?_; clear hap0H)
                have hB1row : Hid (adE.Row Wd w.heap.size 60 none 0 (lvK l xz k)) := hRd
                have hB1b := hBd
                clear hRd hBd

                refine fresh_world (fun W => adE.Row W w.heap.size 60 none 0 (lvK l xz k) ∧ True ∧ Below w.heap.size w W) ⟨hB1row.out, trivial, hB1b.out⟩ ?_
                clear hB1row hB1b
                rintro W1 ⟨hn1, ho1, hb1⟩
                obtain ⟨eb', eo', eA, hebl', e0, e1, e2, e3, e4, e5⟩ := adin_at (hIH.out W1 hb1) hkl
                simp only [Option.some.injEq, Addr.mk.injEq, and_true] at eA
                obtain ⟨rfl, rfl⟩ := eA
                have hal := (Below.refl W1.heap.size W1).alloc (Nat.le_refl _) (.cells #[.int .i64 l[k].z, .int .i64 l[k].a, .int .i64 l[k].e, .int .i64 l[k].s, .int .i64 l[k].b, .bool l[k].t] 60)
                have hn2 := hn1.below hal
                obtain ⟨B2, cb2, W2, hrun2, hrow2, hgr2, hor2⟩ := hn2.append (P := Try.prog) Try.underlying56 infAd (by decide) (by decide) (m := W1.heap.size) (x := l[k]) (fun i hi => by
                  have h1 : i < 6 := hi
                  rw [World.cell?_alloc_new]
                  rcases (by omega : i = 0 ∨ i = 1 ∨ i = 2 ∨ i = 3 ∨ i = 4 ∨ i = 5) with rfl | rfl | rfl | rfl | rfl | rfl <;> rfl) (by have := lvK_len l xz k; have := hkn2.out; omega) (by have := hb1.size; simp; omega) 56
                rw [← hmm.out] at hrun2
                have hb2a := hb1.alloc hb1.size (.cells #[.int .i64 l[k].z, .int .i64 l[k].a, .int .i64 l[k].e, .int .i64 l[k].s, .int .i64 l[k].b, .bool l[k].t] 60)
                have hb2 := Lib.hid (hb2a.trans (hn2.grown hgr2 (by have := hb1.size; simp; omega)))
                rw [← adAt_eq hkl, ← hsuc.out] at hrow2
                have hrow2H := Lib.hid hrow2
                have hrun2H := Lib.hid hrun2
                generalize l[k] = x at e0 e1 e2 e3 e4 e5 hrun2H
                clear hn1 ho1 hb1 hal hn2 hrun2 hrow2 hgr2 hor2 hb2a
                go_upto_region 12 with (at_builtin; refine append_run_wp rfl _ _ _ rfl rfl rfl hrun2H.out ?_; clear hrun2H)
                clear e0 e1 e2 e3 e4 e5
                refine fresh_world (fun W => adE.Row W w.heap.size 60 B2 cb2 (lvK l xz (k + 1)) ∧ Below w.heap.size w W) ⟨hrow2H.out, hb2.out⟩ ?_
                clear hrow2H hb2
                rintro W3 ⟨hn3, hb3⟩
                have hn3H := Lib.hid hn3
                have hb3H := Lib.hid hb3
                have hm1 : Hid (0 + 1 = (lvK l xz (k + 1)).length) := Lib.hid (by rw [hsuc.out, List.length_append, ← hmm.out]; rfl)
                have hap : (Builtin.append_ #[56, 56] 56 #[.slice B2 (0 + 1) cb2, .slice none 0 0]).run Try.prog W3 = .ok (.slice B2 (0 + 1) cb2) W3 := by rw [hm1.out]; exact ad_none W3 w.heap.size B2 cb2 _ hn3
                have hapH := Lib.hid hap
                have hfinR := hn3H
                have hfinB := hb3H
                clear hn3 hb3 hap
                go_wp2_with (at_builtin; refine append_run_wp rfl _ _ _ rfl rfl rfl hapH.out ?_; clear hapH)
                go_roundw
                case rel => exact ⟨k + 1, 0 + 1, B2, cb2, hlt, by go_num, by go_num, hm1, hfinR, hfinB⟩
                case measure => simp only [Go.RowKit.intOf]; omega
              case inr =>
                have hjc : j ≤ c := by rw [hmm.out]; exact hcap
                have hjcI : (j : Int) ≤ (c : Int) := by omega
                obtain ⟨B1, cb1, W1, hrun1, hrow1, hgr1, -⟩ := (Enc.Row.nil (E := adE) Wd Wd.heap.size 60).concat (P := Try.prog) Try.underlying56 infAd (by decide) (by decide) (ad := ⟨g, 0, none⟩) (c2 := c) (ys := lvK l xz k) hRd.out.in_ (by simp) (by rw [← hmm.out]; omega) (Nat.le_refl _) 56
                rw [← hmm.out, List.length_nil, Nat.zero_add] at hrun1
                rw [List.nil_append] at hrow1
                have hb1' := (Enc.Row.nil (E := adE) Wd Wd.heap.size 60).grown hgr1 (Nat.le_refl _)
                have hB1row : Hid (adE.Row W1 w.heap.size 60 B1 cb1 (lvK l xz k)) := Lib.hid (hrow1.mono hBd.out.size)
                have hB1b := Lib.hid (hBd.out.trans (hb1'.mono hBd.out.size))
                have hrun1H := Lib.hid hrun1
                clear hrun1 hrow1 hgr1 hb1' hcap hgb hgl
                go_upto_region 11 with (at_builtin; refine append_run_wp rfl _ _ _ rfl rfl rfl hrun1H.out ?_; clear hrun1H)
                clear hRd hBd

                refine fresh_world (fun W => adE.Row W w.heap.size 60 B1 cb1 (lvK l xz k) ∧ True ∧ Below w.heap.size w W) ⟨hB1row.out, trivial, hB1b.out⟩ ?_
                clear hB1row hB1b
                rintro W1 ⟨hn1, ho1, hb1⟩
                obtain ⟨eb', eo', eA, hebl', e0, e1, e2, e3, e4, e5⟩ := adin_at (hIH.out W1 hb1) hkl
                simp only [Option.some.injEq, Addr.mk.injEq, and_true] at eA
                obtain ⟨rfl, rfl⟩ := eA
                have hal := (Below.refl W1.heap.size W1).alloc (Nat.le_refl _) (.cells #[.int .i64 l[k].z, .int .i64 l[k].a, .int .i64 l[k].e, .int .i64 l[k].s, .int .i64 l[k].b, .bool l[k].t] 60)
                have hn2 := hn1.below hal
                obtain ⟨B2, cb2, W2, hrun2, hrow2, hgr2, hor2⟩ := hn2.append (P := Try.prog) Try.underlying56 infAd (by decide) (by decide) (m := W1.heap.size) (x := l[k]) (fun i hi => by
                  have h1 : i < 6 := hi
                  rw [World.cell?_alloc_new]
                  rcases (by omega : i = 0 ∨ i = 1 ∨ i = 2 ∨ i = 3 ∨ i = 4 ∨ i = 5) with rfl | rfl | rfl | rfl | rfl | rfl <;> rfl) (by have := lvK_len l xz k; have := hkn2.out; omega) (by have := hb1.size; simp; omega) 56
                rw [← hmm.out] at hrun2
                have hb2a := hb1.alloc hb1.size (.cells #[.int .i64 l[k].z, .int .i64 l[k].a, .int .i64 l[k].e, .int .i64 l[k].s, .int .i64 l[k].b, .bool l[k].t] 60)
                have hb2 := Lib.hid (hb2a.trans (hn2.grown hgr2 (by have := hb1.size; simp; omega)))
                rw [← adAt_eq hkl, ← hsuc.out] at hrow2
                have hrow2H := Lib.hid hrow2
                have hrun2H := Lib.hid hrun2
                generalize l[k] = x at e0 e1 e2 e3 e4 e5 hrun2H
                clear hn1 ho1 hb1 hal hn2 hrun2 hrow2 hgr2 hor2 hb2a
                go_upto_region 12 with (at_builtin; refine append_run_wp rfl _ _ _ rfl rfl rfl hrun2H.out ?_; clear hrun2H)
                clear e0 e1 e2 e3 e4 e5
                refine fresh_world (fun W => adE.Row W w.heap.size 60 B2 cb2 (lvK l xz (k + 1)) ∧ Below w.heap.size w W) ⟨hrow2H.out, hb2.out⟩ ?_
                clear hrow2H hb2
                rintro W3 ⟨hn3, hb3⟩
                have hn3H := Lib.hid hn3
                have hb3H := Lib.hid hb3
                have hm1 : Hid (j + 1 = (lvK l xz (k + 1)).length) := Lib.hid (by rw [hsuc.out, List.length_append, ← hmm.out]; rfl)
                by_cases hcj : c = j
                case pos =>
                  subst hcj
                  obtain ⟨B3, cb3, W4, hrun3, hrow3, hgr3, -⟩ := hn3.concat (P := Try.prog) Try.underlying56 infAd (by decide) (by decide) (ad := ⟨g, 0, none⟩) (c2 := 0) (ys := []) (.inl rfl) (by rw [← hm1.out]; omega) (by simp) hb3.size 56
                  rw [← hm1.out, List.length_nil, Nat.add_zero] at hrun3
                  rw [List.append_nil] at hrow3
                  have hrun3H := Lib.hid hrun3
                  have hfinR := Lib.hid hrow3
                  have hfinB := Lib.hid (hb3.trans (hn3.grown hgr3 hb3.size))
                  clear hn3 hb3 hrun3 hrow3 hgr3 hn3H hb3H
                  go_wp2_with (at_builtin; refine append_run_wp rfl _ _ _ rfl rfl rfl hrun3H.out ?_; clear hrun3H)
                  go_roundw
                  case rel => exact ⟨k + 1, c + 1, B3, cb3, hlt, by go_num, by go_num, hm1, hfinR, hfinB⟩
                  case measure => simp only [Go.RowKit.intOf]; omega
                case neg =>
                  obtain ⟨cd, hcd⟩ : ∃ cd, c - j = cd := ⟨_, rfl⟩
                  obtain ⟨B3, cb3, W4, hrun3, hrow3, hgr3, -⟩ := hn3.concat (P := Try.prog) Try.underlying56 infAd (by decide) (by decide) (ad := ⟨g, j * 6, none⟩) (c2 := cd) (ys := []) (.inl rfl) (by rw [← hm1.out]; omega) (by simp) hb3.size 56
                  rw [← hm1.out, List.length_nil, Nat.add_zero] at hrun3
                  rw [List.append_nil] at hrow3
                  have hrun3H := Lib.hid hrun3
                  have hfinR := Lib.hid hrow3
                  have hfinB := Lib.hid (hb3.trans (hn3.grown hgr3 hb3.size))
                  clear hn3 hb3 hrun3 hrow3 hgr3 hn3H hb3H
                  go_wp2_with (at_builtin; refine append_run_wp rfl _ _ _ rfl rfl rfl hrun3H.out ?_; clear hrun3H)
                  go_roundw
                  case rel => exact ⟨k + 1, j + 1, B3, cb3, hlt, by go_num, by go_num, hm1, hfinR, hfinB⟩
                  case measure => simp only [Go.RowKit.intOf]; omega
end Go.Proofs.Ytbgkmppngnedlaa
