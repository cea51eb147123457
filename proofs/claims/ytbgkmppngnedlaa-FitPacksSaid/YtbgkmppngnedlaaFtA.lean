/- Entries of fit, and the document's. -/
import Derived.Test.YtbgkmppngnedlaaPkA
import Derived.Sort.Walk0
import Derived.WalkKit
namespace Go.Proofs.Ytbgkmppngnedlaa
open Go.RowKit Go.Shelf

/-- So many entries have so many blocks; 0 for none, or too many. -/
def entI (b : Int) : Int := if 1048576 < b then 0 else (ent b.toNat : Int)
/-- Has one more than n too many blocks? -/
def overI (b : Int) (n : Nat) : Bool := decide (pkI ((n : Int) + 1) 0 > b)
theorem pkI_nat (n : Nat) (h : n ≤ 1048576) : pkI (n : Int) 0 = (pkN n : Int) := by
  unfold pkI pkN
  rw [if_pos (by omega)]
  omega
theorem over_iff {b : Int} (hb : b ≤ 1048576) {n : Nat} (h : n < 1048576) : overI b n = true ↔ ent b.toNat ≤ n := by
  unfold overI
  rw [decide_eq_true_eq, show (n : Int) + 1 = ((n + 1 : Nat) : Int) by omega, pkI_nat (n + 1) (by omega)]
  unfold pkN ent
  omega
theorem ent_lt {b : Int} (hb : b ≤ 1048576) : ent b.toNat < 1048576 := by unfold ent; omega
set_option maxRecDepth 100000 in
set_option maxHeartbeats 1000000 in
theorem eclos_any (W : World) (R : Nat) (b : Int) (n : Nat) (hn : n < 1048576) (hR : W.cell? ⟨R, 0, none⟩ = some (.int .i64 b)) :
    Calls Try.prog 54 #[.int .i64 (n : Int), .pointer (some ⟨R, 0, none⟩)] W fun e w' => e = .returned (.bool (overI b n)) ∧ Below W.heap.size W w' := by
  have hpk := Lib.hid (fun V => pack_any ((n : Int) + 1) 0 V)
  have hnw : IntKind.i64.wrap ((n : Int) + 1) = (n : Int) + 1 := IntWalk.i64_in _ (by omega)
  unfold overI
  generalize pkI ((n : Int) + 1) 0 = p at hpk ⊢
  obtain ⟨v, hv⟩ : ∃ v, decide (p > b) = v := ⟨_, rfl⟩
  rw [hv]
  obtain ⟨Wd, hWd, c0⟩ : ∃ Wd, Wd = W.drew ∧ Wd.cell? ⟨R, 0, none⟩ = some (.int .i64 b) := ⟨_, rfl, hR⟩
  have hWdH := Lib.hid hWd
  have hB : Hid (Below W.heap.size W Wd) := Lib.hid (by rw [hWd]; exact (Below.refl _ _).drew)
  clear hWd hR
  go_enter Try.func54, Try.ntmps54
  go_upto_region 1 with fail
  have hS0 : (fun V => V = Wd) Wd := rfl
  refine region_anyC (fun _ => true) (fun V => V = Wd) (by kernel_rfl) ?_
  rw [← hWdH.out]
  refine anyL_take 0 (v := ?_) rfl (by kernel_rfl) (fun _ _ _ h => h) (Or.inl ⟨by rfl, ?_⟩) hS0 ?_
  rotate_left
  focus (intro W hW; go_simp; try with_reducible rfl)
  simp only [Act.put, List.setIfInBounds_toArray, List.set_cons_zero, List.set_cons_succ]
  refine anyL_take 1 (v := ?_) rfl (by kernel_rfl) (fun _ _ _ h => h) (Or.inl ⟨by rfl, ?_⟩) hS0 ?_
  rotate_left
  focus (intro W hW; go_simp; try with_reducible rfl)
  simp only [Act.put, List.setIfInBounds_toArray, List.set_cons_zero, List.set_cons_succ]
  refine anyL_take 3 (v := ?_) rfl (by kernel_rfl) (fun _ _ _ h => h) (Or.inl ⟨by rfl, ?_⟩) hS0 ?_
  rotate_left
  focus (intro W hW; obtain rfl := hW; go_simp; try with_reducible rfl)
  simp only [Act.put, List.setIfInBounds_toArray, List.set_cons_zero, List.set_cons_succ]
  refine anyL_one 2 rfl (by kernel_rfl) (fun K hK => ?_)
  go_simp
  refine (hpk.out _).mono ?_
  rintro e' w6 ⟨rfl, rfl⟩
  dsimp only
  refine hK.out _ _ (fun _ => hS0) ?_
  clear hK K
  try simp only [Act.put, List.setIfInBounds_toArray, List.set_cons_zero, List.set_cons_succ]
  refine anyL_one 4 rfl (by kernel_rfl) (fun K hK => ?_)
  go_simp
  refine hK.out _ _ (fun _ => hS0) ?_
  clear hK K
  try simp only [Act.put, List.setIfInBounds_toArray, List.set_cons_zero, List.set_cons_succ]
  refine anyL_one 5 rfl (by kernel_rfl) (fun K hK => ?_)
  go_simp
  refine hK.out _ _ (fun _ => hS0) ?_
  clear hK K
  try simp only [Act.put, List.setIfInBounds_toArray, List.set_cons_zero, List.set_cons_succ]
  refine anyC_done (by kernel_rfl) ?_ _
  go_wp2_with fail
  go_ret
  exact ⟨rfl, hB.out⟩
set_option maxRecDepth 100000 in
set_option maxHeartbeats 4000000 in
theorem esearch_any (w : World) (R : Nat) (b : Int) (hb : b ≤ 1048576) (hR : w.cell? ⟨R, 0, none⟩ = some (.int .i64 b)) :
    Calls Try.prog 53 #[.int .i64 1048576, .func (.func 54) #[] #[.pointer (some ⟨R, 0, none⟩)]] w fun e w' => e = .returned (.int .i64 (ent b.toNat : Int)) ∧ Below w.heap.size w w' := by
  have hRl := lt_of_cell hR
  have h1 := Lib.hid (fun W (hB : Below w.heap.size w W) n hn => eclos_any W R b n hn ((hB.cell (p := ⟨R, 0, none⟩) hRl).trans hR))
  have eg : ∀ args w, (callFunc 54 args).run Try.prog w = .ok (.enter 54 args) w := enters_of Try.func54 (by kernel_rfl) rfl
  have hov := Lib.hid (fun n hn => over_iff hb (n := n) hn)
  have hel := Lib.hid (ent_lt hb)
  have hB0 := Lib.hid (Below.refl w.heap.size w)
  generalize ent b.toNat = E at hov hel ⊢
  clear hR hRl hb
  go_enter Try.func53, Try.ntmps53
  go_wp2_with fail
  go_loopw [5, 6] (fun iv jv wr => ∃ (i j : Nat), iv = .int .i64 (i : Int) ∧ jv = .int .i64 (j : Int) ∧ i ≤ j ∧ j ≤ 1048576 ∧ Hid (i ≤ E ∧ E ≤ j) ∧ Hid (Below w.heap.size w wr)) (fun iv jv _ => (intOf jv).toNat - (intOf iv).toNat)
  case atStart => exact ⟨0, 1048576, rfl, rfl, Nat.zero_le _, Nat.le_refl _, Lib.hid ⟨Nat.zero_le _, by have := hel.out; omega⟩, hB0⟩
  case round =>
    clear hB0
    obtain ⟨i, j, rfl, rfl, hij, hj, hE, hB⟩ := hrel
    by_cases hlt : i < j
    case neg =>
      have hI : ¬ (i : Int) < (j : Int) := by omega
      have hEi : Hid (E = i) := Lib.hid (by have := hE.out; omega)
      go_wp2_with fail
      go_ret
      exact ⟨by rw [hEi.out]; rfl, hB.out⟩
    case pos =>
      have hI : (i : Int) < (j : Int) := by omega
      obtain ⟨h, hh⟩ : ∃ h : Nat, (i + j) / 2 = h := ⟨_, rfl⟩
      have hhI : ((i : Int) + (j : Int)) / 2 = (h : Int) := by omega
      have hc := Lib.hid (h1.out wr hB.out h (by omega))
      obtain ⟨v, hv⟩ : ∃ v, overI b h = v := ⟨_, rfl⟩
      have hvi := hov.out h (by omega)
      rw [hv] at hc hvi
      have hhj : h < j := by omega
      have hih : i ≤ h := by omega
      have hhw : IntKind.i64.wrap ((h : Int) + 1) = (h : Int) + 1 := IntWalk.i64_in _ (by omega)
      clear hv h1 hov
      cases v with
      | false =>
        have hE2 : Hid (h + 1 ≤ E ∧ E ≤ j) := Lib.hid ⟨by
          by_cases hx : E ≤ h
          · exact absurd (hvi.2 hx) (by simp)
          · omega, hE.out.2⟩
        clear hvi hE hh
        go_wp2_with fail
        go_at_fn 54
        refine hc.out.mono ?_
        rintro e w6 ⟨rfl, hb6⟩
        have hB6 := Lib.hid (hB.out.trans (hb6.mono hB.out.size))
        clear hb6 hB hc
        go_wp2_with fail
        go_roundw
        case rel => exact ⟨h + 1, j, by go_num, rfl, by omega, by omega, hE2, hB6⟩
        case measure => simp only [intOf]; omega
      | true =>
        have hE2 : Hid (i ≤ E ∧ E ≤ h) := Lib.hid ⟨hE.out.1, hvi.1 rfl⟩
        clear hvi hE hh
        go_wp2_with fail
        go_at_fn 54
        refine hc.out.mono ?_
        rintro e w6 ⟨rfl, hb6⟩
        have hB6 := Lib.hid (hB.out.trans (hb6.mono hB.out.size))
        clear hb6 hB hc
        go_wp2_with fail
        go_roundw
        case rel => exact ⟨i, h, rfl, by first | rfl | (rw [hhI]), by omega, by omega, hE2, hB6⟩
        case measure => simp only [intOf]; omega
set_option maxRecDepth 100000 in
set_option maxHeartbeats 1000000 in
theorem entries_any (w : World) (b : Int) : Calls Try.prog 21 #[.int .i64 b] w fun e w' => e = .returned (.int .i64 (entI b)) ∧ Below w.heap.size w w' := by
  have hal := Lib.hid ((Below.refl w.heap.size w).alloc (Nat.le_refl _) (.cells #[.int .i64 b] 3))
  by_cases h : 1048576 < b
  case pos =>
    have e : entI b = 0 := if_pos h
    have hI : decide (b > 1048576) = true := by simp; omega
    rw [e]
    go_enter Try.func21, Try.ntmps21
    go_wp2_with fail
    go_ret
    exact ⟨rfl, hal.out⟩
  case neg =>
    have e : entI b = (ent b.toNat : Int) := if_neg h
    have hI : decide (b > 1048576) = false := by simp; omega
    have hs := Lib.hid (esearch_any (w.alloc (.cells #[.int .i64 b] 3)) w.heap.size b (by omega) (by rw [World.cell?_alloc_new]; rfl))
    rw [e]
    generalize ent b.toNat = E at hs
    clear e
    go_enter Try.func21, Try.ntmps21
    go_wp2_with fail
    refine hs.out.mono ?_
    rintro e w6 ⟨rfl, hb6⟩
    have hB6 := Lib.hid (hal.out.trans (hb6.mono hal.out.size))
    clear hb6 hs
    go_wp2_with fail
    go_ret
    exact ⟨rfl, hB6.out⟩
theorem pkN_step (n : Nat) : pkN (n + 1) = pkN n + (if n % 6 = 0 then 2 else 1) := by unfold pkN; split <;> omega
set_option maxRecDepth 100000 in
set_option maxHeartbeats 4000000 in
theorem rentries_any (w : World) (b : Int) : Calls Try.prog 23 #[.int .i64 b] w fun e w' => e = .returned (.int .i64 (entI b)) ∧ w' = w := by
  by_cases h : 1048576 < b
  case pos =>
    have e : entI b = 0 := if_pos h
    have hI : decide (b > 1048576) = true := by simp; omega
    rw [e]
    go_enter Try.func23, Try.ntmps23
    go_wp2_with fail
    go_ret
    exact ⟨rfl, rfl⟩
  case neg =>
    have e : entI b = (ent b.toNat : Int) := if_neg h
    have hI : decide (b > 1048576) = false := by simp; omega
    have hE := ent_is b.toNat
    have hEb := ent_le b.toNat
    rw [e]
    generalize ent b.toNat = E at hE hEb ⊢
    unfold EntIs at hE
    have hEH := Lib.hid hE
    have hEbH := Lib.hid hEb
    clear e hE hEb
    go_enter Try.func23, Try.ntmps23
    go_wp2_with fail
    go_loopw [3, 4] (fun nv uv wr => ∃ (n u : Nat), nv = .int .i64 (n : Int) ∧ uv = .int .i64 (u : Int) ∧ n ≤ 1048576 ∧ u ≤ 3000000 ∧ Hid (n ≤ E ∧ u = pkN n) ∧ Hid (wr = w)) (fun nv _ _ => E - (intOf nv).toNat)
    case atStart => exact ⟨0, 0, rfl, rfl, Nat.zero_le _, Nat.zero_le _, Lib.hid ⟨Nat.zero_le _, rfl⟩, Lib.hid (by first | rfl | trivial)⟩
    case round =>
      obtain ⟨n, u, rfl, rfl, hn, hu, hnu, hwr⟩ := hrel
      rw [hwr.out]
      clear hwr
      obtain ⟨r, hr⟩ : ∃ r : Nat, n % 6 = r := ⟨_, rfl⟩
      have hrI : Int.tmod (n : Int) 6 = (r : Int) := by rw [Int.tmod_eq_emod_of_nonneg (by omega)]; omega
      have hrw : IntKind.i64.wrap (r : Int) = (r : Int) := IntWalk.i64_in _ (by omega)
      have hst := pkN_step n
      have hEu := hEH.out
      have hEb := hEbH.out
      have hnu' := hnu.out
      have hnw : IntKind.i64.wrap ((n : Int) + 1) = ((n + 1 : Nat) : Int) := by rw [Int.natCast_add]; exact IntWalk.i64_in _ (by omega)
      obtain ⟨n1, hn1⟩ : ∃ n1, n + 1 = n1 := ⟨_, rfl⟩
      rw [hn1] at hnw hst
      by_cases h6 : r = 0
      case pos =>
        have h6b : ((r : Int) == 0) = true := by simp [h6]
        rw [if_pos (by omega)] at hst
        have huw : IntKind.i64.wrap ((u : Int) + 2) = ((u + 2 : Nat) : Int) := by rw [Int.natCast_add]; exact IntWalk.i64_in _ (by omega)
        obtain ⟨u1, hu1⟩ : ∃ u1, u + 2 = u1 := ⟨_, rfl⟩
        rw [hu1] at huw
        by_cases ho : b < (u1 : Int)
        case pos =>
          have hoI : decide ((u1 : Int) > b) = true := by simp; omega
          have hEn : Hid (E = n) := Lib.hid (by
            by_cases hx : n < E
            · have h1 : pkN n1 ≤ pkN E := by
                rcases Nat.lt_or_ge n1 E with h | h
                · exact Nat.le_of_lt (pkN_mono h)
                · rw [show n1 = E by omega]; exact Nat.le_refl _
              omega
            · omega)
          clear hst hEu hEb hnu' hnu hn1 hu1 hr ho
          go_wp2_with fail
          go_ret
          exact ⟨by rw [hEn.out]; rfl, rfl⟩
        case neg =>
          have hoI : decide ((u1 : Int) > b) = false := by simp; omega
          have hnE : n < E := by
            by_cases hx : n < E
            · exact hx
            · have : n = E := by omega
              subst this
              rw [hn1] at hEu
              omega
          have hrel2 : Hid (n1 ≤ E ∧ u1 = pkN n1) := Lib.hid ⟨by omega, by omega⟩
          have hb1 : Hid (n1 ≤ 1048576 ∧ u1 ≤ 3000000 ∧ E - n1 < E - n) := Lib.hid (by omega)
          clear hst hEu hEb hnu' hnu hn1 hu1 hr ho hnE
          go_wp2_with fail
          go_roundw
          case rel => exact ⟨n1, u1, rfl, rfl, hb1.out.1, hb1.out.2.1, hrel2, Lib.hid (by first | rfl | trivial)⟩
          case measure => simp only [intOf]; have := hb1.out; omega
      case neg =>
        have h6b : ((r : Int) == 0) = false := by simp [h6]
        rw [if_neg (by omega)] at hst
        have huw : IntKind.i64.wrap ((u : Int) + 1) = ((u + 1 : Nat) : Int) := by rw [Int.natCast_add]; exact IntWalk.i64_in _ (by omega)
        obtain ⟨u1, hu1⟩ : ∃ u1, u + 1 = u1 := ⟨_, rfl⟩
        rw [hu1] at huw
        by_cases ho : b < (u1 : Int)
        case pos =>
          have hoI : decide ((u1 : Int) > b) = true := by simp; omega
          have hEn : Hid (E = n) := Lib.hid (by
            by_cases hx : n < E
            · have h1 : pkN n1 ≤ pkN E := by
                rcases Nat.lt_or_ge n1 E with h | h
                · exact Nat.le_of_lt (pkN_mono h)
                · rw [show n1 = E by omega]; exact Nat.le_refl _
              omega
            · omega)
          clear hst hEu hEb hnu' hnu hn1 hu1 hr ho
          go_wp2_with fail
          go_ret
          exact ⟨by rw [hEn.out]; rfl, rfl⟩
        case neg =>
          have hoI : decide ((u1 : Int) > b) = false := by simp; omega
          have hnE : n < E := by
            by_cases hx : n < E
            · exact hx
            · have : n = E := by omega
              subst this
              rw [hn1] at hEu
              omega
          have hrel2 : Hid (n1 ≤ E ∧ u1 = pkN n1) := Lib.hid ⟨by omega, by omega⟩
          have hb1 : Hid (n1 ≤ 1048576 ∧ u1 ≤ 3000000 ∧ E - n1 < E - n) := Lib.hid (by omega)
          clear hst hEu hEb hnu' hnu hn1 hu1 hr ho hnE
          go_wp2_with fail
          go_roundw
          case rel => exact ⟨n1, u1, rfl, rfl, hb1.out.1, hb1.out.2.1, hrel2, Lib.hid (by first | rfl | trivial)⟩
          case measure => simp only [intOf]; have := hb1.out; omega
end Go.Proofs.Ytbgkmppngnedlaa
