/- What the document's opening does with a zone that isn't open. -/
import Derived.Test.YtncbkegflkjlfaaZonRef
namespace Go.Proofs.Ytncbkegflkjlfaa
open Go.RowKit Zon

theorem OpenPost.refused {w W : World} {g z : Nat} {m : Mc} {i : Nat} {st : Int} (h : (admit m i).1 = 5) (hM : MAt W g z m) (ho : Only w W z) : OpenPost w g z m i st (.returned (.int .i64 5)) W :=
  ⟨by rw [h], by unfold ropn; rw [if_neg (by omega)]; exact hM, ho⟩
theorem OpenPost.done {w W : World} {g z : Nat} {m : Mc} {i : Nat} {st : Int} {zs : List Zn} (h : admit m i = (0, zs)) (hno : openB (zAt m.zs i).s = false) (hM : MAt W g z (m.with zs)) (hi : i < zs.length) (hat : zAt zs i = zAt m.zs i) (ho : Only w W z) :
    OpenPost w g z m i st (.returned (.int .i64 0)) (W.setCell ⟨z, i * 2, none⟩ (.int .i64 st)) := by
  refine ⟨by rw [h], ?_, ho.set _ _⟩
  unfold ropn
  rw [h, if_pos rfl, if_neg (by rw [hno]; simp), ← hat]
  exact hM.set_s (m := m.with zs) hi st

/-- What the loop over the zones, from the last one down, has found. -/
def Found (zs : List Zn) (j : Nat) (v : Int) : Prop := (v = -1 ∧ ∀ q, j ≤ q → q < zs.length → (zAt zs q).s ≠ 1) ∨ ∃ p : Nat, v = (p : Int) ∧ j ≤ p ∧ p < zs.length ∧ (zAt zs p).s = 1 ∧ ∀ q, j ≤ q → q < p → (zAt zs q).s ≠ 1
theorem Found.start (zs : List Zn) : Found zs zs.length (-1) := .inl ⟨rfl, fun q h1 h2 => absurd h1 (by omega)⟩
theorem Found.hit {zs : List Zn} {j : Nat} (h : (zAt zs j).s = 1) (hj : j < zs.length) : Found zs j (j : Int) := .inr ⟨j, rfl, Nat.le_refl _, hj, h, fun q h1 h2 => absurd h1 (by omega)⟩
theorem Found.miss {zs : List Zn} {j : Nat} {v : Int} (h : Found zs (j + 1) v) (hn : (zAt zs j).s ≠ 1) : Found zs j v := by
  have hq : ∀ q, j ≤ q → q ≠ j → j + 1 ≤ q := fun q a b => by omega
  rcases h with ⟨h1, h2⟩ | ⟨p, h1, h2, h3, h4, h5⟩
  · refine .inl ⟨h1, fun q a b => ?_⟩
    by_cases e : q = j
    · subst e; exact hn
    · exact h2 q (hq q a e) b
  · refine .inr ⟨p, h1, by omega, h3, h4, fun q a b => ?_⟩
    by_cases e : q = j
    · subst e; exact hn
    · exact h5 q (hq q a e) b
theorem Found.end_ {zs : List Zn} {v : Int} (h : Found zs 0 v) : (v = -1 ∧ shutFirst zs = (5, zs)) ∨ ∃ p : Nat, v = (p : Int) ∧ p < zs.length ∧ (zAt zs p).s = 1 ∧ shutFirst zs = (0, zs.set p (shutZ (zAt zs p))) := by
  rcases h with ⟨h1, h2⟩ | ⟨p, h1, h2, h3, h4, h5⟩
  · exact .inl ⟨h1, shutFirst_none zs fun j hj => h2 j (by omega) hj⟩
  · exact .inr ⟨p, h1, h3, h4, shutFirst_hit zs p (fun j hj => h5 j (by omega) hj) h3 h4⟩

set_option maxRecDepth 100000 in
set_option maxHeartbeats 4000000 in
theorem ropen_shut (g z : Nat) (m : Mc) (i : Nat) (st : Int) (w : World) (hM : MAt w g z m) (hok : m.Ok) (hi : i < m.zs.length) (ho : openB (zAt m.zs i).s = false) :
    Calls Try.prog 63 #[.pointer (some ⟨g, 0, none⟩), .int .i64 (i : Int), .int .i64 st] w (OpenPost w g z m i st) := by
  have hz2 := hok.z2
  have hca := Lib.hid (fun W (hM : MAt W g z m) => rcount_act g z m W hM hz2)
  have hco := Lib.hid (fun W (hM : MAt W g z m) => rcount_open g z m W hM hz2)
  have hn1 := nOpen_max m.zs
  have hn2 := nAct_max m.zs
  have hMH := Lib.hid hM
  have hokH := Lib.hid hok
  have hoH := Lib.hid ho
  have hs1 : ((zAt m.zs i).s == 1) = false := by cases h : ((zAt m.zs i).s == 1) <;> simp_all [openB]
  have hs2 : ((zAt m.zs i).s == 2) = false := by cases h : ((zAt m.zs i).s == 2) <;> simp_all [openB]
  obtain ⟨k1, k2, k3, k4⟩ := hM.cells hi
  obtain ⟨⟨cap, c0⟩, c1, c2, c3, hne, hzl, _⟩ := hM
  have had : admit m i = if (zAt m.zs i).s = 0 ∧ m.a ≤ nAct m.zs then (5, m.zs) else if (nOpen m.zs : Int) < m.o then (0, m.zs) else shutFirst m.zs := by
    unfold admit; rw [if_neg (by rw [ho]; simp)]
  clear hok ho
  obtain ⟨y, hy⟩ : ∃ y, zAt m.zs i = y := ⟨_, rfl⟩
  rw [hy] at k1 k2 hs1 hs2 had
  have hyH := Lib.hid hy
  clear hy
  generalize nOpen m.zs = no at hco hn1 had
  generalize nAct m.zs = na at hca hn2 had
  by_cases h5 : y.s = 0 ∧ m.a ≤ na
  · rw [if_pos h5] at had
    obtain ⟨h50, h51⟩ := h5
    have he := Lib.hid (fun W (hM : MAt W g z m) (ho : Only w W z) => OpenPost.refused (st := st) (by rw [had]) hM ho)
    clear had
    rw [h50] at k1
    clear h50 hs1 hs2
    go_enter Try.func63, Try.ntmps63
    go_wp2_with fail
    go_quiet ((go_at_call 70; exact quiet_left (hca.out _ (hMH.out.drewN _))))
    go_wp2
    go_ret
    exact he.out _ (hMH.out.drewN _) ((Only.refl _ _).drewN _)
  · rw [if_neg h5] at had
    have hways : (y.s = 0 ∧ ¬ m.a ≤ na) ∨ (y.s == 0) = false := by
      by_cases h : y.s = 0
      · left; exact ⟨h, fun h' => h5 ⟨h, h'⟩⟩
      · right; simp [h]
    clear h5
    by_cases h6 : (no : Int) < m.o
    · rw [if_pos h6] at had
      have he := Lib.hid (fun W (hM : MAt W g z m) (ho : Only w W z) => OpenPost.done (st := st) (zs := m.zs) had hoH.out hM hi rfl ho)
      clear had
      rcases hways with ⟨h50, h51⟩ | h50
      · rw [h50] at k1
        clear h50 hs1 hs2
        go_enter Try.func63, Try.ntmps63
        go_wp2_with fail
        go_quiet ((go_at_call 70; exact quiet_left (hca.out _ (hMH.out.drewN _))))
        go_wp2_with fail
        go_quiet ((go_at_call 70; exact quiet_add_left (hco.out _ (hMH.out.drewN _))))
        go_wp2_with fail
        go_ret
        exact he.out _ (hMH.out.drewN _) ((Only.refl _ _).drewN _)
      · go_enter Try.func63, Try.ntmps63
        go_wp2_with fail
        go_quiet (fail)
        go_wp2_with fail
        go_quiet ((go_at_call 70; exact quiet_add_left (hco.out _ (hMH.out.drewN _))))
        go_wp2_with fail
        go_ret
        exact he.out _ (hMH.out.drewN _) ((Only.refl _ _).drewN _)
    · rw [if_neg h6] at had
      rcases hways with ⟨h50, h51⟩ | h50
      · rw [h50] at k1
        clear h50 hs1 hs2
        go_enter Try.func63, Try.ntmps63
        go_wp2_with fail
        go_quiet ((go_at_call 70; exact quiet_left (hca.out _ (hMH.out.drewN _))))
        go_wp2_with fail
        go_quiet ((go_at_call 70; exact quiet_add_left (hco.out _ (hMH.out.drewN _))))
        refine fresh_K (fun W => MAt W g z m ∧ Only w W z) ⟨(hMH.out.drewN _).drewN _, ((Only.refl _ _).drewN _).drewN _⟩ ?_
        rintro W2 ⟨hM2, ho2⟩
        have hM2H := Lib.hid hM2
        have ho2H := Lib.hid ho2
        have hadH := Lib.hid had
        obtain ⟨⟨cap2, c02⟩, _, _, _, _, _, _⟩ := hM2
        have hz2W := hM2H.out.zl
        clear k1 k2 k3 k4 c0 c1 c2 c3 had hca hco ho2 hzl
        go_wp2_with fail
        go_loop [8, 9] (fun v j => ∃ (k : Nat) (x : Int), k ≤ m.zs.length ∧ j = .int .i64 ((k : Int) - 1) ∧ v = .int .i64 x ∧ Found m.zs k x ∧ -1 ≤ x) (fun _ j => (intOf j + 1).toNat)
        case atStart => exact ⟨m.zs.length, -1, Nat.le_refl _, rfl, rfl, Found.start _, by omega⟩
        case round =>
          obtain ⟨k, x, hk, rfl, rfl, hF, hx⟩ := hrel
          have hFH := Lib.hid hF
          clear hF
          by_cases hk0 : k = 0
          · subst hk0
            rcases hFH.out.end_ with ⟨rfl, he⟩ | ⟨p, rfl, hp, hps, he⟩
            · have he2 := Lib.hid (OpenPost.refused (w := w) (st := st) (i := i) (by rw [hadH.out, he]) hM2H.out ho2H.out)
              clear he
              go_wp2_with fail
              go_ret
              exact he2.out
            · have hpo := hokH.out.at_ hp
              have hsz : shutZ (zAt m.zs p) = ⟨3, (zAt m.zs p).l⟩ := by
                have := hpo.2.2.2.2.2 hps
                unfold shutZ
                rw [if_neg (by omega)]
              rw [hsz] at he
              obtain ⟨j1, j2, j3, j4⟩ := hM2H.out.cells hp
              have hM3 := hM2H.out.set_s hp 3
              have hpi : p ≠ i := by
                rintro rfl
                have h1 := hoH.out
                rw [hps] at h1
                cases h1
              have he2 := Lib.hid (OpenPost.done (st := st) (by rw [hadH.out, he]) hoH.out hM3 (by simpa using hi) (zAt_set_other hpi _) (ho2H.out.set _ _))
              obtain ⟨l1, l2, l3, l4⟩ := hM3.cellsW (i := i) (by simpa using hi)
              rw [zAt_set_other hpi, hyH.out] at l1 l2
              clear he hM3 hsz hpo hps j2 j4 l2 l4
              go_wp2_with fail
              go_ret
              exact he2.out
          · obtain ⟨q, rfl⟩ : ∃ q, k = q + 1 := ⟨k - 1, by omega⟩
            have hq : q < m.zs.length := by omega
            obtain ⟨j1, j2, j3, j4⟩ := hM2H.out.cells hq
            have hqq : (((q + 1 : Nat) : Int) - 1) = (q : Int) := by omega
            rw [hqq]
            by_cases hs : (zAt m.zs q).s = 1
            · have hF2 := Lib.hid (Found.hit hs hq)
              rw [hs] at j1
              clear hs hqq
              go_wp2_with fail
              go_round
              case rel => exact ⟨q, (q : Int), by omega, rfl, rfl, hF2.out, by omega⟩
              case measure => simp [intOf]
            · have hF2 := Lib.hid (hFH.out.miss hs)
              have hs' : ((zAt m.zs q).s == 1) = false := by simp [hs]
              clear hs hqq
              go_wp2_with fail
              go_round
              case rel => exact ⟨q, x, by omega, rfl, rfl, hF2.out, hx⟩
              case measure => simp [intOf]
      · go_enter Try.func63, Try.ntmps63
        go_wp2_with fail
        go_quiet (fail)
        go_wp2_with fail
        go_quiet ((go_at_call 70; exact quiet_add_left (hco.out _ (hMH.out.drewN _))))
        refine fresh_K (fun W => MAt W g z m ∧ Only w W z) ⟨(hMH.out.drewN _).drewN _, ((Only.refl _ _).drewN _).drewN _⟩ ?_
        rintro W2 ⟨hM2, ho2⟩
        have hM2H := Lib.hid hM2
        have ho2H := Lib.hid ho2
        have hadH := Lib.hid had
        obtain ⟨⟨cap2, c02⟩, _, _, _, _, _, _⟩ := hM2
        have hz2W := hM2H.out.zl
        clear k1 k2 k3 k4 c0 c1 c2 c3 had hca hco ho2 hzl
        go_wp2_with fail
        go_loop [8, 9] (fun v j => ∃ (k : Nat) (x : Int), k ≤ m.zs.length ∧ j = .int .i64 ((k : Int) - 1) ∧ v = .int .i64 x ∧ Found m.zs k x ∧ -1 ≤ x) (fun _ j => (intOf j + 1).toNat)
        case atStart => exact ⟨m.zs.length, -1, Nat.le_refl _, rfl, rfl, Found.start _, by omega⟩
        case round =>
          obtain ⟨k, x, hk, rfl, rfl, hF, hx⟩ := hrel
          have hFH := Lib.hid hF
          clear hF
          by_cases hk0 : k = 0
          · subst hk0
            rcases hFH.out.end_ with ⟨rfl, he⟩ | ⟨p, rfl, hp, hps, he⟩
            · have he2 := Lib.hid (OpenPost.refused (w := w) (st := st) (i := i) (by rw [hadH.out, he]) hM2H.out ho2H.out)
              clear he
              go_wp2_with fail
              go_ret
              exact he2.out
            · have hpo := hokH.out.at_ hp
              have hsz : shutZ (zAt m.zs p) = ⟨3, (zAt m.zs p).l⟩ := by
                have := hpo.2.2.2.2.2 hps
                unfold shutZ
                rw [if_neg (by omega)]
              rw [hsz] at he
              obtain ⟨j1, j2, j3, j4⟩ := hM2H.out.cells hp
              have hM3 := hM2H.out.set_s hp 3
              have hpi : p ≠ i := by
                rintro rfl
                have h1 := hoH.out
                rw [hps] at h1
                cases h1
              have he2 := Lib.hid (OpenPost.done (st := st) (by rw [hadH.out, he]) hoH.out hM3 (by simpa using hi) (zAt_set_other hpi _) (ho2H.out.set _ _))
              obtain ⟨l1, l2, l3, l4⟩ := hM3.cellsW (i := i) (by simpa using hi)
              rw [zAt_set_other hpi, hyH.out] at l1 l2
              clear he hM3 hsz hpo hps j2 j4 l2 l4
              go_wp2_with fail
              go_ret
              exact he2.out
          · obtain ⟨q, rfl⟩ : ∃ q, k = q + 1 := ⟨k - 1, by omega⟩
            have hq : q < m.zs.length := by omega
            obtain ⟨j1, j2, j3, j4⟩ := hM2H.out.cells hq
            have hqq : (((q + 1 : Nat) : Int) - 1) = (q : Int) := by omega
            rw [hqq]
            by_cases hs : (zAt m.zs q).s = 1
            · have hF2 := Lib.hid (Found.hit hs hq)
              rw [hs] at j1
              clear hs hqq
              go_wp2_with fail
              go_round
              case rel => exact ⟨q, (q : Int), by omega, rfl, rfl, hF2.out, by omega⟩
              case measure => simp [intOf]
            · have hF2 := Lib.hid (hFH.out.miss hs)
              have hs' : ((zAt m.zs q).s == 1) = false := by simp [hs]
              clear hs hqq
              go_wp2_with fail
              go_round
              case rel => exact ⟨q, x, by omega, rfl, rfl, hF2.out, hx⟩
              case measure => simp [intOf]
end Go.Proofs.Ytncbkegflkjlfaa
