/- What the document's Lost does. -/
import Derived.Test.YtncbkegflkjlfaaZonLost
import Derived.Test.YtncbkegflkjlfaaZonSeven
namespace Go.Proofs.Ytncbkegflkjlfaa
open Go.RowKit Zon

theorem lostZ_ref (ls : List Int) (i : Nat) (z : Zn) (b : Int) (h : zOk b z) : lostZ ls i z = if i < ls.length ∧ 0 ≤ ls.getD i 0 ∧ ls.getD i 0 < z.l then shutZ ⟨3, ls.getD i 0⟩ else if z.s = 4 then z else shutZ z := by
  unfold lostZ
  split
  · rfl
  · obtain ⟨h1, h2, h3, h4, h5, h6⟩ := h
    by_cases e : z.s = 4
    · rw [if_neg (by rw [e]; decide), if_pos e]
    · rw [if_neg e]
      by_cases e0 : z.s = 0
      · rw [if_neg (by rw [e0]; decide)]
        cases z with
        | mk s l =>
          simp only at e0 h5
          subst e0
          unfold shutZ
          simp [h5 rfl]
      · rw [if_pos (by unfold actB openB; rcases (by omega : z.s = 1 ∨ z.s = 2 ∨ z.s = 3) with h | h | h <;> rw [h] <;> rfl)]

theorem IntsIn.cell {w : World} {b off : Nat} {zs : List Int} (h : IntsIn w (some ⟨b, off, none⟩) zs) {k : Nat} (hk : k < zs.length) : w.cell? ⟨b, off + k, none⟩ = some (.int .i64 zs[k]) := by
  obtain ⟨b', off', e, _, hc⟩ := h.at_ hk
  injection e with e
  injection e with e1 e2
  subst e1; subst e2
  exact hc
/-- In the midst of a round: the zones, and the box of the zone's copy. -/
structure LostW (w W : World) (g z B : Nat) (m : Mc) (y : Zn) : Prop where
  m : MAt W g z m
  o : Only w W z
  s : W.cell? ⟨B, 0, none⟩ = some (.int .i64 y.s)
  l : W.cell? ⟨B, 1, none⟩ = some (.int .i64 y.l)
  fs : W.frozen? ⟨B, 0, none⟩ = false
  fl : W.frozen? ⟨B, 1, none⟩ = false
  lt : w.heap.size ≤ B
  ng : B ≠ g
  nz : B ≠ z
theorem Only.new {a w : World} {z B : Nat} (h : Only a w z) (hB : a.heap.size ≤ B) (o : Nat) (u : Value) : Only a (w.setCell ⟨B, o, none⟩ u) z :=
  ⟨h.os, h.tape, h.output, by have := h.size; simpa [World.setCell] using this, fun k hk hn => (Below.heap_setCell _ _ _ _ (by show k ≠ B; omega)).trans (h.block k hk hn)⟩
theorem LostW.setS {w W : World} {g z B : Nat} {m : Mc} {y : Zn} (h : LostW w W g z B m y) (x : Int) : LostW w (W.setCell ⟨B, 0, none⟩ (.int .i64 x)) g z B m ⟨x, y.l⟩ :=
  ⟨h.m.kept (grownBy_set W ⟨B, 0, none⟩ _) (by simpa using h.nz) (by simpa using h.ng), h.o.new h.lt _ _, World.cell?_setCell_same' _ _ _ (by rw [h.s]; rfl), by rw [World.cell?_setCell_other _ _ _ _ (by intro e; injection e with _ e; omega)]; exact h.l, by rw [World.frozen?_setCell]; exact h.fs, by rw [World.frozen?_setCell]; exact h.fl, h.lt, h.ng, h.nz⟩
theorem LostW.setL {w W : World} {g z B : Nat} {m : Mc} {y : Zn} (h : LostW w W g z B m y) (x : Int) : LostW w (W.setCell ⟨B, 1, none⟩ (.int .i64 x)) g z B m ⟨y.s, x⟩ :=
  ⟨h.m.kept (grownBy_set W ⟨B, 1, none⟩ _) (by simpa using h.nz) (by simpa using h.ng), h.o.new h.lt _ _, by rw [World.cell?_setCell_other _ _ _ _ (by intro e; injection e with _ e; omega)]; exact h.s, World.cell?_setCell_same' _ _ _ (by rw [h.l]; rfl), by rw [World.frozen?_setCell]; exact h.fs, by rw [World.frozen?_setCell]; exact h.fl, h.lt, h.ng, h.nz⟩
theorem LostW.new {w W : World} {g z : Nat} {m : Mc} (y : Zn) (hm : MAt W g z m) (ho : Only w W z) (t : TypeId) (j : Nat) : LostW w ((W.alloc (.cells #[.int .i64 y.s, .int .i64 y.l] t)).drewN j) g z W.heap.size m y :=
  ⟨(hm.below ((Below.refl _ _).alloc (Nat.le_refl _) _)).drewN j, (ho.alloc _).drewN j, by go_simp, by go_simp, by go_simp, by go_simp, ho.size, by have := hm.gl; omega, by have := hm.zl; omega⟩

set_option maxRecDepth 100000 in
set_option maxHeartbeats 4000000 in
theorem rlost_any (g z : Nat) (m : Mc) (A : Option Addr) (cap : Nat) (ls : List Int) (w : World) (hM : MAt w g z m) (hok : m.Ok) (hI : IntsIn w A ls) (hA : ls ≠ [] → ∀ b off, A = some ⟨b, off, none⟩ → b ≠ z) (hl : ls.length ≤ maxLen) :
    Calls Try.prog 45 #[.pointer (some ⟨g, 0, none⟩), .slice A ls.length cap] w fun e w' => e = .returned (.tuple #[]) ∧ MAt w' g z (m.with (lost m ls)) ∧ Only w w' z := by
  have hz2 := hok.z2
  unfold maxLen at hl
  have hIH := Lib.hid (fun W (ho : Only w W z) => hI.only hA ho)
  clear hI
  have hAH := Lib.hid hA
  clear hA
  have hMH := Lib.hid hM
  have hokH := Lib.hid hok
  obtain ⟨⟨mcap, c0⟩, _, _, _, hne, hzl, _⟩ := hM
  go_enter Try.func45, Try.ntmps45
  go_wp2
  go_loopw [4] (fun i wr => ∃ k : Nat, k ≤ m.zs.length ∧ i = .int .i64 (k : Int) ∧ MAt wr g z (m.with (lostTo ls m.zs k)) ∧ Only w wr z) (fun i _ => m.zs.length - (intOf i).toNat)
  case atStart => exact ⟨0, by omega, rfl, hMH.out, Only.refl _ _⟩
  case round =>
    obtain ⟨k, hk, rfl, hM, ho⟩ := hrel
    have hc0 := ho.cell c0 hne
    have hzw := hM.zl
    by_cases hlt : k < m.zs.length
    · have hlen : k < (lostTo ls m.zs k).length := by rw [lostTo_len]; exact hlt
      obtain ⟨k1, k2, k3, k4⟩ := hM.cellsW hlen
      rw [lostTo_at ls m.zs k hlt] at k1 k2
      have hst := lostTo_step ls m.zs k hlt
      rw [lostZ_ref ls k _ _ (hokH.out.at_ hlt)] at hst
      have hbo := fun W (h : MAt W g z (m.with (lostTo ls m.zs k))) => h.both (i := k) hlen
      have hns : (lostTo ls m.zs k).set k (zAt m.zs k) = lostTo ls m.zs k := by
        have := set_zAt (lostTo ls m.zs k) k
        rwa [lostTo_at ls m.zs k hlt] at this
      generalize hy : zAt m.zs k = y at k1 k2 hst hns
      have hstH := Lib.hid hst
      have hnsH := Lib.hid hns
      have hboH := Lib.hid hbo
      have hMwH := Lib.hid hM
      have hoH := Lib.hid ho
      have hgw := lt_of_cell hc0
      have c0H := Lib.hid c0
      clear hy hst hM ho hbo c0 hns
      have hplain : ¬ (k < ls.length ∧ 0 ≤ ls.getD k 0 ∧ ls.getD k 0 < y.l) → (lostTo ls m.zs k).set k (if y.s = 4 then y else shutZ y) = lostTo ls m.zs (k + 1) := fun h => by
        have h5 := hstH.out
        rw [if_neg h] at h5
        exact h5
      have hfull : (k < ls.length ∧ 0 ≤ ls.getD k 0 ∧ ls.getD k 0 < y.l) → (lostTo ls m.zs k).set k (shutZ ⟨3, ls.getD k 0⟩) = lostTo ls m.zs (k + 1) := fun h => by
        have h5 := hstH.out
        rw [if_pos h] at h5
        exact h5
      have hplainH := Lib.hid hplain
      have hfullH := Lib.hid hfull
      clear hplain hfull hstH
      by_cases h1 : k < ls.length
      · obtain ⟨b, off, rfl, hltb, hcl⟩ := (hIH.out wr hoH.out).at_ h1
        have hgd : ls.getD k 0 = ls[k] := by simp [List.getD, h1]
        rw [hgd] at hplainH hfullH
        obtain ⟨x, hx⟩ : ∃ x, ls[k] = x := ⟨_, rfl⟩
        rw [hx] at hcl hplainH hfullH
        have hxH := Lib.hid hx
        clear hgd hx
        by_cases h2 : 0 ≤ x
        · by_cases h3 : x < y.l
          · have hend := Lib.hid (hfullH.out ⟨h1, h2, h3⟩)
            clear hplainH hfullH
            by_cases hx0 : x = 0
            · subst hx0
              have hsz : shutZ ⟨3, 0⟩ = ⟨0, 0⟩ := rfl
              rw [hsz] at hend
              clear hsz
              go_wp2_with fail
              go_quiet (fail)
              refine fresh_K (fun W => LostW w W g z wr.heap.size (m.with (lostTo ls m.zs k)) y) (LostW.new y hMwH.out hoH.out _ _) ?_
              intro W2 hL
              have hLH := Lib.hid hL
              obtain ⟨hM2, ho2, u0, u1, u2, u3, u4, u5, u6⟩ := hL
              have hcl := (hIH.out W2 ho2).cell h1
              rw [hxH.out] at hcl
              have hc0 := ho2.cell c0H.out hne
              have hgw := lt_of_cell hc0
              have hzw := hM2.zl
              clear k1 k2 k3 k4 hM2
              generalize wr.heap.size = B at *
              go_wp2_with fail
              refine fresh_world (fun W => LostW w W g z B (m.with (lostTo ls m.zs k)) ⟨0, 0⟩) (((hLH.out.setL 0).setS 3).setS 0) ?_
              intro W3 hL3
              have hL3H := Lib.hid hL3
              clear ho2 u0 u1 u2 u3 u4 u5 u6 hc0 hgw hzw
              obtain ⟨hM2, ho2, u0, u1, u2, u3, u4, u5, u6⟩ := hL3
              have hc0 := ho2.cell c0H.out hne
              obtain ⟨k1, k2, k3, k4⟩ := hM2.cellsW hlen
              clear hM2
              go_region
              go_wp2_with fail
              go_roundw
              case rel =>
                refine ⟨k + 1, by omega, by go_num, ?_, ?_⟩
                · rw [← hend.out]
                  exact (hboH.out _ hL3H.out.m 0 (0)).drewN 1
                · exact ((hL3H.out.o.set _ _).set _ _).drewN 1
              case measure => simp [intOf]; omega
            · have hsz : shutZ ⟨3, x⟩ = ⟨3, x⟩ := by unfold shutZ; simp [hx0]
              have hx0' : (x == 0) = false := by simp [hx0]
              rw [hsz] at hend
              clear hsz hx0
              go_wp2_with fail
              go_quiet (fail)
              refine fresh_K (fun W => LostW w W g z wr.heap.size (m.with (lostTo ls m.zs k)) y) (LostW.new y hMwH.out hoH.out _ _) ?_
              intro W2 hL
              have hLH := Lib.hid hL
              obtain ⟨hM2, ho2, u0, u1, u2, u3, u4, u5, u6⟩ := hL
              have hcl := (hIH.out W2 ho2).cell h1
              rw [hxH.out] at hcl
              have hc0 := ho2.cell c0H.out hne
              have hgw := lt_of_cell hc0
              have hzw := hM2.zl
              clear k1 k2 k3 k4 hM2
              generalize wr.heap.size = B at *
              go_wp2_with fail
              refine fresh_world (fun W => LostW w W g z B (m.with (lostTo ls m.zs k)) ⟨3, x⟩) ((hLH.out.setL x).setS 3) ?_
              intro W3 hL3
              have hL3H := Lib.hid hL3
              clear ho2 u0 u1 u2 u3 u4 u5 u6 hc0 hgw hzw
              obtain ⟨hM2, ho2, u0, u1, u2, u3, u4, u5, u6⟩ := hL3
              have hc0 := ho2.cell c0H.out hne
              obtain ⟨k1, k2, k3, k4⟩ := hM2.cellsW hlen
              clear hM2
              go_region
              go_wp2_with fail
              go_roundw
              case rel =>
                refine ⟨k + 1, by omega, by go_num, ?_, ?_⟩
                · rw [← hend.out]
                  exact (hboH.out _ hL3H.out.m 3 (x)).drewN 1
                · exact ((hL3H.out.o.set _ _).set _ _).drewN 1
              case measure => simp [intOf]; omega
          · have h3' : decide (x < y.l) = false := by simpa using h3
            have hend := Lib.hid (hplainH.out (fun h => h3 h.2.2))
            clear hplainH hfullH
            by_cases hs : y.s = 4
            · rw [if_pos hs] at hend
              have hs' : (y.s == 4) = true := by simp [hs]
              clear hs
              go_wp2_with fail
              go_quiet (fail)
              refine fresh_K (fun W => LostW w W g z wr.heap.size (m.with (lostTo ls m.zs k)) y) (LostW.new y hMwH.out hoH.out _ _) ?_
              intro W2 hL
              have hLH := Lib.hid hL
              obtain ⟨hM2, ho2, u0, u1, u2, u3, u4, u5, u6⟩ := hL
              skip
              have hc0 := ho2.cell c0H.out hne
              have hgw := lt_of_cell hc0
              have hzw := hM2.zl
              clear k1 k2 k3 k4 hM2
              generalize wr.heap.size = B at *
              go_wp2_with fail
              refine fresh_world (fun W => LostW w W g z B (m.with (lostTo ls m.zs k)) ⟨y.s, y.l⟩) (hLH.out) ?_
              intro W3 hL3
              have hL3H := Lib.hid hL3
              clear ho2 u0 u1 u2 u3 u4 u5 u6 hc0 hgw hzw
              obtain ⟨hM2, ho2, u0, u1, u2, u3, u4, u5, u6⟩ := hL3
              have hc0 := ho2.cell c0H.out hne
              obtain ⟨k1, k2, k3, k4⟩ := hM2.cellsW hlen
              clear hM2
              go_region
              go_wp2_with fail
              go_roundw
              case rel =>
                refine ⟨k + 1, by omega, by go_num, ?_, ?_⟩
                · rw [← hend.out]
                  exact (hboH.out _ hL3H.out.m y.s (y.l)).drewN 1
                · exact ((hL3H.out.o.set _ _).set _ _).drewN 1
              case measure => simp [intOf]; omega
            · rw [if_neg hs] at hend
              have hs' : (y.s == 4) = false := by simp [hs]
              clear hs
              by_cases hl0 : y.l = 0
              · have hsz : shutZ y = ⟨0, y.l⟩ := by unfold shutZ; rw [if_pos hl0]
                have hl0' : (y.l == 0) = true := by simp [hl0]
                rw [hsz] at hend
                clear hsz hl0
                go_wp2_with fail
                go_quiet (fail)
                refine fresh_K (fun W => LostW w W g z wr.heap.size (m.with (lostTo ls m.zs k)) y) (LostW.new y hMwH.out hoH.out _ _) ?_
                intro W2 hL
                have hLH := Lib.hid hL
                obtain ⟨hM2, ho2, u0, u1, u2, u3, u4, u5, u6⟩ := hL
                skip
                have hc0 := ho2.cell c0H.out hne
                have hgw := lt_of_cell hc0
                have hzw := hM2.zl
                clear k1 k2 k3 k4 hM2
                generalize wr.heap.size = B at *
                go_wp2_with fail
                refine fresh_world (fun W => LostW w W g z B (m.with (lostTo ls m.zs k)) ⟨0, y.l⟩) ((hLH.out.setS 3).setS 0) ?_
                intro W3 hL3
                have hL3H := Lib.hid hL3
                clear ho2 u0 u1 u2 u3 u4 u5 u6 hc0 hgw hzw
                obtain ⟨hM2, ho2, u0, u1, u2, u3, u4, u5, u6⟩ := hL3
                have hc0 := ho2.cell c0H.out hne
                obtain ⟨k1, k2, k3, k4⟩ := hM2.cellsW hlen
                clear hM2
                go_region
                go_wp2_with fail
                go_roundw
                case rel =>
                  refine ⟨k + 1, by omega, by go_num, ?_, ?_⟩
                  · rw [← hend.out]
                    exact (hboH.out _ hL3H.out.m 0 (y.l)).drewN 1
                  · exact ((hL3H.out.o.set _ _).set _ _).drewN 1
                case measure => simp [intOf]; omega
              · have hsz : shutZ y = ⟨3, y.l⟩ := by unfold shutZ; rw [if_neg hl0]
                have hl0' : (y.l == 0) = false := by simp [hl0]
                rw [hsz] at hend
                clear hsz hl0
                go_wp2_with fail
                go_quiet (fail)
                refine fresh_K (fun W => LostW w W g z wr.heap.size (m.with (lostTo ls m.zs k)) y) (LostW.new y hMwH.out hoH.out _ _) ?_
                intro W2 hL
                have hLH := Lib.hid hL
                obtain ⟨hM2, ho2, u0, u1, u2, u3, u4, u5, u6⟩ := hL
                skip
                have hc0 := ho2.cell c0H.out hne
                have hgw := lt_of_cell hc0
                have hzw := hM2.zl
                clear k1 k2 k3 k4 hM2
                generalize wr.heap.size = B at *
                go_wp2_with fail
                refine fresh_world (fun W => LostW w W g z B (m.with (lostTo ls m.zs k)) ⟨3, y.l⟩) (hLH.out.setS 3) ?_
                intro W3 hL3
                have hL3H := Lib.hid hL3
                clear ho2 u0 u1 u2 u3 u4 u5 u6 hc0 hgw hzw
                obtain ⟨hM2, ho2, u0, u1, u2, u3, u4, u5, u6⟩ := hL3
                have hc0 := ho2.cell c0H.out hne
                obtain ⟨k1, k2, k3, k4⟩ := hM2.cellsW hlen
                clear hM2
                go_region
                go_wp2_with fail
                go_roundw
                case rel =>
                  refine ⟨k + 1, by omega, by go_num, ?_, ?_⟩
                  · rw [← hend.out]
                    exact (hboH.out _ hL3H.out.m 3 (y.l)).drewN 1
                  · exact ((hL3H.out.o.set _ _).set _ _).drewN 1
                case measure => simp [intOf]; omega
        · have h2' : decide (0 ≤ x) = false := by simpa using h2
          have hend := Lib.hid (hplainH.out (fun h => h2 h.2.1))
          clear hplainH hfullH
          by_cases hs : y.s = 4
          · rw [if_pos hs] at hend
            have hs' : (y.s == 4) = true := by simp [hs]
            clear hs
            go_wp2_with fail
            go_quiet (fail)
            refine fresh_K (fun W => LostW w W g z wr.heap.size (m.with (lostTo ls m.zs k)) y) (LostW.new y hMwH.out hoH.out _ _) ?_
            intro W2 hL
            have hLH := Lib.hid hL
            obtain ⟨hM2, ho2, u0, u1, u2, u3, u4, u5, u6⟩ := hL
            skip
            have hc0 := ho2.cell c0H.out hne
            have hgw := lt_of_cell hc0
            have hzw := hM2.zl
            clear k1 k2 k3 k4 hM2
            generalize wr.heap.size = B at *
            go_wp2_with fail
            refine fresh_world (fun W => LostW w W g z B (m.with (lostTo ls m.zs k)) ⟨y.s, y.l⟩) (hLH.out) ?_
            intro W3 hL3
            have hL3H := Lib.hid hL3
            clear ho2 u0 u1 u2 u3 u4 u5 u6 hc0 hgw hzw
            obtain ⟨hM2, ho2, u0, u1, u2, u3, u4, u5, u6⟩ := hL3
            have hc0 := ho2.cell c0H.out hne
            obtain ⟨k1, k2, k3, k4⟩ := hM2.cellsW hlen
            clear hM2
            go_region
            go_wp2_with fail
            go_roundw
            case rel =>
              refine ⟨k + 1, by omega, by go_num, ?_, ?_⟩
              · rw [← hend.out]
                exact (hboH.out _ hL3H.out.m y.s (y.l)).drewN 1
              · exact ((hL3H.out.o.set _ _).set _ _).drewN 1
            case measure => simp [intOf]; omega
          · rw [if_neg hs] at hend
            have hs' : (y.s == 4) = false := by simp [hs]
            clear hs
            by_cases hl0 : y.l = 0
            · have hsz : shutZ y = ⟨0, y.l⟩ := by unfold shutZ; rw [if_pos hl0]
              have hl0' : (y.l == 0) = true := by simp [hl0]
              rw [hsz] at hend
              clear hsz hl0
              go_wp2_with fail
              go_quiet (fail)
              refine fresh_K (fun W => LostW w W g z wr.heap.size (m.with (lostTo ls m.zs k)) y) (LostW.new y hMwH.out hoH.out _ _) ?_
              intro W2 hL
              have hLH := Lib.hid hL
              obtain ⟨hM2, ho2, u0, u1, u2, u3, u4, u5, u6⟩ := hL
              skip
              have hc0 := ho2.cell c0H.out hne
              have hgw := lt_of_cell hc0
              have hzw := hM2.zl
              clear k1 k2 k3 k4 hM2
              generalize wr.heap.size = B at *
              go_wp2_with fail
              refine fresh_world (fun W => LostW w W g z B (m.with (lostTo ls m.zs k)) ⟨0, y.l⟩) ((hLH.out.setS 3).setS 0) ?_
              intro W3 hL3
              have hL3H := Lib.hid hL3
              clear ho2 u0 u1 u2 u3 u4 u5 u6 hc0 hgw hzw
              obtain ⟨hM2, ho2, u0, u1, u2, u3, u4, u5, u6⟩ := hL3
              have hc0 := ho2.cell c0H.out hne
              obtain ⟨k1, k2, k3, k4⟩ := hM2.cellsW hlen
              clear hM2
              go_region
              go_wp2_with fail
              go_roundw
              case rel =>
                refine ⟨k + 1, by omega, by go_num, ?_, ?_⟩
                · rw [← hend.out]
                  exact (hboH.out _ hL3H.out.m 0 (y.l)).drewN 1
                · exact ((hL3H.out.o.set _ _).set _ _).drewN 1
              case measure => simp [intOf]; omega
            · have hsz : shutZ y = ⟨3, y.l⟩ := by unfold shutZ; rw [if_neg hl0]
              have hl0' : (y.l == 0) = false := by simp [hl0]
              rw [hsz] at hend
              clear hsz hl0
              go_wp2_with fail
              go_quiet (fail)
              refine fresh_K (fun W => LostW w W g z wr.heap.size (m.with (lostTo ls m.zs k)) y) (LostW.new y hMwH.out hoH.out _ _) ?_
              intro W2 hL
              have hLH := Lib.hid hL
              obtain ⟨hM2, ho2, u0, u1, u2, u3, u4, u5, u6⟩ := hL
              skip
              have hc0 := ho2.cell c0H.out hne
              have hgw := lt_of_cell hc0
              have hzw := hM2.zl
              clear k1 k2 k3 k4 hM2
              generalize wr.heap.size = B at *
              go_wp2_with fail
              refine fresh_world (fun W => LostW w W g z B (m.with (lostTo ls m.zs k)) ⟨3, y.l⟩) (hLH.out.setS 3) ?_
              intro W3 hL3
              have hL3H := Lib.hid hL3
              clear ho2 u0 u1 u2 u3 u4 u5 u6 hc0 hgw hzw
              obtain ⟨hM2, ho2, u0, u1, u2, u3, u4, u5, u6⟩ := hL3
              have hc0 := ho2.cell c0H.out hne
              obtain ⟨k1, k2, k3, k4⟩ := hM2.cellsW hlen
              clear hM2
              go_region
              go_wp2_with fail
              go_roundw
              case rel =>
                refine ⟨k + 1, by omega, by go_num, ?_, ?_⟩
                · rw [← hend.out]
                  exact (hboH.out _ hL3H.out.m 3 (y.l)).drewN 1
                · exact ((hL3H.out.o.set _ _).set _ _).drewN 1
              case measure => simp [intOf]; omega
      · have h1' : decide (k < ls.length) = false := by simpa using h1
        have hend := Lib.hid (hplainH.out (fun h => h1 h.1))
        clear hplainH hfullH
        by_cases hs : y.s = 4
        · rw [if_pos hs] at hend
          have hs' : (y.s == 4) = true := by simp [hs]
          clear hs
          go_wp2_with fail
          go_quiet (fail)
          refine fresh_K (fun W => LostW w W g z wr.heap.size (m.with (lostTo ls m.zs k)) y) (LostW.new y hMwH.out hoH.out _ _) ?_
          intro W2 hL
          have hLH := Lib.hid hL
          obtain ⟨hM2, ho2, u0, u1, u2, u3, u4, u5, u6⟩ := hL
          skip
          have hc0 := ho2.cell c0H.out hne
          have hgw := lt_of_cell hc0
          have hzw := hM2.zl
          clear k1 k2 k3 k4 hM2
          generalize wr.heap.size = B at *
          go_wp2_with fail
          refine fresh_world (fun W => LostW w W g z B (m.with (lostTo ls m.zs k)) ⟨y.s, y.l⟩) (hLH.out) ?_
          intro W3 hL3
          have hL3H := Lib.hid hL3
          clear ho2 u0 u1 u2 u3 u4 u5 u6 hc0 hgw hzw
          obtain ⟨hM2, ho2, u0, u1, u2, u3, u4, u5, u6⟩ := hL3
          have hc0 := ho2.cell c0H.out hne
          obtain ⟨k1, k2, k3, k4⟩ := hM2.cellsW hlen
          clear hM2
          go_region
          go_wp2_with fail
          go_roundw
          case rel =>
            refine ⟨k + 1, by omega, by go_num, ?_, ?_⟩
            · rw [← hend.out]
              exact (hboH.out _ hL3H.out.m y.s (y.l)).drewN 1
            · exact ((hL3H.out.o.set _ _).set _ _).drewN 1
          case measure => simp [intOf]; omega
        · rw [if_neg hs] at hend
          have hs' : (y.s == 4) = false := by simp [hs]
          clear hs
          by_cases hl0 : y.l = 0
          · have hsz : shutZ y = ⟨0, y.l⟩ := by unfold shutZ; rw [if_pos hl0]
            have hl0' : (y.l == 0) = true := by simp [hl0]
            rw [hsz] at hend
            clear hsz hl0
            go_wp2_with fail
            go_quiet (fail)
            refine fresh_K (fun W => LostW w W g z wr.heap.size (m.with (lostTo ls m.zs k)) y) (LostW.new y hMwH.out hoH.out _ _) ?_
            intro W2 hL
            have hLH := Lib.hid hL
            obtain ⟨hM2, ho2, u0, u1, u2, u3, u4, u5, u6⟩ := hL
            skip
            have hc0 := ho2.cell c0H.out hne
            have hgw := lt_of_cell hc0
            have hzw := hM2.zl
            clear k1 k2 k3 k4 hM2
            generalize wr.heap.size = B at *
            go_wp2_with fail
            refine fresh_world (fun W => LostW w W g z B (m.with (lostTo ls m.zs k)) ⟨0, y.l⟩) ((hLH.out.setS 3).setS 0) ?_
            intro W3 hL3
            have hL3H := Lib.hid hL3
            clear ho2 u0 u1 u2 u3 u4 u5 u6 hc0 hgw hzw
            obtain ⟨hM2, ho2, u0, u1, u2, u3, u4, u5, u6⟩ := hL3
            have hc0 := ho2.cell c0H.out hne
            obtain ⟨k1, k2, k3, k4⟩ := hM2.cellsW hlen
            clear hM2
            go_region
            go_wp2_with fail
            go_roundw
            case rel =>
              refine ⟨k + 1, by omega, by go_num, ?_, ?_⟩
              · rw [← hend.out]
                exact (hboH.out _ hL3H.out.m 0 (y.l)).drewN 1
              · exact ((hL3H.out.o.set _ _).set _ _).drewN 1
            case measure => simp [intOf]; omega
          · have hsz : shutZ y = ⟨3, y.l⟩ := by unfold shutZ; rw [if_neg hl0]
            have hl0' : (y.l == 0) = false := by simp [hl0]
            rw [hsz] at hend
            clear hsz hl0
            go_wp2_with fail
            go_quiet (fail)
            refine fresh_K (fun W => LostW w W g z wr.heap.size (m.with (lostTo ls m.zs k)) y) (LostW.new y hMwH.out hoH.out _ _) ?_
            intro W2 hL
            have hLH := Lib.hid hL
            obtain ⟨hM2, ho2, u0, u1, u2, u3, u4, u5, u6⟩ := hL
            skip
            have hc0 := ho2.cell c0H.out hne
            have hgw := lt_of_cell hc0
            have hzw := hM2.zl
            clear k1 k2 k3 k4 hM2
            generalize wr.heap.size = B at *
            go_wp2_with fail
            refine fresh_world (fun W => LostW w W g z B (m.with (lostTo ls m.zs k)) ⟨3, y.l⟩) (hLH.out.setS 3) ?_
            intro W3 hL3
            have hL3H := Lib.hid hL3
            clear ho2 u0 u1 u2 u3 u4 u5 u6 hc0 hgw hzw
            obtain ⟨hM2, ho2, u0, u1, u2, u3, u4, u5, u6⟩ := hL3
            have hc0 := ho2.cell c0H.out hne
            obtain ⟨k1, k2, k3, k4⟩ := hM2.cellsW hlen
            clear hM2
            go_region
            go_wp2_with fail
            go_roundw
            case rel =>
              refine ⟨k + 1, by omega, by go_num, ?_, ?_⟩
              · rw [← hend.out]
                exact (hboH.out _ hL3H.out.m 3 (y.l)).drewN 1
              · exact ((hL3H.out.o.set _ _).set _ _).drewN 1
            case measure => simp [intOf]; omega
    · obtain rfl : k = m.zs.length := by omega
      rw [lostTo_all] at hM
      go_wp2
      go_end0
      exact ⟨rfl, hM, ho⟩
end Go.Proofs.Ytncbkegflkjlfaa
