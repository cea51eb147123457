/- Rows of numbers. -/
import Derived.Test.YtpmhfalhieinjaaGreatDoorMBase
import Derived.Lib.AppendZerosOnto
namespace Go.Proofs.YtpmhfalhieinjaaGreatDoor
open Go.RowKit
theorem append_run_wp2 {P : Program} {ops : Array Oper} {rest : List Oper} {o : Oper} {a : Act} {w w' : World} {Q : Exit → Act → World → Prop} (hw : Region.wanted o (yielded ops a.tmps) = true) (s x : Operand) (t u : TypeId)
    (ho : o.op = .call { callee := .builtin .append, args := #[s, x], argTypes := #[t, u] }) {vs vx r : Value} (hs : a.eval s = vs) (hx : a.eval x = vx) (hrun : (Builtin.append_ #[t, u] o.type #[vs, vx]).run P w = .ok r w')
    (h : wpList P ops Q rest (a.put o.dst r) w') : wpList P ops Q (o :: rest) a w :=
  wpList_step fun K hK => by
    rw [if_pos hw]
    unfold Oper.wp execOp
    simp only [ho, resolve, invoke, builtin, Sem.run_bind, Sem.run_pure, Result.andThen_ok, List.map_toArray, List.map_cons, List.map_nil, hs, hx, hrun]
    exact hK _ _ h
/-- A block of numbers. -/
def IntB (W : World) (b : Nat) : Prop := ∃ cs fr, W.heap[b]? = some (.cells cs 3 fr)
theorem IntB.same {W W' : World} {b : Nat} (h : IntB W b) (hb : W'.heap[b]? = W.heap[b]?) : IntB W' b := by
  obtain ⟨cs, fr, h⟩ := h
  exact ⟨cs, fr, hb.trans h⟩
/-- A row of numbers in new memory. -/
def IPost (w : World) (zs : List Int) (e : Ending) (w' : World) : Prop := ∃ A cap, e = .returned (.slice A zs.length cap) ∧ IntsIn w' A zs ∧ Below w.heap.size w w' ∧ (zs ≠ [] → ∀ b off, A = some ⟨b, off, none⟩ → w.heap.size ≤ b ∧ IntB w' b) ∧ zs.length ≤ cap
def ivals (zs : List Int) : List Value := zs.map (Value.int .i64)
theorem own_out {w : World} {B : Nat} {v : Value} {zs : List Int} (hown : w.ownsRow B 3 1 v zs.length (ivals zs)) : ∃ A cap, v = .slice A zs.length cap ∧ IntsIn w A zs ∧ (zs ≠ [] → ∀ b off, A = some ⟨b, off, none⟩ → B ≤ b ∧ IntB w b) ∧ zs.length ≤ cap := by
  rcases hown.2 with ⟨e, h0⟩ | ⟨g, cap, cur, e, hg, hgg, hnc, _⟩
  · exact ⟨none, 0, by rw [e, h0], .inl (List.eq_nil_of_length_eq_zero h0), fun h => absurd (List.eq_nil_of_length_eq_zero h0) h, by omega⟩
  · refine ⟨_, cap, e, ?_, fun _ b off e' => by injection e' with e'; injection e' with e1 _; subst e1; exact ⟨hg, cur, _, hgg⟩, hnc⟩
    by_cases h0 : zs = []
    · exact .inl h0
    · refine .inr ⟨g, 0, rfl, (Array.getElem?_eq_some_iff.1 hgg).1, fun j hj => ?_⟩
      rw [e] at hown
      rw [Nat.zero_add, hown.cellAt j (by omega)]
      unfold ivals
      rw [List.getElem?_map, List.getElem?_eq_getElem hj]
      rfl
theorem infoI3 : (Tryz.prog.info? 3).map (fun i => (i.zero, i.size, i.bytes)) = some (some (.int .i64 0), 1, 8) := by kernel_rfl
set_option maxRecDepth 100000 in
theorem iclone_any (w : World) (A : Option Addr) (cap : Nat) (zs : List Int) (hI : IntsIn w A zs) (hN : A = none → cap = 0) (hl : zs.length ≤ 17592186044416) :
    Calls Tryz.prog 49 #[.slice A zs.length cap] w (IPost w zs) := by
  have hn := fun W => Lib.run_eql_slice_nil (P := Tryz.prog) W 42 3 A zs.length cap 0 0 Tryz.underlying42
  cases A with
  | none =>
    have hzs : zs = [] := by
      rcases hI with h | ⟨b, off, h, _⟩
      · exact h
      · cases h
    subst hzs
    obtain rfl := hN rfl
    have hn0 : ∀ W : World, (binOp .eql 42 (.slice none 0 0) (.slice none 0 0)).run Tryz.prog W = .ok (.bool true) W := fun W => Lib.run_eql_slice_nil (P := Tryz.prog) W 42 3 none 0 0 0 0 Tryz.underlying42
    clear hI hN hn
    go_enter Tryz.func49, Tryz.ntmps49
    go_wp2
    go_ret
    exact ⟨none, 0, rfl, .inl rfl, Below.refl _ _, fun h => absurd rfl h, Nat.le_refl _⟩
  | some ad =>
    obtain ⟨i0, hi, hz0, hz1, hz2⟩ := info_parts infoI3
    have hnew : (w.alloc (.cells #[] 3)).ownsRow w.heap.size 3 1 (.slice (some ⟨w.heap.size, 0, none⟩) 0 0) 0 [] := World.ownsRow_made w #[] 0 (Nat.le_refl _) (by unfold maxLen; omega) rfl
    have hb : Below w.heap.size w (w.alloc (.cells #[] 3)) := (Below.refl _ _).alloc (Nat.le_refl _) _
    have hI2 := hI.below hb
    have hcells : ∀ j u, (ivals zs)[j]? = some u → (w.alloc (.cells #[] 3)).cell? (ad.add j) = some u := fun j u hu => by
      rcases hI2 with h0 | ⟨b, off, he, _, hcc⟩
      · rw [h0] at hu; simp [ivals] at hu
      · obtain rfl := Option.some.inj he
        unfold ivals at hu
        rw [List.getElem?_map] at hu
        by_cases hj : j < zs.length
        · rw [List.getElem?_eq_getElem hj] at hu
          simp only [Option.map_some, Option.some.injEq] at hu
          rw [Go.WideShapes.add_plain, hcc j hj, hu]
        · rw [List.getElem?_eq_none (by omega)] at hu
          cases hu
    obtain ⟨v2, W', hrun, hown2, hgr2, _, _⟩ := run_append_own_at (P := Tryz.prog) (w.alloc (.cells #[] 3)) w.heap.size 42 42 3 i0 (.int .i64 0) 1 8 Tryz.underlying42 hi hz0 hz1 hz2 rfl (by decide) _ _ _ hnew ad zs.length cap (ivals zs) (by simp [ivals]) hcells
      (by intro u hu; obtain ⟨p, _, rfl⟩ := List.mem_map.1 hu; rfl) (by unfold maxLen; omega) (by omega) (by simp)
    rw [Nat.zero_add, List.nil_append] at hown2
    obtain ⟨A', cap', rfl, hI', hA', hc'⟩ := own_out hown2
    have hb' : Below w.heap.size w W' := hb.grown hgr2 (by simp) (fun q hq => (hnew.lt q hq).1)
    have hrunH := Lib.hid hrun
    clear hown2 hgr2 hcells hI2 hnew hb hi hz0 hz1 hz2
    clear hrun hI hN
    go_enter Tryz.func49, Tryz.ntmps49
    go_wp2_with (at_builtin; refine append_run_wp rfl _ _ _ rfl rfl rfl hrunH.out ?_)
    go_ret
    exact ⟨A', cap', rfl, hI', hb', hA', hc'⟩
/-- Room for so many. -/
def GPost (w : World) (n : Nat) (e : Ending) (w' : World) : Prop := ∃ A cap, e = .returned (.slice A 0 cap) ∧ w'.ownsRow w.heap.size 3 1 (.slice A 0 cap) 0 [] ∧ Below w.heap.size w w' ∧ n ≤ cap
set_option maxRecDepth 100000 in
theorem grow_nil (w : World) (n : Nat) (hn : n ≤ 17592186044416) : Calls Tryz.prog 119 #[.slice none 0 0, .int .i64 (n : Int)] w (GPost w n) := by
  by_cases h0 : n = 0
  · subst h0
    go_enter Tryz.func119, Tryz.ntmps119
    go_wp2
    go_ret
    exact ⟨none, 0, rfl, World.ownsRow_nil _ _ _ _, Below.refl _ _, Nat.le_refl _⟩
  · obtain ⟨i0, hi, hz0, hz1, hz2⟩ := info_parts infoI3
    have hold : (Builtin.firstCells i0.size 0 (.slice none 0 0)).run Tryz.prog w.drew = .ok ([] : List Value).toArray w.drew := run_firstCells_none w.drew i0.size 0 0 0
    have hrun := Lib.run_append_grow_zeros (P := Tryz.prog) w 42 3 42 3 i0 (.int .i64 0) .i64 .i64 Tryz.underlying42 Tryz.underlying3 hi hz0 none 0 0 [] hold n (by omega) (by omega) (by omega) (by omega) (by rw [hz2]; omega)
      (by rw [hz2]; exact growslice_fits (by omega) (by omega))
    rw [Nat.zero_add] at hrun
    have hGn := grownCap_ge w n 0 3
    have hGm := grownCap_le_maxLen w n 0 3 (by unfold maxLen; omega)
    generalize hG : grownCap w n 0 3 = G at hrun hGn hGm
    clear hold
    have hsz : ((([] : List Value).toArray ++ Builtin.zeroCells (Value.int .i64 0).cells n ++ Builtin.zeroCells (Value.int .i64 0).cells (G - n)) : Array Value).size = G * 1 := by
      have hz1' : (Value.int IntKind.i64 0).cells.size = 1 := rfl
      simp only [Array.size_append, List.size_toArray, size_zeroCells, hz1', List.length_nil]
      omega
    have he0 : (([] : List Value).toArray ++ Builtin.zeroCells (Value.int .i64 0).cells n ++ Builtin.zeroCells (Value.int .i64 0).cells (G - n) : Array Value) = Builtin.zeroCells (Value.int .i64 0).cells n ++ Builtin.zeroCells (Value.int .i64 0).cells (G - n) := by simp
    rw [he0] at hsz hrun
    have hown := World.ownsRow_made (base := w.heap.size) (e := 3) w.drew _ G (Nat.le_refl _) hGm hsz
    have hrunH := Lib.hid hrun
    have hownH := Lib.hid hown
    clear hrun hown hG hsz
    unfold maxLen at hGm
    go_enter Tryz.func119, Tryz.ntmps119
    go_wp2_with (at_builtin; refine append_run_wp2 rfl _ _ _ _ rfl rfl rfl hrunH.out ?_)
    go_ret
    exact ⟨_, G, rfl, hownH.out, ((Below.refl _ _).alloc (Nat.le_refl _) _).drew, hGn⟩
/-- The numbers of rows, one behind the other. -/
def rflat (rs : List IRow) : List Int := rs.flatMap IRow.zs
theorem rflat_take {rs : List IRow} {k : Nat} (h : k < rs.length) : rflat (rs.take (k + 1)) = rflat (rs.take k) ++ rs[k].zs := by
  unfold rflat
  rw [List.take_succ_eq_append_getElem h, List.flatMap_append]
  simp
theorem rflat_le (rs : List IRow) (k : Nat) : (rflat (rs.take k)).length ≤ (rflat rs).length := by
  have : rflat rs = rflat (rs.take k) ++ rflat (rs.drop k) := by unfold rflat; rw [← List.flatMap_append, List.take_append_drop]
  rw [this, List.length_append]
  omega
theorem RowsIn.below {w w' : World} {A : Option Addr} {rs : List IRow} (h : RowsIn w A rs) (hb : Below w.heap.size w w') : RowsIn w' A rs := by
  rcases h with h | ⟨b, off, rfl, hlt, hc⟩
  · exact .inl h
  · exact .inr ⟨b, off, rfl, Nat.lt_of_lt_of_le hlt hb.size, fun i hi => ⟨(hb.cell (p := ⟨b, _, none⟩) hlt).trans (hc i hi).1, (hc i hi).2.1.below hb, (hc i hi).2.2⟩⟩
set_option maxRecDepth 100000 in
set_option maxHeartbeats 2000000 in
theorem concat_any (w : World) (B n0 : Nat) (rs : List IRow) (hR : RowsIn w (some ⟨B, 0, none⟩) rs) (hA : ∀ r ∈ rs, ∃ a, r.A = some a) (hn : rs.length ≤ 1000) (hl : (rflat rs).length ≤ 17592186044416) :
    Calls Tryz.prog 100 #[.slice (some ⟨B, 0, none⟩) rs.length n0] w (IPost w (rflat rs)) := by
  have hRH := Lib.hid hR
  have hAH := Lib.hid hA
  have hgr := Lib.hid (fun W => grow_nil W (rflat rs).length hl)
  clear hR hA
  go_enter Tryz.func100, Tryz.ntmps100
  go_wp2_with fail
  go_loopw [3, 11] (fun sz i wr => ∃ k : Nat, k ≤ rs.length ∧ i = .int .i64 (k : Int) ∧ sz = .int .i64 ((rflat (rs.take k)).length : Int) ∧ w = wr) (fun _ i _ => rs.length - (intOf i).toNat)
  case atStart => exact ⟨0, by omega, rfl, rfl, rfl⟩
  case round =>
    obtain ⟨k, hk, rfl, rfl, rfl⟩ := hrel
    by_cases hlt : k < rs.length
    · obtain ⟨b, off, he, hltb, hc, hIn⟩ := hRH.out.at_ hlt
      injection he with he
      injection he with e1 e2 _
      subst e1
      subst e2
      rw [Nat.zero_add] at hc
      have hft := rflat_take hlt
      have hfl := rflat_le rs (k + 1)
      rw [hft, List.length_append] at hfl
      have hQb : (rflat (rs.take (k + 1))).length ≤ 17592186044416 := by rw [hft, List.length_append]; omega
      have hsz2 : ((rflat (rs.take k)).length : Int) + (rs[k].zs.length : Int) = ((rflat (rs.take (k + 1))).length : Int) := by rw [hft, List.length_append]; omega
      generalize hQ : (rflat (rs.take (k + 1))).length = Q at hsz2 hQb
      have hQH := Lib.hid hQ
      clear hft
      generalize (rflat (rs.take k)).length = Q0 at hsz2 hfl
      clear hfl hIn hQ
      go_wp2_with fail
      go_roundw
      case rel => exact ⟨k + 1, by omega, by simp, congrArg (fun n : Nat => Value.int .i64 (n : Int)) hQH.out.symm, trivial⟩
      case measure =>
        show rs.length - (intOf (Value.int .i64 _)).toNat < rs.length - (intOf (Value.int .i64 _)).toNat
        simp only [intOf]
        omega
    · have e : k = rs.length := by omega
      subst e
      rw [List.take_length]
      clear hk hlt
      obtain ⟨i0, hi, hz0, hz1, hz2⟩ := info_parts infoI3
      have happ := Lib.hid (fun W v n xs ad m c news h1 h2 h3 h4 h5 h6 h7 => run_append_own_at (P := Tryz.prog) W w.heap.size 42 42 3 i0 (.int .i64 0) 1 8 Tryz.underlying42 hi hz0 hz1 hz2 rfl (by decide) v n xs h1 ad m c news h2 h3 h4 h5 h6 h7)
      clear hi hz0 hz1 hz2
      go_wp2_with fail
      refine (hgr.out _).mono ?_
      rintro e w1 ⟨A1, cap1, rfl, hown1, hb1, _⟩
      clear hgr
      go_wp2_with fail
      go_loopw [6, 27] (fun nv i wr => ∃ k : Nat, k ≤ rs.length ∧ i = .int .i64 (k : Int) ∧ wr.ownsRow w.heap.size 3 1 nv (rflat (rs.take k)).length (ivals (rflat (rs.take k))) ∧ Below w.heap.size w wr) (fun _ i _ => rs.length - (intOf i).toNat)
      case atStart => exact ⟨0, by omega, rfl, hown1, hb1⟩
      case round =>
        clear hown1 hb1
        obtain ⟨k, hk, rfl, hown, hb⟩ := hrel
        by_cases hlt : k < rs.length
        · obtain ⟨b, off, he, hltb, hc, hIn⟩ := (hRH.out.below hb).at_ hlt
          injection he with he
          injection he with e1 e2 _
          subst e1
          subst e2
          rw [Nat.zero_add] at hc
          obtain ⟨ad, had⟩ := hAH.out _ (List.getElem_mem hlt)
          have hft := rflat_take hlt
          have hfl := rflat_le rs (k + 1)
          rw [hft, List.length_append] at hfl
          have hIz := hIn.1
          rw [had] at hIz hc
          have hcells : ∀ j u, (ivals rs[k].zs)[j]? = some u → wr.cell? (ad.add j) = some u := fun j u hu => by
            rcases hIz with h0 | ⟨b, off, he, _, hcc⟩
            · rw [h0] at hu; simp [ivals] at hu
            · obtain rfl := Option.some.inj he
              unfold ivals at hu
              rw [List.getElem?_map] at hu
              by_cases hj : j < rs[k].zs.length
              · rw [List.getElem?_eq_getElem hj] at hu
                simp only [Option.map_some, Option.some.injEq] at hu
                rw [Go.WideShapes.add_plain, hcc j hj, hu]
              · rw [List.getElem?_eq_none (by omega)] at hu
                cases hu
          obtain ⟨v2, w2, hrun, hown2, hgr2, _, _⟩ := happ.out wr u6 _ _ ad rs[k].zs.length rs[k].cap (ivals rs[k].zs) hown (by simp [ivals]) hcells (by intro u hu; obtain ⟨p, _, rfl⟩ := List.mem_map.1 hu; rfl) (by unfold maxLen; omega) (by omega) hb.size
          have hb2 : Below w.heap.size w w2 := hb.grown hgr2 hb.size (fun q hq => (hown.lt q hq).1)
          have hrunH := Lib.hid hrun
          have hown2' : w2.ownsRow w.heap.size 3 1 v2 (rflat (rs.take (k + 1))).length (ivals (rflat (rs.take (k + 1)))) := by
            have e : ivals (rflat (rs.take (k + 1))) = ivals (rflat (rs.take k)) ++ ivals rs[k].zs := by rw [hft]; exact List.map_append ..
            rw [e, hft, List.length_append]
            exact hown2
          have hownH := Lib.hid hown2'
          clear hrun hown2 hgr2 hown2' hcells hIz hIn hft hfl hown
          go_wp2_with (at_builtin; refine append_run_wp rfl _ _ _ rfl rfl rfl hrunH.out ?_)
          go_roundw
          case rel => exact ⟨k + 1, by omega, by simp, hownH.out, hb2⟩
          case measure =>
            show rs.length - (intOf (Value.int .i64 _)).toNat < rs.length - (intOf (Value.int .i64 _)).toNat
            simp only [intOf]
            omega
        · have e : k = rs.length := by omega
          subst e
          rw [List.take_length] at hown
          obtain ⟨A, cap, rfl, hI, hnew, hcp⟩ := own_out hown
          clear hown happ hRH
          go_wp2_with fail
          go_ret
          exact ⟨A, cap, rfl, hI, hb, hnew, hcp⟩
end Go.Proofs.YtpmhfalhieinjaaGreatDoor
namespace Go.Proofs.YtpmhfalhieinjaaGreatDoor
open Go.RowKit
/-- Turned round, from a place on. -/
def rotL (zs : List Int) (i : Nat) : List Int := zs.drop (i % zs.length) ++ zs.take (i % zs.length)
theorem rotL_nil (i : Nat) : rotL [] i = [] := by simp [rotL]
theorem IntsIn.drop {w : World} {b off : Nat} {zs : List Int} (h : IntsIn w (some ⟨b, off, none⟩) zs) (k : Nat) : IntsIn w (some ⟨b, off + k, none⟩) (zs.drop k) := by
  rcases h with h | ⟨b', off', e, hlt, hc⟩
  · left; rw [h]; simp
  · injection e with e
    injection e with e1 e2 _
    subst e1
    subst e2
    refine .inr ⟨b, off + k, rfl, hlt, fun i hi => ?_⟩
    have hi' : k + i < zs.length := by rw [List.length_drop] at hi; omega
    rw [Nat.add_assoc, hc (k + i) hi', List.getElem_drop]
theorem IntsIn.take {w : World} {A : Option Addr} {zs : List Int} (h : IntsIn w A zs) (k : Nat) : IntsIn w A (zs.take k) := by
  rcases h with h | ⟨b', off', e, hlt, hc⟩
  · left; rw [h]; simp
  · refine .inr ⟨b', off', e, hlt, fun i hi => ?_⟩
    have hi' : i < zs.length := by rw [List.length_take] at hi; omega
    rw [hc i hi', List.getElem_take]
set_option maxRecDepth 100000 in
set_option maxHeartbeats 2000000 in
theorem rotated_any (w : World) (A : Option Addr) (cap i : Nat) (zs : List Int) (hI : IntsIn w A zs) (hc : zs.length ≤ cap) (hl : zs.length ≤ 17592186044416) (hi : i ≤ 100) :
    Calls Tryz.prog 74 #[.slice A zs.length cap, .int .i64 (i : Int)] w (IPost w (rotL zs i)) := by

  by_cases h0 : zs = []
  · subst h0
    rw [rotL_nil]
    clear hI
    go_enter Tryz.func74, Tryz.ntmps74
    go_wp2
    go_ret
    exact ⟨none, 0, rfl, .inl rfl, Below.refl _ _, fun h => absurd rfl h, Nat.le_refl _⟩
  · have hpos : 0 < zs.length := List.length_pos_iff.2 h0
    obtain ⟨b, off, rfl, hlb, hx0⟩ := hI.at_ hpos
    clear hx0
    have hp : i % zs.length < zs.length := Nat.mod_lt _ hpos
    have hmod : Int.tmod (i : Int) (zs.length : Int) = ((i % zs.length : Nat) : Int) := by
      rw [Int.tmod_eq_emod_of_nonneg (by omega)]; omega
    have hmod2 : ((i : Int) % (zs.length : Int)) = ((i % zs.length : Nat) : Int) := by omega
    have e : rotL zs i = zs.drop (i % zs.length) ++ zs.take (i % zs.length) := rfl
    rw [e]
    clear e
    generalize i % zs.length = p at hp hmod hmod2 ⊢
    have hcon := Lib.hid (fun W B (hB : W.cell? ⟨B, 0, none⟩ = some (.slice (some ⟨b, off + p, none⟩) (zs.length - p) (cap - p))) (hB2 : W.cell? ⟨B, 1, none⟩ = some (.slice (some ⟨b, off, none⟩) p cap)) (hb : Below w.heap.size w W) => by
      have h1 := concat_any W B 2 [⟨some ⟨b, off + p, none⟩, cap - p, zs.drop p⟩, ⟨some ⟨b, off, none⟩, cap, zs.take p⟩] (.inr ⟨B, 0, rfl, lt_of_cell hB, fun j hj => by
        have hj' : j < 2 := hj
        rcases (by omega : j = 0 ∨ j = 1) with rfl | rfl
        · exact ⟨by simpa [List.length_drop] using hB, (hI.drop p).below hb, by simp [List.length_drop]; omega, fun h => (by cases h)⟩
        · refine ⟨?_, (hI.take p).below hb, ?_, fun h => (by cases h)⟩
          · show W.cell? ⟨B, 0 + 1, none⟩ = some (.slice (some ⟨b, off, none⟩) (zs.take p).length cap)
            rw [List.length_take, Nat.min_eq_left (by omega)]
            exact hB2
          · show (zs.take p).length ≤ _
            rw [List.length_take]; omega⟩) (fun r hr => by
        rcases List.mem_cons.1 hr with rfl | hr
        · exact ⟨_, rfl⟩
        · rcases List.mem_cons.1 hr with rfl | hr
          · exact ⟨_, rfl⟩
          · cases hr) (by show 2 ≤ 1000; omega) (by
        show (zs.drop p ++ (zs.take p ++ [])).length ≤ _
        rw [List.append_nil, List.length_append, List.length_drop, List.length_take]
        omega)
      have e : rflat [⟨some ⟨b, off + p, none⟩, cap - p, zs.drop p⟩, ⟨some ⟨b, off, none⟩, cap, zs.take p⟩] = zs.drop p ++ zs.take p := by
        show zs.drop p ++ (zs.take p ++ []) = _
        rw [List.append_nil]
      have e2 : ([⟨some ⟨b, off + p, none⟩, cap - p, zs.drop p⟩, ⟨some ⟨b, off, none⟩, cap, zs.take p⟩] : List IRow).length = 2 := rfl
      rw [e, e2] at h1
      exact h1)
    unfold IPost at hcon
    have hcap1 : ¬ cap = p := by omega
    have hcap2 : p ≤ cap := by omega
    have hcap3 : p ≤ zs.length := by omega
    have hlen0 : ¬ (zs.length : Int) = 0 := by omega
    have hlen1 : ¬ zs.length = 0 := by omega
    clear hI
    generalize hZ : zs.drop p ++ zs.take p = Z at hcon ⊢
    clear h0 hZ
    generalize zs.length = n at *
    go_enter Tryz.func74, Tryz.ntmps74
    go_wp2_with fail
    refine region_anyC (fun _ => true) (fun W => Below w.heap.size w W) (by kernel_rfl) ?_
    have hS : Below w.heap.size w w.drew := (Below.refl _ _).drew
    refine anyL_take 0 (v := ?_) rfl (by kernel_rfl) (fun _ _ _ h => h) (Or.inl ⟨by rfl, ?_⟩) hS ?_
    rotate_left
    focus (intro W hW; go_simp; try with_reducible rfl)
    simp only [Act.put, List.setIfInBounds_toArray, List.set_cons_zero, List.set_cons_succ]
    refine anyL_take 1 (v := ?_) rfl (by kernel_rfl) (fun _ _ _ h => h) (Or.inl ⟨by rfl, ?_⟩) hS ?_
    rotate_left
    focus (intro W hW; go_simp; try with_reducible rfl)
    simp only [Act.put, List.setIfInBounds_toArray, List.set_cons_zero, List.set_cons_succ]
    refine anyL_take 2 (v := ?_) rfl (by kernel_rfl) (fun _ _ _ h => h) (Or.inl ⟨by rfl, ?_⟩) hS ?_
    rotate_left
    focus (intro W hW; go_simp; try with_reducible rfl)
    simp only [Act.put, List.setIfInBounds_toArray, List.set_cons_zero, List.set_cons_succ]
    refine anyL_take 3 (v := ?_) rfl (by kernel_rfl) (fun _ _ _ h => h) (Or.inl ⟨by rfl, ?_⟩) hS ?_
    rotate_left
    focus (intro W hW; go_simp; try with_reducible rfl)
    simp only [Act.put, List.setIfInBounds_toArray, List.set_cons_zero, List.set_cons_succ]
    refine anyL_take 4 (v := ?_) rfl (by kernel_rfl) (fun _ _ _ h => h) (Or.inl ⟨by rfl, ?_⟩) hS ?_
    rotate_left
    focus (intro W hW; go_simp; try with_reducible rfl)
    simp only [Act.put, List.setIfInBounds_toArray, List.set_cons_zero, List.set_cons_succ]
    refine anyL_take 5 (v := ?_) rfl (by kernel_rfl) (fun _ _ _ h => h) (Or.inl ⟨by rfl, ?_⟩) hS ?_
    rotate_left
    focus (intro W hW; go_simp; try with_reducible rfl)
    simp only [Act.put, List.setIfInBounds_toArray, List.set_cons_zero, List.set_cons_succ]
    refine anyL_one 6 rfl (by kernel_rfl) (fun K hK => ?_)
    have hB7 : Below w.heap.size w (w.drew.alloc (.cells #[.slice (some ⟨b, off + p, none⟩) (n - p) (cap - p), .slice (some ⟨b, off, none⟩) p cap] 42)) := hS.alloc (Nat.le_refl _) _
    go_simp
    refine hK.out _ _ (fun _ => hB7) ?_
    clear hK K
    try simp only [Act.put, List.setIfInBounds_toArray, List.set_cons_zero, List.set_cons_succ]
    refine anyL_one 7 rfl (by kernel_rfl) (fun K hK => ?_)
    go_simp
    refine (hcon.out _ _ (by go_simp) (by go_simp) hB7).mono ?_
    rintro e' w8 ⟨A', cap', rfl, hI', hb', hA', hc'⟩
    have hS8 := hB7.trans (hb'.mono (by simp))
    dsimp only
    refine hK.out _ _ (fun _ => hS8) ?_
    clear hK K
    try simp only [Act.put, List.setIfInBounds_toArray, List.set_cons_zero, List.set_cons_succ]
    refine anyL_take 8 (v := ?_) rfl (by kernel_rfl) (fun _ _ _ h => h) (Or.inl ⟨by rfl, ?_⟩) hS8 ?_
    rotate_left
    focus (intro W hW; go_simp; try with_reducible rfl)
    simp only [Act.put, List.setIfInBounds_toArray, List.set_cons_zero, List.set_cons_succ]
    refine anyC_done (by kernel_rfl) ?_ _
    go_wp2
    go_ret
    exact ⟨A', cap', rfl, hI', hS8, fun h b off e => ⟨Nat.le_trans (by simp) (hA' h b off e).1, (hA' h b off e).2⟩, hc'⟩
end Go.Proofs.YtpmhfalhieinjaaGreatDoor
