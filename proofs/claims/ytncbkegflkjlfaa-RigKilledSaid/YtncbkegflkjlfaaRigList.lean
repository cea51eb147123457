/- Rows of numbers: copied, grown, laid one behind the other, turned round. -/
import Derived.Test.YtncbkegflkjlfaaDRows
import Derived.Lib.AppendZerosOnto
namespace Go.Proofs.Ytncbkegflkjlfaa
open Go.RowKit

theorem append_run_wp2 {P : Program} {ops : Array Oper} {rest : List Oper} {o : Oper} {a : Act} {w w' : World} {Q : Exit → Act → World → Prop} (hw : Region.wanted o (yielded ops a.tmps) = true) (s x : Operand) (t u : TypeId)
    (ho : o.op = .call { callee := .builtin .append, args := #[s, x], argTypes := #[t, u] }) {vs vx r : Value} (hs : a.eval s = vs) (hx : a.eval x = vx) (hrun : (Builtin.append_ #[t, u] o.type #[vs, vx]).run P w = .ok r w')
    (h : wpList P ops Q rest (a.put o.dst r) w') : wpList P ops Q (o :: rest) a w :=
  wpList_step fun K hK => by
    rw [if_pos hw]
    unfold Oper.wp execOp
    simp only [ho, resolve, invoke, builtin, Sem.run_bind, Sem.run_pure, Result.andThen_ok, List.map_toArray, List.map_cons, List.map_nil, hs, hx, hrun]
    exact hK _ _ h
/-- A row of numbers in new memory. -/
def IPost (w : World) (zs : List Int) (e : Ending) (w' : World) : Prop := ∃ A cap, e = .returned (.slice A zs.length cap) ∧ IntsIn w' A zs ∧ Below w.heap.size w w' ∧ (zs ≠ [] → ∀ b off, A = some ⟨b, off, none⟩ → w.heap.size ≤ b) ∧ zs.length ≤ cap
def ivals (zs : List Int) : List Value := zs.map (Value.int .i64)
theorem own_out {w : World} {B : Nat} {v : Value} {zs : List Int} (hown : w.ownsRow B 3 1 v zs.length (ivals zs)) : ∃ A cap, v = .slice A zs.length cap ∧ IntsIn w A zs ∧ (zs ≠ [] → ∀ b off, A = some ⟨b, off, none⟩ → B ≤ b) ∧ zs.length ≤ cap := by
  rcases hown.2 with ⟨e, h0⟩ | ⟨g, cap, cur, e, hg, hgg, hnc, _⟩
  · exact ⟨none, 0, by rw [e, h0], .inl (List.eq_nil_of_length_eq_zero h0), fun h => absurd (List.eq_nil_of_length_eq_zero h0) h, by omega⟩
  · refine ⟨_, cap, e, ?_, fun _ b off e' => by injection e' with e'; injection e' with e1 _; omega, hnc⟩
    by_cases h0 : zs = []
    · exact .inl h0
    · refine .inr ⟨g, 0, rfl, (Array.getElem?_eq_some_iff.1 hgg).1, fun j hj => ?_⟩
      rw [e] at hown
      rw [Nat.zero_add, hown.cellAt j (by omega)]
      unfold ivals
      rw [List.getElem?_map, List.getElem?_eq_getElem hj]
      rfl
theorem infoI3 : (Try.prog.info? 3).map (fun i => (i.zero, i.size, i.bytes)) = some (some (.int .i64 0), 1, 8) := by kernel_rfl
set_option maxRecDepth 100000 in
theorem iclone_any (w : World) (A : Option Addr) (cap : Nat) (zs : List Int) (hI : IntsIn w A zs) (hN : A = none → cap = 0) (hl : zs.length ≤ 17592186044416) :
    Calls Try.prog 51 #[.slice A zs.length cap] w (IPost w zs) := by
  have hn := fun W => Lib.run_eql_slice_nil (P := Try.prog) W 31 3 A zs.length cap 0 0 Try.underlying31
  cases A with
  | none =>
    have hzs : zs = [] := by
      rcases hI with h | ⟨b, off, h, _⟩
      · exact h
      · cases h
    subst hzs
    obtain rfl := hN rfl
    have hn0 : ∀ W : World, (binOp .eql 31 (.slice none 0 0) (.slice none 0 0)).run Try.prog W = .ok (.bool true) W := fun W => Lib.run_eql_slice_nil (P := Try.prog) W 31 3 none 0 0 0 0 Try.underlying31
    clear hI hN hn
    go_enter Try.func51, Try.ntmps51
    go_wp2
    go_ret
    exact ⟨none, 0, rfl, .inl rfl, Below.refl _ _, fun h => absurd rfl h, Nat.le_refl _⟩
  | some ad =>
    obtain ⟨i0, hi, hz0, hz1, hz2⟩ := info_parts infoI3
    have hnew : (w.alloc (.cells #[] 3)).ownsRow w.heap.size 3 1 (.slice (some ⟨w.heap.size, 0, none⟩) 0 0) 0 [] := World.ownsRow_made w #[] 0 (Nat.le_refl _) (by unfold maxLen; omega) rfl
    have hb : Below w.heap.size w (w.alloc (.cells #[] 3)) := (Below.refl _ _).alloc (Nat.le_refl _) _
    have hI2 := hI.below hb
    have hcells : ∀ j u, (ivals zs)[j]? = some u → (w.alloc (.cells #[] 3)).cell? (ad.add j) = some u := fun j u hu => by
      rcases hI2 with h0 | ⟨b, off, he, _, hcc⟩
      · rw [h0] at hu; simp [ivals] at hu
      · obtain rfl := Option.some.inj he
        unfold ivals at hu
        rw [List.getElem?_map] at hu
        by_cases hj : j < zs.length
        · rw [List.getElem?_eq_getElem hj] at hu
          simp only [Option.map_some, Option.some.injEq] at hu
          rw [Go.WideShapes.add_plain, hcc j hj, hu]
        · rw [List.getElem?_eq_none (by omega)] at hu
          cases hu
    obtain ⟨v2, W', hrun, hown2, hgr2, _, _⟩ := run_append_own_at (P := Try.prog) (w.alloc (.cells #[] 3)) w.heap.size 31 31 3 i0 (.int .i64 0) 1 8 Try.underlying31 hi hz0 hz1 hz2 rfl (by decide) _ _ _ hnew ad zs.length cap (ivals zs) (by simp [ivals]) hcells
      (by intro u hu; obtain ⟨p, _, rfl⟩ := List.mem_map.1 hu; rfl) (by unfold maxLen; omega) (by omega) (by simp)
    rw [Nat.zero_add, List.nil_append] at hown2
    obtain ⟨A', cap', rfl, hI', hA', hc'⟩ := own_out hown2
    have hb' : Below w.heap.size w W' := hb.grown hgr2 (by simp) (fun q hq => (hnew.lt q hq).1)
    have hrunH := Lib.hid hrun
    clear hown2 hgr2 hcells hI2 hnew hb hi hz0 hz1 hz2
    clear hrun hI hN
    go_enter Try.func51, Try.ntmps51
    go_wp2_with (at_builtin; refine append_run_wp rfl _ _ _ rfl rfl rfl hrunH.out ?_)
    go_ret
    exact ⟨A', cap', rfl, hI', hb', hA', hc'⟩

/-- Room for so many. -/
def GPost (w : World) (n : Nat) (e : Ending) (w' : World) : Prop := ∃ A cap, e = .returned (.slice A 0 cap) ∧ w'.ownsRow w.heap.size 3 1 (.slice A 0 cap) 0 [] ∧ Below w.heap.size w w' ∧ n ≤ cap
set_option maxRecDepth 100000 in
theorem grow_nil (w : World) (n : Nat) (hn : n ≤ 17592186044416) : Calls Try.prog 80 #[.slice none 0 0, .int .i64 (n : Int)] w (GPost w n) := by
  by_cases h0 : n = 0
  · subst h0
    go_enter Try.func80, Try.ntmps80
    go_wp2
    go_ret
    exact ⟨none, 0, rfl, World.ownsRow_nil _ _ _ _, Below.refl _ _, Nat.le_refl _⟩
  · obtain ⟨i0, hi, hz0, hz1, hz2⟩ := info_parts infoI3
    have hold : (Builtin.firstCells i0.size 0 (.slice none 0 0)).run Try.prog w.drew = .ok ([] : List Value).toArray w.drew := run_firstCells_none w.drew i0.size 0 0 0
    have hrun := Lib.run_append_grow_zeros (P := Try.prog) w 31 3 31 3 i0 (.int .i64 0) .i64 .i64 Try.underlying31 Try.underlying3 hi hz0 none 0 0 [] hold n (by omega) (by omega) (by omega) (by omega) (by rw [hz2]; omega)
      (by rw [hz2]; exact growslice_fits (by omega) (by omega))
    rw [Nat.zero_add] at hrun
    have hGn := grownCap_ge w n 0 3
    have hGm := grownCap_le_maxLen w n 0 3 (by unfold maxLen; omega)
    generalize hG : grownCap w n 0 3 = G at hrun hGn hGm
    clear hold
    have hsz : ((([] : List Value).toArray ++ Builtin.zeroCells (Value.int .i64 0).cells n ++ Builtin.zeroCells (Value.int .i64 0).cells (G - n)) : Array Value).size = G * 1 := by
      have hz1' : (Value.int IntKind.i64 0).cells.size = 1 := rfl
      simp only [Array.size_append, List.size_toArray, size_zeroCells, hz1', List.length_nil]
      omega
    have he0 : (([] : List Value).toArray ++ Builtin.zeroCells (Value.int .i64 0).cells n ++ Builtin.zeroCells (Value.int .i64 0).cells (G - n) : Array Value) = Builtin.zeroCells (Value.int .i64 0).cells n ++ Builtin.zeroCells (Value.int .i64 0).cells (G - n) := by simp
    rw [he0] at hsz hrun
    have hown := World.ownsRow_made (base := w.heap.size) (e := 3) w.drew _ G (Nat.le_refl _) hGm hsz
    have hrunH := Lib.hid hrun
    have hownH := Lib.hid hown
    clear hrun hown hG hsz
    unfold maxLen at hGm
    go_enter Try.func80, Try.ntmps80
    go_wp2_with (at_builtin; refine append_run_wp2 rfl _ _ _ _ rfl rfl rfl hrunH.out ?_)
    go_ret
    exact ⟨_, G, rfl, hownH.out, ((Below.refl _ _).alloc (Nat.le_refl _) _).drew, hGn⟩

/-- The numbers of rows, one behind the other. -/
def flat (rs : List IRow) : List Int := rs.flatMap IRow.zs
theorem flat_take {rs : List IRow} {k : Nat} (h : k < rs.length) : flat (rs.take (k + 1)) = flat (rs.take k) ++ rs[k].zs := by
  unfold flat
  rw [List.take_succ_eq_append_getElem h, List.flatMap_append]
  simp
theorem flat_le (rs : List IRow) (k : Nat) : (flat (rs.take k)).length ≤ (flat rs).length := by
  have : flat rs = flat (rs.take k) ++ flat (rs.drop k) := by unfold flat; rw [← List.flatMap_append, List.take_append_drop]
  rw [this, List.length_append]
  omega
theorem RowsIn.below {w w' : World} {A : Option Addr} {rs : List IRow} (h : RowsIn w A rs) (hb : Below w.heap.size w w') : RowsIn w' A rs := by
  rcases h with h | ⟨b, off, rfl, hlt, hc⟩
  · exact .inl h
  · exact .inr ⟨b, off, rfl, Nat.lt_of_lt_of_le hlt hb.size, fun i hi => ⟨(hb.cell (p := ⟨b, _, none⟩) hlt).trans (hc i hi).1, (hc i hi).2.1.below hb, (hc i hi).2.2⟩⟩
set_option maxRecDepth 100000 in
set_option maxHeartbeats 2000000 in
theorem concat_any (w : World) (B n0 : Nat) (rs : List IRow) (hR : RowsIn w (some ⟨B, 0, none⟩) rs) (hA : ∀ r ∈ rs, ∃ a, r.A = some a) (hn : rs.length ≤ 1000) (hl : (flat rs).length ≤ 17592186044416) :
    Calls Try.prog 71 #[.slice (some ⟨B, 0, none⟩) rs.length n0] w (IPost w (flat rs)) := by
  have hRH := Lib.hid hR
  have hAH := Lib.hid hA
  have hgr := Lib.hid (fun W => grow_nil W (flat rs).length hl)
  clear hR hA
  go_enter Try.func71, Try.ntmps71
  go_wp2_with fail
  go_loopw [3, 11] (fun sz i wr => ∃ k : Nat, k ≤ rs.length ∧ i = .int .i64 (k : Int) ∧ sz = .int .i64 ((flat (rs.take k)).length : Int) ∧ w = wr) (fun _ i _ => rs.length - (intOf i).toNat)
  case atStart => exact ⟨0, by omega, rfl, rfl, rfl⟩
  case round =>
    obtain ⟨k, hk, rfl, rfl, rfl⟩ := hrel
    by_cases hlt : k < rs.length
    · obtain ⟨b, off, he, hltb, hc, hIn⟩ := hRH.out.at_ hlt
      injection he with he
      injection he with e1 e2 _
      subst e1
      subst e2
      rw [Nat.zero_add] at hc
      have hft := flat_take hlt
      have hfl := flat_le rs (k + 1)
      rw [hft, List.length_append] at hfl
      have hQb : (flat (rs.take (k + 1))).length ≤ 17592186044416 := by rw [hft, List.length_append]; omega
      have hsz2 : ((flat (rs.take k)).length : Int) + (rs[k].zs.length : Int) = ((flat (rs.take (k + 1))).length : Int) := by rw [hft, List.length_append]; omega
      generalize hQ : (flat (rs.take (k + 1))).length = Q at hsz2 hQb
      have hQH := Lib.hid hQ
      clear hft
      generalize (flat (rs.take k)).length = Q0 at hsz2 hfl
      clear hfl hIn hQ
      go_wp2_with fail
      go_roundw
      case rel => exact ⟨k + 1, by omega, by simp, congrArg (fun n : Nat => Value.int .i64 (n : Int)) hQH.out.symm, trivial⟩
      case measure =>
        show rs.length - (intOf (Value.int .i64 _)).toNat < rs.length - (intOf (Value.int .i64 _)).toNat
        simp only [intOf]
        omega
    · have e : k = rs.length := by omega
      subst e
      rw [List.take_length]
      clear hk hlt
      obtain ⟨i0, hi, hz0, hz1, hz2⟩ := info_parts infoI3
      have happ := Lib.hid (fun W v n xs ad m c news h1 h2 h3 h4 h5 h6 h7 => run_append_own_at (P := Try.prog) W w.heap.size 31 31 3 i0 (.int .i64 0) 1 8 Try.underlying31 hi hz0 hz1 hz2 rfl (by decide) v n xs h1 ad m c news h2 h3 h4 h5 h6 h7)
      clear hi hz0 hz1 hz2
      go_wp2_with fail
      refine (hgr.out _).mono ?_
      rintro e w1 ⟨A1, cap1, rfl, hown1, hb1, _⟩
      clear hgr
      go_wp2_with fail
      go_loopw [6, 27] (fun nv i wr => ∃ k : Nat, k ≤ rs.length ∧ i = .int .i64 (k : Int) ∧ wr.ownsRow w.heap.size 3 1 nv (flat (rs.take k)).length (ivals (flat (rs.take k))) ∧ Below w.heap.size w wr) (fun _ i _ => rs.length - (intOf i).toNat)
      case atStart => exact ⟨0, by omega, rfl, hown1, hb1⟩
      case round =>
        clear hown1 hb1
        obtain ⟨k, hk, rfl, hown, hb⟩ := hrel
        by_cases hlt : k < rs.length
        · obtain ⟨b, off, he, hltb, hc, hIn⟩ := (hRH.out.below hb).at_ hlt
          injection he with he
          injection he with e1 e2 _
          subst e1
          subst e2
          rw [Nat.zero_add] at hc
          obtain ⟨ad, had⟩ := hAH.out _ (List.getElem_mem hlt)
          have hft := flat_take hlt
          have hfl := flat_le rs (k + 1)
          rw [hft, List.length_append] at hfl
          have hIz := hIn.1
          rw [had] at hIz hc
          have hcells : ∀ j u, (ivals rs[k].zs)[j]? = some u → wr.cell? (ad.add j) = some u := fun j u hu => by
            rcases hIz with h0 | ⟨b, off, he, _, hcc⟩
            · rw [h0] at hu; simp [ivals] at hu
            · obtain rfl := Option.some.inj he
              unfold ivals at hu
              rw [List.getElem?_map] at hu
              by_cases hj : j < rs[k].zs.length
              · rw [List.getElem?_eq_getElem hj] at hu
                simp only [Option.map_some, Option.some.injEq] at hu
                rw [Go.WideShapes.add_plain, hcc j hj, hu]
              · rw [List.getElem?_eq_none (by omega)] at hu
                cases hu
          obtain ⟨v2, w2, hrun, hown2, hgr2, _, _⟩ := happ.out wr u6 _ _ ad rs[k].zs.length rs[k].cap (ivals rs[k].zs) hown (by simp [ivals]) hcells (by intro u hu; obtain ⟨p, _, rfl⟩ := List.mem_map.1 hu; rfl) (by unfold maxLen; omega) (by omega) hb.size
          have hb2 : Below w.heap.size w w2 := hb.grown hgr2 hb.size (fun q hq => (hown.lt q hq).1)
          have hrunH := Lib.hid hrun
          have hown2' : w2.ownsRow w.heap.size 3 1 v2 (flat (rs.take (k + 1))).length (ivals (flat (rs.take (k + 1)))) := by
            have e : ivals (flat (rs.take (k + 1))) = ivals (flat (rs.take k)) ++ ivals rs[k].zs := by rw [hft]; exact List.map_append ..
            rw [e, hft, List.length_append]
            exact hown2
          have hownH := Lib.hid hown2'
          clear hrun hown2 hgr2 hown2' hcells hIz hIn hft hfl hown
          go_wp2_with (at_builtin; refine append_run_wp rfl _ _ _ rfl rfl rfl hrunH.out ?_)
          go_roundw
          case rel => exact ⟨k + 1, by omega, by simp, hownH.out, hb2⟩
          case measure =>
            show rs.length - (intOf (Value.int .i64 _)).toNat < rs.length - (intOf (Value.int .i64 _)).toNat
            simp only [intOf]
            omega
        · have e : k = rs.length := by omega
          subst e
          rw [List.take_length] at hown
          obtain ⟨A, cap, rfl, hI, hnew, hcp⟩ := own_out hown
          clear hown happ hRH
          go_wp2_with fail
          go_ret
          exact ⟨A, cap, rfl, hI, hb, hnew, hcp⟩
end Go.Proofs.Ytncbkegflkjlfaa
