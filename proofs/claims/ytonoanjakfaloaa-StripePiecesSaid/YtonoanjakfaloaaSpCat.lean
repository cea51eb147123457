/- Rows of texts, grown, laid one behind the other (by gen_sp4.py). -/
import Derived.Test.YtonoanjakfaloaaSStr
import Derived.Test.YtonoanjakfaloaaMBase
import Derived.Lib.AppendZerosOnto
namespace Go.Proofs.Ytonoanjakfaloaa
open Go.RowKit

theorem append_run_wp2 {P : Program} {ops : Array Oper} {rest : List Oper} {o : Oper} {a : Act} {w w' : World} {Q : Exit → Act → World → Prop} (hw : Region.wanted o (yielded ops a.tmps) = true) (s x : Operand) (t u : TypeId)
    (ho : o.op = .call { callee := .builtin .append, args := #[s, x], argTypes := #[t, u] }) {vs vx r : Value} (hs : a.eval s = vs) (hx : a.eval x = vx) (hrun : (Builtin.append_ #[t, u] o.type #[vs, vx]).run P w = .ok r w')
    (h : wpList P ops Q rest (a.put o.dst r) w') : wpList P ops Q (o :: rest) a w :=
  wpList_step fun K hK => by
    rw [if_pos hw]
    unfold Oper.wp execOp
    simp only [ho, resolve, invoke, builtin, Sem.run_bind, Sem.run_pure, Result.andThen_ok, List.map_toArray, List.map_cons, List.map_nil, hs, hx, hrun]
    exact hK _ _ h
/-- A row of numbers: where it lies, its capacity, its numbers. -/
structure TRow where
  A : Option Addr
  cap : Nat
  ts : List ByteArray
instance : Inhabited TRow := ⟨⟨none, 0, []⟩⟩
def TRow.In (w : World) (r : TRow) : Prop := StrsIn w r.A r.ts ∧ r.ts.length ≤ 1000000 ∧ (r.A = none → r.cap = 0)
def TRowsIn (w : World) (A : Option Addr) (rs : List TRow) : Prop :=
  rs = [] ∨ ∃ b off, A = some ⟨b, off, none⟩ ∧ b < w.heap.size ∧ ∀ i (h : i < rs.length), w.cell? ⟨b, off + i, none⟩ = some (.slice rs[i].A rs[i].ts.length rs[i].cap) ∧ rs[i].In w
theorem TRowsIn.at_ {w : World} {A : Option Addr} {rs : List TRow} (h : TRowsIn w A rs) {i : Nat} (hi : i < rs.length) :
    ∃ b off, A = some ⟨b, off, none⟩ ∧ b < w.heap.size ∧ w.cell? ⟨b, off + i, none⟩ = some (.slice rs[i].A rs[i].ts.length rs[i].cap) ∧ rs[i].In w := by
  rcases h with rfl | ⟨b, off, rfl, hlt, hc⟩
  · simp at hi
  · obtain ⟨h1, h2⟩ := hc i hi
    exact ⟨b, off, rfl, hlt, h1, h2⟩
/-- A row of texts in new memory. -/
def TPost (w : World) (ts : List ByteArray) (e : Ending) (w' : World) : Prop := ∃ A cap, e = .returned (.slice A ts.length cap) ∧ StrsIn w' A ts ∧ Below w.heap.size w w' ∧ ts.length ≤ cap
def svals (ts : List ByteArray) : List Value := ts.map Value.string
theorem sown_out {w : World} {B : Nat} {v : Value} {ts : List ByteArray} (hown : w.ownsRow B 9 1 v ts.length (svals ts)) : ∃ A cap, v = .slice A ts.length cap ∧ StrsIn w A ts ∧ ts.length ≤ cap := by
  rcases hown.2 with ⟨e, h0⟩ | ⟨g, cap, cur, e, hg, hgg, hnc, _⟩
  · exact ⟨none, 0, by rw [e, h0], .inl (List.eq_nil_of_length_eq_zero h0), by omega⟩
  · refine ⟨_, cap, e, ?_, hnc⟩
    by_cases h0 : ts = []
    · exact .inl h0
    · refine .inr ⟨g, 0, rfl, (Array.getElem?_eq_some_iff.1 hgg).1, fun j hj => ?_⟩
      rw [e] at hown
      rw [Nat.zero_add, hown.cellAt j (by omega)]
      unfold svals
      rw [List.getElem?_map, List.getElem?_eq_getElem hj]
      rfl
/-- Room for so many. -/
def GPostS (w : World) (n : Nat) (e : Ending) (w' : World) : Prop := ∃ A cap, e = .returned (.slice A 0 cap) ∧ w'.ownsRow w.heap.size 9 1 (.slice A 0 cap) 0 [] ∧ Below w.heap.size w w' ∧ n ≤ cap
set_option maxRecDepth 100000 in
theorem sgrow_nil (w : World) (n : Nat) (hn : n ≤ 1000000) : Calls Try.prog 65 #[.slice none 0 0, .int .i64 (n : Int)] w (GPostS w n) := by
  by_cases h0 : n = 0
  · subst h0
    go_enter Try.func65, Try.ntmps65
    go_wp2
    go_ret
    exact ⟨none, 0, rfl, World.ownsRow_nil _ _ _ _, Below.refl _ _, Nat.le_refl _⟩
  · obtain ⟨i0, hi, hz0, hz1, hz2⟩ := info_parts infoStr
    have hold : (Builtin.firstCells i0.size 0 (.slice none 0 0)).run Try.prog w.drew = .ok ([] : List Value).toArray w.drew := run_firstCells_none w.drew i0.size 0 0 0
    have hrun := Lib.run_append_grow_zeros (P := Try.prog) w 22 3 22 9 i0 (.string ByteArray.empty) .i64 .i64 Try.underlying22 Try.underlying3 hi hz0 none 0 0 [] hold n (by omega) (by omega) (by omega) (by omega) (by rw [hz2]; omega)
      (by rw [hz2]; exact growslice_fits (by omega) (by omega))
    rw [Nat.zero_add] at hrun
    have hGn := grownCap_ge w n 0 9
    have hGm := grownCap_le_maxLen w n 0 9 (by unfold maxLen; omega)
    generalize hG : grownCap w n 0 9 = G at hrun hGn hGm
    clear hold
    have hsz : ((([] : List Value).toArray ++ Builtin.zeroCells (Value.string ByteArray.empty).cells n ++ Builtin.zeroCells (Value.string ByteArray.empty).cells (G - n)) : Array Value).size = G * 1 := by
      have hz1' : (Value.string ByteArray.empty).cells.size = 1 := rfl
      simp only [Array.size_append, List.size_toArray, size_zeroCells, hz1', List.length_nil]
      omega
    have he0 : (([] : List Value).toArray ++ Builtin.zeroCells (Value.string ByteArray.empty).cells n ++ Builtin.zeroCells (Value.string ByteArray.empty).cells (G - n) : Array Value) = Builtin.zeroCells (Value.string ByteArray.empty).cells n ++ Builtin.zeroCells (Value.string ByteArray.empty).cells (G - n) := by simp
    rw [he0] at hsz hrun
    have hown := World.ownsRow_made (base := w.heap.size) (e := 9) w.drew _ G (Nat.le_refl _) hGm hsz
    have hrunH := Lib.hid hrun
    have hownH := Lib.hid hown
    clear hrun hown hG hsz
    unfold maxLen at hGm
    go_enter Try.func65, Try.ntmps65
    go_wp2_with (at_builtin; refine append_run_wp2 rfl _ _ _ _ rfl rfl rfl hrunH.out ?_)
    go_ret
    exact ⟨_, G, rfl, hownH.out, ((Below.refl _ _).alloc (Nat.le_refl _) _).drew, hGn⟩

/-- The numbers of rows, one behind the other. -/
def tflat (rs : List TRow) : List ByteArray := rs.flatMap TRow.ts
theorem tflat_take {rs : List TRow} {k : Nat} (h : k < rs.length) : tflat (rs.take (k + 1)) = tflat (rs.take k) ++ rs[k].ts := by
  unfold tflat
  rw [List.take_succ_eq_append_getElem h, List.flatMap_append]
  simp
theorem tflat_le (rs : List TRow) (k : Nat) : (tflat (rs.take k)).length ≤ (tflat rs).length := by
  have : tflat rs = tflat (rs.take k) ++ tflat (rs.drop k) := by unfold tflat; rw [← List.flatMap_append, List.take_append_drop]
  rw [this, List.length_append]
  omega
theorem TRowsIn.below {w w' : World} {A : Option Addr} {rs : List TRow} (h : TRowsIn w A rs) (hb : Below w.heap.size w w') : TRowsIn w' A rs := by
  rcases h with h | ⟨b, off, rfl, hlt, hc⟩
  · exact .inl h
  · exact .inr ⟨b, off, rfl, Nat.lt_of_lt_of_le hlt hb.size, fun i hi => ⟨(hb.cell (p := ⟨b, _, none⟩) hlt).trans (hc i hi).1, (hc i hi).2.1.below hb, (hc i hi).2.2⟩⟩
set_option maxRecDepth 100000 in
set_option maxHeartbeats 2000000 in
theorem sconcat_any (w : World) (B n0 : Nat) (rs : List TRow) (hR : TRowsIn w (some ⟨B, 0, none⟩) rs) (hA : ∀ r ∈ rs, ∃ a, r.A = some a) (hn : rs.length ≤ 1000) (hl : (tflat rs).length ≤ 1000000) :
    Calls Try.prog 44 #[.slice (some ⟨B, 0, none⟩) rs.length n0] w (TPost w (tflat rs)) := by
  have hRH := Lib.hid hR
  have hAH := Lib.hid hA
  have hgr := Lib.hid (fun W => sgrow_nil W (tflat rs).length hl)
  clear hR hA
  go_enter Try.func44, Try.ntmps44
  go_wp2_with fail
  go_loopw [3, 11] (fun sz i wr => ∃ k : Nat, k ≤ rs.length ∧ i = .int .i64 (k : Int) ∧ sz = .int .i64 ((tflat (rs.take k)).length : Int) ∧ w = wr) (fun _ i _ => rs.length - (intOf i).toNat)
  case atStart => exact ⟨0, by omega, rfl, rfl, rfl⟩
  case round =>
    obtain ⟨k, hk, rfl, rfl, rfl⟩ := hrel
    by_cases hlt : k < rs.length
    · obtain ⟨b, off, he, hltb, hc, hIn⟩ := hRH.out.at_ hlt
      injection he with he
      injection he with e1 e2 _
      subst e1
      subst e2
      rw [Nat.zero_add] at hc
      have hft := tflat_take hlt
      have hfl := tflat_le rs (k + 1)
      rw [hft, List.length_append] at hfl
      have hQb : (tflat (rs.take (k + 1))).length ≤ 1000000 := by rw [hft, List.length_append]; omega
      have hsz2 : ((tflat (rs.take k)).length : Int) + (rs[k].ts.length : Int) = ((tflat (rs.take (k + 1))).length : Int) := by rw [hft, List.length_append]; omega
      generalize hQ : (tflat (rs.take (k + 1))).length = Q at hsz2 hQb
      have hQH := Lib.hid hQ
      clear hft
      generalize (tflat (rs.take k)).length = Q0 at hsz2 hfl
      clear hfl hIn hQ
      go_wp2_with fail
      go_roundw
      case rel => exact ⟨k + 1, by omega, by simp, congrArg (fun n : Nat => Value.int .i64 (n : Int)) hQH.out.symm, trivial⟩
      case measure =>
        show rs.length - (intOf (Value.int .i64 _)).toNat < rs.length - (intOf (Value.int .i64 _)).toNat
        simp only [intOf]
        omega
    · have e : k = rs.length := by omega
      subst e
      rw [List.take_length]
      clear hk hlt
      obtain ⟨i0, hi, hz0, hz1, hz2⟩ := info_parts infoStr
      have happ := Lib.hid (fun W v n xs ad m c news h1 h2 h3 h4 h5 h6 h7 => run_append_own_at (P := Try.prog) W w.heap.size 22 22 9 i0 (.string ByteArray.empty) 1 16 Try.underlying22 hi hz0 hz1 hz2 rfl (by decide) v n xs h1 ad m c news h2 h3 h4 h5 h6 h7)
      clear hi hz0 hz1 hz2
      go_wp2_with fail
      refine (hgr.out _).mono ?_
      rintro e w1 ⟨A1, cap1, rfl, hown1, hb1, _⟩
      clear hgr
      go_wp2_with fail
      go_loopw [6, 27] (fun nv i wr => ∃ k : Nat, k ≤ rs.length ∧ i = .int .i64 (k : Int) ∧ wr.ownsRow w.heap.size 9 1 nv (tflat (rs.take k)).length (svals (tflat (rs.take k))) ∧ Below w.heap.size w wr) (fun _ i _ => rs.length - (intOf i).toNat)
      case atStart => exact ⟨0, by omega, rfl, hown1, hb1⟩
      case round =>
        clear hown1 hb1
        obtain ⟨k, hk, rfl, hown, hb⟩ := hrel
        by_cases hlt : k < rs.length
        · obtain ⟨b, off, he, hltb, hc, hIn⟩ := (hRH.out.below hb).at_ hlt
          injection he with he
          injection he with e1 e2 _
          subst e1
          subst e2
          rw [Nat.zero_add] at hc
          obtain ⟨ad, had⟩ := hAH.out _ (List.getElem_mem hlt)
          have hft := tflat_take hlt
          have hfl := tflat_le rs (k + 1)
          rw [hft, List.length_append] at hfl
          have hIz := hIn.1
          rw [had] at hIz hc
          have hcells : ∀ j u, (svals rs[k].ts)[j]? = some u → wr.cell? (ad.add j) = some u := fun j u hu => by
            rcases hIz with h0 | ⟨b, off, he, _, hcc⟩
            · rw [h0] at hu; simp [svals] at hu
            · obtain rfl := Option.some.inj he
              unfold svals at hu
              rw [List.getElem?_map] at hu
              by_cases hj : j < rs[k].ts.length
              · rw [List.getElem?_eq_getElem hj] at hu
                simp only [Option.map_some, Option.some.injEq] at hu
                rw [Go.WideShapes.add_plain, hcc j hj, hu]
              · rw [List.getElem?_eq_none (by omega)] at hu
                cases hu
          obtain ⟨v2, w2, hrun, hown2, hgr2, _, _⟩ := happ.out wr u6 _ _ ad rs[k].ts.length rs[k].cap (svals rs[k].ts) hown (by simp [svals]) hcells (by intro u hu; obtain ⟨p, _, rfl⟩ := List.mem_map.1 hu; rfl) (by unfold maxLen; omega) (by omega) hb.size
          have hb2 : Below w.heap.size w w2 := hb.grown hgr2 hb.size (fun q hq => (hown.lt q hq).1)
          have hrunH := Lib.hid hrun
          have hown2' : w2.ownsRow w.heap.size 9 1 v2 (tflat (rs.take (k + 1))).length (svals (tflat (rs.take (k + 1)))) := by
            have e : svals (tflat (rs.take (k + 1))) = svals (tflat (rs.take k)) ++ svals rs[k].ts := by rw [hft]; exact List.map_append ..
            rw [e, hft, List.length_append]
            exact hown2
          have hownH := Lib.hid hown2'
          clear hrun hown2 hgr2 hown2' hcells hIz hIn hft hfl hown
          go_wp2_with (at_builtin; refine append_run_wp rfl _ _ _ rfl rfl rfl hrunH.out ?_)
          go_roundw
          case rel => exact ⟨k + 1, by omega, by simp, hownH.out, hb2⟩
          case measure =>
            show rs.length - (intOf (Value.int .i64 _)).toNat < rs.length - (intOf (Value.int .i64 _)).toNat
            simp only [intOf]
            omega
        · have e : k = rs.length := by omega
          subst e
          rw [List.take_length] at hown
          obtain ⟨A, cap, rfl, hI, hcp⟩ := sown_out hown
          clear hown happ hRH
          go_wp2_with fail
          go_ret
          exact ⟨A, cap, rfl, hI, hb, hcp⟩
end Go.Proofs.Ytonoanjakfaloaa
