/- The law of one block of a row. -/
import Derived.Test.YtonoanjakfaloaaSpRow
namespace Go.Proofs.Ytonoanjakfaloaa
open Go.RowKit Sp Xor

theorem run_loadS {o : Oper} {a : Act} {W : World} (x : Operand) (ho : o.op = .load 27 x) {g : Nat} {L : List ByteArray} {n : Int} (hg : SrAt W g L n) (hx : a.eval x = .pointer (some ⟨g, 0, none⟩)) : (execOp a.eval o).run Try.prog W = .ok (.value (rowV L n)) W := by
  obtain ⟨fs, hu⟩ := undS
  unfold execOp
  simp only [ho, hx, Instr.loadAt, Instr.sureAddr, Sem.run_bind, Sem.run_pure, Result.andThen_ok, run_loadVar_row W g 27 27 _ (0, 0) _ hg.1 hu rfl (by rw [sizeS, lens hg.2])]
  rfl
theorem step_storeS {ops : Array Oper} {o : Oper} {a : Act} {w : World} {K : Act → World → Prop} {Q : Exit → Act → World → Prop} {E : Prop} (hw : Region.wanted o (yielded ops a.tmps) = true) (x y : Operand) (ho : o.op = .store 27 x y)
    {g : Nat} {L L' : List ByteArray} {n n' : Int} (hg : SrAt w g L n) (hx : a.eval x = .pointer (some ⟨g, 0, none⟩)) (hy : a.eval y = rowV L' n') (hL : L'.length ≤ 15)
    (h : ∀ w', SrAt w' g L' n' → w.grownBy w' (some g) → K (a.put o.dst undef) w') : if Region.wanted o (yielded ops a.tmps) = true then Oper.wp Try.prog o a w K Q else E := by
  rw [if_pos hw]
  refine wp_store_row 27 x y ho g _ hx hy 27 _ hg.1 (by rw [sizeS, lens hL]) (by rw [lens hg.2, lens hL]) ones (h _ ⟨setRow_heap w g _ _ _ _ hg.1, hL⟩ ?_)
  refine ⟨rfl, rfl, rfl, by simp, fun k _ hk => ?_⟩
  show (w.heap.modify g _)[k]? = w.heap[k]?
  rw [Array.getElem?_modify, if_neg (by intro e; exact hk (by rw [e]))]
theorem step_loadS {ops : Array Oper} {o : Oper} {a : Act} {w : World} {K : Act → World → Prop} {Q : Exit → Act → World → Prop} {E : Prop} (hw : Region.wanted o (yielded ops a.tmps) = true) (x : Operand) (ho : o.op = .load 27 x)
    {g : Nat} {L : List ByteArray} {n : Int} (hg : SrAt w g L n) (hx : a.eval x = .pointer (some ⟨g, 0, none⟩)) (h : K (a.put o.dst (rowV L n)) w) : if Region.wanted o (yielded ops a.tmps) = true then Oper.wp Try.prog o a w K Q else E := by
  rw [if_pos hw]
  obtain ⟨fs, hu⟩ := undS
  exact wp_load_row 27 x ho g hx 27 _ (0, 0) _ hg.1 hu rfl (by rw [sizeS, lens hg.2]) h
theorem fresh_step {P : Program} {ops : Array Oper} {o : Oper} {a : Act} {W : World} {K : Act → World → Prop} {Q : Exit → Act → World → Prop} (R : World → Prop) (hR : R W)
    (h : ∀ W2, R W2 → if Region.wanted o (yielded ops a.tmps) = true then Oper.wp P o a W2 K Q else K (a.put o.dst undef) W2) : if Region.wanted o (yielded ops a.tmps) = true then Oper.wp P o a W K Q else K (a.put o.dst undef) W := h W hR

/-- The blocks of the first i texts. -/
def blks (ps : List ByteArray) (i : Nat) : List ByteArray := (ps.take i).map fun s => blkS s false
theorem blks_len {ps : List ByteArray} {i : Nat} (h : i ≤ ps.length) : (blks ps i).length = i := by unfold blks; simp; omega
theorem blks_more {ps : List ByteArray} {i : Nat} (h : i < ps.length) : blks ps (i + 1) = blks ps i ++ [blkS ps[i] false] := by
  unfold blks
  rw [List.take_succ_eq_append_getElem h, List.map_append]; rfl
theorem blks_64 {ps : List ByteArray} {i : Nat} : ∀ q ∈ blks ps i, q.size = 64 := fun q hq => by
  obtain ⟨s, _, rfl⟩ := List.mem_map.1 hq
  exact blkS_size s
theorem xorAt_cat (a b : List ByteArray) (i : Nat) : xorAt (a ++ b) i = xorAt a i ^^^ xorAt b i := by
  induction a with
  | nil => show _ = 0 ^^^ _; rw [UInt8.zero_xor]; rfl
  | cons p ps ih => show byteAt p i ^^^ xorAt (ps ++ b) i = _; rw [ih]; show _ = (byteAt p i ^^^ xorAt ps i) ^^^ _; rw [UInt8.xor_assoc]
theorem xorAt_others {L : List ByteArray} {k : Nat} (hk : k < L.length) (i : Nat) : xorAt L i = xorAt (othersOf L k) i ^^^ byteAt L[k] i := by
  have e : L = L.take k ++ (L[k] :: L.drop (k + 1)) := by rw [← List.drop_eq_getElem_cons hk, List.take_append_drop]
  unfold othersOf
  rw [xorAt_cat]
  conv => lhs; rw [e]
  rw [xorAt_cat]
  show xorAt (L.take k) i ^^^ (byteAt L[k] i ^^^ xorAt (L.drop (k + 1)) i) = _
  rw [UInt8.xor_assoc, UInt8.xor_comm (byteAt L[k] i)]
theorem others_set {L : List ByteArray} {k : Nat} (s : ByteArray) : othersOf (L.set k s) k = othersOf L k := by
  unfold othersOf
  rw [List.take_set_of_le (Nat.le_refl _), List.drop_set_of_lt (by omega)]
theorem size_parS {L : List ByteArray} (h : ∀ q ∈ L, q.size = 64) : (parS L).size = 64 := by
  have hl : longest L ≤ 64 := longest_le fun q hq => by rw [h q hq]; exact Nat.le_refl _
  unfold parS
  rw [size_two, size_zero64, size_foldS]; omega
/-- The one that is left out is told by the others and the parity. -/
theorem one_told {L : List ByteArray} {k : Nat} (hk : k < L.length) (h : ∀ q ∈ L, q.size = 64) : foldS [parS L, foldS (othersOf L k)] = L[k] := by
  have hO : ∀ q ∈ othersOf L k, q.size ≤ 64 := fun q hq => by
    rcases List.mem_append.1 hq with hq | hq
    · rw [h q (List.mem_of_mem_take hq)]; exact Nat.le_refl _
    · rw [h q (List.mem_of_mem_drop hq)]; exact Nat.le_refl _
  have hO2 := longest_le hO
  have hs := h L[k] (List.getElem_mem hk)
  refine text_ext ?_ fun i hi => ?_
  · rw [size_two, size_parS h, size_foldS, hs]; omega
  · have hi2 : i < 64 := by rw [size_two, size_parS h, size_foldS] at hi; omega
    rw [byteAt_foldS, xorAt_two, byteAt_foldS]
    unfold parS
    rw [byteAt_foldS, xorAt_two, byteAt_textOf, if_pos hi2, UInt8.zero_xor, byteAt_foldS, xorAt_others hk, UInt8.xor_comm (xorAt (othersOf L k) i), UInt8.xor_assoc, UInt8.xor_self, UInt8.xor_zero]
theorem one_res {L : List ByteArray} {k : Nat} (hk : k < L.length) (h : ∀ q ∈ L, q.size = 64) (s : ByteArray) : resV (parS L) (L.set k s) (k : Int) = L[k] ∧ resE (parS L) (L.set k s) (k : Int) = 0 := by
  have hb : resBad (parS L) (L.set k s) (k : Int) = false := by
    unfold resBad
    rw [(elB_in (by simpa using hk)).2, Int.toNat_natCast, others_set]
    have h1 : noB (parS L) = false := by unfold noB; rw [decide_eq_true (size_parS h)]; rfl
    have h2 : (othersOf L k).any noB = false := by
      rw [List.any_eq_false]
      intro q hq
      have : q.size = 64 := by
        rcases List.mem_append.1 hq with hq | hq
        · exact h q (List.mem_of_mem_take hq)
        · exact h q (List.mem_of_mem_drop hq)
      unfold noB; simp [this]
    rw [h1, h2]; rfl
  obtain ⟨e1, e2⟩ := res_good hb
  rw [e1, e2, Int.toNat_natCast, others_set, one_told hk h]
  exact ⟨rfl, rfl⟩
theorem wrap_mod (x : Int) (n : Nat) (hn : 0 < n) (hn2 : n ≤ 15) :
    ∃ u : Int, ∃ k : Nat, x.tmod (n : Int) = u ∧ IntKind.i64.wrap u = u ∧ IntKind.i64.wrap (u + (n : Int)) = u + (n : Int) ∧ (u + (n : Int)).tmod (n : Int) = (k : Int) ∧ IntKind.i64.wrap (k : Int) = (k : Int) ∧ k < n := by
  have h1 := Int.tmod_lt_of_pos x (show (0 : Int) < (n : Int) by omega)
  have h2 : -(n : Int) < x.tmod (n : Int) := by
    have := Int.lt_tmod_of_pos x (show (0 : Int) < (n : Int) by omega)
    omega
  obtain ⟨u, hu⟩ : ∃ u, x.tmod (n : Int) = u := ⟨_, rfl⟩
  rw [hu] at h1 h2
  have e : (u + (n : Int)).tmod (n : Int) = (u + (n : Int)) % (n : Int) := Int.tmod_eq_emod_of_nonneg (by omega)
  have h3 := Int.emod_nonneg (u + (n : Int)) (show (n : Int) ≠ 0 by omega)
  have h4 := Int.emod_lt_of_pos (u + (n : Int)) (show (0 : Int) < (n : Int) by omega)
  exact ⟨u, ((u + (n : Int)) % (n : Int)).toNat, hu, IntWalk.i64_in _ (by omega), IntWalk.i64_in _ (by omega), by rw [e, Int.toNat_of_nonneg h3], IntWalk.i64_in _ (by omega), by omega⟩
/-- What a row's filling keeps: the row in its box, the texts beside. -/
structure OneW (w : World) (g : Nat) (A : Option Addr) (cap : Nat) (L : List ByteArray) (W : World) : Prop where
  row : SrAt W g L 15
  hv : Row W w.heap.size A cap L
  bw : Below w.heap.size w W
  ge : w.heap.size ≤ g
  ne : ∀ g', A = some ⟨g', 0, none⟩ → g' ≠ g
theorem OneW.below {w W W' : World} {g : Nat} {A : Option Addr} {cap : Nat} {L : List ByteArray} (h : OneW w g A cap L W) (hb : Below W.heap.size W W') : OneW w g A cap L W' :=
  ⟨h.row.below hb, h.hv.below hb, h.bw.trans (hb.mono h.bw.size), h.ge, h.ne⟩

end Go.Proofs.Ytonoanjakfaloaa
