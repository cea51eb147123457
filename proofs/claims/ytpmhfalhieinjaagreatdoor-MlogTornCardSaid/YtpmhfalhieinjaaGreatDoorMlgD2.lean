/- Records struck out of a slice of the call's own: DeleteFunc. -/
import Derived.Test.YtpmhfalhieinjaaGreatDoorMlgD
import Derived.Deep.Upon
namespace Go.Proofs.YtpmhfalhieinjaaGreatDoor
open Go.RowKit Rec

abbrev zeroV : Value := .agg #[.int .i64 0, .int .i64 0, .int .i64 0, .int .i64 0, .int .i64 0, .int .i64 0, .string ⟨#[]⟩]
theorem zero_rec (w : World) : (zeroValue 38).run Tryz.prog w = .ok zeroV w := by
  go_simp
theorem zero_cells (n : Nat) : ∀ v ∈ (Builtin.zeroCells zeroV.cells n).toList, v.oneCell' = true := fun v hv => by
  unfold Builtin.zeroCells at hv
  rw [Array.toList_map, List.mem_map] at hv
  obtain ⟨i, _, rfl⟩ := hv
  have h7 : zeroV.cells = #[.int .i64 0, .int .i64 0, .int .i64 0, .int .i64 0, .int .i64 0, .int .i64 0, .string ⟨#[]⟩] := rfl
  rw [h7]
  have hm : i % 7 < 7 := Nat.mod_lt _ (by omega)
  show (#[Value.int .i64 0, .int .i64 0, .int .i64 0, .int .i64 0, .int .i64 0, .int .i64 0, .string ⟨#[]⟩][i % 7]!).oneCell' = true
  match i % 7, hm with
  | 0, _ => rfl
  | 1, _ => rfl
  | 2, _ => rfl
  | 3, _ => rfl
  | 4, _ => rfl
  | 5, _ => rfl
  | 6, _ => rfl
theorem clear_run {W : World} {g o n c : Nat} (ty : TypeId) (hn : 0 < n) (hc : ∀ j, j < n * 7 → (W.cell? ⟨g, o + j, none⟩).isSome = true) (hf : ∀ j, j < n * 7 → W.frozen? ⟨g, o + j, none⟩ = false) :
    (Builtin.clear_ #[27] ty #[.slice (some ⟨g, o, none⟩) n c]).run Tryz.prog W = .ok (.tuple #[]) (W.setCells g o (Builtin.zeroCells zeroV.cells n).toList) := by
  have hl : (Builtin.zeroCells zeroV.cells n).toList.length = n * 7 := by rw [Array.length_toList, size_zeroCells]; rfl
  have hst := run_storeCells_cells (P := Tryz.prog) g o (Builtin.zeroCells zeroV.cells n).toList 0 W (by rw [hl]; simpa using hc) (by rw [hl]; simpa using hf) (zero_cells n)
  simp only [Nat.add_zero] at hst
  obtain ⟨m, rfl⟩ : ∃ m, n = m + 1 := ⟨n - 1, by omega⟩
  simp [Builtin.clear_, run_underlying Tryz.underlying27, hst]
theorem size_setCells2 (b : Nat) : ∀ (vs : List Value) (o : Nat) (w : World), (w.setCells b o vs).heap.size = w.heap.size
  | [], _, _ => rfl
  | v :: vs, o, w => by
    show ((w.setCell ⟨b, o, none⟩ v).setCells b (o + 1) vs).heap.size = _
    rw [size_setCells2 b vs, World.size_setCell]
/-- What is left of records. -/
def nomk (rs : List Rc) : List Rc := rs.filter fun r => !isMk r
theorem nomk_none {rs : List Rc} (h : rs.any isMk = false) : nomk rs = rs := by
  unfold nomk
  rw [List.filter_eq_self]
  intro r hr
  rw [List.any_eq_false] at h
  have := h r hr
  simpa using this
/-- All but the slice's own block stands. -/
def KeptBut (W0 W : World) (A : Option Addr) : Prop := W0.heap.size ≤ W.heap.size ∧ ∀ b, b < W0.heap.size → (∀ off, A ≠ some ⟨b, off, none⟩) → W.heap[b]? = W0.heap[b]?
theorem KeptBut.of {W W' : World} (hb : Below W.heap.size W W') (A : Option Addr) : KeptBut W W' A := ⟨hb.size, fun b hlt _ => hb.block b hlt⟩
theorem KeptBut.trans {W0 W W' : World} {A : Option Addr} (h : KeptBut W0 W A) (k : KeptBut W W' A) : KeptBut W0 W' A :=
  ⟨Nat.le_trans h.1 k.1, fun b hlt hA => (k.2 b (Nat.lt_of_lt_of_le hlt h.1) hA).trans (h.2 b hlt hA)⟩
structure DelS (W0 W : World) (base : Nat) (A : Option Addr) (cap : Nat) (rs : List Rc) (i j : Nat) : Prop where
  ex : ∃ ys : List Rc, rcE.Row W base 38 A cap ys ∧ ys.length = rs.length ∧ ys.take i = nomk (rs.take j) ∧ ys.drop j = rs.drop j
  ij : i < j ∧ j ≤ rs.length
  b : Below base W0 W
  hs : base ≤ W.heap.size
  kp : KeptBut W0 W A
theorem DelS.start {W : World} {base : Nat} {A : Option Addr} {cap : Nat} {rs : List Rc} {k : Nat} (hR : rcE.Row W base 38 A cap rs) (hk : k < rs.length) (hm : isMk rs[k] = true) (hn : (rs.take k).any isMk = false) (hb : base ≤ W.heap.size) {W' : World} (hW : Below W.heap.size W W') : DelS W W' base A cap rs k (k + 1) := by
  refine ⟨⟨rs, hR.below hW, rfl, ?_, rfl⟩, ⟨by omega, hk⟩, hW.mono hb, Nat.le_trans hb hW.size, KeptBut.of hW A⟩
  rw [List.take_succ_eq_append_getElem hk]
  unfold nomk
  rw [List.filter_append]
  have h1 := nomk_none hn
  unfold nomk at h1
  rw [h1]
  simp [hm]
theorem nomk_succ {rs : List Rc} {j : Nat} (hj : j < rs.length) : nomk (rs.take (j + 1)) = nomk (rs.take j) ++ (if isMk rs[j] = true then [] else [rs[j]]) := by
  unfold nomk
  rw [List.take_succ_eq_append_getElem hj, List.filter_append]
  cases h : isMk rs[j] <;> simp [h]
theorem DelS.below {W0 W W' : World} {base : Nat} {A : Option Addr} {cap : Nat} {rs : List Rc} {i j : Nat} (h : DelS W0 W base A cap rs i j) (hb : Below W.heap.size W W') : DelS W0 W' base A cap rs i j := by
  obtain ⟨⟨ys, h1, h2, h3, h4⟩, h5, h6, h7, h8⟩ := h
  exact ⟨⟨ys, h1.below hb, h2, h3, h4⟩, h5, h6.trans (hb.mono h7), Nat.le_trans h7 hb.size, h8.trans (KeptBut.of hb A)⟩
theorem DelS.skip {W0 W : World} {base : Nat} {A : Option Addr} {cap : Nat} {rs : List Rc} {i j : Nat} (h : DelS W0 W base A cap rs i j) (hj : j < rs.length) (hm : isMk rs[j] = true) : DelS W0 W base A cap rs i (j + 1) := by
  obtain ⟨⟨ys, h1, h2, h3, h4⟩, h5, h6, h7, h8⟩ := h
  refine ⟨⟨ys, h1, h2, ?_, ?_⟩, ⟨by omega, hj⟩, h6, h7, h8⟩
  · rw [nomk_succ hj, if_pos hm, List.append_nil]; exact h3
  · rw [← List.drop_drop (i := 1) (j := j), ← List.drop_drop (i := 1) (j := j), h4]
/-- Where it lies, and what is read. -/
theorem DelS.read {W0 W : World} {base : Nat} {A : Option Addr} {cap : Nat} {rs : List Rc} {i j : Nat} (h : DelS W0 W base A cap rs i j) (hj : j < rs.length) : ∃ g, A = some ⟨g, 0, none⟩ ∧ g < W.heap.size ∧ base ≤ g ∧ (∀ m, m < 7 → W.cell? ⟨g, j * 7 + m, none⟩ = (rs[j].cellsL)[m]?) ∧ (∀ m, m < 7 → ∃ v, W.cell? ⟨g, i * 7 + m, none⟩ = some v) ∧ ∀ m, W.frozen? ⟨g, m, none⟩ = false := by
  obtain ⟨⟨ys, h1, h2, h3, h4⟩, h5, h6, h7, h8⟩ := h
  obtain ⟨g, e1, e2, e3, e4, e5, e6⟩ := h1.at_ (i := j) (by omega)
  have hyj : ys[j]'(by omega) = rs[j] := by
    have a1 := List.getElem_drop (xs := ys) (i := j) (j := 0) (h := by rw [List.length_drop]; omega)
    have a2 := List.getElem_drop (xs := rs) (i := j) (j := 0) (h := by rw [List.length_drop]; omega)
    simp only [Nat.add_zero] at a1 a2
    rw [← a1, ← a2]
    congr 1
  refine ⟨g, e1, e3, e2, fun m hm => ?_, fun m hm => ?_, e6⟩
  · have := e5 m hm
    rw [hyj] at this
    exact this
  · obtain ⟨g', f1, f2, f3, f4, f5, f6⟩ := h1.at_ (i := i) (by omega)
    have eg : g' = g := by rw [e1] at f1; injection f1 with f1; injection f1 with f1; exact f1.symm
    subst eg
    have h9 := f5 m hm
    have hlen : m < (rcE.c (ys[i]'(by omega))).length := by rw [rcE.len]; exact hm
    rw [List.getElem?_eq_getElem hlen] at h9
    exact ⟨_, h9⟩
theorem DelS.put {W0 W : World} {base : Nat} {g cap : Nat} {rs : List Rc} {i j : Nat} (h : DelS W0 W base (some ⟨g, 0, none⟩) cap rs i j) (hg : base ≤ g) (hj : j < rs.length) (hm : isMk rs[j] = false) : DelS W0 (Enc.storeAt W g (i * 7) rs[j].cellsL) base (some ⟨g, 0, none⟩) cap rs (i + 1) (j + 1) := by
  obtain ⟨⟨ys, h1, h2, h3, h4⟩, h5, h6, h7, h8⟩ := h
  have hst := h1.store (i := i) (by omega) rs[j]
  have hgr := Enc.grownBy_store g rs[j].cellsL W (i * 7)
  refine ⟨⟨ys.set i rs[j], hst, by rw [List.length_set]; exact h2, ?_, ?_⟩, ⟨by omega, hj⟩, h6.grown hgr h7 (fun k e => by injection e with e; omega), Nat.le_trans h7 hgr.size, h8.trans ⟨hgr.size, fun b hlt hA => hgr.block b hlt (fun e => by injection e with e; exact hA 0 (by rw [e]))⟩⟩
  · rw [nomk_succ hj, if_neg (by rw [hm]; simp), List.take_succ_eq_append_getElem (by rw [List.length_set]; omega), List.getElem_set_self, List.take_set_of_le (Nat.le_refl _), h3]
  · rw [List.drop_set_of_lt (by omega), ← List.drop_drop (i := 1) (j := j), ← List.drop_drop (i := 1) (j := j), h4]
theorem DelS.form {W0 W : World} {base : Nat} {A : Option Addr} {cap : Nat} {rs : List Rc} {i j : Nat} (h : DelS W0 W base A cap rs i j) : ∃ g, A = some ⟨g, 0, none⟩ ∧ base ≤ g := by
  obtain ⟨⟨ys, h1, h2, h3, h4⟩, h5, h6, h7, h8⟩ := h
  obtain ⟨g, e1, e2, _⟩ := h1.at_ (i := i) (by omega)
  exact ⟨g, e1, e2⟩
/-- The end. -/
theorem DelS.done {W0 W : World} {base : Nat} {g cap : Nat} {rs : List Rc} {i : Nat} (h : DelS W0 W base (some ⟨g, 0, none⟩) cap rs i rs.length) (_ : base ≤ g) :
    i < rs.length ∧ i = (nomk rs).length ∧ rs.length ≤ cap ∧ (∃ W', (∀ ty c, (Builtin.clear_ #[27] ty #[.slice (some ⟨g, i * 7, none⟩) (rs.length - i) c]).run Tryz.prog W = .ok (.tuple #[]) W') ∧ RecsIn W' (some ⟨g, 0, none⟩) (nomk rs) ∧ Below base W0 W' ∧ KeptBut W0 W' (some ⟨g, 0, none⟩)) := by
  obtain ⟨⟨ys, h1, h2, h3, h4⟩, h5, h6, h7, h8⟩ := h
  rw [List.take_length] at h3
  obtain ⟨g', e1, e2, e3, e4, e5, e6⟩ := h1.at_ (i := i) (by omega)
  have eg : g' = g := by injection e1 with e1; injection e1 with e1; exact e1.symm
  subst eg
  have hil : i = (nomk rs).length := by rw [← h3, List.length_take]; omega
  have hcell : ∀ o, o < ys.length * 7 → (W.cell? ⟨g', o, none⟩).isSome = true := fun o ho => by
    have hq : o / 7 < ys.length := by omega
    obtain ⟨g2, f1, _, _, _, f5, _⟩ := h1.at_ hq
    have : g2 = g' := by injection f1 with f1; injection f1 with f1; exact f1.symm
    subst this
    have h9 := f5 (o % 7) (by show o % 7 < 7; omega)
    have hlen : o % 7 < (rcE.c ys[o / 7]).length := by rw [rcE.len]; show o % 7 < 7; omega
    rw [List.getElem?_eq_getElem hlen, show o / 7 * rcE.k + o % 7 = o by show o / 7 * 7 + o % 7 = o; omega] at h9
    rw [h9]; rfl
  refine ⟨by omega, hil, by rw [← h2]; exact e4, _, fun ty c => clear_run ty (by omega) (fun j hj => hcell _ (by rw [h2]; omega)) (fun j _ => e6 _), ?_, ?_, ?_⟩
  · by_cases h0 : nomk rs = []
    · exact .inl h0
    · refine .inr ⟨g', rfl, ?_, fun a ha m hm => ?_⟩
      · rw [size_setCells2]; exact e3
      · rw [World.cell?_setCells_out _ _ _ _ _ (fun _ _ => .inl (by show a * 7 + m < i * 7; omega))]
        obtain ⟨g2, f1, _, _, _, f5, _⟩ := h1.at_ (i := a) (by omega)
        have : g2 = g' := by injection f1 with f1; injection f1 with f1; exact f1.symm
        subst this
        have h9 := f5 m hm
        have ey : ys[a]'(by omega) = (nomk rs)[a] := by
          have a1 := List.getElem_take (xs := ys) (j := i) (i := a) (h := by rw [List.length_take]; omega)
          rw [← a1]
          congr 1
        rw [ey] at h9
        exact h9
  · exact Lib.below_setCells g' e2 _ _ h6
  · exact h8.trans ⟨by rw [size_setCells2]; exact Nat.le_refl _, fun b hlt hA => World.heap_setCells_other W g' _ _ hlt (fun e => hA 0 (by rw [e]))⟩
end Go.Proofs.YtpmhfalhieinjaaGreatDoor
