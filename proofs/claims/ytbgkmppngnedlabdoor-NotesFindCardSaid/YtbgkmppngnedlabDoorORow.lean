/- Rows of records; records compared. -/
import Derived.Test.YtbgkmppngnedlabDoorORcD
import Derived.Test.YtbgkmppngnedlabDoorOBase
import Derived.Maps.AppendAt
import Derived.Deep.AppendLies
import Derived.Laws.OwnMore
import Derived.OwnWalk
namespace Go.Proofs.YtbgkmppngnedlabDoor
open Go.RowKit Rec
def Rec.Rc.cellsL (r : Rc) : List Value := [.int .i64 r.k, .int .i64 r.s, .int .i64 r.a, .int .i64 r.b, .int .i64 r.c, .int .i64 r.d, .string r.body]
def flatR : List Rc → List Value
  | [] => []
  | r :: rs => r.cellsL ++ flatR rs
theorem flatR_len : ∀ rs : List Rc, (flatR rs).length = rs.length * 7
  | [] => rfl
  | r :: rs => by
    show (r.cellsL ++ flatR rs).length = (rs.length + 1) * 7
    rw [List.length_append, flatR_len rs, show r.cellsL.length = 7 from rfl]; omega
theorem flatR_append : ∀ (rs qs : List Rc), flatR (rs ++ qs) = flatR rs ++ flatR qs
  | [], _ => rfl
  | r :: rs, qs => by
    show r.cellsL ++ flatR (rs ++ qs) = r.cellsL ++ flatR rs ++ flatR qs
    rw [flatR_append rs qs, List.append_assoc]
theorem flatR_one (r : Rc) : flatR [r] = r.cellsL := by show r.cellsL ++ [] = _; rw [List.append_nil]
theorem flatR_at : ∀ (rs : List Rc) (i : Nat) (hi : i < rs.length) (j : Nat), j < 7 → (flatR rs)[i * 7 + j]? = (rs[i].cellsL)[j]?
  | r :: rs, 0, _, j, hj => by
    show (r.cellsL ++ flatR rs)[0 * 7 + j]? = _
    rw [Nat.zero_mul, Nat.zero_add, List.getElem?_append_left (by exact hj)]
    rfl
  | r :: rs, i + 1, hi, j, hj => by
    show (r.cellsL ++ flatR rs)[(i + 1) * 7 + j]? = _
    rw [List.getElem?_append_right (by rw [show r.cellsL.length = 7 from rfl]; omega), show (i + 1) * 7 + j - r.cellsL.length = i * 7 + j by rw [show r.cellsL.length = 7 from rfl]; omega]
    exact flatR_at rs i (by simpa using hi) j hj
/-- A slice that reads as a list of records. -/
def RecsIn (W : World) (A : Option Addr) (rs : List Rc) : Prop :=
  rs = [] ∨ ∃ b, A = some ⟨b, 0, none⟩ ∧ b < W.heap.size ∧ ∀ (i : Nat) (h : i < rs.length) (j : Nat), j < 7 → W.cell? ⟨b, i * 7 + j, none⟩ = (rs[i].cellsL)[j]?
theorem RecsIn.below {W W' : World} {A : Option Addr} {rs : List Rc} (h : RecsIn W A rs) (hb : Below W.heap.size W W') : RecsIn W' A rs := by
  rcases h with h | ⟨b, rfl, hlt, hc⟩
  · exact .inl h
  · exact .inr ⟨b, rfl, Nat.lt_of_lt_of_le hlt hb.size, fun i hi j hj => (hb.cell (p := ⟨b, i * 7 + j, none⟩) hlt).trans (hc i hi j hj)⟩
theorem RecsIn.at_ {W : World} {A : Option Addr} {rs : List Rc} (h : RecsIn W A rs) {i : Nat} (hi : i < rs.length) :
    ∃ b, A = some ⟨b, 0, none⟩ ∧ b < W.heap.size ∧ W.cell? ⟨b, i * 7, none⟩ = some (.int .i64 rs[i].k) ∧ W.cell? ⟨b, i * 7 + 1, none⟩ = some (.int .i64 rs[i].s) ∧ W.cell? ⟨b, i * 7 + 2, none⟩ = some (.int .i64 rs[i].a) ∧ W.cell? ⟨b, i * 7 + 3, none⟩ = some (.int .i64 rs[i].b) ∧ W.cell? ⟨b, i * 7 + 4, none⟩ = some (.int .i64 rs[i].c) ∧ W.cell? ⟨b, i * 7 + 5, none⟩ = some (.int .i64 rs[i].d) ∧ W.cell? ⟨b, i * 7 + 6, none⟩ = some (.string rs[i].body) := by
  rcases h with rfl | ⟨b, rfl, hlt, hc⟩
  · simp at hi
  · exact ⟨b, rfl, hlt, hc i hi 0 (by omega), hc i hi 1 (by omega), hc i hi 2 (by omega), hc i hi 3 (by omega), hc i hi 4 (by omega), hc i hi 5 (by omega), hc i hi 6 (by omega)⟩
/-- A slice of the call's own that reads as a list of records. -/
def RRow (W : World) (base : Nat) (t : TypeId) (A : Option Addr) (cap : Nat) (rs : List Rc) : Prop := W.ownsRow base t 7 (.slice A rs.length cap) rs.length (flatR rs)
section
variable {W W' : World} {base cap : Nat} {t : TypeId} {A : Option Addr} {rs : List Rc}
theorem RRow.form (h : RRow W base t A cap rs) : (A = none ∧ cap = 0 ∧ rs = []) ∨ ∃ g, A = some ⟨g, 0, none⟩ ∧ base ≤ g ∧ g < W.heap.size ∧ rs.length ≤ cap := by
  rcases h.2 with ⟨hv, h0⟩ | ⟨g, cap', cur, hv, hb, hg, hc, _⟩
  · simp only [Value.slice.injEq] at hv
    exact .inl ⟨hv.1, hv.2.2, List.eq_nil_of_length_eq_zero h0⟩
  · simp only [Value.slice.injEq] at hv
    exact .inr ⟨g, hv.1, hb, (Array.getElem?_eq_some_iff.1 hg).1, by omega⟩
theorem RRow.recs (h : RRow W base t A cap rs) : RecsIn W A rs := by
  rcases h.form with h0 | ⟨g, rfl, _, hlt, _⟩
  · exact .inl h0.2.2
  · refine .inr ⟨g, rfl, hlt, fun i hi j hj => ?_⟩
    rw [h.cellAt (i * 7 + j) (by omega)]
    exact flatR_at rs i hi j hj
theorem RRow.nil (W : World) (base : Nat) (t : TypeId) : RRow W base t none 0 [] := World.ownsRow_nil _ _ _ _
theorem RRow.alloc (h : RRow W base t A cap rs) (o : Obj) : RRow (W.alloc o) base t A cap rs := World.ownsRow.alloc h o
theorem RRow.below (h : RRow W base t A cap rs) (hb : Below W.heap.size W W') : RRow W' base t A cap rs := by
  refine ⟨h.1, ?_⟩
  rcases h.2 with hn | ⟨g, cap', cur, hv, hg, hgg, rest⟩
  · exact .inl hn
  · exact .inr ⟨g, cap', cur, hv, hg, by rw [hb.block g (Array.getElem?_eq_some_iff.1 hgg).1]; exact hgg, rest⟩
/-- Another row was appended to. -/
theorem RRow.kept {v : Value} (h : RRow W base t A cap rs) (hg : W.grownBy W' v.ownBlock) (hne : A = none ∨ (Value.slice A rs.length cap).ownBlock ≠ v.ownBlock) : RRow W' base t A cap rs := by
  refine World.ownsRow.kept h hg ?_
  rcases hne with rfl | hne
  · left; rfl
  · right; exact hne
/-- What stood ahead of the call stands. -/
theorem RRow.grown (h : RRow W base t A cap rs) (hg : W.grownBy W' (Value.slice A rs.length cap).ownBlock) (hb : base ≤ W.heap.size) : Below base W W' :=
  (Below.refl _ _).grown hg hb fun _ e => (World.ownsRow.lt h _ e).1
end
/-- append of one record to a row of the call's own. -/
theorem append_rec {P : Program} {st t : TypeId} {i : TypeInfo} {z : Value} (hst : P.underlying st = some (.slice t)) (hi : P.info? t = some i) (hz : i.zero = some z) (hsize : i.size = 7) (hby : i.bytes = 64) (hzs : z.cells.size = 7)
    {W : World} {base cap : Nat} {A : Option Addr} {rs : List Rc} (hr : RRow W base t A cap rs) {m : Nat} {r : Rc} (hm : RcAt W m r) (hl : rs.length ≤ 1000000) (hb : base ≤ W.heap.size) (ty : TypeId) :
    ∃ A' cap' W', (Builtin.append_ #[st, st] ty #[.slice A rs.length cap, .slice (some ⟨m, 0, none⟩) 1 1]).run P W = .ok (.slice A' (rs.length + 1) cap') W' ∧ RRow W' base t A' cap' (rs ++ [r]) ∧
      W.grownBy W' (Value.slice A rs.length cap).ownBlock ∧ (A' = A ∨ A' = some ⟨W.heap.size, 0, none⟩) := by
  obtain ⟨v', w', h1, h2, h3, h4, h5⟩ := run_append_own_at (P := P) W base st ty t i z 7 64 hst hi hz hsize hby hzs (by decide) _ _ _ hr ⟨m, 0, none⟩ 1 1 r.cellsL rfl (by
      intro j u hu
      have hj : j < 7 := (List.getElem?_eq_some_iff.1 hu).1
      rw [Go.WideShapes.add_plain, Nat.zero_add]
      rcases (by omega : j = 0 ∨ j = 1 ∨ j = 2 ∨ j = 3 ∨ j = 4 ∨ j = 5 ∨ j = 6) with rfl | rfl | rfl | rfl | rfl | rfl | rfl
      · exact hm.c0.trans hu
      · exact hm.c1.trans hu
      · exact hm.c2.trans hu
      · exact hm.c3.trans hu
      · exact hm.c4.trans hu
      · exact hm.c5.trans hu
      · exact hm.c6.trans hu)
    (by
      intro u hu
      simp only [Rec.Rc.cellsL, List.mem_cons, List.not_mem_nil, or_false] at hu
      rcases hu with rfl | rfl | rfl | rfl | rfl | rfl | rfl <;> rfl) (by unfold maxLen; omega) (by omega) hb
  have hf : flatR (rs ++ [r]) = flatR rs ++ r.cellsL := by rw [flatR_append, flatR_one]
  rw [← hf] at h2
  have hlen : (rs ++ [r]).length = rs.length + 1 := by simp
  rcases h2.2 with ⟨hv, h0⟩ | ⟨g, cap', cur, hv, hrest⟩
  · omega
  · subst hv
    refine ⟨some ⟨g, 0, none⟩, cap', w', h1, by unfold RRow; rw [hlen]; exact h2, h3, ?_⟩
    rcases h5 with h5 | h5
    · left
      rcases hr.form with ⟨rfl, _⟩ | ⟨g0, rfl, _⟩
      · simp [Value.ownBlock] at h5
      · simp only [Value.ownBlock, Option.some.injEq] at h5
        rw [h5]
    · right
      simp only [Value.ownBlock, Option.some.injEq] at h5
      rw [h5]
theorem infoRec : (Tryd.prog.info? 29).map (fun i => (i.zero.map (·.cells.size), i.size, i.bytes)) = some (some 7, 7, 64) := by kernel_rfl
/-- A slice that came in and reads as a list of records. -/
def RecsAt (W : World) (A : Option Addr) (rs : List Rc) : Prop :=
  rs = [] ∨ ∃ b off, A = some ⟨b, off, none⟩ ∧ b < W.heap.size ∧ ∀ (i : Nat) (h : i < rs.length) (j : Nat), j < 7 → W.cell? ⟨b, off + i * 7 + j, none⟩ = (rs[i].cellsL)[j]?
theorem RecsAt.below {W W' : World} {A : Option Addr} {rs : List Rc} (h : RecsAt W A rs) (hb : Below W.heap.size W W') : RecsAt W' A rs := by
  rcases h with h | ⟨b, off, rfl, hlt, hc⟩
  · exact .inl h
  · exact .inr ⟨b, off, rfl, Nat.lt_of_lt_of_le hlt hb.size, fun i hi j hj => (hb.cell (p := ⟨b, off + i * 7 + j, none⟩) hlt).trans (hc i hi j hj)⟩
theorem RecsAt.at_ {W : World} {A : Option Addr} {rs : List Rc} (h : RecsAt W A rs) {i : Nat} (hi : i < rs.length) :
    ∃ b off, A = some ⟨b, off, none⟩ ∧ b < W.heap.size ∧ W.cell? ⟨b, off + i * 7, none⟩ = some (.int .i64 rs[i].k) ∧ W.cell? ⟨b, off + i * 7 + 1, none⟩ = some (.int .i64 rs[i].s) ∧ W.cell? ⟨b, off + i * 7 + 2, none⟩ = some (.int .i64 rs[i].a) ∧ W.cell? ⟨b, off + i * 7 + 3, none⟩ = some (.int .i64 rs[i].b) ∧ W.cell? ⟨b, off + i * 7 + 4, none⟩ = some (.int .i64 rs[i].c) ∧ W.cell? ⟨b, off + i * 7 + 5, none⟩ = some (.int .i64 rs[i].d) ∧ W.cell? ⟨b, off + i * 7 + 6, none⟩ = some (.string rs[i].body) := by
  rcases h with rfl | ⟨b, off, rfl, hlt, hc⟩
  · simp at hi
  · exact ⟨b, off, rfl, hlt, hc i hi 0 (by omega), hc i hi 1 (by omega), hc i hi 2 (by omega), hc i hi 3 (by omega), hc i hi 4 (by omega), hc i hi 5 (by omega), hc i hi 6 (by omega)⟩
end Go.Proofs.YtbgkmppngnedlabDoor
namespace Go.Proofs.YtbgkmppngnedlabDoor
open Go.RowKit Rec
def eqR (r r' : Rc) : Bool := r.k == r'.k && (r.s == r'.s && (r.a == r'.a && (r.b == r'.b && (r.c == r'.c && (r.d == r'.d && r.body.toList == r'.body.toList)))))
theorem eqR_iff {r r' : Rc} : eqR r r' = true ↔ r = r' := by
  constructor
  · intro h
    unfold eqR at h
    simp only [Bool.and_eq_true, beq_iff_eq, ByteArray.toList_eq] at h
    obtain ⟨h0, h1, h2, h3, h4, h5, h6⟩ := h
    cases r; cases r'
    simp only at h0 h1 h2 h3 h4 h5 h6
    rw [h0, h1, h2, h3, h4, h5, ByteArray.ext (Array.ext' h6)]
  · rintro rfl
    unfold eqR
    simp
theorem eqR_self (r : Rc) : eqR r r = true := eqR_iff.2 rfl
theorem rec_eql (w : World) (r r' : Rc) : (binOp .eql 29 (.agg #[.int .i64 r.k, .int .i64 r.s, .int .i64 r.a, .int .i64 r.b, .int .i64 r.c, .int .i64 r.d, .string r.body]) (.agg #[.int .i64 r'.k, .int .i64 r'.s, .int .i64 r'.a, .int .i64 r'.b, .int .i64 r'.c, .int .i64 r'.d, .string r'.body])).run Tryd.prog w = .ok (.bool (eqR r r')) w ∧ (binOp .neq 29 (.agg #[.int .i64 r.k, .int .i64 r.s, .int .i64 r.a, .int .i64 r.b, .int .i64 r.c, .int .i64 r.d, .string r.body]) (.agg #[.int .i64 r'.k, .int .i64 r'.s, .int .i64 r'.a, .int .i64 r'.b, .int .i64 r'.c, .int .i64 r'.d, .string r'.body])).run Tryd.prog w = .ok (.bool (!eqR r r')) w := by
  obtain ⟨f0, f1, f2, f3, f4, f5, f6, hl, h0, h1, h2, h3, h4, h5, h6⟩ := struct_seven (P := Tryd.prog) (t := 29) (k0 := (3, 0, true)) (k1 := (3, 1, true)) (k2 := (3, 2, true)) (k3 := (3, 3, true)) (k4 := (3, 4, true)) (k5 := (3, 5, true)) (k6 := (9, 6, true)) (by kernel_rfl)
  refine eql_of (by kernel_rfl) (by kernel_rfl) ?_
  rw [hl,
    eqF_cons h0 (a := .int .i64 r.k) (b := .int .i64 r'.k) (by kernel_rfl) (by kernel_rfl) (run_equalIn_int _ 9998 _ _ .i64 _ _ Tryd.underlying3),
    eqF_cons h1 (a := .int .i64 r.s) (b := .int .i64 r'.s) (by kernel_rfl) (by kernel_rfl) (run_equalIn_int _ 9998 _ _ .i64 _ _ Tryd.underlying3),
    eqF_cons h2 (a := .int .i64 r.a) (b := .int .i64 r'.a) (by kernel_rfl) (by kernel_rfl) (run_equalIn_int _ 9998 _ _ .i64 _ _ Tryd.underlying3),
    eqF_cons h3 (a := .int .i64 r.b) (b := .int .i64 r'.b) (by kernel_rfl) (by kernel_rfl) (run_equalIn_int _ 9998 _ _ .i64 _ _ Tryd.underlying3),
    eqF_cons h4 (a := .int .i64 r.c) (b := .int .i64 r'.c) (by kernel_rfl) (by kernel_rfl) (run_equalIn_int _ 9998 _ _ .i64 _ _ Tryd.underlying3),
    eqF_cons h5 (a := .int .i64 r.d) (b := .int .i64 r'.d) (by kernel_rfl) (by kernel_rfl) (run_equalIn_int _ 9998 _ _ .i64 _ _ Tryd.underlying3),
    eqF_cons h6 (a := .string r.body) (b := .string r'.body) (by kernel_rfl) (by kernel_rfl) (run_equalIn_string _ 9998 _ _ _ Tryd.underlying9), eqF_nil]
  unfold eqR
  cases h10 : (r.k == r'.k) <;> cases h11 : (r.s == r'.s) <;> cases h12 : (r.a == r'.a) <;> cases h13 : (r.b == r'.b) <;> cases h14 : (r.c == r'.c) <;> cases h15 : (r.d == r'.d) <;> (first | rfl | (cases h16 : (r.body.toList == r'.body.toList) <;> rfl))
theorem refrec_eql (w : World) (r r' : Rc) : (binOp .eql 30 (.agg #[.int .i64 r.k, .int .i64 r.s, .int .i64 r.a, .int .i64 r.b, .int .i64 r.c, .int .i64 r.d, .string r.body]) (.agg #[.int .i64 r'.k, .int .i64 r'.s, .int .i64 r'.a, .int .i64 r'.b, .int .i64 r'.c, .int .i64 r'.d, .string r'.body])).run Tryd.prog w = .ok (.bool (eqR r r')) w ∧ (binOp .neq 30 (.agg #[.int .i64 r.k, .int .i64 r.s, .int .i64 r.a, .int .i64 r.b, .int .i64 r.c, .int .i64 r.d, .string r.body]) (.agg #[.int .i64 r'.k, .int .i64 r'.s, .int .i64 r'.a, .int .i64 r'.b, .int .i64 r'.c, .int .i64 r'.d, .string r'.body])).run Tryd.prog w = .ok (.bool (!eqR r r')) w := by
  obtain ⟨f0, f1, f2, f3, f4, f5, f6, hl, h0, h1, h2, h3, h4, h5, h6⟩ := struct_seven (P := Tryd.prog) (t := 30) (k0 := (3, 0, true)) (k1 := (3, 1, true)) (k2 := (3, 2, true)) (k3 := (3, 3, true)) (k4 := (3, 4, true)) (k5 := (3, 5, true)) (k6 := (9, 6, true)) (by kernel_rfl)
  refine eql_of (by kernel_rfl) (by kernel_rfl) ?_
  rw [hl,
    eqF_cons h0 (a := .int .i64 r.k) (b := .int .i64 r'.k) (by kernel_rfl) (by kernel_rfl) (run_equalIn_int _ 9998 _ _ .i64 _ _ Tryd.underlying3),
    eqF_cons h1 (a := .int .i64 r.s) (b := .int .i64 r'.s) (by kernel_rfl) (by kernel_rfl) (run_equalIn_int _ 9998 _ _ .i64 _ _ Tryd.underlying3),
    eqF_cons h2 (a := .int .i64 r.a) (b := .int .i64 r'.a) (by kernel_rfl) (by kernel_rfl) (run_equalIn_int _ 9998 _ _ .i64 _ _ Tryd.underlying3),
    eqF_cons h3 (a := .int .i64 r.b) (b := .int .i64 r'.b) (by kernel_rfl) (by kernel_rfl) (run_equalIn_int _ 9998 _ _ .i64 _ _ Tryd.underlying3),
    eqF_cons h4 (a := .int .i64 r.c) (b := .int .i64 r'.c) (by kernel_rfl) (by kernel_rfl) (run_equalIn_int _ 9998 _ _ .i64 _ _ Tryd.underlying3),
    eqF_cons h5 (a := .int .i64 r.d) (b := .int .i64 r'.d) (by kernel_rfl) (by kernel_rfl) (run_equalIn_int _ 9998 _ _ .i64 _ _ Tryd.underlying3),
    eqF_cons h6 (a := .string r.body) (b := .string r'.body) (by kernel_rfl) (by kernel_rfl) (run_equalIn_string _ 9998 _ _ _ Tryd.underlying9), eqF_nil]
  unfold eqR
  cases h10 : (r.k == r'.k) <;> cases h11 : (r.s == r'.s) <;> cases h12 : (r.a == r'.a) <;> cases h13 : (r.b == r'.b) <;> cases h14 : (r.c == r'.c) <;> cases h15 : (r.d == r'.d) <;> (first | rfl | (cases h16 : (r.body.toList == r'.body.toList) <;> rfl))
end Go.Proofs.YtbgkmppngnedlabDoor
