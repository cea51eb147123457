/- Rows of numbers that came in. -/
import Derived.Test.YtbgkmppngnedlaaOKit
import Derived.Deep.SlicePairs
import Derived.Deep.Matrix
import Derived.Test.YtbgkmppngnedlaaOBase
import Derived.Maps.AppendAt
import Derived.Laws.OwnMore
import Derived.OwnWalk
import Derived.SizedLaws
namespace Go.Proofs.Ytbgkmppngnedlaa
open Go.ChangeShapes Go.WideShapes Go.ChangeAt Go.RowKit
section
variable {H : Type} {enc : TypeId × Value → H} {P : Program} {w : World}
def intFields (P : Program) (fs : Array Field) (k : IntKind) : Bool := (List.range fs.size).all fun i => match fs[i]? with
  | some f => f.offset == i && P.cellsOf f.type == 1 && (match P.underlying f.type with | some (.int k') => k' == k | _ => false)
  | none => false
theorem intFields_at {fs : Array Field} {k : IntKind} (h : intFields P fs k = true) (i : Nat) (f : Field) (hf : fs[i]? = some f) : f.offset = i ∧ P.cellsOf f.type = 1 ∧ P.underlying f.type = some (.int k) := by
  have h1 := List.all_eq_true.1 h i (List.mem_range.2 (Array.getElem?_eq_some_iff.1 hf).1)
  simp only [hf, Bool.and_eq_true, beq_iff_eq] at h1
  obtain ⟨⟨o1, o2⟩, o3⟩ := h1
  refine ⟨o1, o2, ?_⟩
  cases hu : P.underlying f.type with
  | none => rw [hu] at o3; cases o3
  | some u =>
    rw [hu] at o3
    cases u <;> first | (rename_i k'; have : k' = k := by simpa using o3
                         rw [this]) | (cases o3)
/-- A struct whose fields are integers of one kind, one cell each, in their order: its numbers, written out. -/
theorem open_ints_struct {r : Reach} {b0 base : Nat} {spare : Nat → Bool} {held : Bool} {t : TypeId} {fs : Array Field} {k : IntKind} {v : Value} {d : DataW H} {p : List MemPlace}
    (ht : P.underlying t = some (.struct fs)) (hfs : intFields P fs k = true) (hct : P.cellsOf t = fs.size)
    (hv : Value.okWide P w r b0 t v) (h : DataW.Trod enc P w base spare held t v d p) :
    ∃ zs : List Int, zs.length = fs.size ∧ v = .agg (zs.map (Value.int k)).toArray ∧ ∀ z ∈ zs, (Lit.int k z).wf = true := by
  obtain ⟨cs, rfl, hsz⟩ := okWide_struct ht hv
  obtain ⟨fuel, hfu⟩ := h
  obtain ⟨xs, m, rfl, hx, hl, hxl, hall⟩ := DataW.trod_struct ht hfu
  rw [hct] at hsz
  have hc : (Value.agg cs).cells = cs := rfl
  rw [hc] at hall
  have h1 : ∀ i (_ : i < fs.size), ∃ z, cs[i]? = some (.int k z) ∧ (Lit.int k z).wf = true := fun i hi => by
    obtain ⟨o1, o2, o3⟩ := intFields_at hfs i fs[i] (by simp [hi])
    have h2 := hall i fs[i] (by simp [hi])
    rw [o1, o2] at h2
    rw [List.getElem?_eq_getElem (by omega)] at h2
    obtain ⟨z, hz, _, hw⟩ := DataW.trod_int o3 h2
    refine ⟨z, ?_, hw⟩
    have := congrArg (·[0]?) hz
    simpa [List.getElem?_take, List.getElem?_drop] using this
  refine ⟨cs.toList.map (fun v => match v with | .int _ z => z | _ => 0), by simp [hsz], ?_, ?_⟩
  · congr 1
    apply Array.ext
    · simp
    · intro i hi _
      obtain ⟨z, hz, _⟩ := h1 i (by omega)
      rw [Array.getElem?_eq_getElem hi] at hz
      have hz' := Option.some.inj hz
      simp [hz']
  · intro z hz
    obtain ⟨c, hc, rfl⟩ := List.mem_map.1 hz
    obtain ⟨i, hi, rfl⟩ := List.getElem_of_mem hc
    obtain ⟨z, hz, hw⟩ := h1 i (by simpa [hsz] using hi)
    rw [Array.getElem?_eq_getElem (by simpa using hi)] at hz
    have hz' := Option.some.inj hz
    simp [hz', hw]
theorem five_of {zs : List Int} (h : zs.length = 5) : ∃ a b c d e, zs = [a, b, c, d, e] := by
  match zs, h with
  | [a, b, c, d, e], _ => exact ⟨a, b, c, d, e, rfl⟩
end
end Go.Proofs.Ytbgkmppngnedlaa
namespace Go.Proofs.Ytbgkmppngnedlaa
open Go.ChangeShapes Go.WideShapes Go.ChangeAt Go.RowKit
/-- A command as plain data. -/
structure Cm where
  k : Int
  z : Int
  a : Int
  n : Int
instance : Inhabited Cm := ⟨⟨0, 0, 0, 0⟩⟩
def CmdsIn (w : World) (A : Option Addr) (cs : List Cm) : Prop :=
  cs = [] ∨ ∃ b off, A = some ⟨b, off, none⟩ ∧ b < w.heap.size ∧ ∀ i (h : i < cs.length), w.cell? ⟨b, off + i * 4, none⟩ = some (.int .i64 cs[i].k) ∧ w.cell? ⟨b, off + i * 4 + 1, none⟩ = some (.int .i64 cs[i].z) ∧ w.cell? ⟨b, off + i * 4 + 2, none⟩ = some (.int .i64 cs[i].a) ∧ w.cell? ⟨b, off + i * 4 + 3, none⟩ = some (.int .i64 cs[i].n)
theorem CmdsIn.below {w w' : World} {A : Option Addr} {cs : List Cm} (h : CmdsIn w A cs) (hb : Below w.heap.size w w') : CmdsIn w' A cs := by
  rcases h with h | ⟨b, off, rfl, hlt, hc⟩
  · exact .inl h
  · exact .inr ⟨b, off, rfl, Nat.lt_of_lt_of_le hlt hb.size, fun i hi => by
      obtain ⟨h1, h2, h3, h4⟩ := hc i hi
      exact ⟨(hb.cell (p := ⟨b, _, none⟩) hlt).trans h1, (hb.cell (p := ⟨b, _, none⟩) hlt).trans h2, (hb.cell (p := ⟨b, _, none⟩) hlt).trans h3, (hb.cell (p := ⟨b, _, none⟩) hlt).trans h4⟩⟩
theorem CmdsIn.at_ {w : World} {A : Option Addr} {cs : List Cm} (h : CmdsIn w A cs) {i : Nat} (hi : i < cs.length) :
    ∃ b off, A = some ⟨b, off, none⟩ ∧ b < w.heap.size ∧ w.cell? ⟨b, off + i * 4, none⟩ = some (.int .i64 cs[i].k) ∧ w.cell? ⟨b, off + i * 4 + 1, none⟩ = some (.int .i64 cs[i].z) ∧ w.cell? ⟨b, off + i * 4 + 2, none⟩ = some (.int .i64 cs[i].a) ∧ w.cell? ⟨b, off + i * 4 + 3, none⟩ = some (.int .i64 cs[i].n) := by
  rcases h with rfl | ⟨b, off, rfl, hlt, hc⟩
  · simp at hi
  · obtain ⟨h1, h2, h3, h4⟩ := hc i hi
    exact ⟨b, off, rfl, hlt, h1, h2, h3, h4⟩
/-- The numbers of a command are numbers of the machine's. -/
def CmOk (c : Cm) : Prop := -9223372036854775808 ≤ c.a ∧ c.a ≤ 9223372036854775807
theorem four_of {zs : List Int} (h : zs.length = 4) : ∃ a b c d, zs = [a, b, c, d] := by
  match zs, h with
  | [a, b, c, d], _ => exact ⟨a, b, c, d, rfl⟩
section
variable {H : Type} {enc : TypeId × Value → H} {P : Program} {w : World}
theorem open_cmds {r : Reach} {b0 : Nat} {t e : TypeId} {fs : Array Field} {v : Value} {d : DataW H} {p : List MemPlace} (ht : P.underlying t = some (.slice e)) (he : P.underlying e = some (.struct fs))
    (hfs : intFields P fs .i64 = true) (h4 : fs.size = 4) (ce : P.cellsOf e = 4)
    (hv : Value.okWide P w r b0 t v) (h : DataW.Trod enc P w 0 (fun _ => true) true t v d p) :
    ∃ (A : Option Addr) (cap : Nat) (cs : List Cm), v = .slice A cs.length cap ∧ cs.length ≤ cap ∧ cap ≤ maxLen ∧ CmdsIn w A cs ∧ ∀ c ∈ cs, CmOk c := by
  obtain ⟨a0, len, cap, rfl⟩ := okWide_slice ht hv
  obtain ⟨fuel, hf⟩ := h
  rcases Deep.open_slice ht hf with ⟨hcs, _⟩ | ⟨a, len', cap', m, n, D, Pl, hcs, hb, hl, hm, hmm, _, hx⟩
  · have hcs' : a0 = none ∧ len = 0 ∧ cap = 0 := by simpa [Value.cells] using hcs
    obtain ⟨rfl, rfl, rfl⟩ := hcs'
    exact ⟨none, 0, [], rfl, Nat.zero_le _, Nat.zero_le _, .inl rfl, by simp⟩
  · have hcs' : a0 = some a ∧ len = len' ∧ cap = cap' := by simpa [Value.cells] using hcs
    obtain ⟨rfl, rfl, rfl⟩ := hcs'
    simp only [if_true] at hmm
    subst hmm
    have each : ∀ i, i < m → ∃ c : Cm, w.cell? (a.add (i * 4)) = some (.int .i64 c.k) ∧ w.cell? (a.add (i * 4 + 1)) = some (.int .i64 c.z) ∧ w.cell? (a.add (i * 4 + 2)) = some (.int .i64 c.a) ∧ w.cell? (a.add (i * 4 + 3)) = some (.int .i64 c.n) ∧ CmOk c := fun i hi => by
      obtain ⟨cs', h1, h2⟩ := hx i hi
      rw [ce] at h1
      obtain ⟨_, hlen, hcell⟩ := World.cells?_some h1
      obtain ⟨xs, k, hk, hxy, _, hxl, hff⟩ := DataW.trod_struct he h2
      have hz : ∀ j, j < 4 → ∃ z, cs'[j]? = some (.int .i64 z) ∧ (Lit.int .i64 z).wf = true := fun j hj => by
        obtain ⟨o1, o2, o3⟩ := intFields_at hfs j fs[j] (by simp [show j < fs.size by omega])
        have h3 := hff j fs[j] (by simp [show j < fs.size by omega])
        rw [o1, o2, List.getElem?_eq_getElem (by omega)] at h3
        obtain ⟨z, hz, _, hw⟩ := DataW.trod_int o3 h3
        refine ⟨z, ?_, hw⟩
        have := congrArg (·[0]?) hz
        simpa [List.getElem?_take, List.getElem?_drop] using this
      obtain ⟨z0, e0, _⟩ := hz 0 (by omega)
      obtain ⟨z1, e1, _⟩ := hz 1 (by omega)
      obtain ⟨z2, e2, w2⟩ := hz 2 (by omega)
      obtain ⟨z3, e3, _⟩ := hz 3 (by omega)
      have g := fun j (hj : j < 4) => hcell j (by omega)
      have g0 := g 0 (by omega)
      have g1 := g 1 (by omega)
      have g2 := g 2 (by omega)
      have g3 := g 3 (by omega)
      rw [Deep.add_add] at g0 g1 g2 g3
      rw [e0] at g0
      rw [e1] at g1
      rw [e2] at g2
      rw [e3] at g3
      exact ⟨⟨z0, z1, z2, z3⟩, by simpa using g0, by simpa using g1, by simpa using g2, by simpa using g3, bounds_i64 w2⟩
    obtain ⟨q, hq⟩ := Deep.choose_lt each
    refine ⟨some a, m, (List.range len).map q, by simp, by simpa using hl, hm, ?_, fun c hc => ?_⟩
    · by_cases h0 : len = 0
      · left; subst h0; rfl
      right
      obtain ⟨b, off, spot⟩ := a
      have hspot : spot = none := by simpa [Addr.add] using World.cell?_spot (hq 0 (by omega)).1
      subst hspot
      refine ⟨b, off, rfl, ?_, fun i hi => ?_⟩
      · have h1 := (hq 0 (by omega)).1
        rw [Go.WideShapes.add_plain] at h1
        exact lt_of_cell h1
      · have hi' : i < len := by simpa using hi
        obtain ⟨h1, h2, h3, h4, _⟩ := hq i (by omega)
        rw [Go.WideShapes.add_plain] at h1 h2 h3 h4
        simp only [List.getElem_map, List.getElem_range]
        exact ⟨h1, by rw [Nat.add_assoc]; exact h2, by rw [Nat.add_assoc]; exact h3, by rw [Nat.add_assoc]; exact h4⟩
    · obtain ⟨i, hi, rfl⟩ := List.mem_map.1 hc
      exact (hq i (by have := List.mem_range.1 hi; omega)).2.2.2.2
end
end Go.Proofs.Ytbgkmppngnedlaa
namespace Go.Proofs.Ytbgkmppngnedlaa
open Go.ChangeShapes Go.WideShapes Go.ChangeAt Go.RowKit
/-- A row of numbers: where it lies, its capacity, its numbers. -/
structure IRow where
  A : Option Addr
  cap : Nat
  zs : List Int
instance : Inhabited IRow := ⟨⟨none, 0, []⟩⟩
def IRow.In (w : World) (r : IRow) : Prop := IntsIn w r.A r.zs ∧ r.zs.length ≤ 17592186044416 ∧ (r.A = none → r.cap = 0)
def RowsIn (w : World) (A : Option Addr) (rs : List IRow) : Prop :=
  rs = [] ∨ ∃ b off, A = some ⟨b, off, none⟩ ∧ b < w.heap.size ∧ ∀ i (h : i < rs.length), w.cell? ⟨b, off + i, none⟩ = some (.slice rs[i].A rs[i].zs.length rs[i].cap) ∧ rs[i].In w
theorem RowsIn.at_ {w : World} {A : Option Addr} {rs : List IRow} (h : RowsIn w A rs) {i : Nat} (hi : i < rs.length) :
    ∃ b off, A = some ⟨b, off, none⟩ ∧ b < w.heap.size ∧ w.cell? ⟨b, off + i, none⟩ = some (.slice rs[i].A rs[i].zs.length rs[i].cap) ∧ rs[i].In w := by
  rcases h with rfl | ⟨b, off, rfl, hlt, hc⟩
  · simp at hi
  · obtain ⟨h1, h2⟩ := hc i hi
    exact ⟨b, off, rfl, hlt, h1, h2⟩
section
variable {H : Type} {enc : TypeId × Value → H} {P : Program} {w : World}
theorem weights_in {e : TypeId} : ∀ {l : List (DataW H)} {d : DataW H}, d ∈ l → ∀ n ∈ d.weights P e, n ∈ DataW.weightsAll P e l
  | d' :: r, d, hd, n, hn => by
    simp only [DataW.weightsAll, List.mem_append]
    rcases List.mem_cons.1 hd with rfl | h
    · exact Or.inl hn
    · exact Or.inr (weights_in h n hn)
theorem lits_len (k : IntKind) : ∀ zs : List Int, (lits (H := H) k zs).length = zs.length
  | [] => rfl
  | _ :: zs => congrArg (· + 1) (lits_len k zs)
theorem open_rows {r : Reach} {b0 : Nat} {t e q : TypeId} {v : Value} {d : DataW H} {p : List MemPlace} (ht : P.underlying t = some (.slice e)) (he : P.underlying e = some (.slice q)) (hq : P.underlying q = some (.int .i64))
    (ce : P.cellsOf e = 1) (cq : P.cellsOf q = 1) (bq : P.bytesOf q = 8) (hv : Value.okWide P w r b0 t v) (h : DataW.Trod enc P w 0 (fun _ => true) true t v d p) (hsz : ∀ n ∈ d.weights P t, n ≤ reachBytes) :
    ∃ (A : Option Addr) (cap : Nat) (rs : List IRow), v = .slice A rs.length cap ∧ rs.length ≤ cap ∧ cap ≤ maxLen ∧ RowsIn w A rs := by
  obtain ⟨a0, len, cap, rfl⟩ := okWide_slice ht hv
  obtain ⟨fuel, hf⟩ := h
  rcases Deep.open_int_rows ht he hq ce cq hf with ⟨hcs, _⟩ | ⟨a, len', cap', A, L, C, Z, hcs, hb, hl, hm, hd, hx⟩
  · have hcs' : a0 = none ∧ len = 0 ∧ cap = 0 := by simpa [Value.cells] using hcs
    obtain ⟨rfl, rfl, rfl⟩ := hcs'
    exact ⟨none, 0, [], rfl, Nat.zero_le _, Nat.zero_le _, .inl rfl⟩
  · have hcs' : a0 = some a ∧ len = len' ∧ cap = cap' := by simpa [Value.cells] using hcs
    obtain ⟨rfl, rfl, rfl⟩ := hcs'
    refine ⟨some a, cap, (List.range len).map fun i => ⟨A i, C i, (Z i).take (L i)⟩, by simp, by simpa using hl, hm, ?_⟩
    by_cases h0 : len = 0
    · left; subst h0; rfl
    right
    obtain ⟨b, off, spot⟩ := a
    have hspot : spot = none := by simpa [Addr.add] using World.cell?_spot (hx 0 (by omega)).1
    subst hspot
    refine ⟨b, off, rfl, ?_, fun i hi => ?_⟩
    · have h1 := (hx 0 (by omega)).1
      rw [Go.WideShapes.add_plain] at h1
      exact lt_of_cell h1
    · have hi' : i < len := by simpa using hi
      obtain ⟨h1, h2, h3, h4, _, h6, h7⟩ := hx i (by omega)
      rw [Go.WideShapes.add_plain] at h1
      simp only [List.getElem_map, List.getElem_range]
      have hlen : ((Z i).take (L i)).length = L i := by rw [List.length_take]; omega
      have hbig : (Z i).length ≤ 17592186044416 := by
        cases hA : A i with
        | none => have := h6 hA; omega
        | some a' =>
          have hde : d = .slice ((List.range len).map fun r => Deep.intRow .i64 (A r) (L r) (Z r)) ((List.range (cap - len)).map fun j => Deep.intRow .i64 (A (len + j)) (L (len + j)) (Z (len + j))) := congrArg Prod.fst hd
          have hin : Deep.intRow (H := H) .i64 (A i) (L i) (Z i) ∈ (List.range len).map fun r => Deep.intRow (H := H) .i64 (A r) (L r) (Z r) := List.mem_map.2 ⟨i, List.mem_range.2 hi', rfl⟩
          have hrow : Deep.intRow (H := H) .i64 (A i) (L i) (Z i) = .slice (lits .i64 ((Z i).take (L i))) (lits .i64 ((Z i).drop (L i))) := by unfold Deep.intRow; rw [hA]
          have hw := hsz (((Z i).take (L i)).length * 8 + ((Z i).drop (L i)).length * 8) (by
            rw [hde]
            simp only [DataW.weights, ht, List.mem_cons, List.mem_append]
            refine .inr (.inl (weights_in hin _ ?_))
            rw [hrow]
            simp only [DataW.weights, he, List.mem_cons, List.mem_append]
            left
            rw [lits_len, lits_len, bq, Nat.add_mul])
          unfold reachBytes at hw
          have e1 : ((Z i).take (L i)).length + ((Z i).drop (L i)).length = (Z i).length := by rw [← List.length_append, List.take_append_drop]
          omega
      refine ⟨by rw [hlen]; exact h1, ?_, by rw [hlen]; omega, h6⟩
      by_cases hz : (Z i).take (L i) = []
      · exact .inl hz
      · have hpos : 0 < L i := by rw [← hlen]; exact List.length_pos_iff.2 hz
        cases hA : A i with
        | none => have := h6 hA; omega
        | some a' =>
          obtain ⟨_, g⟩ := h7 a' hA
          obtain ⟨b', off', spot'⟩ := a'
          have hspot' : spot' = none := by simpa [Addr.add] using World.cell?_spot (g 0 (by omega))
          subst hspot'
          refine .inr ⟨b', off', rfl, ?_, fun j hj => ?_⟩
          · have := g 0 (by omega)
            rw [Go.WideShapes.add_plain] at this
            exact lt_of_cell this
          · rw [hlen] at hj
            have := g j (by omega)
            rw [Go.WideShapes.add_plain] at this
            rw [this, List.getElem_take]
            simp [List.getD, show j < (Z i).length by omega]
end
theorem infoI2 : (Try.prog.info? 3).map (fun i => (i.zero, i.size, i.bytes)) = some (some (.int .i64 0), 1, 8) := by kernel_rfl
/-- A copy of a row: append([]int{}, row...). -/
theorem copy_ints (W : World) (A : Option Addr) (cap : Nat) (zs : List Int) (hI : IntsIn W A zs) (hN : A = none → cap = 0) (hl : zs.length ≤ 17592186044416) :
    ∃ A' cap' W', (Builtin.append_ #[37, 37] 37 #[.slice (some ⟨W.heap.size, 0, none⟩) 0 0, .slice A zs.length cap]).run Try.prog (W.alloc (.cells #[] 3)) = .ok (.slice A' zs.length cap') W' ∧ IntsIn W' A' zs ∧ Below W.heap.size W W' ∧ (zs ≠ [] → ∀ b off, A' = some ⟨b, off, none⟩ → W.heap.size ≤ b) := by
  obtain ⟨i0, hi, hz0, hz1, hz2⟩ := info_parts infoI2
  have hnew : (W.alloc (.cells #[] 3)).ownsRow W.heap.size 3 1 (.slice (some ⟨W.heap.size, 0, none⟩) 0 0) 0 [] := World.ownsRow_made W #[] 0 (Nat.le_refl _) (by unfold maxLen; omega) rfl
  have hb : Below W.heap.size W (W.alloc (.cells #[] 3)) := (Below.refl _ _).alloc (Nat.le_refl _) _
  cases A with
  | none =>
    obtain rfl := hN rfl
    have hzs : zs = [] := by
      rcases hI with h | ⟨b, off, h, _⟩
      · exact h
      · cases h
    subst hzs
    refine ⟨some ⟨W.heap.size, 0, none⟩, 0, _, ?_, .inl rfl, hb, fun h => absurd rfl h⟩
    exact run_append_owned_none _ W.heap.size 37 37 3 i0 1 Try.underlying37 hi _ _ _ hnew
  | some ad =>
    have hI' := hI.below hb
    have hcells : ∀ j u, (zs.map (Value.int .i64))[j]? = some u → (W.alloc (.cells #[] 3)).cell? (ad.add j) = some u := by
      intro j u hu
      rcases hI' with rfl | ⟨b, off, he, _, hc⟩
      · simp at hu
      · obtain rfl := Option.some.inj he
        rw [List.getElem?_map] at hu
        by_cases hj : j < zs.length
        · rw [List.getElem?_eq_getElem hj] at hu
          simp only [Option.map_some, Option.some.injEq] at hu
          rw [Go.WideShapes.add_plain, hc j hj, hu]
        · rw [List.getElem?_eq_none (by omega)] at hu
          cases hu
    obtain ⟨v', w', h1, h2, h3, h4, h5⟩ := run_append_own_at (P := Try.prog) (W.alloc (.cells #[] 3)) W.heap.size 37 37 3 i0 (.int .i64 0) 1 8 Try.underlying37 hi hz0 hz1 hz2 rfl (by decide) _ _ _ hnew ad zs.length cap (zs.map (Value.int .i64)) (by simp) hcells
      (by intro u hu; obtain ⟨p, _, rfl⟩ := List.mem_map.1 hu; rfl) (by unfold maxLen; omega) (by omega) (by simp)
    have hb2 : Below W.heap.size W w' := hb.grown h3 (by simp) (fun k hk => by simp [Value.ownBlock] at hk; omega)
    rw [Nat.zero_add, List.nil_append] at h2
    rcases h2.2 with ⟨hv, h0⟩ | ⟨g, cap', cur, hv, hg, hgg, _⟩
    · have hzs : zs = [] := List.eq_nil_of_length_eq_zero h0
      subst hzs
      exact ⟨none, 0, w', by rw [h1, hv]; rfl, .inl rfl, hb2, fun h => absurd rfl h⟩
    · subst hv
      refine ⟨some ⟨g, 0, none⟩, cap', w', h1, ?_, hb2, fun _ b off e => ?_⟩
      · by_cases h0 : zs = []
        · exact .inl h0
        · refine .inr ⟨g, 0, rfl, (Array.getElem?_eq_some_iff.1 hgg).1, fun j hj => ?_⟩
          rw [Nat.zero_add, h2.cellAt j (by omega), List.getElem?_map, List.getElem?_eq_getElem hj]
          rfl
      · injection e with e
        injection e with e1 _
        omega
end Go.Proofs.Ytbgkmppngnedlaa
