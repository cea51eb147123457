/- Rows of numbers that came in; a row copied. -/
import Derived.Test.YtncbkegflkjlfaaCmds
import Derived.Test.YtncbkegflkjlfaaAppRun
import Derived.Maps.AppendAt
import Derived.Laws.OwnMore
import Derived.OwnWalk
import Derived.SizedLaws
namespace Go.Proofs.Ytncbkegflkjlfaa
open Go.ChangeShapes Go.WideShapes Go.ChangeAt Go.RowKit

/-- A row of numbers: where it lies, its capacity, its numbers. -/
structure IRow where
  A : Option Addr
  cap : Nat
  zs : List Int
instance : Inhabited IRow := ⟨⟨none, 0, []⟩⟩
def IRow.In (w : World) (r : IRow) : Prop := IntsIn w r.A r.zs ∧ r.zs.length ≤ 17592186044416 ∧ (r.A = none → r.cap = 0)
def RowsIn (w : World) (A : Option Addr) (rs : List IRow) : Prop :=
  rs = [] ∨ ∃ b off, A = some ⟨b, off, none⟩ ∧ b < w.heap.size ∧ ∀ i (h : i < rs.length), w.cell? ⟨b, off + i, none⟩ = some (.slice rs[i].A rs[i].zs.length rs[i].cap) ∧ rs[i].In w
theorem RowsIn.at_ {w : World} {A : Option Addr} {rs : List IRow} (h : RowsIn w A rs) {i : Nat} (hi : i < rs.length) :
    ∃ b off, A = some ⟨b, off, none⟩ ∧ b < w.heap.size ∧ w.cell? ⟨b, off + i, none⟩ = some (.slice rs[i].A rs[i].zs.length rs[i].cap) ∧ rs[i].In w := by
  rcases h with rfl | ⟨b, off, rfl, hlt, hc⟩
  · simp at hi
  · obtain ⟨h1, h2⟩ := hc i hi
    exact ⟨b, off, rfl, hlt, h1, h2⟩

section
variable {H : Type} {enc : TypeId × Value → H} {P : Program} {w : World}
theorem weights_in {e : TypeId} : ∀ {l : List (DataW H)} {d : DataW H}, d ∈ l → ∀ n ∈ d.weights P e, n ∈ DataW.weightsAll P e l
  | d' :: r, d, hd, n, hn => by
    simp only [DataW.weightsAll, List.mem_append]
    rcases List.mem_cons.1 hd with rfl | h
    · exact Or.inl hn
    · exact Or.inr (weights_in h n hn)
theorem lits_len (k : IntKind) : ∀ zs : List Int, (lits (H := H) k zs).length = zs.length
  | [] => rfl
  | _ :: zs => congrArg (· + 1) (lits_len k zs)
theorem open_rows {r : Reach} {b0 : Nat} {t e q : TypeId} {v : Value} {d : DataW H} {p : List MemPlace} (ht : P.underlying t = some (.slice e)) (he : P.underlying e = some (.slice q)) (hq : P.underlying q = some (.int .i64))
    (ce : P.cellsOf e = 1) (cq : P.cellsOf q = 1) (bq : P.bytesOf q = 8) (hv : Value.okWide P w r b0 t v) (h : DataW.Trod enc P w 0 (fun _ => true) true t v d p) (hsz : ∀ n ∈ d.weights P t, n ≤ reachBytes) :
    ∃ (A : Option Addr) (cap : Nat) (rs : List IRow), v = .slice A rs.length cap ∧ rs.length ≤ cap ∧ cap ≤ maxLen ∧ RowsIn w A rs := by
  obtain ⟨a0, len, cap, rfl⟩ := okWide_slice ht hv
  obtain ⟨fuel, hf⟩ := h
  rcases Deep.open_int_rows ht he hq ce cq hf with ⟨hcs, _⟩ | ⟨a, len', cap', A, L, C, Z, hcs, hb, hl, hm, hd, hx⟩
  · have hcs' : a0 = none ∧ len = 0 ∧ cap = 0 := by simpa [Value.cells] using hcs
    obtain ⟨rfl, rfl, rfl⟩ := hcs'
    exact ⟨none, 0, [], rfl, Nat.zero_le _, Nat.zero_le _, .inl rfl⟩
  · have hcs' : a0 = some a ∧ len = len' ∧ cap = cap' := by simpa [Value.cells] using hcs
    obtain ⟨rfl, rfl, rfl⟩ := hcs'
    refine ⟨some a, cap, (List.range len).map fun i => ⟨A i, C i, (Z i).take (L i)⟩, by simp, by simpa using hl, hm, ?_⟩
    by_cases h0 : len = 0
    · left; subst h0; rfl
    right
    obtain ⟨b, off, spot⟩ := a
    have hspot : spot = none := by simpa [Addr.add] using World.cell?_spot (hx 0 (by omega)).1
    subst hspot
    refine ⟨b, off, rfl, ?_, fun i hi => ?_⟩
    · have h1 := (hx 0 (by omega)).1
      rw [Go.WideShapes.add_plain] at h1
      exact lt_of_cell h1
    · have hi' : i < len := by simpa using hi
      obtain ⟨h1, h2, h3, h4, _, h6, h7⟩ := hx i (by omega)
      rw [Go.WideShapes.add_plain] at h1
      simp only [List.getElem_map, List.getElem_range]
      have hlen : ((Z i).take (L i)).length = L i := by rw [List.length_take]; omega
      have hbig : (Z i).length ≤ 17592186044416 := by
        cases hA : A i with
        | none => have := h6 hA; omega
        | some a' =>
          have hde : d = .slice ((List.range len).map fun r => Deep.intRow .i64 (A r) (L r) (Z r)) ((List.range (cap - len)).map fun j => Deep.intRow .i64 (A (len + j)) (L (len + j)) (Z (len + j))) := congrArg Prod.fst hd
          have hin : Deep.intRow (H := H) .i64 (A i) (L i) (Z i) ∈ (List.range len).map fun r => Deep.intRow (H := H) .i64 (A r) (L r) (Z r) := List.mem_map.2 ⟨i, List.mem_range.2 hi', rfl⟩
          have hrow : Deep.intRow (H := H) .i64 (A i) (L i) (Z i) = .slice (lits .i64 ((Z i).take (L i))) (lits .i64 ((Z i).drop (L i))) := by unfold Deep.intRow; rw [hA]
          have hw := hsz (((Z i).take (L i)).length * 8 + ((Z i).drop (L i)).length * 8) (by
            rw [hde]
            simp only [DataW.weights, ht, List.mem_cons, List.mem_append]
            refine .inr (.inl (weights_in hin _ ?_))
            rw [hrow]
            simp only [DataW.weights, he, List.mem_cons, List.mem_append]
            left
            rw [lits_len, lits_len, bq, Nat.add_mul])
          unfold reachBytes at hw
          have e1 : ((Z i).take (L i)).length + ((Z i).drop (L i)).length = (Z i).length := by rw [← List.length_append, List.take_append_drop]
          omega
      refine ⟨by rw [hlen]; exact h1, ?_, by rw [hlen]; omega, h6⟩
      by_cases hz : (Z i).take (L i) = []
      · exact .inl hz
      · have hpos : 0 < L i := by rw [← hlen]; exact List.length_pos_iff.2 hz
        cases hA : A i with
        | none => have := h6 hA; omega
        | some a' =>
          obtain ⟨_, g⟩ := h7 a' hA
          obtain ⟨b', off', spot'⟩ := a'
          have hspot' : spot' = none := by simpa [Addr.add] using World.cell?_spot (g 0 (by omega))
          subst hspot'
          refine .inr ⟨b', off', rfl, ?_, fun j hj => ?_⟩
          · have := g 0 (by omega)
            rw [Go.WideShapes.add_plain] at this
            exact lt_of_cell this
          · rw [hlen] at hj
            have := g j (by omega)
            rw [Go.WideShapes.add_plain] at this
            rw [this, List.getElem_take]
            simp [List.getD, show j < (Z i).length by omega]
end

theorem infoI2 : (Try.prog.info? 3).map (fun i => (i.zero, i.size, i.bytes)) = some (some (.int .i64 0), 1, 8) := by kernel_rfl
/-- A copy of a row: append([]int{}, row...). -/
theorem copy_ints (W : World) (A : Option Addr) (cap : Nat) (zs : List Int) (hI : IntsIn W A zs) (hN : A = none → cap = 0) (hl : zs.length ≤ 17592186044416) :
    ∃ A' cap' W', (Builtin.append_ #[31, 31] 31 #[.slice (some ⟨W.heap.size, 0, none⟩) 0 0, .slice A zs.length cap]).run Try.prog (W.alloc (.cells #[] 3)) = .ok (.slice A' zs.length cap') W' ∧ IntsIn W' A' zs ∧ Below W.heap.size W W' ∧ (zs ≠ [] → ∀ b off, A' = some ⟨b, off, none⟩ → W.heap.size ≤ b) := by
  obtain ⟨i0, hi, hz0, hz1, hz2⟩ := info_parts infoI2
  have hnew : (W.alloc (.cells #[] 3)).ownsRow W.heap.size 3 1 (.slice (some ⟨W.heap.size, 0, none⟩) 0 0) 0 [] := World.ownsRow_made W #[] 0 (Nat.le_refl _) (by unfold maxLen; omega) rfl
  have hb : Below W.heap.size W (W.alloc (.cells #[] 3)) := (Below.refl _ _).alloc (Nat.le_refl _) _
  cases A with
  | none =>
    obtain rfl := hN rfl
    have hzs : zs = [] := by
      rcases hI with h | ⟨b, off, h, _⟩
      · exact h
      · cases h
    subst hzs
    refine ⟨some ⟨W.heap.size, 0, none⟩, 0, _, ?_, .inl rfl, hb, fun h => absurd rfl h⟩
    exact run_append_owned_none _ W.heap.size 31 31 3 i0 1 Try.underlying31 hi _ _ _ hnew
  | some ad =>
    have hI' := hI.below hb
    have hcells : ∀ j u, (zs.map (Value.int .i64))[j]? = some u → (W.alloc (.cells #[] 3)).cell? (ad.add j) = some u := by
      intro j u hu
      rcases hI' with rfl | ⟨b, off, he, _, hc⟩
      · simp at hu
      · obtain rfl := Option.some.inj he
        rw [List.getElem?_map] at hu
        by_cases hj : j < zs.length
        · rw [List.getElem?_eq_getElem hj] at hu
          simp only [Option.map_some, Option.some.injEq] at hu
          rw [Go.WideShapes.add_plain, hc j hj, hu]
        · rw [List.getElem?_eq_none (by omega)] at hu
          cases hu
    obtain ⟨v', w', h1, h2, h3, h4, h5⟩ := run_append_own_at (P := Try.prog) (W.alloc (.cells #[] 3)) W.heap.size 31 31 3 i0 (.int .i64 0) 1 8 Try.underlying31 hi hz0 hz1 hz2 rfl (by decide) _ _ _ hnew ad zs.length cap (zs.map (Value.int .i64)) (by simp) hcells
      (by intro u hu; obtain ⟨p, _, rfl⟩ := List.mem_map.1 hu; rfl) (by unfold maxLen; omega) (by omega) (by simp)
    have hb2 : Below W.heap.size W w' := hb.grown h3 (by simp) (fun k hk => by simp [Value.ownBlock] at hk; omega)
    rw [Nat.zero_add, List.nil_append] at h2
    rcases h2.2 with ⟨hv, h0⟩ | ⟨g, cap', cur, hv, hg, hgg, _⟩
    · have hzs : zs = [] := List.eq_nil_of_length_eq_zero h0
      subst hzs
      exact ⟨none, 0, w', by rw [h1, hv]; rfl, .inl rfl, hb2, fun h => absurd rfl h⟩
    · subst hv
      refine ⟨some ⟨g, 0, none⟩, cap', w', h1, ?_, hb2, fun _ b off e => ?_⟩
      · by_cases h0 : zs = []
        · exact .inl h0
        · refine .inr ⟨g, 0, rfl, (Array.getElem?_eq_some_iff.1 hgg).1, fun j hj => ?_⟩
          rw [Nat.zero_add, h2.cellAt j (by omega), List.getElem?_map, List.getElem?_eq_getElem hj]
          rfl
      · injection e with e
        injection e with e1 _
        omega
end Go.Proofs.Ytncbkegflkjlfaa
