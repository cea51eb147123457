/- A group that came in as plain data, by value. -/
import Derived.Test.YtbgkmppngnedlaaDoorGpK
import Derived.SliceStrings
import Derived.Deep.Grids
namespace Go.Proofs.YtbgkmppngnedlaaDoor
open Go.ChangeShapes Go.WideShapes Go.ChangeAt Go.RowKit Rec

theorem in_of {α : Type} {E : Enc α} (hk : E.k = 1) {w : World} {A : Option Addr} {xs : List α} (h : xs = [] ∨ ∃ b off, A = some ⟨b, off, none⟩ ∧ b < w.heap.size ∧ ∀ i (h : i < xs.length), w.cell? ⟨b, off + i, none⟩ = (E.c xs[i])[0]?) : E.In w A xs := by
  rcases h with h | ⟨b, off, e, hlt, hc⟩
  · exact .inl h
  · refine .inr ⟨b, off, e, hlt, fun i hi j hj => ?_⟩
    obtain rfl : j = 0 := by omega
    rw [hk, Nat.mul_one, Nat.add_zero]
    exact hc i hi
section
variable {H : Type} {enc : TypeId × Value → H} {P : Program} {w : World}
theorem open_inF {t e : TypeId} {fuel : Nat} {cs : List Value} {x : DataW H × List MemPlace} (ht : P.underlying t = some (.slice e)) (he : P.underlying e = some (.int .i64)) (hce : P.cellsOf e = 1)
    (h : DataW.trod enc P w 0 (fun _ => true) true fuel t cs = some x) : ∃ (A : Option Addr) (zs : List Int) (cap : Nat), cs = [.slice A zs.length cap] ∧ inE.In w A zs := by
  rcases open_ints ht he hce h with ⟨rfl, _⟩ | ⟨a, len, cap, zs, rfl, _, hl, hm, hz, hx, hcell, hwz⟩
  · exact ⟨none, [], 0, rfl, .inl rfl⟩
  · simp only [if_true] at hz
    have hlen : (zs.take len).length = len := by rw [List.length_take]; omega
    refine ⟨some a, zs.take len, cap, by rw [hlen], in_of rfl ?_⟩
    by_cases h0 : zs.take len = []
    · exact .inl h0
    · have hpos : 0 < zs.length := by
        cases zs with
        | nil => simp at h0
        | cons _ _ => simp
      obtain ⟨b, off, rfl, hc⟩ := ints_at hcell hpos
      refine .inr ⟨b, off, rfl, lt_of_cell (hc 0 hpos), fun i hi => ?_⟩
      have hi' : i < zs.length := by rw [List.length_take] at hi; omega
      rw [hc i hi']
      simp [List.getD, hi', inE]
theorem open_boF {t e : TypeId} {fuel : Nat} {cs : List Value} {x : DataW H × List MemPlace} (ht : P.underlying t = some (.slice e)) (he : P.underlying e = some .bool) (hce : P.cellsOf e = 1)
    (h : DataW.trod enc P w 0 (fun _ => true) true fuel t cs = some x) : ∃ (A : Option Addr) (bs : List Bool) (cap : Nat), cs = [.slice A bs.length cap] ∧ boE.In w A bs := by
  rcases Go.Deep.open_bools ht he hce h with ⟨rfl, _⟩ | ⟨a, len, cap, B, rfl, _, hl, _, _, hcell⟩
  · exact ⟨none, [], 0, rfl, .inl rfl⟩
  · refine ⟨some a, (List.range len).map B, cap, by simp, in_of rfl ?_⟩
    by_cases h0 : len = 0
    · subst h0; exact .inl rfl
    · obtain ⟨b, off, spot⟩ := a
      have h00 := hcell 0 (by omega)
      have hspot : spot = none := by
        have := World.cell?_spot h00
        simpa [Addr.add] using this
      subst hspot
      refine .inr ⟨b, off, rfl, ?_, fun i hi => ?_⟩
      · rw [Go.WideShapes.add_plain] at h00
        exact lt_of_cell h00
      · have h1 := hcell i (by simp at hi; omega)
        rw [Go.WideShapes.add_plain] at h1
        rw [h1]
        simp [boE]
theorem open_stF {t e : TypeId} {fuel : Nat} {cs : List Value} {x : DataW H × List MemPlace} (ht : P.underlying t = some (.slice e)) (he : P.underlying e = some .string) (hce : P.cellsOf e = 1)
    (h : DataW.trod enc P w 0 (fun _ => true) true fuel t cs = some x) : ∃ (A : Option Addr) (ss : List ByteArray) (cap : Nat), cs = [.slice A ss.length cap] ∧ stE.In w A ss ∧ ∀ s ∈ ss, s.size ≤ maxLen := by
  rcases open_strings ht he hce h with ⟨rfl, _⟩ | ⟨a, len, cap, ss, rfl, _, hl, hm, hz, hx, hcell, hsm⟩
  · exact ⟨none, [], 0, rfl, .inl rfl, by simp⟩
  · simp only [if_true] at hz
    have hlen : (ss.take len).length = len := by rw [List.length_take]; omega
    refine ⟨some a, ss.take len, cap, by rw [hlen], in_of rfl ?_, fun s hs => hsm s (List.mem_of_mem_take hs)⟩
    by_cases h0 : ss.take len = []
    · exact .inl h0
    · have hpos : 0 < len := by rw [← hlen]; exact List.length_pos_iff.2 h0
      obtain ⟨b, off, spot⟩ := a
      have h00 := hcell 0 (by omega)
      have hspot : spot = none := by
        have := World.cell?_spot h00
        simpa [Addr.add] using this
      subst hspot
      refine .inr ⟨b, off, rfl, ?_, fun i hi => ?_⟩
      · rw [Go.WideShapes.add_plain] at h00
        exact lt_of_cell h00
      · have hi' : i < ss.length := by rw [List.length_take] at hi; omega
        have h1 := hcell i hi'
        rw [Go.WideShapes.add_plain] at h1
        rw [h1]
        simp [List.getD, hi', stE]
theorem open_group {r : Reach} {b0 : Nat} {t tb tt td ti tw ts : TypeId} {f0 f1 f2 f3 : Field} {v : Value} {d : DataW H} {p : List MemPlace} (ht : P.underlying t = some (.struct #[f0, f1, f2, f3]))
    (ho : [f0, f1, f2, f3].map (fun f => (f.offset, f.type)) = [(0, ti), (1, tb), (2, tt), (3, td)]) (ui : P.underlying ti = some (.int .i64)) (ub : P.underlying tb = some (.slice ti)) (ut : P.underlying tt = some (.slice tw)) (uo : P.underlying tw = some .bool) (ud : P.underlying td = some (.slice ts)) (us : P.underlying ts = some .string)
    (ct : P.cellsOf t = 4) (ci : P.cellsOf ti = 1) (cb : P.cellsOf tb = 1) (cct : P.cellsOf tt = 1) (cd : P.cellsOf td = 1) (co : P.cellsOf tw = 1) (cs_ : P.cellsOf ts = 1)
    (hv : Value.okWide P w r b0 t v) (h : DataW.Trod enc P w 0 (fun _ => true) true t v d p) :
    ∃ (q : Int) (AB : Option Addr) (bl : List Int) (kb : Nat) (AT : Option Addr) (tr : List Bool) (kt : Nat) (AD : Option Addr) (ds : List ByteArray) (kd : Nat), v = .agg #[.int .i64 q, .slice AB bl.length kb, .slice AT tr.length kt, .slice AD ds.length kd] ∧ GIn w AB bl AT tr AD ds ∧ ∀ s ∈ ds, s.size ≤ maxLen := by
  simp only [List.map_cons, List.map_nil, List.cons.injEq, Prod.mk.injEq, and_true] at ho
  obtain ⟨⟨o0, t0⟩, ⟨o1, t1⟩, ⟨o2, t2⟩, ⟨o3, t3⟩⟩ := ho
  obtain ⟨cs, rfl, hsz⟩ := okWide_struct ht hv
  obtain ⟨fuel, hfu⟩ := h
  obtain ⟨xs, k, hk, hxy, _, hxl, hff⟩ := DataW.trod_struct ht hfu
  rw [ct] at hsz
  have hc : (Value.agg cs).cells = cs := rfl
  rw [hc] at hff
  have hxl' : xs.length = 4 := hxl
  have hone : ∀ j (f : Field) (hj : j < 4), #[f0, f1, f2, f3][j]? = some f → f.offset = j → P.cellsOf f.type = 1 → DataW.trod enc P w 0 (fun _ => true) true k f.type [cs[j]'(by omega)] = some (xs[j]'(by omega)) := fun j f hj hfj ho hc => by
    have h3 := hff j f hfj
    rw [ho, hc, List.getElem?_eq_getElem (by omega)] at h3
    rw [← h3, List.drop_eq_getElem_cons (by simpa using (by omega : j < cs.size))]
    simp
  obtain ⟨m, e0, _, _⟩ := DataW.trod_int (by rw [t0]; exact ui) (hone 0 f0 (by omega) rfl o0 (by rw [t0]; exact ci))
  obtain ⟨A, bl, kb, e1, i1⟩ := open_inF (by rw [t1]; exact ub) ui ci (hone 1 f1 (by omega) rfl o1 (by rw [t1]; exact cb))
  obtain ⟨B, tr, kt, e2, i2⟩ := open_boF (by rw [t2]; exact ut) uo co (hone 2 f2 (by omega) rfl o2 (by rw [t2]; exact cct))
  obtain ⟨C, ds, kd, e3, i3, h3⟩ := open_stF (by rw [t3]; exact ud) us cs_ (hone 3 f3 (by omega) rfl o3 (by rw [t3]; exact cd))
  refine ⟨m, A, bl, kb, B, tr, kt, C, ds, kd, ?_, ⟨i1, i2, i3⟩, h3⟩
  congr 1
  apply Array.ext
  · simp [hsz]
  · intro i h1 h2
    match i, h1 with
    | 0, _ => simpa using e0
    | 1, _ => simpa using e1
    | 2, _ => simpa using e2
    | 3, _ => simpa using e3
    | n + 4, h => omega
end
end Go.Proofs.YtbgkmppngnedlaaDoor
