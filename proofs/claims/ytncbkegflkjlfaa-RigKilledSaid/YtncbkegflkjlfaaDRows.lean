/- Rows of numbers that came in, each number one of the machine's. -/
import Derived.Test.YtncbkegflkjlfaaDActs
namespace Go.Proofs.Ytncbkegflkjlfaa
open Go.ChangeShapes Go.WideShapes Go.ChangeAt Go.RowKit

section
variable {H : Type} {enc : TypeId × Value → H} {P : Program} {w : World}
theorem open_rows2 {r : Reach} {b0 : Nat} {t e q : TypeId} {v : Value} {d : DataW H} {p : List MemPlace} (ht : P.underlying t = some (.slice e)) (he : P.underlying e = some (.slice q)) (hq : P.underlying q = some (.int .i64))
    (ce : P.cellsOf e = 1) (cq : P.cellsOf q = 1) (bq : P.bytesOf q = 8) (hv : Value.okWide P w r b0 t v) (h : DataW.Trod enc P w 0 (fun _ => true) true t v d p) (hsz : ∀ n ∈ d.weights P t, n ≤ reachBytes) :
    ∃ (A : Option Addr) (cap : Nat) (rs : List IRow), v = .slice A rs.length cap ∧ rs.length ≤ cap ∧ cap ≤ maxLen ∧ RowsIn w A rs ∧ ∀ x ∈ rs, ∀ z ∈ x.zs, Rng z := by
  obtain ⟨a0, len, cap, rfl⟩ := okWide_slice ht hv
  obtain ⟨fuel, hf⟩ := h
  rcases Deep.open_slice ht hf with ⟨hcs, _⟩ | ⟨a, len', cap', m, n, D, Pl, hcs, hb, hl, hm, hmm, hd, hx⟩
  · have hcs' : a0 = none ∧ len = 0 ∧ cap = 0 := by simpa [Value.cells] using hcs
    obtain ⟨rfl, rfl, rfl⟩ := hcs'
    exact ⟨none, 0, [], rfl, Nat.zero_le _, Nat.zero_le _, .inl rfl, by simp⟩
  · have hcs' : a0 = some a ∧ len = len' ∧ cap = cap' := by simpa [Value.cells] using hcs
    obtain ⟨rfl, rfl, rfl⟩ := hcs'
    simp only [if_true] at hmm
    subst hmm
    have hde : d = .slice ((List.range len).map D) ((List.range (m - len)).map fun j => D (len + j)) := congrArg Prod.fst hd
    have each : ∀ i, i < len → ∃ c : IRow, w.cell? (a.add i) = some (.slice c.A c.zs.length c.cap) ∧ c.In w ∧ ∀ z ∈ c.zs, Rng z := fun i hi => by
      obtain ⟨cs', h1, h2⟩ := hx i (by omega)
      rw [ce, Nat.mul_one] at h1
      obtain ⟨_, hlen, hcell⟩ := World.cells?_some h1
      obtain ⟨r6, e6, i6, k6⟩ := open_irow he hq cq bq h2 (fun n hn => hsz n (by
        rw [hde]
        simp only [DataW.weights, ht, List.mem_cons, List.mem_append]
        exact .inr (.inl (weights_in (List.mem_map.2 ⟨i, List.mem_range.2 hi, rfl⟩) n hn))))
      have g0 := hcell 0 (by omega)
      rw [e6, Deep.add_add] at g0
      exact ⟨r6, by simpa using g0, i6, k6⟩
    obtain ⟨c, hc⟩ := Deep.choose_lt each
    refine ⟨some a, m, (List.range len).map c, by simp, by simpa using hl, hm, ?_, fun x hx => ?_⟩
    · by_cases h0 : len = 0
      · left; subst h0; rfl
      right
      obtain ⟨b, off, spot⟩ := a
      have hspot : spot = none := by simpa [Addr.add] using World.cell?_spot (hc 0 (by omega)).1
      subst hspot
      refine ⟨b, off, rfl, ?_, fun i hi => ?_⟩
      · have h1 := (hc 0 (by omega)).1
        rw [Go.WideShapes.add_plain] at h1
        exact lt_of_cell h1
      · have hi' : i < len := by simpa using hi
        obtain ⟨h1, h8, _⟩ := hc i hi'
        rw [Go.WideShapes.add_plain] at h1
        simp only [List.getElem_map, List.getElem_range]
        exact ⟨h1, h8⟩
    · obtain ⟨i, hi, rfl⟩ := List.mem_map.1 hx
      exact (hc i (List.mem_range.1 hi)).2.2
end
end Go.Proofs.Ytncbkegflkjlfaa
