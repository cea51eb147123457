/- What StripeRows' walk asks: the document's parity, slices of truth values, the state of a row that is filled. -/
import Derived.Test.YtonoanjakfaloaaSpOneM
import Derived.Test.YtonoanjakfaloaaSpN0
import Derived.Deep.Grids
import Derived.Test.YtonoanjakfaloaaSpRow
namespace Go.Proofs.Ytonoanjakfaloaa
open Go.ChangeShapes Go.WideShapes Go.ChangeAt Go.RowKit Sp Xor

theorem zs64_text : zs64 = textOf (fun _ => 0) 64 := by decide +kernel
theorem rzero_any (w : World) : Calls Try.prog 41 #[] w fun e w' => e = .returned (.string zs64) ∧ Below w.heap.size w w' := by
  have h0 := mk64
  have h1 := made64 w
  go_enter Try.func41, Try.ntmps41
  go_wp2
  go_ret
  exact ⟨rfl, (Below.refl _ _).alloc (Nat.le_refl _) _⟩
theorem rparity_any (A : Option Addr) (cap : Nat) (L : List ByteArray) (w : World) (hl : L.length ≤ 1000) (hp : ∀ p ∈ L, p.size = 64) (hS : StrsIn w A L) :
    Calls Try.prog 19 #[.slice A L.length cap] w fun e w' => e = .returned (.string (parS L)) ∧ Below w.heap.size w w' := by
  have c0 := Lib.hid rzero_any
  have hlo : longest L ≤ 64 := longest_le fun q hq => by rw [hp q hq]; exact Nat.le_refl _
  have c1 := Lib.hid (fun W (h : StrsIn W A L) => reffold_any A cap L W (by omega) (fun p h => by rw [hp p h]; omega) h)
  have c2 := Lib.hid (fun W => refadd_any zs64 (foldS L) W (by rw [zs64_size]; omega) (by rw [size_foldS]; omega))
  have hSH := Lib.hid (fun W (h : Below w.heap.size w W) => hS.below h)
  have e : foldS [zs64, foldS L] = parS L := by unfold parS; rw [zs64_text]
  rw [e] at c2
  clear hS hp hlo e
  go_enter Try.func19, Try.ntmps19
  go_wp2_with fail
  (with_reducible refine (c0.out _).mono ?_)
  rintro e w1 ⟨rfl, hb1⟩
  go_wp2_with fail
  (with_reducible refine (c1.out _ (hSH.out _ hb1)).mono ?_)
  rintro e w2 ⟨rfl, hb2⟩
  go_wp2_with fail
  (with_reducible refine (c2.out _).mono ?_)
  rintro e w3 ⟨rfl, hb3⟩
  have hF := Lib.hid ((hb1.trans (hb2.mono hb1.size)).trans (hb3.mono (hb1.trans (hb2.mono hb1.size)).size))
  clear hb1 hb2 hb3
  go_wp2
  go_ret
  exact ⟨rfl, hF.out⟩
theorem blkS_le2 {s : ByteArray} {v : Bool} (h : s.size ≤ 140737488351232) : (blkS s v).size ≤ maxLen := by
  cases v
  · rw [blkS_size]; decide
  · show (s.extract 0 (min s.size 200)).size ≤ _
    rw [ByteArray.size_extract]
    unfold maxLen
    omega
/-- A slice that reads as a list of truth values. -/
def BoolsIn (w : World) (A : Option Addr) (bs : List Bool) : Prop := bs = [] ∨ ∃ b off, A = some ⟨b, off, none⟩ ∧ b < w.heap.size ∧ ∀ i (h : i < bs.length), w.cell? ⟨b, off + i, none⟩ = some (.bool bs[i])
theorem BoolsIn.below {w w' : World} {A : Option Addr} {bs : List Bool} (h : BoolsIn w A bs) (hb : Below w.heap.size w w') : BoolsIn w' A bs := by
  rcases h with h | ⟨b, off, rfl, hlt, hc⟩
  · exact .inl h
  · exact .inr ⟨b, off, rfl, Nat.lt_of_lt_of_le hlt hb.size, fun i hi => (hb.cell (p := ⟨b, off + i, none⟩) hlt).trans (hc i hi)⟩
theorem BoolsIn.at_ {w : World} {A : Option Addr} {bs : List Bool} (h : BoolsIn w A bs) {k : Nat} (hk : k < bs.length) : ∃ b off, A = some ⟨b, off, none⟩ ∧ b < w.heap.size ∧ w.cell? ⟨b, off + k, none⟩ = some (.bool bs[k]) := by
  rcases h with rfl | ⟨b, off, rfl, hlt, hc⟩
  · simp at hk
  · exact ⟨b, off, rfl, hlt, hc k hk⟩
theorem open_bools2 {H : Type} {enc : TypeId × Value → H} {P : Program} {w : World} {r : Reach} {b0 : Nat} {t e : TypeId} {v : Value} {d : DataW H} {p : List MemPlace} (ht : P.underlying t = some (.slice e)) (he : P.underlying e = some .bool) (hce : P.cellsOf e = 1)
    (hv : Value.okWide P w r b0 t v) (h : DataW.Trod enc P w 0 (fun _ => true) true t v d p) : ∃ (A : Option Addr) (cap : Nat) (bs : List Bool), v = .slice A bs.length cap ∧ BoolsIn w A bs := by
  obtain ⟨a0, len, cap, rfl⟩ := okWide_slice ht hv
  obtain ⟨fuel, hf⟩ := h
  rcases Go.Deep.open_bools ht he hce hf with ⟨hcs, _⟩ | ⟨a, len', cap', B, hcs, _, hl, _, _, hcell⟩
  · have hcs' : a0 = none ∧ len = 0 ∧ cap = 0 := by simpa [Value.cells] using hcs
    obtain ⟨rfl, rfl, rfl⟩ := hcs'
    exact ⟨none, 0, [], rfl, .inl rfl⟩
  · have hcs' : a0 = some a ∧ len = len' ∧ cap = cap' := by simpa [Value.cells] using hcs
    obtain ⟨rfl, rfl, rfl⟩ := hcs'
    refine ⟨some a, cap, (List.range len).map B, by simp, ?_⟩
    by_cases h0 : len = 0
    · subst h0; exact .inl rfl
    · obtain ⟨b, off, spot⟩ := a
      have h00 := hcell 0 (by omega)
      have hspot : spot = none := by
        have := World.cell?_spot h00
        simpa [Addr.add] using this
      subst hspot
      refine .inr ⟨b, off, rfl, ?_, fun i hi => ?_⟩
      · rw [Go.WideShapes.add_plain] at h00
        exact lt_of_cell h00
      · have h1 := hcell i (by simp at hi; omega)
        rw [Go.WideShapes.add_plain] at h1
        rw [h1]
        simp
/-- A row that is filled, in its box; the texts beside. -/
structure RwW (w : World) (g : Nat) (N : Nat) (A : Option Addr) (cap : Nat) (L : List ByteArray) (W : World) : Prop where
  row : SrAt W g L (N : Int)
  hv : Row W w.heap.size A cap L
  bw : Below w.heap.size w W
  ge : w.heap.size ≤ g
  ne : ∀ g', A = some ⟨g', 0, none⟩ → g' ≠ g
theorem RwW.below {w W W' : World} {g N : Nat} {A : Option Addr} {cap : Nat} {L : List ByteArray} (h : RwW w g N A cap L W) (hb : Below W.heap.size W W') : RwW w g N A cap L W' :=
  ⟨h.row.below hb, h.hv.below hb, h.bw.trans (hb.mono h.bw.size), h.ge, h.ne⟩
/-- What Add answers, all three ways. -/
theorem add_ways (L : List ByteArray) (N : Nat) (s : ByteArray) (h : L.length ≤ N) (hN : N ≤ 15) (hs : s.size ≤ maxLen) :
    ∃ LR nR f, Hid (∀ W, Calls Try.prog 17 #[rowV L (N : Int), .string s] W fun e w' => e = .returned (.tuple #[rowV LR nR, .int .i64 f]) ∧ Below W.heap.size W w') ∧ LR.length ≤ 15 ∧
      ((¬ s.size = 64 ∧ LR = [] ∧ nR = 0 ∧ f = 1) ∨ (s.size = 64 ∧ L.length = N ∧ LR = [] ∧ nR = 0 ∧ f = 4) ∨ (s.size = 64 ∧ L.length < N ∧ LR = L ++ [s] ∧ nR = (N : Int) ∧ f = 0)) := by
  by_cases h6 : s.size = 64
  · by_cases hl : L.length = N
    · exact ⟨[], 0, 4, Lib.hid fun W => addS_full L (N : Int) s W (by omega) h6 (by omega), by simp, .inr (.inl ⟨h6, hl, rfl, rfl, rfl⟩)⟩
    · exact ⟨L ++ [s], (N : Int), 0, Lib.hid fun W => addS_any L (N : Int) s W (by omega) h6 (by omega), by simp; omega, .inr (.inr ⟨h6, by omega, rfl, rfl, rfl⟩)⟩
  · exact ⟨[], 0, 1, Lib.hid fun W => addS_bad L (N : Int) s W (by omega) hs h6, by simp, .inl ⟨h6, rfl, rfl, rfl⟩⟩
/-- The row, what it was, what Add answered. -/
structure RwX (w : World) (g G1 G2 : Nat) (N : Nat) (A : Option Addr) (cap : Nat) (L LR : List ByteArray) (nR : Int) (W : World) : Prop where
  a : RwW w g N A cap L W
  r1 : SrAt W G1 L (N : Int)
  r2 : SrAt W G2 LR nR
  g2 : g ≠ G2
  n2 : ∀ g', A = some ⟨g', 0, none⟩ → g' ≠ G2
theorem RwX.below {w : World} {g G1 G2 N : Nat} {A : Option Addr} {cap : Nat} {L LR : List ByteArray} {nR : Int} {W W' : World} (h : RwX w g G1 G2 N A cap L LR nR W) (hb : Below W.heap.size W W') : RwX w g G1 G2 N A cap L LR nR W' :=
  ⟨h.a.below hb, h.r1.below hb, h.r2.below hb, h.g2, h.n2⟩
/-- Behind the append: the row in its box still as it was. -/
structure RwY (w : World) (g G2 : Nat) (N : Nat) (A : Option Addr) (cap : Nat) (L : List ByteArray) (s : ByteArray) (W : World) : Prop where
  row : SrAt W g L (N : Int)
  r2 : SrAt W G2 (L ++ [s]) (N : Int)
  hv : Row W w.heap.size A cap (L ++ [s])
  bw : Below w.heap.size w W
  ge : w.heap.size ≤ g
  ne : ∀ g', A = some ⟨g', 0, none⟩ → g' ≠ g
  g2 : g ≠ G2
theorem newBox {V W' : World} (hg : (V.alloc (.cells #[.string ⟨#[]⟩, .string ⟨#[]⟩, .string ⟨#[]⟩, .string ⟨#[]⟩, .string ⟨#[]⟩, .string ⟨#[]⟩, .string ⟨#[]⟩, .string ⟨#[]⟩, .string ⟨#[]⟩, .string ⟨#[]⟩, .string ⟨#[]⟩, .string ⟨#[]⟩, .string ⟨#[]⟩, .string ⟨#[]⟩, .string ⟨#[]⟩, .int .i64 0, .int .i64 0] 27)).grownBy W' (some V.heap.size)) : Below V.heap.size V W' :=
  ((Below.refl _ _).alloc (Nat.le_refl _) _).grown hg (by simp) (fun k e => by injection e with e; omega)
/-- What the block with index k is. -/
theorem idx_facts (L : List ByteArray) (k : Nat) (hk : k ≤ L.length + 1) :
    (k = 0 ∧ elV L ((k : Int) - 1) = ⟨#[]⟩ ∧ elB L ((k : Int) - 1) = false) ∨ (∃ j, ∃ h : j < L.length, k = j + 1 ∧ (k : Int) - 1 = (j : Int) ∧ elV L ((k : Int) - 1) = L[j] ∧ elB L ((k : Int) - 1) = true) ∨ (k = L.length + 1 ∧ elV L ((k : Int) - 1) = ⟨#[]⟩ ∧ elB L ((k : Int) - 1) = false) := by
  rcases Nat.eq_zero_or_pos k with h0 | h0
  · exact .inl ⟨h0, elB_out (by omega)⟩
  · by_cases h1 : k = L.length + 1
    · exact .inr (.inr ⟨h1, elB_out (by omega)⟩)
    · obtain ⟨j, rfl⟩ : ∃ j, k = j + 1 := ⟨k - 1, by omega⟩
      have e : ((j + 1 : Nat) : Int) - 1 = (j : Int) := by omega
      have hj : j < L.length := by omega
      rw [e]
      exact .inr (.inl ⟨j, hj, rfl, rfl, elB_in hj⟩)
end Go.Proofs.Ytonoanjakfaloaa
