/- What element, Block and Parity of stripe do. -/
import Derived.Test.YtonoanjakfaloaaSpR
namespace Go.Proofs.Ytonoanjakfaloaa
open Go.RowKit Sp Xor

theorem SrAt.strs {W : World} {g : Nat} {L : List ByteArray} {n : Int} (h : SrAt W g L n) : StrsIn W (some ⟨g, 0, none⟩) L := .inr ⟨g, 0, rfl, h.lt, fun i hi => by rw [Nat.zero_add]; exact h.str hi⟩
/-- One of a list, or nothing. -/
def elV (ps : List ByteArray) (k : Int) : ByteArray := if 0 ≤ k then ps.getD k.toNat ⟨#[]⟩ else ⟨#[]⟩
def elB (ps : List ByteArray) (k : Int) : Bool := decide (0 ≤ k ∧ k < (ps.length : Int))
theorem elB_in {ps : List ByteArray} {k : Nat} (h : k < ps.length) : elV ps (k : Int) = ps[k] ∧ elB ps (k : Int) = true := by
  refine ⟨?_, decide_eq_true ⟨by omega, by omega⟩⟩
  unfold elV
  rw [if_pos (by omega), Int.toNat_natCast, List.getD_eq_getElem?_getD, List.getElem?_eq_getElem h]; rfl
theorem elB_out {ps : List ByteArray} {k : Int} (h : ¬ (0 ≤ k ∧ k < (ps.length : Int))) : elV ps k = ⟨#[]⟩ ∧ elB ps k = false := by
  refine ⟨?_, decide_eq_false h⟩
  unfold elV
  split
  · rw [List.getD_eq_getElem?_getD, List.getElem?_eq_none (by omega)]; rfl
  · rfl
theorem element_any (A : Option Addr) (cap : Nat) (ps : List ByteArray) (k : Int) (w : World) (hS : StrsIn w A ps) :
    Calls Try.prog 43 #[.slice A ps.length cap, .int .i64 k] w fun e w' => e = .returned (.tuple #[.string (elV ps k), .bool (elB ps k)]) ∧ w = w' := by
  by_cases h0 : k < 0
  · obtain ⟨e1, e2⟩ := elB_out (ps := ps) (k := k) (by omega)
    rw [e1, e2]
    clear e1 e2 hS
    go_enter Try.func43, Try.ntmps43
    go_wp2
    go_ret2
    exact ⟨rfl, rfl⟩
  by_cases h1 : (ps.length : Int) ≤ k
  · obtain ⟨e1, e2⟩ := elB_out (ps := ps) (k := k) (by omega)
    rw [e1, e2]
    clear e1 e2 hS
    go_enter Try.func43, Try.ntmps43
    go_wp2
    go_ret2
    exact ⟨rfl, rfl⟩
  obtain ⟨m, rfl⟩ := Int.eq_ofNat_of_zero_le (show 0 ≤ k by omega)
  have hm : m < ps.length := by omega
  obtain ⟨e1, e2⟩ := elB_in hm
  rw [e1, e2]
  obtain ⟨b, off, rfl, hlt, hc⟩ := hS.at_ hm
  clear e1 e2 hS
  go_enter Try.func43, Try.ntmps43
  go_wp2
  go_ret2
  exact ⟨rfl, rfl⟩

theorem block_anyS (L : List ByteArray) (n k : Int) (w : World) (h : L.length ≤ 15) :
    Calls Try.prog 20 #[rowV L n, .int .i64 k] w fun e w' => e = .returned (.tuple #[.string (elV L k), .bool (elB L k)]) ∧ Below w.heap.size w w' := by
  obtain ⟨y0, y1, y2, y3, y4, y5, y6, y7, y8, y9, y10, y11, y12, y13, y14, y15, y16, e, -⟩ := opened (n := n) h
  have hA : SrAt (w.alloc (.cells (cellsL L n).toArray 27)) w.heap.size L n ∧ Below w.heap.size w (w.alloc (.cells (cellsL L n).toArray 27)) := ⟨SrAt.new w h, (Below.refl _ _).alloc (Nat.le_refl _) _⟩
  rw [e] at hA
  have hAH := Lib.hid hA
  clear hA
  rw [rowV_agg e]
  have c1 := Lib.hid (fun W (hS : StrsIn W (some ⟨w.heap.size, 0, none⟩) L) => element_any _ 15 L k W hS)
  go_enter Try.func20, Try.ntmps20
  go_upto_region 1 with fail
  refine fresh_world (fun W => SrAt W w.heap.size L n ∧ Below w.heap.size w W) hAH.out ?_
  clear hAH e
  rintro W hW
  have x1 := hW.1.cnt
  have hWH := Lib.hid hW
  have hl : (L.length : Int) ≤ 15 := by omega
  clear hW
  go_wp2_with fail
  (with_reducible refine (c1.out _ hWH.out.1.strs).mono ?_)
  rintro e w1 ⟨rfl, rfl⟩
  go_wp2
  go_ret2
  exact ⟨rfl, hWH.out.2⟩

end Go.Proofs.Ytonoanjakfaloaa
