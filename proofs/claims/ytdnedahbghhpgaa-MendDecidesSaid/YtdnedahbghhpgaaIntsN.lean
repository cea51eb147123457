/- A slice of numbers that came in; there is no room behind none. -/
import Derived.Test.YtdnedahbghhpgaaTlO
namespace Go.Proofs.Ytdnedahbghhpgaa
open Go.ChangeShapes Go.WideShapes Go.ChangeAt Go.RowKit

section
variable {H : Type} {enc : TypeId × Value → H} {P : Program} {w : World}
theorem open_intsN {r : Reach} {b0 : Nat} {t e : TypeId} {v : Value} {d : DataW H} {p : List MemPlace} (ht : P.underlying t = some (.slice e)) (he : P.underlying e = some (.int .i64)) (hce : P.cellsOf e = 1)
    (hv : Value.okWide P w r b0 t v) (h : DataW.Trod enc P w 0 (fun _ => true) true t v d p) : ∃ (A : Option Addr) (zs : List Int) (cap : Nat), v = .slice A zs.length cap ∧ IntsIn w A zs ∧ (A = none → cap = 0) := by
  obtain ⟨a0, len, cap, rfl⟩ := okWide_slice ht hv
  obtain ⟨fuel, hf⟩ := h
  obtain ⟨A, zs, c, e1, hI, h0⟩ := open_irowN ht he hce hf
  refine ⟨A, zs, c, ?_, hI, h0⟩
  have e2 : [Value.slice a0 len cap] = [Value.slice A zs.length c] := e1
  injection e2
end
end Go.Proofs.Ytdnedahbghhpgaa
