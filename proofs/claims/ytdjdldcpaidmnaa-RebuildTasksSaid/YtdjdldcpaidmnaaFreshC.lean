/- A world that is forgotten ahead of an operation of a region that draws. -/
import Derived.Test.YtdjdldcpaidmnaaMBase
import Derived.OwnWalk
namespace Go.Proofs.Ytdjdldcpaidmnaa
open Go.RowKit
theorem fresh_anyC {P : Program} {md : Region.Mode} {ops : Array Oper} {Q : Exit → Act → World → Prop} {c : Nat → Bool} {S : World → Prop} {fuel : Nat} {listed : Array Bool} {a : Act} {W : World} (R : World → Prop) (hR : R W)
    (h : ∀ W2, R W2 → anyC P md ops Q c S fuel listed a W2) : anyC P md ops Q c S fuel listed a W := h W hR
end Go.Proofs.Ytdjdldcpaidmnaa
