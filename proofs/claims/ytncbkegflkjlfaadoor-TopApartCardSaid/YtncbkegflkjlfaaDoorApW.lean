/- What the law TopApart does. -/
import Derived.Test.YtncbkegflkjlfaaDoorApWs
import Derived.Test.YtncbkegflkjlfaaDoorApWl
namespace Go.Proofs.YtncbkegflkjlfaaDoor
open Go.RowKit Zon Drv

theorem apart_law (A A2 : Option Addr) (cap cap2 : Nat) (cs : List Cm) (ks : List Int) (w : World) (hT : Tab w) (hI : CmdsIn w A cs) (hl : cs.length ≤ maxLen) (hJ : IntsIn w A2 ks) (hJl : ks.length ≤ 17592186044416) (hJn : A2 = none → cap2 = 0) (hJk : ∀ x ∈ ks, Rng x) :
    Calls Tryd.prog 3 #[.slice A cs.length cap, .slice A2 ks.length cap2] w fun e w' => e = .returned (.bool true) ∧ Below w.heap.size w w' := by
  by_cases h : cs.length ≤ 80
  · exact apart_short A A2 cap cap2 cs ks w hT hI hl hJ hJl hJn hJk h
  · exact apart_long A A2 cap cap2 cs ks w hT hI hl hJ hJl hJn hJk (by omega)
end Go.Proofs.YtncbkegflkjlfaaDoor
