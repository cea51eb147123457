/-
  No cell of these rows narrows 'for every input' (looked for: loops, veiled, ifaces, maps, wideKeys, modest, calm, conditions, laid).
  DERIVED. THE GIVEN ROWS OF THIS SEAT. 7 by the template 'for every input the law returns true; each argument reads behind the call as it read before'; 0 by the template 'total and deterministic' (their statements: YtflkkmiehioejaaTotals.lean).
  GIVEN WITH THE SEED: the statements are not yours to turn. If you find one false, say at which input.
  Laid BY PROGRAM, IN A SANDBOX (cutbox-rows.mjs): the forced cells as the released guide's own fill.sh prints them over the translation 7b379424427e5d2e… (all of the seat's roots in one cut). By AI agents, Wed Nov 11 2026. No macro, syntax, notation, axiom, sorry.
-/
import Derived.Test.YtflkkmiehioejaaChecked
import GoSem.Claim
import GoSem.ClaimJoined
import GoSem.ClaimMapViews
import Derived.JoinedTies
import Derived.KernelRfl
namespace Go.Proofs.Ytflkkmiehioejaa
/- THE CELL 'sum', in the pinned program and in every row, IS THE sha256 OF THE DUMP (.gsa) THAT YtflkkmiehioejaaProg.lean LOADS. Nothing in Lean hashes anything: it is a label: what it is worth is what the hold of that sum in a sandbox is worth. -/
noncomputable def Try.pinned : Pinned := { name := "ytflkkmiehioejaa", sum := "7b379424427e5d2e704d31ab0d338770dec6ce53e4808d57be80156d1b42717d", checked := Try.checked }
namespace Rows
def none {H : Type} : Left H := { results := [], args := [] }

/-- 'corbellaw03.XorFolds': WHATEVER THE INPUT: true; the input reads as it did. -/
def xorFoldsSpec : ChangeSpec := { name := "xorFolds", fn := fun _ => fun
  | [d1, d2] => { results := [.lit (.bool true)], args := [d1, d2] }
  | _ => none }
def xorFoldsRow : OpenClaim := { program := "ytflkkmiehioejaa", sum := "7b379424427e5d2e704d31ab0d338770dec6ce53e4808d57be80156d1b42717d", func := "corbel/corbellaw03.XorFolds", spec := "xorFolds", apart := false }
def XorFoldsSaid : Prop := xorFoldsRow.holds Try.pinned (OpenSpec.ofChange xorFoldsSpec)

/-- ITS FALSE NEIGHBOUR: 'it returns false'. Refute it at one input. -/
def xorFoldsWrong : ChangeSpec := { name := "xorFolds", fn := fun _ => fun
  | [d1, d2] => { results := [.lit (.bool false)], args := [d1, d2] }
  | _ => none }
def XorFoldsWrongFalsely : Prop := xorFoldsRow.holds Try.pinned (OpenSpec.ofChange xorFoldsWrong)

/-- 'corbellaw03.XorZeros': WHATEVER THE INPUT: true; the input reads as it did. -/
def xorZerosSpec : ChangeSpec := { name := "xorZeros", fn := fun _ => fun
  | [d1, d2] => { results := [.lit (.bool true)], args := [d1, d2] }
  | _ => none }
def xorZerosRow : OpenClaim := { program := "ytflkkmiehioejaa", sum := "7b379424427e5d2e704d31ab0d338770dec6ce53e4808d57be80156d1b42717d", func := "corbel/corbellaw03.XorZeros", spec := "xorZeros", apart := false }
def XorZerosSaid : Prop := xorZerosRow.holds Try.pinned (OpenSpec.ofChange xorZerosSpec)

/-- ITS FALSE NEIGHBOUR: 'it returns false'. Refute it at one input. -/
def xorZerosWrong : ChangeSpec := { name := "xorZeros", fn := fun _ => fun
  | [d1, d2] => { results := [.lit (.bool false)], args := [d1, d2] }
  | _ => none }
def XorZerosWrongFalsely : Prop := xorZerosRow.holds Try.pinned (OpenSpec.ofChange xorZerosWrong)

/-- 'corbellaw03.XorBack': WHATEVER THE INPUT: true; the input reads as it did. -/
def xorBackSpec : ChangeSpec := { name := "xorBack", fn := fun _ => fun
  | [d1, d2] => { results := [.lit (.bool true)], args := [d1, d2] }
  | _ => none }
def xorBackRow : OpenClaim := { program := "ytflkkmiehioejaa", sum := "7b379424427e5d2e704d31ab0d338770dec6ce53e4808d57be80156d1b42717d", func := "corbel/corbellaw03.XorBack", spec := "xorBack", apart := false }
def XorBackSaid : Prop := xorBackRow.holds Try.pinned (OpenSpec.ofChange xorBackSpec)

/-- ITS FALSE NEIGHBOUR: 'it returns false'. Refute it at one input. -/
def xorBackWrong : ChangeSpec := { name := "xorBack", fn := fun _ => fun
  | [d1, d2] => { results := [.lit (.bool false)], args := [d1, d2] }
  | _ => none }
def XorBackWrongFalsely : Prop := xorBackRow.holds Try.pinned (OpenSpec.ofChange xorBackWrong)

/-- 'corbellaw03.XorOrder': WHATEVER THE INPUT: true; the input reads as it did. -/
def xorOrderSpec : ChangeSpec := { name := "xorOrder", fn := fun _ => fun
  | [d1, d2] => { results := [.lit (.bool true)], args := [d1, d2] }
  | _ => none }
def xorOrderRow : OpenClaim := { program := "ytflkkmiehioejaa", sum := "7b379424427e5d2e704d31ab0d338770dec6ce53e4808d57be80156d1b42717d", func := "corbel/corbellaw03.XorOrder", spec := "xorOrder", apart := false }
def XorOrderSaid : Prop := xorOrderRow.holds Try.pinned (OpenSpec.ofChange xorOrderSpec)

/-- ITS FALSE NEIGHBOUR: 'it returns false'. Refute it at one input. -/
def xorOrderWrong : ChangeSpec := { name := "xorOrder", fn := fun _ => fun
  | [d1, d2] => { results := [.lit (.bool false)], args := [d1, d2] }
  | _ => none }
def XorOrderWrongFalsely : Prop := xorOrderRow.holds Try.pinned (OpenSpec.ofChange xorOrderWrong)

/-- 'corbellaw03.XorTwice': WHATEVER THE INPUT: true; the input reads as it did. -/
def xorTwiceSpec : ChangeSpec := { name := "xorTwice", fn := fun _ => fun
  | [d1, d2] => { results := [.lit (.bool true)], args := [d1, d2] }
  | _ => none }
def xorTwiceRow : OpenClaim := { program := "ytflkkmiehioejaa", sum := "7b379424427e5d2e704d31ab0d338770dec6ce53e4808d57be80156d1b42717d", func := "corbel/corbellaw03.XorTwice", spec := "xorTwice", apart := false }
def XorTwiceSaid : Prop := xorTwiceRow.holds Try.pinned (OpenSpec.ofChange xorTwiceSpec)

/-- ITS FALSE NEIGHBOUR: 'it returns false'. Refute it at one input. -/
def xorTwiceWrong : ChangeSpec := { name := "xorTwice", fn := fun _ => fun
  | [d1, d2] => { results := [.lit (.bool false)], args := [d1, d2] }
  | _ => none }
def XorTwiceWrongFalsely : Prop := xorTwiceRow.holds Try.pinned (OpenSpec.ofChange xorTwiceWrong)

/-- 'corbellaw03.XorPieces': WHATEVER THE INPUT: true; the input reads as it did. -/
def xorPiecesSpec : ChangeSpec := { name := "xorPieces", fn := fun _ => fun
  | [d1, d2] => { results := [.lit (.bool true)], args := [d1, d2] }
  | _ => none }
def xorPiecesRow : OpenClaim := { program := "ytflkkmiehioejaa", sum := "7b379424427e5d2e704d31ab0d338770dec6ce53e4808d57be80156d1b42717d", func := "corbel/corbellaw03.XorPieces", spec := "xorPieces", apart := false }
def XorPiecesSaid : Prop := xorPiecesRow.holds Try.pinned (OpenSpec.ofChange xorPiecesSpec)

/-- ITS FALSE NEIGHBOUR: 'it returns false'. Refute it at one input. -/
def xorPiecesWrong : ChangeSpec := { name := "xorPieces", fn := fun _ => fun
  | [d1, d2] => { results := [.lit (.bool false)], args := [d1, d2] }
  | _ => none }
def XorPiecesWrongFalsely : Prop := xorPiecesRow.holds Try.pinned (OpenSpec.ofChange xorPiecesWrong)

/-- 'corbellaw04.GeomPlaces': WHATEVER THE INPUT: true; the input reads as it did. -/
def geomPlacesSpec : ChangeSpec := { name := "geomPlaces", fn := fun _ => fun
  | [d1, d2, d3] => { results := [.lit (.bool true)], args := [d1, d2, d3] }
  | _ => none }
def geomPlacesRow : OpenClaim := { program := "ytflkkmiehioejaa", sum := "7b379424427e5d2e704d31ab0d338770dec6ce53e4808d57be80156d1b42717d", func := "corbel/corbellaw04.GeomPlaces", spec := "geomPlaces", apart := false }
def GeomPlacesSaid : Prop := geomPlacesRow.holds Try.pinned (OpenSpec.ofChange geomPlacesSpec)

/-- ITS FALSE NEIGHBOUR: 'it returns false'. Refute it at one input. -/
def geomPlacesWrong : ChangeSpec := { name := "geomPlaces", fn := fun _ => fun
  | [d1, d2, d3] => { results := [.lit (.bool false)], args := [d1, d2, d3] }
  | _ => none }
def GeomPlacesWrongFalsely : Prop := geomPlacesRow.holds Try.pinned (OpenSpec.ofChange geomPlacesWrong)

/- THE SECOND FORM. 'bulk': how many values and letters a reading holds, each counted each time it is reached (what is shared counts as often as it is met; a slice's spare places count too). A statement '..UptoSaid' is the law's where the arguments, and the package variables that the reading takes, are together of bulk at most 1048576: NARROWER than '..Said'. Prove '..Said' where nothing that the law and all that it calls make is longer than what came in: it says more and counts as full. Else prove '..UptoSaid'. A law counts once. -/
mutual
def uptoBulk {H : Type} : DataW H → Nat
  | .lit (.string bytes) => bytes.length + 1
  | .lit _ => 1
  | .nil => 1
  | .ptr d => uptoBulk d + 1
  | .slice elems spare => uptoBulkAll elems + uptoBulkAll spare + 1
  | .agg parts => uptoBulkAll parts + 1
  | .iface _ d => uptoBulk d + 1
  | .map entries => uptoBulkEntries entries + 1
  | .held _ => 1
def uptoBulkAll {H : Type} : List (DataW H) → Nat
  | [] => 0
  | d :: r => uptoBulk d + uptoBulkAll r
def uptoBulkEntries {H : Type} : List (Lit × DataW H) → Nat
  | [] => 0
  | x :: r => uptoBulkEntry x + uptoBulkEntries r
def uptoBulkEntry {H : Type} : Lit × DataW H → Nat
  | (.string bytes, d) => bytes.length + uptoBulk d + 1
  | (_, d) => uptoBulk d + 1
 end
def uptoSmall : (H : Type) → List (DataW H) → Bool := fun _ ds => decide (uptoBulkAll ds ≤ 1048576)
def OpenSpec.upto (s : _root_.Go.ChangeSpec) : _root_.Go.OpenSpec := { _root_.Go.OpenSpec.ofChange s with cond := some uptoSmall }

/-- 'corbellaw03.XorFolds', WHERE WHAT IT READS IS OF BULK AT MOST 1048576: true; the input reads as it did. -/
def xorFoldsUptoRow : OpenClaim := { program := "ytflkkmiehioejaa", sum := "7b379424427e5d2e704d31ab0d338770dec6ce53e4808d57be80156d1b42717d", func := "corbel/corbellaw03.XorFolds", spec := "xorFolds", apart := false, narrowed := true }
def XorFoldsUptoSaid : Prop := xorFoldsUptoRow.holds Try.pinned (OpenSpec.upto xorFoldsSpec)

/-- 'corbellaw03.XorZeros', WHERE WHAT IT READS IS OF BULK AT MOST 1048576: true; the input reads as it did. -/
def xorZerosUptoRow : OpenClaim := { program := "ytflkkmiehioejaa", sum := "7b379424427e5d2e704d31ab0d338770dec6ce53e4808d57be80156d1b42717d", func := "corbel/corbellaw03.XorZeros", spec := "xorZeros", apart := false, narrowed := true }
def XorZerosUptoSaid : Prop := xorZerosUptoRow.holds Try.pinned (OpenSpec.upto xorZerosSpec)

/-- 'corbellaw03.XorBack', WHERE WHAT IT READS IS OF BULK AT MOST 1048576: true; the input reads as it did. -/
def xorBackUptoRow : OpenClaim := { program := "ytflkkmiehioejaa", sum := "7b379424427e5d2e704d31ab0d338770dec6ce53e4808d57be80156d1b42717d", func := "corbel/corbellaw03.XorBack", spec := "xorBack", apart := false, narrowed := true }
def XorBackUptoSaid : Prop := xorBackUptoRow.holds Try.pinned (OpenSpec.upto xorBackSpec)

/-- 'corbellaw03.XorOrder', WHERE WHAT IT READS IS OF BULK AT MOST 1048576: true; the input reads as it did. -/
def xorOrderUptoRow : OpenClaim := { program := "ytflkkmiehioejaa", sum := "7b379424427e5d2e704d31ab0d338770dec6ce53e4808d57be80156d1b42717d", func := "corbel/corbellaw03.XorOrder", spec := "xorOrder", apart := false, narrowed := true }
def XorOrderUptoSaid : Prop := xorOrderUptoRow.holds Try.pinned (OpenSpec.upto xorOrderSpec)

/-- 'corbellaw03.XorTwice', WHERE WHAT IT READS IS OF BULK AT MOST 1048576: true; the input reads as it did. -/
def xorTwiceUptoRow : OpenClaim := { program := "ytflkkmiehioejaa", sum := "7b379424427e5d2e704d31ab0d338770dec6ce53e4808d57be80156d1b42717d", func := "corbel/corbellaw03.XorTwice", spec := "xorTwice", apart := false, narrowed := true }
def XorTwiceUptoSaid : Prop := xorTwiceUptoRow.holds Try.pinned (OpenSpec.upto xorTwiceSpec)

/-- 'corbellaw03.XorPieces', WHERE WHAT IT READS IS OF BULK AT MOST 1048576: true; the input reads as it did. -/
def xorPiecesUptoRow : OpenClaim := { program := "ytflkkmiehioejaa", sum := "7b379424427e5d2e704d31ab0d338770dec6ce53e4808d57be80156d1b42717d", func := "corbel/corbellaw03.XorPieces", spec := "xorPieces", apart := false, narrowed := true }
def XorPiecesUptoSaid : Prop := xorPiecesUptoRow.holds Try.pinned (OpenSpec.upto xorPiecesSpec)

/-- 'corbellaw04.GeomPlaces', WHERE WHAT IT READS IS OF BULK AT MOST 1048576: true; the input reads as it did. -/
def geomPlacesUptoRow : OpenClaim := { program := "ytflkkmiehioejaa", sum := "7b379424427e5d2e704d31ab0d338770dec6ce53e4808d57be80156d1b42717d", func := "corbel/corbellaw04.GeomPlaces", spec := "geomPlaces", apart := false, narrowed := true }
def GeomPlacesUptoSaid : Prop := geomPlacesUptoRow.holds Try.pinned (OpenSpec.upto geomPlacesSpec)

end Rows
end Go.Proofs.Ytflkkmiehioejaa
