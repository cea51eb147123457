/-
  DERIVED. GIVEN WITH THE SEED: THE CARDS: each row of YtbgkmppngnedlaaDoorRows.lean that lists a variable, with what it lists TIED to the program's text (the seventh form; the later family's looks); each row that meets fmt, with fmt's text TOLD by the authors' own Lean function (tested against real Go, not proved from fmt's source: count such statements apart). THE CARD IS WHAT COUNTS. Prove the row's statement (the work); the ties are given (YtbgkmppngnedlaaDoorTie.lean); close each card by the builder's one call (the guide's Derived/Test/ToyasCard.lean, 'card_holds'). Laid BY PROGRAM, IN A SANDBOX (cutbox-door.mjs). By AI agents, Wed Nov 11 2026. No macro, syntax, notation, axiom, sorry.
-/
import Derived.Test.YtbgkmppngnedlaaDoorRows
import GoSem.ClaimSeven
namespace Go.Proofs.YtbgkmppngnedlaaDoor
namespace Rows

/-- THE TIED CARD OF 'corbellaw18.GroupEncodes'. -/
def groupEncodesCard : Claim7 := { stood := { row := groupEncodesRow, standIns := [], harness := (true, "e9cdd43b3137a94a4d1627c3482d3cccecbe64b6dd1d7499e9f98385d20a1cb8"), looks := false }, kinds := [], alts := [], laidByText := true, laidKinds := [.data], laidTests := true, laidLooks := .later }
def GroupEncodesCardSaid : Prop := Claim7.holds Tryd.pinned (.plain (OpenSpec.ofChange groupEncodesSpec)) groupEncodesCard

/-- THE TIED CARD OF 'corbellaw18.GroupCut'. -/
def groupCutCard : Claim7 := { stood := { row := groupCutRow, standIns := [], harness := (true, "e9cdd43b3137a94a4d1627c3482d3cccecbe64b6dd1d7499e9f98385d20a1cb8"), looks := false }, kinds := [], alts := [], laidByText := true, laidKinds := [.data], laidTests := true, laidLooks := .later }
def GroupCutCardSaid : Prop := Claim7.holds Tryd.pinned (.plain (OpenSpec.ofChange groupCutSpec)) groupCutCard

/-- THE TIED CARD OF 'corbellaw18.GroupMany'. -/
def groupManyCard : Claim7 := { stood := { row := groupManyRow, standIns := [], harness := (true, "e9cdd43b3137a94a4d1627c3482d3cccecbe64b6dd1d7499e9f98385d20a1cb8"), looks := false }, kinds := [], alts := [], laidByText := true, laidKinds := [.data], laidTests := true, laidLooks := .later }
def GroupManyCardSaid : Prop := Claim7.holds Tryd.pinned (.plain (OpenSpec.ofChange groupManySpec)) groupManyCard

/-- THE SECOND FORM's CARD OF 'corbellaw18.GroupEncodes'. -/
def groupEncodesUptoCard : Claim7 := { stood := { row := groupEncodesUptoRow, standIns := [], harness := (true, "e9cdd43b3137a94a4d1627c3482d3cccecbe64b6dd1d7499e9f98385d20a1cb8"), looks := false }, kinds := [], alts := [], laidByText := true, laidKinds := [.data], laidTests := true, laidLooks := .later }
def GroupEncodesUptoCardSaid : Prop := Claim7.holds Tryd.pinned (.plain (OpenSpec.upto groupEncodesSpec)) groupEncodesUptoCard

/-- THE SECOND FORM's CARD OF 'corbellaw18.GroupCut'. -/
def groupCutUptoCard : Claim7 := { stood := { row := groupCutUptoRow, standIns := [], harness := (true, "e9cdd43b3137a94a4d1627c3482d3cccecbe64b6dd1d7499e9f98385d20a1cb8"), looks := false }, kinds := [], alts := [], laidByText := true, laidKinds := [.data], laidTests := true, laidLooks := .later }
def GroupCutUptoCardSaid : Prop := Claim7.holds Tryd.pinned (.plain (OpenSpec.upto groupCutSpec)) groupCutUptoCard

/-- THE SECOND FORM's CARD OF 'corbellaw18.GroupMany'. -/
def groupManyUptoCard : Claim7 := { stood := { row := groupManyUptoRow, standIns := [], harness := (true, "e9cdd43b3137a94a4d1627c3482d3cccecbe64b6dd1d7499e9f98385d20a1cb8"), looks := false }, kinds := [], alts := [], laidByText := true, laidKinds := [.data], laidTests := true, laidLooks := .later }
def GroupManyUptoCardSaid : Prop := Claim7.holds Tryd.pinned (.plain (OpenSpec.upto groupManySpec)) groupManyUptoCard
end Rows
end Go.Proofs.YtbgkmppngnedlaaDoor
