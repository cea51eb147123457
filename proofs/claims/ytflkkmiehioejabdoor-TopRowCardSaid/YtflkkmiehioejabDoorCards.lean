/-
  DERIVED. GIVEN WITH THE SEED: THE CARDS: each row of YtflkkmiehioejabDoorRows.lean that lists a variable, with what it lists TIED to the program's text (the seventh form; the later family's looks); each row that meets fmt, with fmt's text TOLD by the authors' own Lean function (tested against real Go, not proved from fmt's source: count such statements apart). THE CARD IS WHAT COUNTS. Prove the row's statement (the work); the ties are given (YtflkkmiehioejabDoorTie.lean); close each card by the builder's one call (the guide's Derived/Test/ToyasCard.lean, 'card_holds'). Laid BY PROGRAM, IN A SANDBOX (cutbox-door.mjs). By AI agents, Wed Nov 11 2026. No macro, syntax, notation, axiom, sorry.
-/
import Derived.Test.YtflkkmiehioejabDoorRows
import GoSem.ClaimSeven
namespace Go.Proofs.YtflkkmiehioejabDoor
namespace Rows

/-- THE TIED CARD OF 'corbeltop.TopRow'. -/
def topRowCard : Claim7 := { stood := { row := topRowRow, standIns := [], harness := (true, "5ab415428853f68b36891b33a4f15263d82d22314a3a7ce6dd2aff51a234f841"), looks := false }, kinds := [], alts := [], laidByText := true, laidKinds := [.data], laidTests := true, laidLooks := .later }
def TopRowCardSaid : Prop := Claim7.holds Tryd.pinned (.plain (OpenSpec.ofChange topRowSpec)) topRowCard

/-- THE TIED CARD OF 'corbeltop.TopSpread'. -/
def topSpreadCard : Claim7 := { stood := { row := topSpreadRow, standIns := [], harness := (true, "5ab415428853f68b36891b33a4f15263d82d22314a3a7ce6dd2aff51a234f841"), looks := false }, kinds := [], alts := [], laidByText := true, laidKinds := [.data], laidTests := true, laidLooks := .later }
def TopSpreadCardSaid : Prop := Claim7.holds Tryd.pinned (.plain (OpenSpec.ofChange topSpreadSpec)) topSpreadCard

/-- THE SECOND FORM's CARD OF 'corbeltop.TopRow'. -/
def topRowUptoCard : Claim7 := { stood := { row := topRowUptoRow, standIns := [], harness := (true, "5ab415428853f68b36891b33a4f15263d82d22314a3a7ce6dd2aff51a234f841"), looks := false }, kinds := [], alts := [], laidByText := true, laidKinds := [.data], laidTests := true, laidLooks := .later }
def TopRowUptoCardSaid : Prop := Claim7.holds Tryd.pinned (.plain (OpenSpec.upto topRowSpec)) topRowUptoCard

/-- THE SECOND FORM's CARD OF 'corbeltop.TopSpread'. -/
def topSpreadUptoCard : Claim7 := { stood := { row := topSpreadUptoRow, standIns := [], harness := (true, "5ab415428853f68b36891b33a4f15263d82d22314a3a7ce6dd2aff51a234f841"), looks := false }, kinds := [], alts := [], laidByText := true, laidKinds := [.data], laidTests := true, laidLooks := .later }
def TopSpreadUptoCardSaid : Prop := Claim7.holds Tryd.pinned (.plain (OpenSpec.upto topSpreadSpec)) topSpreadUptoCard
end Rows
end Go.Proofs.YtflkkmiehioejabDoor
