/-
  DERIVED. GIVEN WITH THE SEED: THE CARDS: each row of YtpmhfalhieinjaaGreatDoorRows.lean that lists a variable, with what it lists TIED to the program's text (the seventh form; the later family's looks); each row that meets fmt, with fmt's text TOLD by the authors' own Lean function (tested against real Go, not proved from fmt's source: count such statements apart). THE CARD IS WHAT COUNTS. Prove the row's statement (the work); the ties are given (YtpmhfalhieinjaaGreatDoorTie.lean); close each card by the builder's one call (the guide's Derived/Test/ToyasCard.lean, 'card_holds'). Laid BY PROGRAM, IN A SANDBOX (cutbox-door.mjs). By AI agents, Wed Nov 11 2026. No macro, syntax, notation, axiom, sorry.
-/
import Derived.Test.YtpmhfalhieinjaaGreatDoorRows
import GoSem.ClaimSeven
namespace Go.Proofs.YtpmhfalhieinjaaGreatDoor
namespace Rows

/-- THE TIED CARD OF 'corbellaw09.MlogNil'. -/
def mlogNilCard : Claim7 := { stood := { row := mlogNilRow, standIns := [], harness := (true, "23bf6cafae0cb06c1e6239000cc5c2de08cc41e53bdef99dcf81d2a2def8243b"), looks := false }, kinds := [], alts := [], laidByText := true, laidKinds := [.data], laidTests := true, laidLooks := .later }
def MlogNilCardSaid : Prop := Claim7.holds Tryz.pinned (.plain (OpenSpec.ofChange mlogNilSpec)) mlogNilCard

/-- THE TIED CARD OF 'corbellaw09.MlogTurns'. -/
def mlogTurnsCard : Claim7 := { stood := { row := mlogTurnsRow, standIns := [], harness := (true, "23bf6cafae0cb06c1e6239000cc5c2de08cc41e53bdef99dcf81d2a2def8243b"), looks := false }, kinds := [], alts := [], laidByText := true, laidKinds := [.data], laidTests := true, laidLooks := .later }
def MlogTurnsCardSaid : Prop := Claim7.holds Tryz.pinned (.plain (OpenSpec.ofChange mlogTurnsSpec)) mlogTurnsCard

/-- THE TIED CARD OF 'corbellaw09.MlogTorn'. -/
def mlogTornCard : Claim7 := { stood := { row := mlogTornRow, standIns := [], harness := (true, "23bf6cafae0cb06c1e6239000cc5c2de08cc41e53bdef99dcf81d2a2def8243b"), looks := false }, kinds := [], alts := [], laidByText := true, laidKinds := [.data], laidTests := true, laidLooks := .later }
def MlogTornCardSaid : Prop := Claim7.holds Tryz.pinned (.plain (OpenSpec.ofChange mlogTornSpec)) mlogTornCard

/-- THE TIED CARD OF 'corbeltop.TopBooks'. -/
def topBooksCard : Claim7 := { stood := { row := topBooksRow, standIns := [], harness := (true, "23bf6cafae0cb06c1e6239000cc5c2de08cc41e53bdef99dcf81d2a2def8243b"), looks := false }, kinds := [], alts := [], laidByText := true, laidKinds := [.data], laidTests := true, laidLooks := .later }
def TopBooksCardSaid : Prop := Claim7.holds Tryz.pinned (.plain (OpenSpec.ofChange topBooksSpec)) topBooksCard

/-- THE SECOND FORM's CARD OF 'corbellaw09.MlogNil'. -/
def mlogNilUptoCard : Claim7 := { stood := { row := mlogNilUptoRow, standIns := [], harness := (true, "23bf6cafae0cb06c1e6239000cc5c2de08cc41e53bdef99dcf81d2a2def8243b"), looks := false }, kinds := [], alts := [], laidByText := true, laidKinds := [.data], laidTests := true, laidLooks := .later }
def MlogNilUptoCardSaid : Prop := Claim7.holds Tryz.pinned (.plain (OpenSpec.upto mlogNilSpec)) mlogNilUptoCard

/-- THE SECOND FORM's CARD OF 'corbellaw09.MlogTurns'. -/
def mlogTurnsUptoCard : Claim7 := { stood := { row := mlogTurnsUptoRow, standIns := [], harness := (true, "23bf6cafae0cb06c1e6239000cc5c2de08cc41e53bdef99dcf81d2a2def8243b"), looks := false }, kinds := [], alts := [], laidByText := true, laidKinds := [.data], laidTests := true, laidLooks := .later }
def MlogTurnsUptoCardSaid : Prop := Claim7.holds Tryz.pinned (.plain (OpenSpec.upto mlogTurnsSpec)) mlogTurnsUptoCard

/-- THE SECOND FORM's CARD OF 'corbellaw09.MlogTorn'. -/
def mlogTornUptoCard : Claim7 := { stood := { row := mlogTornUptoRow, standIns := [], harness := (true, "23bf6cafae0cb06c1e6239000cc5c2de08cc41e53bdef99dcf81d2a2def8243b"), looks := false }, kinds := [], alts := [], laidByText := true, laidKinds := [.data], laidTests := true, laidLooks := .later }
def MlogTornUptoCardSaid : Prop := Claim7.holds Tryz.pinned (.plain (OpenSpec.upto mlogTornSpec)) mlogTornUptoCard

/-- THE SECOND FORM's CARD OF 'corbeltop.TopBooks'. -/
def topBooksUptoCard : Claim7 := { stood := { row := topBooksUptoRow, standIns := [], harness := (true, "23bf6cafae0cb06c1e6239000cc5c2de08cc41e53bdef99dcf81d2a2def8243b"), looks := false }, kinds := [], alts := [], laidByText := true, laidKinds := [.data], laidTests := true, laidLooks := .later }
def TopBooksUptoCardSaid : Prop := Claim7.holds Tryz.pinned (.plain (OpenSpec.upto topBooksSpec)) topBooksUptoCard
end Rows
end Go.Proofs.YtpmhfalhieinjaaGreatDoor
