/-
  DERIVED. GIVEN WITH THE SEED: THE CARDS: each row of YtbgkmppngnedlabDoorRows.lean that lists a variable, with what it lists TIED to the program's text (the seventh form; the later family's looks); each row that meets fmt, with fmt's text TOLD by the authors' own Lean function (tested against real Go, not proved from fmt's source: count such statements apart). THE CARD IS WHAT COUNTS. Prove the row's statement (the work); the ties are given (YtbgkmppngnedlabDoorTie.lean); close each card by the builder's one call (the guide's Derived/Test/ToyasCard.lean, 'card_holds'). Laid BY PROGRAM, IN A SANDBOX (cutbox-door.mjs). By AI agents, Wed Nov 11 2026. No macro, syntax, notation, axiom, sorry.
-/
import Derived.Test.YtbgkmppngnedlabDoorRows
import GoSem.ClaimSeven
namespace Go.Proofs.YtbgkmppngnedlabDoor
namespace Rows

/-- THE TIED CARD OF 'corbellaw14.NotesFind'. -/
def notesFindCard : Claim7 := { stood := { row := notesFindRow, standIns := [], harness := (true, "bc86eb20aefc1c4399241aa7f07a1a5e8ab27e9761962b5529942cdfb289810f"), looks := false }, kinds := [], alts := [], laidByText := true, laidKinds := [.data], laidTests := true, laidLooks := .later }
def NotesFindCardSaid : Prop := Claim7.holds Tryd.pinned (.plain (OpenSpec.ofChange notesFindSpec)) notesFindCard

/-- THE TIED CARD OF 'corbellaw14.NotesBack'. -/
def notesBackCard : Claim7 := { stood := { row := notesBackRow, standIns := [], harness := (true, "bc86eb20aefc1c4399241aa7f07a1a5e8ab27e9761962b5529942cdfb289810f"), looks := false }, kinds := [], alts := [], laidByText := true, laidKinds := [.data], laidTests := true, laidLooks := .later }
def NotesBackCardSaid : Prop := Claim7.holds Tryd.pinned (.plain (OpenSpec.ofChange notesBackSpec)) notesBackCard

/-- THE SECOND FORM's CARD OF 'corbellaw14.NotesFind'. -/
def notesFindUptoCard : Claim7 := { stood := { row := notesFindUptoRow, standIns := [], harness := (true, "bc86eb20aefc1c4399241aa7f07a1a5e8ab27e9761962b5529942cdfb289810f"), looks := false }, kinds := [], alts := [], laidByText := true, laidKinds := [.data], laidTests := true, laidLooks := .later }
def NotesFindUptoCardSaid : Prop := Claim7.holds Tryd.pinned (.plain (OpenSpec.upto notesFindSpec)) notesFindUptoCard

/-- THE SECOND FORM's CARD OF 'corbellaw14.NotesBack'. -/
def notesBackUptoCard : Claim7 := { stood := { row := notesBackUptoRow, standIns := [], harness := (true, "bc86eb20aefc1c4399241aa7f07a1a5e8ab27e9761962b5529942cdfb289810f"), looks := false }, kinds := [], alts := [], laidByText := true, laidKinds := [.data], laidTests := true, laidLooks := .later }
def NotesBackUptoCardSaid : Prop := Claim7.holds Tryd.pinned (.plain (OpenSpec.upto notesBackSpec)) notesBackUptoCard
end Rows
end Go.Proofs.YtbgkmppngnedlabDoor
