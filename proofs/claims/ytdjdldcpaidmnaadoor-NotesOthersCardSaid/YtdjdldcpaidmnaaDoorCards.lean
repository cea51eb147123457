/-
  DERIVED. GIVEN WITH THE SEED: THE CARDS: each row of YtdjdldcpaidmnaaDoorRows.lean that lists a variable, with what it lists TIED to the program's text (the seventh form; the later family's looks); each row that meets fmt, with fmt's text TOLD by the authors' own Lean function (tested against real Go, not proved from fmt's source: count such statements apart). THE CARD IS WHAT COUNTS. Prove the row's statement (the work); the ties are given (YtdjdldcpaidmnaaDoorTie.lean); close each card by the builder's one call (the guide's Derived/Test/ToyasCard.lean, 'card_holds'). Laid BY PROGRAM, IN A SANDBOX (cutbox-door.mjs). By AI agents, Wed Nov 11 2026. No macro, syntax, notation, axiom, sorry.
-/
import Derived.Test.YtdjdldcpaidmnaaDoorRows
import GoSem.ClaimSeven
namespace Go.Proofs.YtdjdldcpaidmnaaDoor
namespace Rows

/-- THE TIED CARD OF 'corbellaw14.NotesFind'. -/
def notesFindCard : Claim7 := { stood := { row := notesFindRow, standIns := [], harness := (true, "95cd305a95216c0044b91104030774de817830268c33aa342b743f4b96fff514"), looks := false }, kinds := [], alts := [], laidByText := true, laidKinds := [.data], laidTests := true, laidLooks := .later }
def NotesFindCardSaid : Prop := Claim7.holds Tryd.pinned (.plain (OpenSpec.ofChange notesFindSpec)) notesFindCard

/-- THE TIED CARD OF 'corbellaw14.NotesMake'. -/
def notesMakeCard : Claim7 := { stood := { row := notesMakeRow, standIns := [], harness := (true, "95cd305a95216c0044b91104030774de817830268c33aa342b743f4b96fff514"), looks := false }, kinds := [], alts := [], laidByText := true, laidKinds := [.data], laidTests := true, laidLooks := .later }
def NotesMakeCardSaid : Prop := Claim7.holds Tryd.pinned (.plain (OpenSpec.ofChange notesMakeSpec)) notesMakeCard

/-- THE TIED CARD OF 'corbellaw14.NotesBack'. -/
def notesBackCard : Claim7 := { stood := { row := notesBackRow, standIns := [], harness := (true, "95cd305a95216c0044b91104030774de817830268c33aa342b743f4b96fff514"), looks := false }, kinds := [], alts := [], laidByText := true, laidKinds := [.data], laidTests := true, laidLooks := .later }
def NotesBackCardSaid : Prop := Claim7.holds Tryd.pinned (.plain (OpenSpec.ofChange notesBackSpec)) notesBackCard

/-- THE TIED CARD OF 'corbellaw14.NotesOthers'. -/
def notesOthersCard : Claim7 := { stood := { row := notesOthersRow, standIns := [], harness := (true, "95cd305a95216c0044b91104030774de817830268c33aa342b743f4b96fff514"), looks := false }, kinds := [], alts := [], laidByText := true, laidKinds := [.data], laidTests := true, laidLooks := .later }
def NotesOthersCardSaid : Prop := Claim7.holds Tryd.pinned (.plain (OpenSpec.ofChange notesOthersSpec)) notesOthersCard

/-- THE SECOND FORM's CARD OF 'corbellaw14.NotesFind'. -/
def notesFindUptoCard : Claim7 := { stood := { row := notesFindUptoRow, standIns := [], harness := (true, "95cd305a95216c0044b91104030774de817830268c33aa342b743f4b96fff514"), looks := false }, kinds := [], alts := [], laidByText := true, laidKinds := [.data], laidTests := true, laidLooks := .later }
def NotesFindUptoCardSaid : Prop := Claim7.holds Tryd.pinned (.plain (OpenSpec.upto notesFindSpec)) notesFindUptoCard

/-- THE SECOND FORM's CARD OF 'corbellaw14.NotesMake'. -/
def notesMakeUptoCard : Claim7 := { stood := { row := notesMakeUptoRow, standIns := [], harness := (true, "95cd305a95216c0044b91104030774de817830268c33aa342b743f4b96fff514"), looks := false }, kinds := [], alts := [], laidByText := true, laidKinds := [.data], laidTests := true, laidLooks := .later }
def NotesMakeUptoCardSaid : Prop := Claim7.holds Tryd.pinned (.plain (OpenSpec.upto notesMakeSpec)) notesMakeUptoCard

/-- THE SECOND FORM's CARD OF 'corbellaw14.NotesBack'. -/
def notesBackUptoCard : Claim7 := { stood := { row := notesBackUptoRow, standIns := [], harness := (true, "95cd305a95216c0044b91104030774de817830268c33aa342b743f4b96fff514"), looks := false }, kinds := [], alts := [], laidByText := true, laidKinds := [.data], laidTests := true, laidLooks := .later }
def NotesBackUptoCardSaid : Prop := Claim7.holds Tryd.pinned (.plain (OpenSpec.upto notesBackSpec)) notesBackUptoCard

/-- THE SECOND FORM's CARD OF 'corbellaw14.NotesOthers'. -/
def notesOthersUptoCard : Claim7 := { stood := { row := notesOthersUptoRow, standIns := [], harness := (true, "95cd305a95216c0044b91104030774de817830268c33aa342b743f4b96fff514"), looks := false }, kinds := [], alts := [], laidByText := true, laidKinds := [.data], laidTests := true, laidLooks := .later }
def NotesOthersUptoCardSaid : Prop := Claim7.holds Tryd.pinned (.plain (OpenSpec.upto notesOthersSpec)) notesOthersUptoCard
end Rows
end Go.Proofs.YtdjdldcpaidmnaaDoor
