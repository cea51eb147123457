/-
  NARROWER THAN 'FOR EVERY INPUT', by the rows' own cells (each row's printed sentence says how): NotesFind: laid · NotesMake: laid · NotesBack: laid · NotesOthers: laid.
  DERIVED. THE GIVEN ROWS OF THIS SEAT. 4 by the template 'for every input the law returns true; each argument reads behind the call as it read before'; 0 by the template 'total and deterministic' (their statements: YtdjdldcpaidmnaaDoorTotals.lean).
  GIVEN WITH THE SEED: the statements are not yours to turn. If you find one false, say at which input.
  Laid BY PROGRAM, IN A SANDBOX (cutbox-rows.mjs): the forced cells as the released guide's own fill.sh prints them over the translation 5f2f0ccc76e76b61… (all of the seat's roots in one cut). By AI agents, Wed Nov 11 2026. No macro, syntax, notation, axiom, sorry.
-/
import Derived.Test.YtdjdldcpaidmnaaDoorChecked
import GoSem.Claim
import GoSem.ClaimJoined
import GoSem.ClaimMapViews
import Derived.JoinedTies
import Derived.KernelRfl
namespace Go.Proofs.YtdjdldcpaidmnaaDoor
/- THE CELL 'sum', in the pinned program and in every row, IS THE sha256 OF THE DUMP (.gsa) THAT YtdjdldcpaidmnaaDoorProg.lean LOADS. Nothing in Lean hashes anything: it is a label: what it is worth is what the hold of that sum in a sandbox is worth. -/
noncomputable def Tryd.pinned : Pinned := { name := "ytdjdldcpaidmnaadoor", sum := "5f2f0ccc76e76b61e03c74a914ff25e55c684365ddc6b6f8f2c13708c1b20e9a", checked := Tryd.checked }
namespace Rows
def none {H : Type} : Left H := { results := [], args := [] }

/- WHAT THE LISTED PACKAGE-LEVEL VARIABLES READ AS WHEN THE CALL BEGINS. Each datum BY PROGRAM (the guide's laid-datum.mjs) off the statement by which the dump's own 'gosem.cut.vars' lays the variable. In a bare row this is a premise. The card (YtdjdldcpaidmnaaDoorCards.lean) ties it to the program's text. -/
def laid_corbel_crc_steps {H : Type} : DataW H := .agg [.lit (.int .u32 0), .lit (.int .u32 274646895), .lit (.int .u32 549293790), .lit (.int .u32 820201905), .lit (.int .u32 1098587580), .lit (.int .u32 1361435347), .lit (.int .u32 1640403810), .lit (.int .u32 1905808397), .lit (.int .u32 2197175160), .lit (.int .u32 2460548119), .lit (.int .u32 2722870694), .lit (.int .u32 2987750089), .lit (.int .u32 3280807620), .lit (.int .u32 3553878443), .lit (.int .u32 3811616794), .lit (.int .u32 4084100981)]

/-- 'corbellaw14.NotesFind': WHATEVER THE INPUT: true; the input reads as it did. -/
def notesFindSpec : ChangeSpec := { name := "notesFind", fn := fun _ => fun
  | [d1, d2, d3] => { results := [.lit (.bool true)], args := [d1, d2, d3] }
  | _ => none }
def notesFindRow : OpenClaim := { program := "ytdjdldcpaidmnaadoor", sum := "5f2f0ccc76e76b61e03c74a914ff25e55c684365ddc6b6f8f2c13708c1b20e9a", func := "corbel/corbellaw14.NotesFind", spec := "notesFind", unfollowed := true, recurses := true, named := ["corbel/crc.steps"], plainKeys := false, apart := false, laid := [("corbel/crc.steps", laid_corbel_crc_steps)] }
def NotesFindSaid : Prop := notesFindRow.holds Tryd.pinned (OpenSpec.ofChange notesFindSpec)

/-- ITS FALSE NEIGHBOUR: 'it returns false'. Refute it at one input. -/
def notesFindWrong : ChangeSpec := { name := "notesFind", fn := fun _ => fun
  | [d1, d2, d3] => { results := [.lit (.bool false)], args := [d1, d2, d3] }
  | _ => none }
def NotesFindWrongFalsely : Prop := notesFindRow.holds Tryd.pinned (OpenSpec.ofChange notesFindWrong)

/-- 'corbellaw14.NotesMake': WHATEVER THE INPUT: true; the input reads as it did. -/
def notesMakeSpec : ChangeSpec := { name := "notesMake", fn := fun _ => fun
  | [d1, d2] => { results := [.lit (.bool true)], args := [d1, d2] }
  | _ => none }
def notesMakeRow : OpenClaim := { program := "ytdjdldcpaidmnaadoor", sum := "5f2f0ccc76e76b61e03c74a914ff25e55c684365ddc6b6f8f2c13708c1b20e9a", func := "corbel/corbellaw14.NotesMake", spec := "notesMake", unfollowed := true, recurses := true, named := ["corbel/crc.steps"], plainKeys := false, apart := false, laid := [("corbel/crc.steps", laid_corbel_crc_steps)] }
def NotesMakeSaid : Prop := notesMakeRow.holds Tryd.pinned (OpenSpec.ofChange notesMakeSpec)

/-- ITS FALSE NEIGHBOUR: 'it returns false'. Refute it at one input. -/
def notesMakeWrong : ChangeSpec := { name := "notesMake", fn := fun _ => fun
  | [d1, d2] => { results := [.lit (.bool false)], args := [d1, d2] }
  | _ => none }
def NotesMakeWrongFalsely : Prop := notesMakeRow.holds Tryd.pinned (OpenSpec.ofChange notesMakeWrong)

/-- 'corbellaw14.NotesBack': WHATEVER THE INPUT: true; the input reads as it did. -/
def notesBackSpec : ChangeSpec := { name := "notesBack", fn := fun _ => fun
  | [d1, d2, d3] => { results := [.lit (.bool true)], args := [d1, d2, d3] }
  | _ => none }
def notesBackRow : OpenClaim := { program := "ytdjdldcpaidmnaadoor", sum := "5f2f0ccc76e76b61e03c74a914ff25e55c684365ddc6b6f8f2c13708c1b20e9a", func := "corbel/corbellaw14.NotesBack", spec := "notesBack", unfollowed := true, recurses := true, named := ["corbel/crc.steps"], plainKeys := false, apart := false, laid := [("corbel/crc.steps", laid_corbel_crc_steps)] }
def NotesBackSaid : Prop := notesBackRow.holds Tryd.pinned (OpenSpec.ofChange notesBackSpec)

/-- ITS FALSE NEIGHBOUR: 'it returns false'. Refute it at one input. -/
def notesBackWrong : ChangeSpec := { name := "notesBack", fn := fun _ => fun
  | [d1, d2, d3] => { results := [.lit (.bool false)], args := [d1, d2, d3] }
  | _ => none }
def NotesBackWrongFalsely : Prop := notesBackRow.holds Tryd.pinned (OpenSpec.ofChange notesBackWrong)

/-- 'corbellaw14.NotesOthers': WHATEVER THE INPUT: true; the input reads as it did. -/
def notesOthersSpec : ChangeSpec := { name := "notesOthers", fn := fun _ => fun
  | [d1, d2, d3] => { results := [.lit (.bool true)], args := [d1, d2, d3] }
  | _ => none }
def notesOthersRow : OpenClaim := { program := "ytdjdldcpaidmnaadoor", sum := "5f2f0ccc76e76b61e03c74a914ff25e55c684365ddc6b6f8f2c13708c1b20e9a", func := "corbel/corbellaw14.NotesOthers", spec := "notesOthers", unfollowed := true, recurses := true, named := ["corbel/crc.steps"], plainKeys := false, apart := false, laid := [("corbel/crc.steps", laid_corbel_crc_steps)] }
def NotesOthersSaid : Prop := notesOthersRow.holds Tryd.pinned (OpenSpec.ofChange notesOthersSpec)

/-- ITS FALSE NEIGHBOUR: 'it returns false'. Refute it at one input. -/
def notesOthersWrong : ChangeSpec := { name := "notesOthers", fn := fun _ => fun
  | [d1, d2, d3] => { results := [.lit (.bool false)], args := [d1, d2, d3] }
  | _ => none }
def NotesOthersWrongFalsely : Prop := notesOthersRow.holds Tryd.pinned (OpenSpec.ofChange notesOthersWrong)

/- THE SECOND FORM. 'bulk': how many values and letters a reading holds, each counted each time it is reached (what is shared counts as often as it is met; a slice's spare places count too). A statement '..UptoSaid' is the law's where the arguments, and the package variables that the reading takes, are together of bulk at most 1048576: NARROWER than '..Said'. Prove '..Said' where nothing that the law and all that it calls make is longer than what came in: it says more and counts as full. Else prove '..UptoSaid'. A law counts once. -/
mutual
def uptoBulk {H : Type} : DataW H → Nat
  | .lit (.string bytes) => bytes.length + 1
  | .lit _ => 1
  | .nil => 1
  | .ptr d => uptoBulk d + 1
  | .slice elems spare => uptoBulkAll elems + uptoBulkAll spare + 1
  | .agg parts => uptoBulkAll parts + 1
  | .iface _ d => uptoBulk d + 1
  | .map entries => uptoBulkEntries entries + 1
  | .held _ => 1
def uptoBulkAll {H : Type} : List (DataW H) → Nat
  | [] => 0
  | d :: r => uptoBulk d + uptoBulkAll r
def uptoBulkEntries {H : Type} : List (Lit × DataW H) → Nat
  | [] => 0
  | x :: r => uptoBulkEntry x + uptoBulkEntries r
def uptoBulkEntry {H : Type} : Lit × DataW H → Nat
  | (.string bytes, d) => bytes.length + uptoBulk d + 1
  | (_, d) => uptoBulk d + 1
 end
def uptoSmall : (H : Type) → List (DataW H) → Bool := fun _ ds => decide (uptoBulkAll ds ≤ 1048576)
def OpenSpec.upto (s : _root_.Go.ChangeSpec) : _root_.Go.OpenSpec := { _root_.Go.OpenSpec.ofChange s with cond := some uptoSmall }

/-- 'corbellaw14.NotesFind', WHERE WHAT IT READS IS OF BULK AT MOST 1048576: true; the input reads as it did. -/
def notesFindUptoRow : OpenClaim := { program := "ytdjdldcpaidmnaadoor", sum := "5f2f0ccc76e76b61e03c74a914ff25e55c684365ddc6b6f8f2c13708c1b20e9a", func := "corbel/corbellaw14.NotesFind", spec := "notesFind", unfollowed := true, recurses := true, named := ["corbel/crc.steps"], plainKeys := false, apart := false, laid := [("corbel/crc.steps", laid_corbel_crc_steps)], narrowed := true }
def NotesFindUptoSaid : Prop := notesFindUptoRow.holds Tryd.pinned (OpenSpec.upto notesFindSpec)

/-- 'corbellaw14.NotesMake', WHERE WHAT IT READS IS OF BULK AT MOST 1048576: true; the input reads as it did. -/
def notesMakeUptoRow : OpenClaim := { program := "ytdjdldcpaidmnaadoor", sum := "5f2f0ccc76e76b61e03c74a914ff25e55c684365ddc6b6f8f2c13708c1b20e9a", func := "corbel/corbellaw14.NotesMake", spec := "notesMake", unfollowed := true, recurses := true, named := ["corbel/crc.steps"], plainKeys := false, apart := false, laid := [("corbel/crc.steps", laid_corbel_crc_steps)], narrowed := true }
def NotesMakeUptoSaid : Prop := notesMakeUptoRow.holds Tryd.pinned (OpenSpec.upto notesMakeSpec)

/-- 'corbellaw14.NotesBack', WHERE WHAT IT READS IS OF BULK AT MOST 1048576: true; the input reads as it did. -/
def notesBackUptoRow : OpenClaim := { program := "ytdjdldcpaidmnaadoor", sum := "5f2f0ccc76e76b61e03c74a914ff25e55c684365ddc6b6f8f2c13708c1b20e9a", func := "corbel/corbellaw14.NotesBack", spec := "notesBack", unfollowed := true, recurses := true, named := ["corbel/crc.steps"], plainKeys := false, apart := false, laid := [("corbel/crc.steps", laid_corbel_crc_steps)], narrowed := true }
def NotesBackUptoSaid : Prop := notesBackUptoRow.holds Tryd.pinned (OpenSpec.upto notesBackSpec)

/-- 'corbellaw14.NotesOthers', WHERE WHAT IT READS IS OF BULK AT MOST 1048576: true; the input reads as it did. -/
def notesOthersUptoRow : OpenClaim := { program := "ytdjdldcpaidmnaadoor", sum := "5f2f0ccc76e76b61e03c74a914ff25e55c684365ddc6b6f8f2c13708c1b20e9a", func := "corbel/corbellaw14.NotesOthers", spec := "notesOthers", unfollowed := true, recurses := true, named := ["corbel/crc.steps"], plainKeys := false, apart := false, laid := [("corbel/crc.steps", laid_corbel_crc_steps)], narrowed := true }
def NotesOthersUptoSaid : Prop := notesOthersUptoRow.holds Tryd.pinned (OpenSpec.upto notesOthersSpec)

end Rows
end Go.Proofs.YtdjdldcpaidmnaaDoor
