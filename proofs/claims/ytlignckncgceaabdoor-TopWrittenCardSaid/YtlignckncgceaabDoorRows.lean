/-
  NARROWER THAN 'FOR EVERY INPUT', by the rows' own cells (each row's printed sentence says how): RecordEncodes: laid · RecordDecodes: laid · RecordBack: laid · RecordRots: laid · RecordApart: laid · TopWritten: laid.
  DERIVED. THE GIVEN ROWS OF THIS SEAT. 6 by the template 'for every input the law returns true; each argument reads behind the call as it read before'; 0 by the template 'total and deterministic' (their statements: YtlignckncgceaabDoorTotals.lean).
  GIVEN WITH THE SEED: the statements are not yours to turn. If you find one false, say at which input.
  Laid BY PROGRAM, IN A SANDBOX (cutbox-rows.mjs): the forced cells as the released guide's own fill.sh prints them over the translation 922bb2b6982e938f… (all of the seat's roots in one cut). By AI agents, Wed Nov 11 2026. No macro, syntax, notation, axiom, sorry.
-/
import Derived.Test.YtlignckncgceaabDoorChecked
import GoSem.Claim
import GoSem.ClaimJoined
import GoSem.ClaimMapViews
import Derived.JoinedTies
import Derived.KernelRfl
namespace Go.Proofs.YtlignckncgceaabDoor
/- THE CELL 'sum', in the pinned program and in every row, IS THE sha256 OF THE DUMP (.gsa) THAT YtlignckncgceaabDoorProg.lean LOADS. Nothing in Lean hashes anything: it is a label: what it is worth is what the hold of that sum in a sandbox is worth. -/
noncomputable def Tryd.pinned : Pinned := { name := "ytlignckncgceaabdoor", sum := "922bb2b6982e938f9f1cf377a6dbc208d379739e54bd371c9a0d9db8b77e8956", checked := Tryd.checked }
namespace Rows
def none {H : Type} : Left H := { results := [], args := [] }

/- WHAT THE LISTED PACKAGE-LEVEL VARIABLES READ AS WHEN THE CALL BEGINS. Each datum BY PROGRAM (the guide's laid-datum.mjs) off the statement by which the dump's own 'gosem.cut.vars' lays the variable. In a bare row this is a premise. The card (YtlignckncgceaabDoorCards.lean) ties it to the program's text. -/
def laid_corbel_crc_steps {H : Type} : DataW H := .agg [.lit (.int .u32 0), .lit (.int .u32 274646895), .lit (.int .u32 549293790), .lit (.int .u32 820201905), .lit (.int .u32 1098587580), .lit (.int .u32 1361435347), .lit (.int .u32 1640403810), .lit (.int .u32 1905808397), .lit (.int .u32 2197175160), .lit (.int .u32 2460548119), .lit (.int .u32 2722870694), .lit (.int .u32 2987750089), .lit (.int .u32 3280807620), .lit (.int .u32 3553878443), .lit (.int .u32 3811616794), .lit (.int .u32 4084100981)]

/-- 'corbellaw06.RecordEncodes': WHATEVER THE INPUT: true; the input reads as it did. -/
def recordEncodesSpec : ChangeSpec := { name := "recordEncodes", fn := fun _ => fun
  | [d] => { results := [.lit (.bool true)], args := [d] }
  | _ => none }
def recordEncodesRow : OpenClaim := { program := "ytlignckncgceaabdoor", sum := "922bb2b6982e938f9f1cf377a6dbc208d379739e54bd371c9a0d9db8b77e8956", func := "corbel/corbellaw06.RecordEncodes", spec := "recordEncodes", unfollowed := true, recurses := true, named := ["corbel/crc.steps"], apart := false, laid := [("corbel/crc.steps", laid_corbel_crc_steps)] }
def RecordEncodesSaid : Prop := recordEncodesRow.holds Tryd.pinned (OpenSpec.ofChange recordEncodesSpec)

/-- ITS FALSE NEIGHBOUR: 'it returns false'. Refute it at one input. -/
def recordEncodesWrong : ChangeSpec := { name := "recordEncodes", fn := fun _ => fun
  | [d] => { results := [.lit (.bool false)], args := [d] }
  | _ => none }
def RecordEncodesWrongFalsely : Prop := recordEncodesRow.holds Tryd.pinned (OpenSpec.ofChange recordEncodesWrong)

/-- 'corbellaw06.RecordDecodes': WHATEVER THE INPUT: true; the input reads as it did. -/
def recordDecodesSpec : ChangeSpec := { name := "recordDecodes", fn := fun _ => fun
  | [d] => { results := [.lit (.bool true)], args := [d] }
  | _ => none }
def recordDecodesRow : OpenClaim := { program := "ytlignckncgceaabdoor", sum := "922bb2b6982e938f9f1cf377a6dbc208d379739e54bd371c9a0d9db8b77e8956", func := "corbel/corbellaw06.RecordDecodes", spec := "recordDecodes", unfollowed := true, recurses := true, named := ["corbel/crc.steps"], apart := false, laid := [("corbel/crc.steps", laid_corbel_crc_steps)] }
def RecordDecodesSaid : Prop := recordDecodesRow.holds Tryd.pinned (OpenSpec.ofChange recordDecodesSpec)

/-- ITS FALSE NEIGHBOUR: 'it returns false'. Refute it at one input. -/
def recordDecodesWrong : ChangeSpec := { name := "recordDecodes", fn := fun _ => fun
  | [d] => { results := [.lit (.bool false)], args := [d] }
  | _ => none }
def RecordDecodesWrongFalsely : Prop := recordDecodesRow.holds Tryd.pinned (OpenSpec.ofChange recordDecodesWrong)

/-- 'corbellaw06.RecordBack': WHATEVER THE INPUT: true; the input reads as it did. -/
def recordBackSpec : ChangeSpec := { name := "recordBack", fn := fun _ => fun
  | [d1, d2] => { results := [.lit (.bool true)], args := [d1, d2] }
  | _ => none }
def recordBackRow : OpenClaim := { program := "ytlignckncgceaabdoor", sum := "922bb2b6982e938f9f1cf377a6dbc208d379739e54bd371c9a0d9db8b77e8956", func := "corbel/corbellaw06.RecordBack", spec := "recordBack", unfollowed := true, recurses := true, named := ["corbel/crc.steps"], apart := false, laid := [("corbel/crc.steps", laid_corbel_crc_steps)] }
def RecordBackSaid : Prop := recordBackRow.holds Tryd.pinned (OpenSpec.ofChange recordBackSpec)

/-- ITS FALSE NEIGHBOUR: 'it returns false'. Refute it at one input. -/
def recordBackWrong : ChangeSpec := { name := "recordBack", fn := fun _ => fun
  | [d1, d2] => { results := [.lit (.bool false)], args := [d1, d2] }
  | _ => none }
def RecordBackWrongFalsely : Prop := recordBackRow.holds Tryd.pinned (OpenSpec.ofChange recordBackWrong)

/-- 'corbellaw06.RecordRots': WHATEVER THE INPUT: true; the input reads as it did. -/
def recordRotsSpec : ChangeSpec := { name := "recordRots", fn := fun _ => fun
  | [d1, d2, d3] => { results := [.lit (.bool true)], args := [d1, d2, d3] }
  | _ => none }
def recordRotsRow : OpenClaim := { program := "ytlignckncgceaabdoor", sum := "922bb2b6982e938f9f1cf377a6dbc208d379739e54bd371c9a0d9db8b77e8956", func := "corbel/corbellaw06.RecordRots", spec := "recordRots", unfollowed := true, recurses := true, named := ["corbel/crc.steps"], apart := false, laid := [("corbel/crc.steps", laid_corbel_crc_steps)] }
def RecordRotsSaid : Prop := recordRotsRow.holds Tryd.pinned (OpenSpec.ofChange recordRotsSpec)

/-- ITS FALSE NEIGHBOUR: 'it returns false'. Refute it at one input. -/
def recordRotsWrong : ChangeSpec := { name := "recordRots", fn := fun _ => fun
  | [d1, d2, d3] => { results := [.lit (.bool false)], args := [d1, d2, d3] }
  | _ => none }
def RecordRotsWrongFalsely : Prop := recordRotsRow.holds Tryd.pinned (OpenSpec.ofChange recordRotsWrong)

/-- 'corbellaw06.RecordApart': WHATEVER THE INPUT: true; the input reads as it did. -/
def recordApartSpec : ChangeSpec := { name := "recordApart", fn := fun _ => fun
  | [d1, d2] => { results := [.lit (.bool true)], args := [d1, d2] }
  | _ => none }
def recordApartRow : OpenClaim := { program := "ytlignckncgceaabdoor", sum := "922bb2b6982e938f9f1cf377a6dbc208d379739e54bd371c9a0d9db8b77e8956", func := "corbel/corbellaw06.RecordApart", spec := "recordApart", unfollowed := true, recurses := true, named := ["corbel/crc.steps"], apart := false, laid := [("corbel/crc.steps", laid_corbel_crc_steps)] }
def RecordApartSaid : Prop := recordApartRow.holds Tryd.pinned (OpenSpec.ofChange recordApartSpec)

/-- ITS FALSE NEIGHBOUR: 'it returns false'. Refute it at one input. -/
def recordApartWrong : ChangeSpec := { name := "recordApart", fn := fun _ => fun
  | [d1, d2] => { results := [.lit (.bool false)], args := [d1, d2] }
  | _ => none }
def RecordApartWrongFalsely : Prop := recordApartRow.holds Tryd.pinned (OpenSpec.ofChange recordApartWrong)

/-- 'corbeltop.TopWritten': WHATEVER THE INPUT: true; the input reads as it did. -/
def topWrittenSpec : ChangeSpec := { name := "topWritten", fn := fun _ => fun
  | [d1, d2, d3] => { results := [.lit (.bool true)], args := [d1, d2, d3] }
  | _ => none }
def topWrittenRow : OpenClaim := { program := "ytlignckncgceaabdoor", sum := "922bb2b6982e938f9f1cf377a6dbc208d379739e54bd371c9a0d9db8b77e8956", func := "corbel/corbeltop.TopWritten", spec := "topWritten", unfollowed := true, recurses := true, named := ["corbel/crc.steps"], apart := false, laid := [("corbel/crc.steps", laid_corbel_crc_steps)] }
def TopWrittenSaid : Prop := topWrittenRow.holds Tryd.pinned (OpenSpec.ofChange topWrittenSpec)

/-- ITS FALSE NEIGHBOUR: 'it returns false'. Refute it at one input. -/
def topWrittenWrong : ChangeSpec := { name := "topWritten", fn := fun _ => fun
  | [d1, d2, d3] => { results := [.lit (.bool false)], args := [d1, d2, d3] }
  | _ => none }
def TopWrittenWrongFalsely : Prop := topWrittenRow.holds Tryd.pinned (OpenSpec.ofChange topWrittenWrong)

/- THE SECOND FORM. 'bulk': how many values and letters a reading holds, each counted each time it is reached (what is shared counts as often as it is met; a slice's spare places count too). A statement '..UptoSaid' is the law's where the arguments, and the package variables that the reading takes, are together of bulk at most 1048576: NARROWER than '..Said'. Prove '..Said' where nothing that the law and all that it calls make is longer than what came in: it says more and counts as full. Else prove '..UptoSaid'. A law counts once. -/
mutual
def uptoBulk {H : Type} : DataW H → Nat
  | .lit (.string bytes) => bytes.length + 1
  | .lit _ => 1
  | .nil => 1
  | .ptr d => uptoBulk d + 1
  | .slice elems spare => uptoBulkAll elems + uptoBulkAll spare + 1
  | .agg parts => uptoBulkAll parts + 1
  | .iface _ d => uptoBulk d + 1
  | .map entries => uptoBulkEntries entries + 1
  | .held _ => 1
def uptoBulkAll {H : Type} : List (DataW H) → Nat
  | [] => 0
  | d :: r => uptoBulk d + uptoBulkAll r
def uptoBulkEntries {H : Type} : List (Lit × DataW H) → Nat
  | [] => 0
  | x :: r => uptoBulkEntry x + uptoBulkEntries r
def uptoBulkEntry {H : Type} : Lit × DataW H → Nat
  | (.string bytes, d) => bytes.length + uptoBulk d + 1
  | (_, d) => uptoBulk d + 1
 end
def uptoSmall : (H : Type) → List (DataW H) → Bool := fun _ ds => decide (uptoBulkAll ds ≤ 1048576)
def OpenSpec.upto (s : _root_.Go.ChangeSpec) : _root_.Go.OpenSpec := { _root_.Go.OpenSpec.ofChange s with cond := some uptoSmall }

/-- 'corbellaw06.RecordEncodes', WHERE WHAT IT READS IS OF BULK AT MOST 1048576: true; the input reads as it did. -/
def recordEncodesUptoRow : OpenClaim := { program := "ytlignckncgceaabdoor", sum := "922bb2b6982e938f9f1cf377a6dbc208d379739e54bd371c9a0d9db8b77e8956", func := "corbel/corbellaw06.RecordEncodes", spec := "recordEncodes", unfollowed := true, recurses := true, named := ["corbel/crc.steps"], apart := false, laid := [("corbel/crc.steps", laid_corbel_crc_steps)], narrowed := true }
def RecordEncodesUptoSaid : Prop := recordEncodesUptoRow.holds Tryd.pinned (OpenSpec.upto recordEncodesSpec)

/-- 'corbellaw06.RecordDecodes', WHERE WHAT IT READS IS OF BULK AT MOST 1048576: true; the input reads as it did. -/
def recordDecodesUptoRow : OpenClaim := { program := "ytlignckncgceaabdoor", sum := "922bb2b6982e938f9f1cf377a6dbc208d379739e54bd371c9a0d9db8b77e8956", func := "corbel/corbellaw06.RecordDecodes", spec := "recordDecodes", unfollowed := true, recurses := true, named := ["corbel/crc.steps"], apart := false, laid := [("corbel/crc.steps", laid_corbel_crc_steps)], narrowed := true }
def RecordDecodesUptoSaid : Prop := recordDecodesUptoRow.holds Tryd.pinned (OpenSpec.upto recordDecodesSpec)

/-- 'corbellaw06.RecordBack', WHERE WHAT IT READS IS OF BULK AT MOST 1048576: true; the input reads as it did. -/
def recordBackUptoRow : OpenClaim := { program := "ytlignckncgceaabdoor", sum := "922bb2b6982e938f9f1cf377a6dbc208d379739e54bd371c9a0d9db8b77e8956", func := "corbel/corbellaw06.RecordBack", spec := "recordBack", unfollowed := true, recurses := true, named := ["corbel/crc.steps"], apart := false, laid := [("corbel/crc.steps", laid_corbel_crc_steps)], narrowed := true }
def RecordBackUptoSaid : Prop := recordBackUptoRow.holds Tryd.pinned (OpenSpec.upto recordBackSpec)

/-- 'corbellaw06.RecordRots', WHERE WHAT IT READS IS OF BULK AT MOST 1048576: true; the input reads as it did. -/
def recordRotsUptoRow : OpenClaim := { program := "ytlignckncgceaabdoor", sum := "922bb2b6982e938f9f1cf377a6dbc208d379739e54bd371c9a0d9db8b77e8956", func := "corbel/corbellaw06.RecordRots", spec := "recordRots", unfollowed := true, recurses := true, named := ["corbel/crc.steps"], apart := false, laid := [("corbel/crc.steps", laid_corbel_crc_steps)], narrowed := true }
def RecordRotsUptoSaid : Prop := recordRotsUptoRow.holds Tryd.pinned (OpenSpec.upto recordRotsSpec)

/-- 'corbellaw06.RecordApart', WHERE WHAT IT READS IS OF BULK AT MOST 1048576: true; the input reads as it did. -/
def recordApartUptoRow : OpenClaim := { program := "ytlignckncgceaabdoor", sum := "922bb2b6982e938f9f1cf377a6dbc208d379739e54bd371c9a0d9db8b77e8956", func := "corbel/corbellaw06.RecordApart", spec := "recordApart", unfollowed := true, recurses := true, named := ["corbel/crc.steps"], apart := false, laid := [("corbel/crc.steps", laid_corbel_crc_steps)], narrowed := true }
def RecordApartUptoSaid : Prop := recordApartUptoRow.holds Tryd.pinned (OpenSpec.upto recordApartSpec)

/-- 'corbeltop.TopWritten', WHERE WHAT IT READS IS OF BULK AT MOST 1048576: true; the input reads as it did. -/
def topWrittenUptoRow : OpenClaim := { program := "ytlignckncgceaabdoor", sum := "922bb2b6982e938f9f1cf377a6dbc208d379739e54bd371c9a0d9db8b77e8956", func := "corbel/corbeltop.TopWritten", spec := "topWritten", unfollowed := true, recurses := true, named := ["corbel/crc.steps"], apart := false, laid := [("corbel/crc.steps", laid_corbel_crc_steps)], narrowed := true }
def TopWrittenUptoSaid : Prop := topWrittenUptoRow.holds Tryd.pinned (OpenSpec.upto topWrittenSpec)

end Rows
end Go.Proofs.YtlignckncgceaabDoor
