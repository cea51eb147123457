/-
  NARROWER THAN 'FOR EVERY INPUT', by the rows' own cells (each row's printed sentence says how): GroupEncodes: laid · GroupCut: laid · GroupMany: laid.
  DERIVED. THE GIVEN ROWS OF THIS SEAT. 3 by the template 'for every input the law returns true; each argument reads behind the call as it read before'; 0 by the template 'total and deterministic' (their statements: YtbgkmppngnedlaaDoorTotals.lean).
  GIVEN WITH THE SEED: the statements are not yours to turn. If you find one false, say at which input.
  Laid BY PROGRAM, IN A SANDBOX (cutbox-rows.mjs): the forced cells as the released guide's own fill.sh prints them over the translation cab9670b88466733… (all of the seat's roots in one cut). By AI agents, Wed Nov 11 2026. No macro, syntax, notation, axiom, sorry.
-/
import Derived.Test.YtbgkmppngnedlaaDoorChecked
import GoSem.Claim
import GoSem.ClaimJoined
import GoSem.ClaimMapViews
import Derived.JoinedTies
import Derived.KernelRfl
namespace Go.Proofs.YtbgkmppngnedlaaDoor
/- THE CELL 'sum', in the pinned program and in every row, IS THE sha256 OF THE DUMP (.gsa) THAT YtbgkmppngnedlaaDoorProg.lean LOADS. Nothing in Lean hashes anything: it is a label: what it is worth is what the hold of that sum in a sandbox is worth. -/
noncomputable def Tryd.pinned : Pinned := { name := "ytbgkmppngnedlaadoor", sum := "cab9670b88466733e6e1d6aaad2aa214a7de703d5be73d89c89990fc0d913df9", checked := Tryd.checked }
namespace Rows
def none {H : Type} : Left H := { results := [], args := [] }

/- WHAT THE LISTED PACKAGE-LEVEL VARIABLES READ AS WHEN THE CALL BEGINS. Each datum BY PROGRAM (the guide's laid-datum.mjs) off the statement by which the dump's own 'gosem.cut.vars' lays the variable. In a bare row this is a premise. The card (YtbgkmppngnedlaaDoorCards.lean) ties it to the program's text. -/
def laid_corbel_crc_steps {H : Type} : DataW H := .agg [.lit (.int .u32 0), .lit (.int .u32 274646895), .lit (.int .u32 549293790), .lit (.int .u32 820201905), .lit (.int .u32 1098587580), .lit (.int .u32 1361435347), .lit (.int .u32 1640403810), .lit (.int .u32 1905808397), .lit (.int .u32 2197175160), .lit (.int .u32 2460548119), .lit (.int .u32 2722870694), .lit (.int .u32 2987750089), .lit (.int .u32 3280807620), .lit (.int .u32 3553878443), .lit (.int .u32 3811616794), .lit (.int .u32 4084100981)]

/-- 'corbellaw18.GroupEncodes': WHATEVER THE INPUT: true; the input reads as it did. -/
def groupEncodesSpec : ChangeSpec := { name := "groupEncodes", fn := fun _ => fun
  | [d] => { results := [.lit (.bool true)], args := [d] }
  | _ => none }
def groupEncodesRow : OpenClaim := { program := "ytbgkmppngnedlaadoor", sum := "cab9670b88466733e6e1d6aaad2aa214a7de703d5be73d89c89990fc0d913df9", func := "corbel/corbellaw18.GroupEncodes", spec := "groupEncodes", inPlace := ["internal/abi.NoEscape", "internal/bytealg.MakeNoZero"], named := ["corbel/crc.steps"], apart := false, laid := [("corbel/crc.steps", laid_corbel_crc_steps)] }
def GroupEncodesSaid : Prop := groupEncodesRow.holds Tryd.pinned (OpenSpec.ofChange groupEncodesSpec)

/-- ITS FALSE NEIGHBOUR: 'it returns false'. Refute it at one input. -/
def groupEncodesWrong : ChangeSpec := { name := "groupEncodes", fn := fun _ => fun
  | [d] => { results := [.lit (.bool false)], args := [d] }
  | _ => none }
def GroupEncodesWrongFalsely : Prop := groupEncodesRow.holds Tryd.pinned (OpenSpec.ofChange groupEncodesWrong)

/-- 'corbellaw18.GroupCut': WHATEVER THE INPUT: true; the input reads as it did. -/
def groupCutSpec : ChangeSpec := { name := "groupCut", fn := fun _ => fun
  | [d1, d2, d3] => { results := [.lit (.bool true)], args := [d1, d2, d3] }
  | _ => none }
def groupCutRow : OpenClaim := { program := "ytbgkmppngnedlaadoor", sum := "cab9670b88466733e6e1d6aaad2aa214a7de703d5be73d89c89990fc0d913df9", func := "corbel/corbellaw18.GroupCut", spec := "groupCut", inPlace := ["internal/abi.NoEscape", "internal/bytealg.MakeNoZero"], named := ["corbel/crc.steps"], apart := false, laid := [("corbel/crc.steps", laid_corbel_crc_steps)] }
def GroupCutSaid : Prop := groupCutRow.holds Tryd.pinned (OpenSpec.ofChange groupCutSpec)

/-- ITS FALSE NEIGHBOUR: 'it returns false'. Refute it at one input. -/
def groupCutWrong : ChangeSpec := { name := "groupCut", fn := fun _ => fun
  | [d1, d2, d3] => { results := [.lit (.bool false)], args := [d1, d2, d3] }
  | _ => none }
def GroupCutWrongFalsely : Prop := groupCutRow.holds Tryd.pinned (OpenSpec.ofChange groupCutWrong)

/-- 'corbellaw18.GroupMany': WHATEVER THE INPUT: true; the input reads as it did. -/
def groupManySpec : ChangeSpec := { name := "groupMany", fn := fun _ => fun
  | [d] => { results := [.lit (.bool true)], args := [d] }
  | _ => none }
def groupManyRow : OpenClaim := { program := "ytbgkmppngnedlaadoor", sum := "cab9670b88466733e6e1d6aaad2aa214a7de703d5be73d89c89990fc0d913df9", func := "corbel/corbellaw18.GroupMany", spec := "groupMany", inPlace := ["internal/abi.NoEscape", "internal/bytealg.MakeNoZero"], named := ["corbel/crc.steps"], apart := false, laid := [("corbel/crc.steps", laid_corbel_crc_steps)] }
def GroupManySaid : Prop := groupManyRow.holds Tryd.pinned (OpenSpec.ofChange groupManySpec)

/-- ITS FALSE NEIGHBOUR: 'it returns false'. Refute it at one input. -/
def groupManyWrong : ChangeSpec := { name := "groupMany", fn := fun _ => fun
  | [d] => { results := [.lit (.bool false)], args := [d] }
  | _ => none }
def GroupManyWrongFalsely : Prop := groupManyRow.holds Tryd.pinned (OpenSpec.ofChange groupManyWrong)

/- THE SECOND FORM. 'bulk': how many values and letters a reading holds, each counted each time it is reached (what is shared counts as often as it is met; a slice's spare places count too). A statement '..UptoSaid' is the law's where the arguments, and the package variables that the reading takes, are together of bulk at most 1048576: NARROWER than '..Said'. Prove '..Said' where nothing that the law and all that it calls make is longer than what came in: it says more and counts as full. Else prove '..UptoSaid'. A law counts once. -/
mutual
def uptoBulk {H : Type} : DataW H → Nat
  | .lit (.string bytes) => bytes.length + 1
  | .lit _ => 1
  | .nil => 1
  | .ptr d => uptoBulk d + 1
  | .slice elems spare => uptoBulkAll elems + uptoBulkAll spare + 1
  | .agg parts => uptoBulkAll parts + 1
  | .iface _ d => uptoBulk d + 1
  | .map entries => uptoBulkEntries entries + 1
  | .held _ => 1
def uptoBulkAll {H : Type} : List (DataW H) → Nat
  | [] => 0
  | d :: r => uptoBulk d + uptoBulkAll r
def uptoBulkEntries {H : Type} : List (Lit × DataW H) → Nat
  | [] => 0
  | x :: r => uptoBulkEntry x + uptoBulkEntries r
def uptoBulkEntry {H : Type} : Lit × DataW H → Nat
  | (.string bytes, d) => bytes.length + uptoBulk d + 1
  | (_, d) => uptoBulk d + 1
 end
def uptoSmall : (H : Type) → List (DataW H) → Bool := fun _ ds => decide (uptoBulkAll ds ≤ 1048576)
def OpenSpec.upto (s : _root_.Go.ChangeSpec) : _root_.Go.OpenSpec := { _root_.Go.OpenSpec.ofChange s with cond := some uptoSmall }

/-- 'corbellaw18.GroupEncodes', WHERE WHAT IT READS IS OF BULK AT MOST 1048576: true; the input reads as it did. -/
def groupEncodesUptoRow : OpenClaim := { program := "ytbgkmppngnedlaadoor", sum := "cab9670b88466733e6e1d6aaad2aa214a7de703d5be73d89c89990fc0d913df9", func := "corbel/corbellaw18.GroupEncodes", spec := "groupEncodes", inPlace := ["internal/abi.NoEscape", "internal/bytealg.MakeNoZero"], named := ["corbel/crc.steps"], apart := false, laid := [("corbel/crc.steps", laid_corbel_crc_steps)], narrowed := true }
def GroupEncodesUptoSaid : Prop := groupEncodesUptoRow.holds Tryd.pinned (OpenSpec.upto groupEncodesSpec)

/-- 'corbellaw18.GroupCut', WHERE WHAT IT READS IS OF BULK AT MOST 1048576: true; the input reads as it did. -/
def groupCutUptoRow : OpenClaim := { program := "ytbgkmppngnedlaadoor", sum := "cab9670b88466733e6e1d6aaad2aa214a7de703d5be73d89c89990fc0d913df9", func := "corbel/corbellaw18.GroupCut", spec := "groupCut", inPlace := ["internal/abi.NoEscape", "internal/bytealg.MakeNoZero"], named := ["corbel/crc.steps"], apart := false, laid := [("corbel/crc.steps", laid_corbel_crc_steps)], narrowed := true }
def GroupCutUptoSaid : Prop := groupCutUptoRow.holds Tryd.pinned (OpenSpec.upto groupCutSpec)

/-- 'corbellaw18.GroupMany', WHERE WHAT IT READS IS OF BULK AT MOST 1048576: true; the input reads as it did. -/
def groupManyUptoRow : OpenClaim := { program := "ytbgkmppngnedlaadoor", sum := "cab9670b88466733e6e1d6aaad2aa214a7de703d5be73d89c89990fc0d913df9", func := "corbel/corbellaw18.GroupMany", spec := "groupMany", inPlace := ["internal/abi.NoEscape", "internal/bytealg.MakeNoZero"], named := ["corbel/crc.steps"], apart := false, laid := [("corbel/crc.steps", laid_corbel_crc_steps)], narrowed := true }
def GroupManyUptoSaid : Prop := groupManyUptoRow.holds Tryd.pinned (OpenSpec.upto groupManySpec)

end Rows
end Go.Proofs.YtbgkmppngnedlaaDoor
