/-
  NARROWER THAN 'FOR EVERY INPUT', by the rows' own cells (each row's printed sentence says how): MlogNil: laid · MlogTurns: laid · MlogTorn: laid · TopBooks: laid.
  DERIVED. THE GIVEN ROWS OF THIS SEAT. 4 by the template 'for every input the law returns true; each argument reads behind the call as it read before'; 0 by the template 'total and deterministic' (their statements: YtpmhfalhieinjaaGreatDoorTotals.lean).
  GIVEN WITH THE SEED: the statements are not yours to turn. If you find one false, say at which input.
  Laid BY PROGRAM, IN A SANDBOX (cutbox-rows.mjs): the forced cells as the released guide's own fill.sh prints them over the translation e4fcd4ceb12dffa6… (all of the seat's roots in one cut). By AI agents, Wed Nov 11 2026. No macro, syntax, notation, axiom, sorry.
-/
import Derived.Test.YtpmhfalhieinjaaGreatDoorChecked
import GoSem.Claim
import GoSem.ClaimJoined
import GoSem.ClaimMapViews
import Derived.JoinedTies
import Derived.KernelRfl
namespace Go.Proofs.YtpmhfalhieinjaaGreatDoor
/- THE CELL 'sum', in the pinned program and in every row, IS THE sha256 OF THE DUMP (.gsa) THAT YtpmhfalhieinjaaGreatDoorProg.lean LOADS. Nothing in Lean hashes anything: it is a label: what it is worth is what the hold of that sum in a sandbox is worth. -/
noncomputable def Tryz.pinned : Pinned := { name := "ytpmhfalhieinjaagreatdoor", sum := "e4fcd4ceb12dffa6a0ef6105219a33739cf68d9e42477a4925ec3e4fc4ff6b32", checked := Tryz.checked }
namespace Rows
def none {H : Type} : Left H := { results := [], args := [] }

/- WHAT THE LISTED PACKAGE-LEVEL VARIABLES READ AS WHEN THE CALL BEGINS. Each datum BY PROGRAM (the guide's laid-datum.mjs) off the statement by which the dump's own 'gosem.cut.vars' lays the variable. In a bare row this is a premise. The card (YtpmhfalhieinjaaGreatDoorCards.lean) ties it to the program's text. -/
def laid_corbel_crc_steps {H : Type} : DataW H := .agg [.lit (.int .u32 0), .lit (.int .u32 274646895), .lit (.int .u32 549293790), .lit (.int .u32 820201905), .lit (.int .u32 1098587580), .lit (.int .u32 1361435347), .lit (.int .u32 1640403810), .lit (.int .u32 1905808397), .lit (.int .u32 2197175160), .lit (.int .u32 2460548119), .lit (.int .u32 2722870694), .lit (.int .u32 2987750089), .lit (.int .u32 3280807620), .lit (.int .u32 3553878443), .lit (.int .u32 3811616794), .lit (.int .u32 4084100981)]

/-- 'corbellaw09.MlogNil': WHATEVER THE INPUT: true; the input reads as it did. -/
def mlogNilSpec : ChangeSpec := { name := "mlogNil", fn := fun _ => fun
  | [d] => { results := [.lit (.bool true)], args := [d] }
  | _ => none }
def mlogNilRow : OpenClaim := { program := "ytpmhfalhieinjaagreatdoor", sum := "e4fcd4ceb12dffa6a0ef6105219a33739cf68d9e42477a4925ec3e4fc4ff6b32", func := "corbel/corbellaw09.MlogNil", spec := "mlogNil", inPlace := ["internal/abi.NoEscape"], unfollowed := true, recurses := true, named := ["corbel/crc.steps"], plainKeys := false, apart := false, laid := [("corbel/crc.steps", laid_corbel_crc_steps)] }
def MlogNilSaid : Prop := mlogNilRow.holds Tryz.pinned (OpenSpec.ofChange mlogNilSpec)

/-- ITS FALSE NEIGHBOUR: 'it returns false'. Refute it at one input. -/
def mlogNilWrong : ChangeSpec := { name := "mlogNil", fn := fun _ => fun
  | [d] => { results := [.lit (.bool false)], args := [d] }
  | _ => none }
def MlogNilWrongFalsely : Prop := mlogNilRow.holds Tryz.pinned (OpenSpec.ofChange mlogNilWrong)

/-- 'corbellaw09.MlogTurns': WHATEVER THE INPUT: true; the input reads as it did. -/
def mlogTurnsSpec : ChangeSpec := { name := "mlogTurns", fn := fun _ => fun
  | [d] => { results := [.lit (.bool true)], args := [d] }
  | _ => none }
def mlogTurnsRow : OpenClaim := { program := "ytpmhfalhieinjaagreatdoor", sum := "e4fcd4ceb12dffa6a0ef6105219a33739cf68d9e42477a4925ec3e4fc4ff6b32", func := "corbel/corbellaw09.MlogTurns", spec := "mlogTurns", inPlace := ["internal/abi.NoEscape"], unfollowed := true, recurses := true, named := ["corbel/crc.steps"], plainKeys := false, apart := false, laid := [("corbel/crc.steps", laid_corbel_crc_steps)] }
def MlogTurnsSaid : Prop := mlogTurnsRow.holds Tryz.pinned (OpenSpec.ofChange mlogTurnsSpec)

/-- ITS FALSE NEIGHBOUR: 'it returns false'. Refute it at one input. -/
def mlogTurnsWrong : ChangeSpec := { name := "mlogTurns", fn := fun _ => fun
  | [d] => { results := [.lit (.bool false)], args := [d] }
  | _ => none }
def MlogTurnsWrongFalsely : Prop := mlogTurnsRow.holds Tryz.pinned (OpenSpec.ofChange mlogTurnsWrong)

/-- 'corbellaw09.MlogTorn': WHATEVER THE INPUT: true; the input reads as it did. -/
def mlogTornSpec : ChangeSpec := { name := "mlogTorn", fn := fun _ => fun
  | [d1, d2] => { results := [.lit (.bool true)], args := [d1, d2] }
  | _ => none }
def mlogTornRow : OpenClaim := { program := "ytpmhfalhieinjaagreatdoor", sum := "e4fcd4ceb12dffa6a0ef6105219a33739cf68d9e42477a4925ec3e4fc4ff6b32", func := "corbel/corbellaw09.MlogTorn", spec := "mlogTorn", inPlace := ["internal/abi.NoEscape"], unfollowed := true, recurses := true, named := ["corbel/crc.steps"], plainKeys := false, apart := false, laid := [("corbel/crc.steps", laid_corbel_crc_steps)] }
def MlogTornSaid : Prop := mlogTornRow.holds Tryz.pinned (OpenSpec.ofChange mlogTornSpec)

/-- ITS FALSE NEIGHBOUR: 'it returns false'. Refute it at one input. -/
def mlogTornWrong : ChangeSpec := { name := "mlogTorn", fn := fun _ => fun
  | [d1, d2] => { results := [.lit (.bool false)], args := [d1, d2] }
  | _ => none }
def MlogTornWrongFalsely : Prop := mlogTornRow.holds Tryz.pinned (OpenSpec.ofChange mlogTornWrong)

/-- 'corbeltop.TopBooks': WHATEVER THE INPUT: true; the input reads as it did. -/
def topBooksSpec : ChangeSpec := { name := "topBooks", fn := fun _ => fun
  | [d1, d2, d3] => { results := [.lit (.bool true)], args := [d1, d2, d3] }
  | _ => none }
def topBooksRow : OpenClaim := { program := "ytpmhfalhieinjaagreatdoor", sum := "e4fcd4ceb12dffa6a0ef6105219a33739cf68d9e42477a4925ec3e4fc4ff6b32", func := "corbel/corbeltop.TopBooks", spec := "topBooks", inPlace := ["internal/abi.NoEscape"], unfollowed := true, recurses := true, named := ["corbel/crc.steps"], plainKeys := false, apart := false, laid := [("corbel/crc.steps", laid_corbel_crc_steps)] }
def TopBooksSaid : Prop := topBooksRow.holds Tryz.pinned (OpenSpec.ofChange topBooksSpec)

/-- ITS FALSE NEIGHBOUR: 'it returns false'. Refute it at one input. -/
def topBooksWrong : ChangeSpec := { name := "topBooks", fn := fun _ => fun
  | [d1, d2, d3] => { results := [.lit (.bool false)], args := [d1, d2, d3] }
  | _ => none }
def TopBooksWrongFalsely : Prop := topBooksRow.holds Tryz.pinned (OpenSpec.ofChange topBooksWrong)

/- THE SECOND FORM. 'bulk': how many values and letters a reading holds, each counted each time it is reached (what is shared counts as often as it is met; a slice's spare places count too). A statement '..UptoSaid' is the law's where the arguments, and the package variables that the reading takes, are together of bulk at most 1048576: NARROWER than '..Said'. Prove '..Said' where nothing that the law and all that it calls make is longer than what came in: it says more and counts as full. Else prove '..UptoSaid'. A law counts once. -/
mutual
def uptoBulk {H : Type} : DataW H → Nat
  | .lit (.string bytes) => bytes.length + 1
  | .lit _ => 1
  | .nil => 1
  | .ptr d => uptoBulk d + 1
  | .slice elems spare => uptoBulkAll elems + uptoBulkAll spare + 1
  | .agg parts => uptoBulkAll parts + 1
  | .iface _ d => uptoBulk d + 1
  | .map entries => uptoBulkEntries entries + 1
  | .held _ => 1
def uptoBulkAll {H : Type} : List (DataW H) → Nat
  | [] => 0
  | d :: r => uptoBulk d + uptoBulkAll r
def uptoBulkEntries {H : Type} : List (Lit × DataW H) → Nat
  | [] => 0
  | x :: r => uptoBulkEntry x + uptoBulkEntries r
def uptoBulkEntry {H : Type} : Lit × DataW H → Nat
  | (.string bytes, d) => bytes.length + uptoBulk d + 1
  | (_, d) => uptoBulk d + 1
 end
def uptoSmall : (H : Type) → List (DataW H) → Bool := fun _ ds => decide (uptoBulkAll ds ≤ 1048576)
def OpenSpec.upto (s : _root_.Go.ChangeSpec) : _root_.Go.OpenSpec := { _root_.Go.OpenSpec.ofChange s with cond := some uptoSmall }

/-- 'corbellaw09.MlogNil', WHERE WHAT IT READS IS OF BULK AT MOST 1048576: true; the input reads as it did. -/
def mlogNilUptoRow : OpenClaim := { program := "ytpmhfalhieinjaagreatdoor", sum := "e4fcd4ceb12dffa6a0ef6105219a33739cf68d9e42477a4925ec3e4fc4ff6b32", func := "corbel/corbellaw09.MlogNil", spec := "mlogNil", inPlace := ["internal/abi.NoEscape"], unfollowed := true, recurses := true, named := ["corbel/crc.steps"], plainKeys := false, apart := false, laid := [("corbel/crc.steps", laid_corbel_crc_steps)], narrowed := true }
def MlogNilUptoSaid : Prop := mlogNilUptoRow.holds Tryz.pinned (OpenSpec.upto mlogNilSpec)

/-- 'corbellaw09.MlogTurns', WHERE WHAT IT READS IS OF BULK AT MOST 1048576: true; the input reads as it did. -/
def mlogTurnsUptoRow : OpenClaim := { program := "ytpmhfalhieinjaagreatdoor", sum := "e4fcd4ceb12dffa6a0ef6105219a33739cf68d9e42477a4925ec3e4fc4ff6b32", func := "corbel/corbellaw09.MlogTurns", spec := "mlogTurns", inPlace := ["internal/abi.NoEscape"], unfollowed := true, recurses := true, named := ["corbel/crc.steps"], plainKeys := false, apart := false, laid := [("corbel/crc.steps", laid_corbel_crc_steps)], narrowed := true }
def MlogTurnsUptoSaid : Prop := mlogTurnsUptoRow.holds Tryz.pinned (OpenSpec.upto mlogTurnsSpec)

/-- 'corbellaw09.MlogTorn', WHERE WHAT IT READS IS OF BULK AT MOST 1048576: true; the input reads as it did. -/
def mlogTornUptoRow : OpenClaim := { program := "ytpmhfalhieinjaagreatdoor", sum := "e4fcd4ceb12dffa6a0ef6105219a33739cf68d9e42477a4925ec3e4fc4ff6b32", func := "corbel/corbellaw09.MlogTorn", spec := "mlogTorn", inPlace := ["internal/abi.NoEscape"], unfollowed := true, recurses := true, named := ["corbel/crc.steps"], plainKeys := false, apart := false, laid := [("corbel/crc.steps", laid_corbel_crc_steps)], narrowed := true }
def MlogTornUptoSaid : Prop := mlogTornUptoRow.holds Tryz.pinned (OpenSpec.upto mlogTornSpec)

/-- 'corbeltop.TopBooks', WHERE WHAT IT READS IS OF BULK AT MOST 1048576: true; the input reads as it did. -/
def topBooksUptoRow : OpenClaim := { program := "ytpmhfalhieinjaagreatdoor", sum := "e4fcd4ceb12dffa6a0ef6105219a33739cf68d9e42477a4925ec3e4fc4ff6b32", func := "corbel/corbeltop.TopBooks", spec := "topBooks", inPlace := ["internal/abi.NoEscape"], unfollowed := true, recurses := true, named := ["corbel/crc.steps"], plainKeys := false, apart := false, laid := [("corbel/crc.steps", laid_corbel_crc_steps)], narrowed := true }
def TopBooksUptoSaid : Prop := topBooksUptoRow.holds Tryz.pinned (OpenSpec.upto topBooksSpec)

end Rows
end Go.Proofs.YtpmhfalhieinjaaGreatDoor
