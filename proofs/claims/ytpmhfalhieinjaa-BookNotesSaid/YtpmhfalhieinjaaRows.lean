/-
  No cell of these rows narrows 'for every input' (looked for: loops, veiled, ifaces, maps, wideKeys, modest, calm, conditions, laid).
  DERIVED. THE GIVEN ROWS OF THIS SEAT. 4 by the template 'for every input the law returns true; each argument reads behind the call as it read before'; 0 by the template 'total and deterministic' (their statements: YtpmhfalhieinjaaTotals.lean).
  GIVEN WITH THE SEED: the statements are not yours to turn. If you find one false, say at which input.
  Laid BY PROGRAM, IN A SANDBOX (cutbox-rows.mjs): the forced cells as the released guide's own fill.sh prints them over the translation 1e31ac7c6aaabcdf… (all of the seat's roots in one cut). By AI agents, Wed Nov 11 2026. No macro, syntax, notation, axiom, sorry.
-/
import Derived.Test.YtpmhfalhieinjaaChecked
import GoSem.Claim
import GoSem.ClaimJoined
import GoSem.ClaimMapViews
import Derived.JoinedTies
import Derived.KernelRfl
namespace Go.Proofs.Ytpmhfalhieinjaa
/- THE CELL 'sum', in the pinned program and in every row, IS THE sha256 OF THE DUMP (.gsa) THAT YtpmhfalhieinjaaProg.lean LOADS. Nothing in Lean hashes anything: it is a label: what it is worth is what the hold of that sum in a sandbox is worth. -/
noncomputable def Try.pinned : Pinned := { name := "ytpmhfalhieinjaa", sum := "1e31ac7c6aaabcdfb4b1b83a58ccb226d04109e97db71015a221563442cee2fa", checked := Try.checked }
namespace Rows
def none {H : Type} : Left H := { results := [], args := [] }

/-- 'corbellaw10.BookReads': WHATEVER THE INPUT: true; the input reads as it did. -/
def bookReadsSpec : ChangeSpec := { name := "bookReads", fn := fun _ => fun
  | [d1, d2] => { results := [.lit (.bool true)], args := [d1, d2] }
  | _ => none }
def bookReadsRow : OpenClaim := { program := "ytpmhfalhieinjaa", sum := "1e31ac7c6aaabcdfb4b1b83a58ccb226d04109e97db71015a221563442cee2fa", func := "corbel/corbellaw10.BookReads", spec := "bookReads", unfollowed := true, recurses := true, plainKeys := false, apart := false }
def BookReadsSaid : Prop := bookReadsRow.holds Try.pinned (OpenSpec.ofChange bookReadsSpec)

/-- ITS FALSE NEIGHBOUR: 'it returns false'. Refute it at one input. -/
def bookReadsWrong : ChangeSpec := { name := "bookReads", fn := fun _ => fun
  | [d1, d2] => { results := [.lit (.bool false)], args := [d1, d2] }
  | _ => none }
def BookReadsWrongFalsely : Prop := bookReadsRow.holds Try.pinned (OpenSpec.ofChange bookReadsWrong)

/-- 'corbellaw10.BookWrites': WHATEVER THE INPUT: true; the input reads as it did. -/
def bookWritesSpec : ChangeSpec := { name := "bookWrites", fn := fun _ => fun
  | [d1, d2, d3] => { results := [.lit (.bool true)], args := [d1, d2, d3] }
  | _ => none }
def bookWritesRow : OpenClaim := { program := "ytpmhfalhieinjaa", sum := "1e31ac7c6aaabcdfb4b1b83a58ccb226d04109e97db71015a221563442cee2fa", func := "corbel/corbellaw10.BookWrites", spec := "bookWrites", unfollowed := true, recurses := true, plainKeys := false, apart := false }
def BookWritesSaid : Prop := bookWritesRow.holds Try.pinned (OpenSpec.ofChange bookWritesSpec)

/-- ITS FALSE NEIGHBOUR: 'it returns false'. Refute it at one input. -/
def bookWritesWrong : ChangeSpec := { name := "bookWrites", fn := fun _ => fun
  | [d1, d2, d3] => { results := [.lit (.bool false)], args := [d1, d2, d3] }
  | _ => none }
def BookWritesWrongFalsely : Prop := bookWritesRow.holds Try.pinned (OpenSpec.ofChange bookWritesWrong)

/-- 'corbellaw10.BookNotes': WHATEVER THE INPUT: true; the input reads as it did. -/
def bookNotesSpec : ChangeSpec := { name := "bookNotes", fn := fun _ => fun
  | [d1, d2, d3] => { results := [.lit (.bool true)], args := [d1, d2, d3] }
  | _ => none }
def bookNotesRow : OpenClaim := { program := "ytpmhfalhieinjaa", sum := "1e31ac7c6aaabcdfb4b1b83a58ccb226d04109e97db71015a221563442cee2fa", func := "corbel/corbellaw10.BookNotes", spec := "bookNotes", unfollowed := true, recurses := true, plainKeys := false, apart := false }
def BookNotesSaid : Prop := bookNotesRow.holds Try.pinned (OpenSpec.ofChange bookNotesSpec)

/-- ITS FALSE NEIGHBOUR: 'it returns false'. Refute it at one input. -/
def bookNotesWrong : ChangeSpec := { name := "bookNotes", fn := fun _ => fun
  | [d1, d2, d3] => { results := [.lit (.bool false)], args := [d1, d2, d3] }
  | _ => none }
def BookNotesWrongFalsely : Prop := bookNotesRow.holds Try.pinned (OpenSpec.ofChange bookNotesWrong)

/-- 'corbellaw10.BookFresh': WHATEVER THE INPUT: true; the input reads as it did. -/
def bookFreshSpec : ChangeSpec := { name := "bookFresh", fn := fun _ => fun
  | [d1, d2] => { results := [.lit (.bool true)], args := [d1, d2] }
  | _ => none }
def bookFreshRow : OpenClaim := { program := "ytpmhfalhieinjaa", sum := "1e31ac7c6aaabcdfb4b1b83a58ccb226d04109e97db71015a221563442cee2fa", func := "corbel/corbellaw10.BookFresh", spec := "bookFresh", unfollowed := true, recurses := true, plainKeys := false, apart := false }
def BookFreshSaid : Prop := bookFreshRow.holds Try.pinned (OpenSpec.ofChange bookFreshSpec)

/-- ITS FALSE NEIGHBOUR: 'it returns false'. Refute it at one input. -/
def bookFreshWrong : ChangeSpec := { name := "bookFresh", fn := fun _ => fun
  | [d1, d2] => { results := [.lit (.bool false)], args := [d1, d2] }
  | _ => none }
def BookFreshWrongFalsely : Prop := bookFreshRow.holds Try.pinned (OpenSpec.ofChange bookFreshWrong)

/- THE SECOND FORM. 'bulk': how many values and letters a reading holds, each counted each time it is reached (what is shared counts as often as it is met; a slice's spare places count too). A statement '..UptoSaid' is the law's where the arguments, and the package variables that the reading takes, are together of bulk at most 1048576: NARROWER than '..Said'. Prove '..Said' where nothing that the law and all that it calls make is longer than what came in: it says more and counts as full. Else prove '..UptoSaid'. A law counts once. -/
mutual
def uptoBulk {H : Type} : DataW H → Nat
  | .lit (.string bytes) => bytes.length + 1
  | .lit _ => 1
  | .nil => 1
  | .ptr d => uptoBulk d + 1
  | .slice elems spare => uptoBulkAll elems + uptoBulkAll spare + 1
  | .agg parts => uptoBulkAll parts + 1
  | .iface _ d => uptoBulk d + 1
  | .map entries => uptoBulkEntries entries + 1
  | .held _ => 1
def uptoBulkAll {H : Type} : List (DataW H) → Nat
  | [] => 0
  | d :: r => uptoBulk d + uptoBulkAll r
def uptoBulkEntries {H : Type} : List (Lit × DataW H) → Nat
  | [] => 0
  | x :: r => uptoBulkEntry x + uptoBulkEntries r
def uptoBulkEntry {H : Type} : Lit × DataW H → Nat
  | (.string bytes, d) => bytes.length + uptoBulk d + 1
  | (_, d) => uptoBulk d + 1
 end
def uptoSmall : (H : Type) → List (DataW H) → Bool := fun _ ds => decide (uptoBulkAll ds ≤ 1048576)
def OpenSpec.upto (s : _root_.Go.ChangeSpec) : _root_.Go.OpenSpec := { _root_.Go.OpenSpec.ofChange s with cond := some uptoSmall }

/-- 'corbellaw10.BookReads', WHERE WHAT IT READS IS OF BULK AT MOST 1048576: true; the input reads as it did. -/
def bookReadsUptoRow : OpenClaim := { program := "ytpmhfalhieinjaa", sum := "1e31ac7c6aaabcdfb4b1b83a58ccb226d04109e97db71015a221563442cee2fa", func := "corbel/corbellaw10.BookReads", spec := "bookReads", unfollowed := true, recurses := true, plainKeys := false, apart := false, narrowed := true }
def BookReadsUptoSaid : Prop := bookReadsUptoRow.holds Try.pinned (OpenSpec.upto bookReadsSpec)

/-- 'corbellaw10.BookWrites', WHERE WHAT IT READS IS OF BULK AT MOST 1048576: true; the input reads as it did. -/
def bookWritesUptoRow : OpenClaim := { program := "ytpmhfalhieinjaa", sum := "1e31ac7c6aaabcdfb4b1b83a58ccb226d04109e97db71015a221563442cee2fa", func := "corbel/corbellaw10.BookWrites", spec := "bookWrites", unfollowed := true, recurses := true, plainKeys := false, apart := false, narrowed := true }
def BookWritesUptoSaid : Prop := bookWritesUptoRow.holds Try.pinned (OpenSpec.upto bookWritesSpec)

/-- 'corbellaw10.BookNotes', WHERE WHAT IT READS IS OF BULK AT MOST 1048576: true; the input reads as it did. -/
def bookNotesUptoRow : OpenClaim := { program := "ytpmhfalhieinjaa", sum := "1e31ac7c6aaabcdfb4b1b83a58ccb226d04109e97db71015a221563442cee2fa", func := "corbel/corbellaw10.BookNotes", spec := "bookNotes", unfollowed := true, recurses := true, plainKeys := false, apart := false, narrowed := true }
def BookNotesUptoSaid : Prop := bookNotesUptoRow.holds Try.pinned (OpenSpec.upto bookNotesSpec)

/-- 'corbellaw10.BookFresh', WHERE WHAT IT READS IS OF BULK AT MOST 1048576: true; the input reads as it did. -/
def bookFreshUptoRow : OpenClaim := { program := "ytpmhfalhieinjaa", sum := "1e31ac7c6aaabcdfb4b1b83a58ccb226d04109e97db71015a221563442cee2fa", func := "corbel/corbellaw10.BookFresh", spec := "bookFresh", unfollowed := true, recurses := true, plainKeys := false, apart := false, narrowed := true }
def BookFreshUptoSaid : Prop := bookFreshUptoRow.holds Try.pinned (OpenSpec.upto bookFreshSpec)

end Rows
end Go.Proofs.Ytpmhfalhieinjaa
