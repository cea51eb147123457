/-
  No cell of these rows narrows 'for every input' (looked for: loops, veiled, ifaces, maps, wideKeys, modest, calm, conditions, laid).
  DERIVED. THE GIVEN ROWS OF THIS SEAT. 5 by the template 'for every input the law returns true; each argument reads behind the call as it read before'; 0 by the template 'total and deterministic' (their statements: YtdjdldcpaidmnaaTotals.lean).
  GIVEN WITH THE SEED: the statements are not yours to turn. If you find one false, say at which input.
  Laid BY PROGRAM, IN A SANDBOX (cutbox-rows.mjs): the forced cells as the released guide's own fill.sh prints them over the translation 4e50d7b8976ce312… (all of the seat's roots in one cut). By AI agents, Wed Nov 11 2026. No macro, syntax, notation, axiom, sorry.
-/
import Derived.Test.YtdjdldcpaidmnaaChecked
import GoSem.Claim
import GoSem.ClaimJoined
import GoSem.ClaimMapViews
import Derived.JoinedTies
import Derived.KernelRfl
namespace Go.Proofs.Ytdjdldcpaidmnaa
/- THE CELL 'sum', in the pinned program and in every row, IS THE sha256 OF THE DUMP (.gsa) THAT YtdjdldcpaidmnaaProg.lean LOADS. Nothing in Lean hashes anything: it is a label: what it is worth is what the hold of that sum in a sandbox is worth. -/
noncomputable def Try.pinned : Pinned := { name := "ytdjdldcpaidmnaa", sum := "4e50d7b8976ce312cf95a7e60adba02c31c71e1da62b3835052b8b3245936687", checked := Try.checked }
namespace Rows
def none {H : Type} : Left H := { results := [], args := [] }

/-- 'corbellaw12.TailKeeps': WHATEVER THE INPUT: true; the input reads as it did. -/
def tailKeepsSpec : ChangeSpec := { name := "tailKeeps", fn := fun _ => fun
  | [d1, d2, d3] => { results := [.lit (.bool true)], args := [d1, d2, d3] }
  | _ => none }
def tailKeepsRow : OpenClaim := { program := "ytdjdldcpaidmnaa", sum := "4e50d7b8976ce312cf95a7e60adba02c31c71e1da62b3835052b8b3245936687", func := "corbel/corbellaw12.TailKeeps", spec := "tailKeeps", unfollowed := true, recurses := true, apart := false }
def TailKeepsSaid : Prop := tailKeepsRow.holds Try.pinned (OpenSpec.ofChange tailKeepsSpec)

/-- ITS FALSE NEIGHBOUR: 'it returns false'. Refute it at one input. -/
def tailKeepsWrong : ChangeSpec := { name := "tailKeeps", fn := fun _ => fun
  | [d1, d2, d3] => { results := [.lit (.bool false)], args := [d1, d2, d3] }
  | _ => none }
def TailKeepsWrongFalsely : Prop := tailKeepsRow.holds Try.pinned (OpenSpec.ofChange tailKeepsWrong)

/-- 'corbellaw16.RebuildEnds': WHATEVER THE INPUT: true; the input reads as it did. -/
def rebuildEndsSpec : ChangeSpec := { name := "rebuildEnds", fn := fun _ => fun
  | [d1, d2, d3] => { results := [.lit (.bool true)], args := [d1, d2, d3] }
  | _ => none }
def rebuildEndsRow : OpenClaim := { program := "ytdjdldcpaidmnaa", sum := "4e50d7b8976ce312cf95a7e60adba02c31c71e1da62b3835052b8b3245936687", func := "corbel/corbellaw16.RebuildEnds", spec := "rebuildEnds", unfollowed := true, recurses := true, apart := false }
def RebuildEndsSaid : Prop := rebuildEndsRow.holds Try.pinned (OpenSpec.ofChange rebuildEndsSpec)

/-- ITS FALSE NEIGHBOUR: 'it returns false'. Refute it at one input. -/
def rebuildEndsWrong : ChangeSpec := { name := "rebuildEnds", fn := fun _ => fun
  | [d1, d2, d3] => { results := [.lit (.bool false)], args := [d1, d2, d3] }
  | _ => none }
def RebuildEndsWrongFalsely : Prop := rebuildEndsRow.holds Try.pinned (OpenSpec.ofChange rebuildEndsWrong)

/-- 'corbellaw16.RebuildTasks': WHATEVER THE INPUT: true; the input reads as it did. -/
def rebuildTasksSpec : ChangeSpec := { name := "rebuildTasks", fn := fun _ => fun
  | [d1, d2, d3] => { results := [.lit (.bool true)], args := [d1, d2, d3] }
  | _ => none }
def rebuildTasksRow : OpenClaim := { program := "ytdjdldcpaidmnaa", sum := "4e50d7b8976ce312cf95a7e60adba02c31c71e1da62b3835052b8b3245936687", func := "corbel/corbellaw16.RebuildTasks", spec := "rebuildTasks", unfollowed := true, recurses := true, apart := false }
def RebuildTasksSaid : Prop := rebuildTasksRow.holds Try.pinned (OpenSpec.ofChange rebuildTasksSpec)

/-- ITS FALSE NEIGHBOUR: 'it returns false'. Refute it at one input. -/
def rebuildTasksWrong : ChangeSpec := { name := "rebuildTasks", fn := fun _ => fun
  | [d1, d2, d3] => { results := [.lit (.bool false)], args := [d1, d2, d3] }
  | _ => none }
def RebuildTasksWrongFalsely : Prop := rebuildTasksRow.holds Try.pinned (OpenSpec.ofChange rebuildTasksWrong)

/-- 'corbellaw16.RebuildHalf': WHATEVER THE INPUT: true; the input reads as it did. -/
def rebuildHalfSpec : ChangeSpec := { name := "rebuildHalf", fn := fun _ => fun
  | [d1, d2, d3] => { results := [.lit (.bool true)], args := [d1, d2, d3] }
  | _ => none }
def rebuildHalfRow : OpenClaim := { program := "ytdjdldcpaidmnaa", sum := "4e50d7b8976ce312cf95a7e60adba02c31c71e1da62b3835052b8b3245936687", func := "corbel/corbellaw16.RebuildHalf", spec := "rebuildHalf", unfollowed := true, recurses := true, apart := false }
def RebuildHalfSaid : Prop := rebuildHalfRow.holds Try.pinned (OpenSpec.ofChange rebuildHalfSpec)

/-- ITS FALSE NEIGHBOUR: 'it returns false'. Refute it at one input. -/
def rebuildHalfWrong : ChangeSpec := { name := "rebuildHalf", fn := fun _ => fun
  | [d1, d2, d3] => { results := [.lit (.bool false)], args := [d1, d2, d3] }
  | _ => none }
def RebuildHalfWrongFalsely : Prop := rebuildHalfRow.holds Try.pinned (OpenSpec.ofChange rebuildHalfWrong)

/-- 'corbellaw16.RebuildHas': WHATEVER THE INPUT: true; the input reads as it did. -/
def rebuildHasSpec : ChangeSpec := { name := "rebuildHas", fn := fun _ => fun
  | [d1, d2, d3] => { results := [.lit (.bool true)], args := [d1, d2, d3] }
  | _ => none }
def rebuildHasRow : OpenClaim := { program := "ytdjdldcpaidmnaa", sum := "4e50d7b8976ce312cf95a7e60adba02c31c71e1da62b3835052b8b3245936687", func := "corbel/corbellaw16.RebuildHas", spec := "rebuildHas", unfollowed := true, recurses := true, apart := false }
def RebuildHasSaid : Prop := rebuildHasRow.holds Try.pinned (OpenSpec.ofChange rebuildHasSpec)

/-- ITS FALSE NEIGHBOUR: 'it returns false'. Refute it at one input. -/
def rebuildHasWrong : ChangeSpec := { name := "rebuildHas", fn := fun _ => fun
  | [d1, d2, d3] => { results := [.lit (.bool false)], args := [d1, d2, d3] }
  | _ => none }
def RebuildHasWrongFalsely : Prop := rebuildHasRow.holds Try.pinned (OpenSpec.ofChange rebuildHasWrong)

/- THE SECOND FORM. 'bulk': how many values and letters a reading holds, each counted each time it is reached (what is shared counts as often as it is met; a slice's spare places count too). A statement '..UptoSaid' is the law's where the arguments, and the package variables that the reading takes, are together of bulk at most 1048576: NARROWER than '..Said'. Prove '..Said' where nothing that the law and all that it calls make is longer than what came in: it says more and counts as full. Else prove '..UptoSaid'. A law counts once. -/
mutual
def uptoBulk {H : Type} : DataW H → Nat
  | .lit (.string bytes) => bytes.length + 1
  | .lit _ => 1
  | .nil => 1
  | .ptr d => uptoBulk d + 1
  | .slice elems spare => uptoBulkAll elems + uptoBulkAll spare + 1
  | .agg parts => uptoBulkAll parts + 1
  | .iface _ d => uptoBulk d + 1
  | .map entries => uptoBulkEntries entries + 1
  | .held _ => 1
def uptoBulkAll {H : Type} : List (DataW H) → Nat
  | [] => 0
  | d :: r => uptoBulk d + uptoBulkAll r
def uptoBulkEntries {H : Type} : List (Lit × DataW H) → Nat
  | [] => 0
  | x :: r => uptoBulkEntry x + uptoBulkEntries r
def uptoBulkEntry {H : Type} : Lit × DataW H → Nat
  | (.string bytes, d) => bytes.length + uptoBulk d + 1
  | (_, d) => uptoBulk d + 1
 end
def uptoSmall : (H : Type) → List (DataW H) → Bool := fun _ ds => decide (uptoBulkAll ds ≤ 1048576)
def OpenSpec.upto (s : _root_.Go.ChangeSpec) : _root_.Go.OpenSpec := { _root_.Go.OpenSpec.ofChange s with cond := some uptoSmall }

/-- 'corbellaw12.TailKeeps', WHERE WHAT IT READS IS OF BULK AT MOST 1048576: true; the input reads as it did. -/
def tailKeepsUptoRow : OpenClaim := { program := "ytdjdldcpaidmnaa", sum := "4e50d7b8976ce312cf95a7e60adba02c31c71e1da62b3835052b8b3245936687", func := "corbel/corbellaw12.TailKeeps", spec := "tailKeeps", unfollowed := true, recurses := true, apart := false, narrowed := true }
def TailKeepsUptoSaid : Prop := tailKeepsUptoRow.holds Try.pinned (OpenSpec.upto tailKeepsSpec)

/-- 'corbellaw16.RebuildEnds', WHERE WHAT IT READS IS OF BULK AT MOST 1048576: true; the input reads as it did. -/
def rebuildEndsUptoRow : OpenClaim := { program := "ytdjdldcpaidmnaa", sum := "4e50d7b8976ce312cf95a7e60adba02c31c71e1da62b3835052b8b3245936687", func := "corbel/corbellaw16.RebuildEnds", spec := "rebuildEnds", unfollowed := true, recurses := true, apart := false, narrowed := true }
def RebuildEndsUptoSaid : Prop := rebuildEndsUptoRow.holds Try.pinned (OpenSpec.upto rebuildEndsSpec)

/-- 'corbellaw16.RebuildTasks', WHERE WHAT IT READS IS OF BULK AT MOST 1048576: true; the input reads as it did. -/
def rebuildTasksUptoRow : OpenClaim := { program := "ytdjdldcpaidmnaa", sum := "4e50d7b8976ce312cf95a7e60adba02c31c71e1da62b3835052b8b3245936687", func := "corbel/corbellaw16.RebuildTasks", spec := "rebuildTasks", unfollowed := true, recurses := true, apart := false, narrowed := true }
def RebuildTasksUptoSaid : Prop := rebuildTasksUptoRow.holds Try.pinned (OpenSpec.upto rebuildTasksSpec)

/-- 'corbellaw16.RebuildHalf', WHERE WHAT IT READS IS OF BULK AT MOST 1048576: true; the input reads as it did. -/
def rebuildHalfUptoRow : OpenClaim := { program := "ytdjdldcpaidmnaa", sum := "4e50d7b8976ce312cf95a7e60adba02c31c71e1da62b3835052b8b3245936687", func := "corbel/corbellaw16.RebuildHalf", spec := "rebuildHalf", unfollowed := true, recurses := true, apart := false, narrowed := true }
def RebuildHalfUptoSaid : Prop := rebuildHalfUptoRow.holds Try.pinned (OpenSpec.upto rebuildHalfSpec)

/-- 'corbellaw16.RebuildHas', WHERE WHAT IT READS IS OF BULK AT MOST 1048576: true; the input reads as it did. -/
def rebuildHasUptoRow : OpenClaim := { program := "ytdjdldcpaidmnaa", sum := "4e50d7b8976ce312cf95a7e60adba02c31c71e1da62b3835052b8b3245936687", func := "corbel/corbellaw16.RebuildHas", spec := "rebuildHas", unfollowed := true, recurses := true, apart := false, narrowed := true }
def RebuildHasUptoSaid : Prop := rebuildHasUptoRow.holds Try.pinned (OpenSpec.upto rebuildHasSpec)

end Rows
end Go.Proofs.Ytdjdldcpaidmnaa
