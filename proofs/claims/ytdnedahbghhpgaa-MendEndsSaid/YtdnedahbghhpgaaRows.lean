/-
  No cell of these rows narrows 'for every input' (looked for: loops, veiled, ifaces, maps, wideKeys, modest, calm, conditions, laid).
  DERIVED. THE GIVEN ROWS OF THIS SEAT. 8 by the template 'for every input the law returns true; each argument reads behind the call as it read before'; 0 by the template 'total and deterministic' (their statements: YtdnedahbghhpgaaTotals.lean).
  GIVEN WITH THE SEED: the statements are not yours to turn. If you find one false, say at which input.
  Laid BY PROGRAM, IN A SANDBOX (cutbox-rows.mjs): the forced cells as the released guide's own fill.sh prints them over the translation 159687c587497a80… (all of the seat's roots in one cut). By AI agents, Wed Nov 11 2026. No macro, syntax, notation, axiom, sorry.
-/
import Derived.Test.YtdnedahbghhpgaaChecked
import GoSem.Claim
import GoSem.ClaimJoined
import GoSem.ClaimMapViews
import Derived.JoinedTies
import Derived.KernelRfl
namespace Go.Proofs.Ytdnedahbghhpgaa
/- THE CELL 'sum', in the pinned program and in every row, IS THE sha256 OF THE DUMP (.gsa) THAT YtdnedahbghhpgaaProg.lean LOADS. Nothing in Lean hashes anything: it is a label: what it is worth is what the hold of that sum in a sandbox is worth. -/
noncomputable def Try.pinned : Pinned := { name := "ytdnedahbghhpgaa", sum := "159687c587497a80568524cb428b92f516ad43d691a745a1d4eca4c13d1db7df", checked := Try.checked }
namespace Rows
def none {H : Type} : Left H := { results := [], args := [] }

/-- 'corbellaw12.TailSources': WHATEVER THE INPUT: true; the input reads as it did. -/
def tailSourcesSpec : ChangeSpec := { name := "tailSources", fn := fun _ => fun
  | [d1, d2, d3] => { results := [.lit (.bool true)], args := [d1, d2, d3] }
  | _ => none }
def tailSourcesRow : OpenClaim := { program := "ytdnedahbghhpgaa", sum := "159687c587497a80568524cb428b92f516ad43d691a745a1d4eca4c13d1db7df", func := "corbel/corbellaw12.TailSources", spec := "tailSources", unfollowed := true, recurses := true, apart := false }
def TailSourcesSaid : Prop := tailSourcesRow.holds Try.pinned (OpenSpec.ofChange tailSourcesSpec)

/-- ITS FALSE NEIGHBOUR: 'it returns false'. Refute it at one input. -/
def tailSourcesWrong : ChangeSpec := { name := "tailSources", fn := fun _ => fun
  | [d1, d2, d3] => { results := [.lit (.bool false)], args := [d1, d2, d3] }
  | _ => none }
def TailSourcesWrongFalsely : Prop := tailSourcesRow.holds Try.pinned (OpenSpec.ofChange tailSourcesWrong)

/-- 'corbellaw12.TailGrows': WHATEVER THE INPUT: true; the input reads as it did. -/
def tailGrowsSpec : ChangeSpec := { name := "tailGrows", fn := fun _ => fun
  | [d1, d2, d3] => { results := [.lit (.bool true)], args := [d1, d2, d3] }
  | _ => none }
def tailGrowsRow : OpenClaim := { program := "ytdnedahbghhpgaa", sum := "159687c587497a80568524cb428b92f516ad43d691a745a1d4eca4c13d1db7df", func := "corbel/corbellaw12.TailGrows", spec := "tailGrows", unfollowed := true, recurses := true, apart := false }
def TailGrowsSaid : Prop := tailGrowsRow.holds Try.pinned (OpenSpec.ofChange tailGrowsSpec)

/-- ITS FALSE NEIGHBOUR: 'it returns false'. Refute it at one input. -/
def tailGrowsWrong : ChangeSpec := { name := "tailGrows", fn := fun _ => fun
  | [d1, d2, d3] => { results := [.lit (.bool false)], args := [d1, d2, d3] }
  | _ => none }
def TailGrowsWrongFalsely : Prop := tailGrowsRow.holds Try.pinned (OpenSpec.ofChange tailGrowsWrong)

/-- 'corbellaw12.TailKeeps': WHATEVER THE INPUT: true; the input reads as it did. -/
def tailKeepsSpec : ChangeSpec := { name := "tailKeeps", fn := fun _ => fun
  | [d1, d2, d3] => { results := [.lit (.bool true)], args := [d1, d2, d3] }
  | _ => none }
def tailKeepsRow : OpenClaim := { program := "ytdnedahbghhpgaa", sum := "159687c587497a80568524cb428b92f516ad43d691a745a1d4eca4c13d1db7df", func := "corbel/corbellaw12.TailKeeps", spec := "tailKeeps", unfollowed := true, recurses := true, apart := false }
def TailKeepsSaid : Prop := tailKeepsRow.holds Try.pinned (OpenSpec.ofChange tailKeepsSpec)

/-- ITS FALSE NEIGHBOUR: 'it returns false'. Refute it at one input. -/
def tailKeepsWrong : ChangeSpec := { name := "tailKeeps", fn := fun _ => fun
  | [d1, d2, d3] => { results := [.lit (.bool false)], args := [d1, d2, d3] }
  | _ => none }
def TailKeepsWrongFalsely : Prop := tailKeepsRow.holds Try.pinned (OpenSpec.ofChange tailKeepsWrong)

/-- 'corbellaw15.MendDecides': WHATEVER THE INPUT: true; the input reads as it did. -/
def mendDecidesSpec : ChangeSpec := { name := "mendDecides", fn := fun _ => fun
  | [d1, d2, d3] => { results := [.lit (.bool true)], args := [d1, d2, d3] }
  | _ => none }
def mendDecidesRow : OpenClaim := { program := "ytdnedahbghhpgaa", sum := "159687c587497a80568524cb428b92f516ad43d691a745a1d4eca4c13d1db7df", func := "corbel/corbellaw15.MendDecides", spec := "mendDecides", unfollowed := true, recurses := true, apart := false }
def MendDecidesSaid : Prop := mendDecidesRow.holds Try.pinned (OpenSpec.ofChange mendDecidesSpec)

/-- ITS FALSE NEIGHBOUR: 'it returns false'. Refute it at one input. -/
def mendDecidesWrong : ChangeSpec := { name := "mendDecides", fn := fun _ => fun
  | [d1, d2, d3] => { results := [.lit (.bool false)], args := [d1, d2, d3] }
  | _ => none }
def MendDecidesWrongFalsely : Prop := mendDecidesRow.holds Try.pinned (OpenSpec.ofChange mendDecidesWrong)

/-- 'corbellaw15.MendEnds': WHATEVER THE INPUT: true; the input reads as it did. -/
def mendEndsSpec : ChangeSpec := { name := "mendEnds", fn := fun _ => fun
  | [d1, d2, d3] => { results := [.lit (.bool true)], args := [d1, d2, d3] }
  | _ => none }
def mendEndsRow : OpenClaim := { program := "ytdnedahbghhpgaa", sum := "159687c587497a80568524cb428b92f516ad43d691a745a1d4eca4c13d1db7df", func := "corbel/corbellaw15.MendEnds", spec := "mendEnds", unfollowed := true, recurses := true, apart := false }
def MendEndsSaid : Prop := mendEndsRow.holds Try.pinned (OpenSpec.ofChange mendEndsSpec)

/-- ITS FALSE NEIGHBOUR: 'it returns false'. Refute it at one input. -/
def mendEndsWrong : ChangeSpec := { name := "mendEnds", fn := fun _ => fun
  | [d1, d2, d3] => { results := [.lit (.bool false)], args := [d1, d2, d3] }
  | _ => none }
def MendEndsWrongFalsely : Prop := mendEndsRow.holds Try.pinned (OpenSpec.ofChange mendEndsWrong)

/-- 'corbellaw15.MendMissing': WHATEVER THE INPUT: true; the input reads as it did. -/
def mendMissingSpec : ChangeSpec := { name := "mendMissing", fn := fun _ => fun
  | [d1, d2, d3] => { results := [.lit (.bool true)], args := [d1, d2, d3] }
  | _ => none }
def mendMissingRow : OpenClaim := { program := "ytdnedahbghhpgaa", sum := "159687c587497a80568524cb428b92f516ad43d691a745a1d4eca4c13d1db7df", func := "corbel/corbellaw15.MendMissing", spec := "mendMissing", unfollowed := true, recurses := true, apart := false }
def MendMissingSaid : Prop := mendMissingRow.holds Try.pinned (OpenSpec.ofChange mendMissingSpec)

/-- ITS FALSE NEIGHBOUR: 'it returns false'. Refute it at one input. -/
def mendMissingWrong : ChangeSpec := { name := "mendMissing", fn := fun _ => fun
  | [d1, d2, d3] => { results := [.lit (.bool false)], args := [d1, d2, d3] }
  | _ => none }
def MendMissingWrongFalsely : Prop := mendMissingRow.holds Try.pinned (OpenSpec.ofChange mendMissingWrong)

/-- 'corbellaw16.RebuildEnds': WHATEVER THE INPUT: true; the input reads as it did. -/
def rebuildEndsSpec : ChangeSpec := { name := "rebuildEnds", fn := fun _ => fun
  | [d1, d2, d3] => { results := [.lit (.bool true)], args := [d1, d2, d3] }
  | _ => none }
def rebuildEndsRow : OpenClaim := { program := "ytdnedahbghhpgaa", sum := "159687c587497a80568524cb428b92f516ad43d691a745a1d4eca4c13d1db7df", func := "corbel/corbellaw16.RebuildEnds", spec := "rebuildEnds", unfollowed := true, recurses := true, apart := false }
def RebuildEndsSaid : Prop := rebuildEndsRow.holds Try.pinned (OpenSpec.ofChange rebuildEndsSpec)

/-- ITS FALSE NEIGHBOUR: 'it returns false'. Refute it at one input. -/
def rebuildEndsWrong : ChangeSpec := { name := "rebuildEnds", fn := fun _ => fun
  | [d1, d2, d3] => { results := [.lit (.bool false)], args := [d1, d2, d3] }
  | _ => none }
def RebuildEndsWrongFalsely : Prop := rebuildEndsRow.holds Try.pinned (OpenSpec.ofChange rebuildEndsWrong)

/-- 'corbellaw16.RebuildTasks': WHATEVER THE INPUT: true; the input reads as it did. -/
def rebuildTasksSpec : ChangeSpec := { name := "rebuildTasks", fn := fun _ => fun
  | [d1, d2, d3] => { results := [.lit (.bool true)], args := [d1, d2, d3] }
  | _ => none }
def rebuildTasksRow : OpenClaim := { program := "ytdnedahbghhpgaa", sum := "159687c587497a80568524cb428b92f516ad43d691a745a1d4eca4c13d1db7df", func := "corbel/corbellaw16.RebuildTasks", spec := "rebuildTasks", unfollowed := true, recurses := true, apart := false }
def RebuildTasksSaid : Prop := rebuildTasksRow.holds Try.pinned (OpenSpec.ofChange rebuildTasksSpec)

/-- ITS FALSE NEIGHBOUR: 'it returns false'. Refute it at one input. -/
def rebuildTasksWrong : ChangeSpec := { name := "rebuildTasks", fn := fun _ => fun
  | [d1, d2, d3] => { results := [.lit (.bool false)], args := [d1, d2, d3] }
  | _ => none }
def RebuildTasksWrongFalsely : Prop := rebuildTasksRow.holds Try.pinned (OpenSpec.ofChange rebuildTasksWrong)

/- THE SECOND FORM. 'bulk': how many values and letters a reading holds, each counted each time it is reached (what is shared counts as often as it is met; a slice's spare places count too). A statement '..UptoSaid' is the law's where the arguments, and the package variables that the reading takes, are together of bulk at most 1048576: NARROWER than '..Said'. Prove '..Said' where nothing that the law and all that it calls make is longer than what came in: it says more and counts as full. Else prove '..UptoSaid'. A law counts once. -/
mutual
def uptoBulk {H : Type} : DataW H → Nat
  | .lit (.string bytes) => bytes.length + 1
  | .lit _ => 1
  | .nil => 1
  | .ptr d => uptoBulk d + 1
  | .slice elems spare => uptoBulkAll elems + uptoBulkAll spare + 1
  | .agg parts => uptoBulkAll parts + 1
  | .iface _ d => uptoBulk d + 1
  | .map entries => uptoBulkEntries entries + 1
  | .held _ => 1
def uptoBulkAll {H : Type} : List (DataW H) → Nat
  | [] => 0
  | d :: r => uptoBulk d + uptoBulkAll r
def uptoBulkEntries {H : Type} : List (Lit × DataW H) → Nat
  | [] => 0
  | x :: r => uptoBulkEntry x + uptoBulkEntries r
def uptoBulkEntry {H : Type} : Lit × DataW H → Nat
  | (.string bytes, d) => bytes.length + uptoBulk d + 1
  | (_, d) => uptoBulk d + 1
 end
def uptoSmall : (H : Type) → List (DataW H) → Bool := fun _ ds => decide (uptoBulkAll ds ≤ 1048576)
def OpenSpec.upto (s : _root_.Go.ChangeSpec) : _root_.Go.OpenSpec := { _root_.Go.OpenSpec.ofChange s with cond := some uptoSmall }

/-- 'corbellaw12.TailSources', WHERE WHAT IT READS IS OF BULK AT MOST 1048576: true; the input reads as it did. -/
def tailSourcesUptoRow : OpenClaim := { program := "ytdnedahbghhpgaa", sum := "159687c587497a80568524cb428b92f516ad43d691a745a1d4eca4c13d1db7df", func := "corbel/corbellaw12.TailSources", spec := "tailSources", unfollowed := true, recurses := true, apart := false, narrowed := true }
def TailSourcesUptoSaid : Prop := tailSourcesUptoRow.holds Try.pinned (OpenSpec.upto tailSourcesSpec)

/-- 'corbellaw12.TailGrows', WHERE WHAT IT READS IS OF BULK AT MOST 1048576: true; the input reads as it did. -/
def tailGrowsUptoRow : OpenClaim := { program := "ytdnedahbghhpgaa", sum := "159687c587497a80568524cb428b92f516ad43d691a745a1d4eca4c13d1db7df", func := "corbel/corbellaw12.TailGrows", spec := "tailGrows", unfollowed := true, recurses := true, apart := false, narrowed := true }
def TailGrowsUptoSaid : Prop := tailGrowsUptoRow.holds Try.pinned (OpenSpec.upto tailGrowsSpec)

/-- 'corbellaw12.TailKeeps', WHERE WHAT IT READS IS OF BULK AT MOST 1048576: true; the input reads as it did. -/
def tailKeepsUptoRow : OpenClaim := { program := "ytdnedahbghhpgaa", sum := "159687c587497a80568524cb428b92f516ad43d691a745a1d4eca4c13d1db7df", func := "corbel/corbellaw12.TailKeeps", spec := "tailKeeps", unfollowed := true, recurses := true, apart := false, narrowed := true }
def TailKeepsUptoSaid : Prop := tailKeepsUptoRow.holds Try.pinned (OpenSpec.upto tailKeepsSpec)

/-- 'corbellaw15.MendDecides', WHERE WHAT IT READS IS OF BULK AT MOST 1048576: true; the input reads as it did. -/
def mendDecidesUptoRow : OpenClaim := { program := "ytdnedahbghhpgaa", sum := "159687c587497a80568524cb428b92f516ad43d691a745a1d4eca4c13d1db7df", func := "corbel/corbellaw15.MendDecides", spec := "mendDecides", unfollowed := true, recurses := true, apart := false, narrowed := true }
def MendDecidesUptoSaid : Prop := mendDecidesUptoRow.holds Try.pinned (OpenSpec.upto mendDecidesSpec)

/-- 'corbellaw15.MendEnds', WHERE WHAT IT READS IS OF BULK AT MOST 1048576: true; the input reads as it did. -/
def mendEndsUptoRow : OpenClaim := { program := "ytdnedahbghhpgaa", sum := "159687c587497a80568524cb428b92f516ad43d691a745a1d4eca4c13d1db7df", func := "corbel/corbellaw15.MendEnds", spec := "mendEnds", unfollowed := true, recurses := true, apart := false, narrowed := true }
def MendEndsUptoSaid : Prop := mendEndsUptoRow.holds Try.pinned (OpenSpec.upto mendEndsSpec)

/-- 'corbellaw15.MendMissing', WHERE WHAT IT READS IS OF BULK AT MOST 1048576: true; the input reads as it did. -/
def mendMissingUptoRow : OpenClaim := { program := "ytdnedahbghhpgaa", sum := "159687c587497a80568524cb428b92f516ad43d691a745a1d4eca4c13d1db7df", func := "corbel/corbellaw15.MendMissing", spec := "mendMissing", unfollowed := true, recurses := true, apart := false, narrowed := true }
def MendMissingUptoSaid : Prop := mendMissingUptoRow.holds Try.pinned (OpenSpec.upto mendMissingSpec)

/-- 'corbellaw16.RebuildEnds', WHERE WHAT IT READS IS OF BULK AT MOST 1048576: true; the input reads as it did. -/
def rebuildEndsUptoRow : OpenClaim := { program := "ytdnedahbghhpgaa", sum := "159687c587497a80568524cb428b92f516ad43d691a745a1d4eca4c13d1db7df", func := "corbel/corbellaw16.RebuildEnds", spec := "rebuildEnds", unfollowed := true, recurses := true, apart := false, narrowed := true }
def RebuildEndsUptoSaid : Prop := rebuildEndsUptoRow.holds Try.pinned (OpenSpec.upto rebuildEndsSpec)

/-- 'corbellaw16.RebuildTasks', WHERE WHAT IT READS IS OF BULK AT MOST 1048576: true; the input reads as it did. -/
def rebuildTasksUptoRow : OpenClaim := { program := "ytdnedahbghhpgaa", sum := "159687c587497a80568524cb428b92f516ad43d691a745a1d4eca4c13d1db7df", func := "corbel/corbellaw16.RebuildTasks", spec := "rebuildTasks", unfollowed := true, recurses := true, apart := false, narrowed := true }
def RebuildTasksUptoSaid : Prop := rebuildTasksUptoRow.holds Try.pinned (OpenSpec.upto rebuildTasksSpec)

end Rows
end Go.Proofs.Ytdnedahbghhpgaa
