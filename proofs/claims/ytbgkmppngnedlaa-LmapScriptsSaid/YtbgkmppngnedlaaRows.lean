/-
  No cell of these rows narrows 'for every input' (looked for: loops, veiled, ifaces, maps, wideKeys, modest, calm, conditions, laid).
  DERIVED. THE GIVEN ROWS OF THIS SEAT. 9 by the template 'for every input the law returns true; each argument reads behind the call as it read before'; 0 by the template 'total and deterministic' (their statements: YtbgkmppngnedlaaTotals.lean).
  GIVEN WITH THE SEED: the statements are not yours to turn. If you find one false, say at which input.
  Laid BY PROGRAM, IN A SANDBOX (cutbox-rows.mjs): the forced cells as the released guide's own fill.sh prints them over the translation ad4859923d336ad0… (all of the seat's roots in one cut). By AI agents, Wed Nov 11 2026. No macro, syntax, notation, axiom, sorry.
-/
import Derived.Test.YtbgkmppngnedlaaChecked
import GoSem.Claim
import GoSem.ClaimJoined
import GoSem.ClaimMapViews
import Derived.JoinedTies
import Derived.KernelRfl
namespace Go.Proofs.Ytbgkmppngnedlaa
/- THE CELL 'sum', in the pinned program and in every row, IS THE sha256 OF THE DUMP (.gsa) THAT YtbgkmppngnedlaaProg.lean LOADS. Nothing in Lean hashes anything: it is a label: what it is worth is what the hold of that sum in a sandbox is worth. -/
noncomputable def Try.pinned : Pinned := { name := "ytbgkmppngnedlaa", sum := "ad4859923d336ad085093ff8937ec3e333c5481d91373347b34e24f6e49925f7", checked := Try.checked }
namespace Rows
def none {H : Type} : Left H := { results := [], args := [] }

/-- 'corbellaw20.PickVictims': WHATEVER THE INPUT: true; the input reads as it did. -/
def pickVictimsSpec : ChangeSpec := { name := "pickVictims", fn := fun _ => fun
  | [d] => { results := [.lit (.bool true)], args := [d] }
  | _ => none }
def pickVictimsRow : OpenClaim := { program := "ytbgkmppngnedlaa", sum := "ad4859923d336ad085093ff8937ec3e333c5481d91373347b34e24f6e49925f7", func := "corbel/corbellaw20.PickVictims", spec := "pickVictims", unfollowed := true, recurses := true, apart := false }
def PickVictimsSaid : Prop := pickVictimsRow.holds Try.pinned (OpenSpec.ofChange pickVictimsSpec)

/-- ITS FALSE NEIGHBOUR: 'it returns false'. Refute it at one input. -/
def pickVictimsWrong : ChangeSpec := { name := "pickVictims", fn := fun _ => fun
  | [d] => { results := [.lit (.bool false)], args := [d] }
  | _ => none }
def PickVictimsWrongFalsely : Prop := pickVictimsRow.holds Try.pinned (OpenSpec.ofChange pickVictimsWrong)

/-- 'corbellaw20.PickLeast': WHATEVER THE INPUT: true; the input reads as it did. -/
def pickLeastSpec : ChangeSpec := { name := "pickLeast", fn := fun _ => fun
  | [d] => { results := [.lit (.bool true)], args := [d] }
  | _ => none }
def pickLeastRow : OpenClaim := { program := "ytbgkmppngnedlaa", sum := "ad4859923d336ad085093ff8937ec3e333c5481d91373347b34e24f6e49925f7", func := "corbel/corbellaw20.PickLeast", spec := "pickLeast", unfollowed := true, recurses := true, apart := false }
def PickLeastSaid : Prop := pickLeastRow.holds Try.pinned (OpenSpec.ofChange pickLeastSpec)

/-- ITS FALSE NEIGHBOUR: 'it returns false'. Refute it at one input. -/
def pickLeastWrong : ChangeSpec := { name := "pickLeast", fn := fun _ => fun
  | [d] => { results := [.lit (.bool false)], args := [d] }
  | _ => none }
def PickLeastWrongFalsely : Prop := pickLeastRow.holds Try.pinned (OpenSpec.ofChange pickLeastWrong)

/-- 'corbellaw20.PickPacks': WHATEVER THE INPUT: true; the input reads as it did. -/
def pickPacksSpec : ChangeSpec := { name := "pickPacks", fn := fun _ => fun
  | [d1, d2] => { results := [.lit (.bool true)], args := [d1, d2] }
  | _ => none }
def pickPacksRow : OpenClaim := { program := "ytbgkmppngnedlaa", sum := "ad4859923d336ad085093ff8937ec3e333c5481d91373347b34e24f6e49925f7", func := "corbel/corbellaw20.PickPacks", spec := "pickPacks", unfollowed := true, recurses := true, apart := false }
def PickPacksSaid : Prop := pickPacksRow.holds Try.pinned (OpenSpec.ofChange pickPacksSpec)

/-- ITS FALSE NEIGHBOUR: 'it returns false'. Refute it at one input. -/
def pickPacksWrong : ChangeSpec := { name := "pickPacks", fn := fun _ => fun
  | [d1, d2] => { results := [.lit (.bool false)], args := [d1, d2] }
  | _ => none }
def PickPacksWrongFalsely : Prop := pickPacksRow.holds Try.pinned (OpenSpec.ofChange pickPacksWrong)

/-- 'corbellaw20.PickTurned': WHATEVER THE INPUT: true; the input reads as it did. -/
def pickTurnedSpec : ChangeSpec := { name := "pickTurned", fn := fun _ => fun
  | [d1, d2] => { results := [.lit (.bool true)], args := [d1, d2] }
  | _ => none }
def pickTurnedRow : OpenClaim := { program := "ytbgkmppngnedlaa", sum := "ad4859923d336ad085093ff8937ec3e333c5481d91373347b34e24f6e49925f7", func := "corbel/corbellaw20.PickTurned", spec := "pickTurned", unfollowed := true, recurses := true, apart := false }
def PickTurnedSaid : Prop := pickTurnedRow.holds Try.pinned (OpenSpec.ofChange pickTurnedSpec)

/-- ITS FALSE NEIGHBOUR: 'it returns false'. Refute it at one input. -/
def pickTurnedWrong : ChangeSpec := { name := "pickTurned", fn := fun _ => fun
  | [d1, d2] => { results := [.lit (.bool false)], args := [d1, d2] }
  | _ => none }
def PickTurnedWrongFalsely : Prop := pickTurnedRow.holds Try.pinned (OpenSpec.ofChange pickTurnedWrong)

/-- 'corbellaw21.FitSizes': WHATEVER THE INPUT: true; the input reads as it did. -/
def fitSizesSpec : ChangeSpec := { name := "fitSizes", fn := fun _ => fun
  | [d1, d2, d3] => { results := [.lit (.bool true)], args := [d1, d2, d3] }
  | _ => none }
def fitSizesRow : OpenClaim := { program := "ytbgkmppngnedlaa", sum := "ad4859923d336ad085093ff8937ec3e333c5481d91373347b34e24f6e49925f7", func := "corbel/corbellaw21.FitSizes", spec := "fitSizes", unfollowed := true, recurses := true, apart := false }
def FitSizesSaid : Prop := fitSizesRow.holds Try.pinned (OpenSpec.ofChange fitSizesSpec)

/-- ITS FALSE NEIGHBOUR: 'it returns false'. Refute it at one input. -/
def fitSizesWrong : ChangeSpec := { name := "fitSizes", fn := fun _ => fun
  | [d1, d2, d3] => { results := [.lit (.bool false)], args := [d1, d2, d3] }
  | _ => none }
def FitSizesWrongFalsely : Prop := fitSizesRow.holds Try.pinned (OpenSpec.ofChange fitSizesWrong)

/-- 'corbellaw21.FitPacks': WHATEVER THE INPUT: true; the input reads as it did. -/
def fitPacksSpec : ChangeSpec := { name := "fitPacks", fn := fun _ => fun
  | [d] => { results := [.lit (.bool true)], args := [d] }
  | _ => none }
def fitPacksRow : OpenClaim := { program := "ytbgkmppngnedlaa", sum := "ad4859923d336ad085093ff8937ec3e333c5481d91373347b34e24f6e49925f7", func := "corbel/corbellaw21.FitPacks", spec := "fitPacks", unfollowed := true, recurses := true, apart := false }
def FitPacksSaid : Prop := fitPacksRow.holds Try.pinned (OpenSpec.ofChange fitPacksSpec)

/-- ITS FALSE NEIGHBOUR: 'it returns false'. Refute it at one input. -/
def fitPacksWrong : ChangeSpec := { name := "fitPacks", fn := fun _ => fun
  | [d] => { results := [.lit (.bool false)], args := [d] }
  | _ => none }
def FitPacksWrongFalsely : Prop := fitPacksRow.holds Try.pinned (OpenSpec.ofChange fitPacksWrong)

/-- 'corbellaw21.FitGrows': WHATEVER THE INPUT: true; the input reads as it did. -/
def fitGrowsSpec : ChangeSpec := { name := "fitGrows", fn := fun _ => fun
  | [d1, d2] => { results := [.lit (.bool true)], args := [d1, d2] }
  | _ => none }
def fitGrowsRow : OpenClaim := { program := "ytbgkmppngnedlaa", sum := "ad4859923d336ad085093ff8937ec3e333c5481d91373347b34e24f6e49925f7", func := "corbel/corbellaw21.FitGrows", spec := "fitGrows", unfollowed := true, recurses := true, apart := false }
def FitGrowsSaid : Prop := fitGrowsRow.holds Try.pinned (OpenSpec.ofChange fitGrowsSpec)

/-- ITS FALSE NEIGHBOUR: 'it returns false'. Refute it at one input. -/
def fitGrowsWrong : ChangeSpec := { name := "fitGrows", fn := fun _ => fun
  | [d1, d2] => { results := [.lit (.bool false)], args := [d1, d2] }
  | _ => none }
def FitGrowsWrongFalsely : Prop := fitGrowsRow.holds Try.pinned (OpenSpec.ofChange fitGrowsWrong)

/-- 'corbellaw19.LmapScripts': WHATEVER THE INPUT: true; the input reads as it did. -/
def lmapScriptsSpec : ChangeSpec := { name := "lmapScripts", fn := fun _ => fun
  | [d1, d2, d3] => { results := [.lit (.bool true)], args := [d1, d2, d3] }
  | _ => none }
def lmapScriptsRow : OpenClaim := { program := "ytbgkmppngnedlaa", sum := "ad4859923d336ad085093ff8937ec3e333c5481d91373347b34e24f6e49925f7", func := "corbel/corbellaw19.LmapScripts", spec := "lmapScripts", unfollowed := true, recurses := true, apart := false }
def LmapScriptsSaid : Prop := lmapScriptsRow.holds Try.pinned (OpenSpec.ofChange lmapScriptsSpec)

/-- ITS FALSE NEIGHBOUR: 'it returns false'. Refute it at one input. -/
def lmapScriptsWrong : ChangeSpec := { name := "lmapScripts", fn := fun _ => fun
  | [d1, d2, d3] => { results := [.lit (.bool false)], args := [d1, d2, d3] }
  | _ => none }
def LmapScriptsWrongFalsely : Prop := lmapScriptsRow.holds Try.pinned (OpenSpec.ofChange lmapScriptsWrong)

/-- 'corbellaw12.TailKeeps': WHATEVER THE INPUT: true; the input reads as it did. -/
def tailKeepsSpec : ChangeSpec := { name := "tailKeeps", fn := fun _ => fun
  | [d1, d2, d3] => { results := [.lit (.bool true)], args := [d1, d2, d3] }
  | _ => none }
def tailKeepsRow : OpenClaim := { program := "ytbgkmppngnedlaa", sum := "ad4859923d336ad085093ff8937ec3e333c5481d91373347b34e24f6e49925f7", func := "corbel/corbellaw12.TailKeeps", spec := "tailKeeps", unfollowed := true, recurses := true, apart := false }
def TailKeepsSaid : Prop := tailKeepsRow.holds Try.pinned (OpenSpec.ofChange tailKeepsSpec)

/-- ITS FALSE NEIGHBOUR: 'it returns false'. Refute it at one input. -/
def tailKeepsWrong : ChangeSpec := { name := "tailKeeps", fn := fun _ => fun
  | [d1, d2, d3] => { results := [.lit (.bool false)], args := [d1, d2, d3] }
  | _ => none }
def TailKeepsWrongFalsely : Prop := tailKeepsRow.holds Try.pinned (OpenSpec.ofChange tailKeepsWrong)

/- THE SECOND FORM. 'bulk': how many values and letters a reading holds, each counted each time it is reached (what is shared counts as often as it is met; a slice's spare places count too). A statement '..UptoSaid' is the law's where the arguments, and the package variables that the reading takes, are together of bulk at most 1048576: NARROWER than '..Said'. Prove '..Said' where nothing that the law and all that it calls make is longer than what came in: it says more and counts as full. Else prove '..UptoSaid'. A law counts once. -/
mutual
def uptoBulk {H : Type} : DataW H → Nat
  | .lit (.string bytes) => bytes.length + 1
  | .lit _ => 1
  | .nil => 1
  | .ptr d => uptoBulk d + 1
  | .slice elems spare => uptoBulkAll elems + uptoBulkAll spare + 1
  | .agg parts => uptoBulkAll parts + 1
  | .iface _ d => uptoBulk d + 1
  | .map entries => uptoBulkEntries entries + 1
  | .held _ => 1
def uptoBulkAll {H : Type} : List (DataW H) → Nat
  | [] => 0
  | d :: r => uptoBulk d + uptoBulkAll r
def uptoBulkEntries {H : Type} : List (Lit × DataW H) → Nat
  | [] => 0
  | x :: r => uptoBulkEntry x + uptoBulkEntries r
def uptoBulkEntry {H : Type} : Lit × DataW H → Nat
  | (.string bytes, d) => bytes.length + uptoBulk d + 1
  | (_, d) => uptoBulk d + 1
 end
def uptoSmall : (H : Type) → List (DataW H) → Bool := fun _ ds => decide (uptoBulkAll ds ≤ 1048576)
def OpenSpec.upto (s : _root_.Go.ChangeSpec) : _root_.Go.OpenSpec := { _root_.Go.OpenSpec.ofChange s with cond := some uptoSmall }

/-- 'corbellaw20.PickVictims', WHERE WHAT IT READS IS OF BULK AT MOST 1048576: true; the input reads as it did. -/
def pickVictimsUptoRow : OpenClaim := { program := "ytbgkmppngnedlaa", sum := "ad4859923d336ad085093ff8937ec3e333c5481d91373347b34e24f6e49925f7", func := "corbel/corbellaw20.PickVictims", spec := "pickVictims", unfollowed := true, recurses := true, apart := false, narrowed := true }
def PickVictimsUptoSaid : Prop := pickVictimsUptoRow.holds Try.pinned (OpenSpec.upto pickVictimsSpec)

/-- 'corbellaw20.PickLeast', WHERE WHAT IT READS IS OF BULK AT MOST 1048576: true; the input reads as it did. -/
def pickLeastUptoRow : OpenClaim := { program := "ytbgkmppngnedlaa", sum := "ad4859923d336ad085093ff8937ec3e333c5481d91373347b34e24f6e49925f7", func := "corbel/corbellaw20.PickLeast", spec := "pickLeast", unfollowed := true, recurses := true, apart := false, narrowed := true }
def PickLeastUptoSaid : Prop := pickLeastUptoRow.holds Try.pinned (OpenSpec.upto pickLeastSpec)

/-- 'corbellaw20.PickPacks', WHERE WHAT IT READS IS OF BULK AT MOST 1048576: true; the input reads as it did. -/
def pickPacksUptoRow : OpenClaim := { program := "ytbgkmppngnedlaa", sum := "ad4859923d336ad085093ff8937ec3e333c5481d91373347b34e24f6e49925f7", func := "corbel/corbellaw20.PickPacks", spec := "pickPacks", unfollowed := true, recurses := true, apart := false, narrowed := true }
def PickPacksUptoSaid : Prop := pickPacksUptoRow.holds Try.pinned (OpenSpec.upto pickPacksSpec)

/-- 'corbellaw20.PickTurned', WHERE WHAT IT READS IS OF BULK AT MOST 1048576: true; the input reads as it did. -/
def pickTurnedUptoRow : OpenClaim := { program := "ytbgkmppngnedlaa", sum := "ad4859923d336ad085093ff8937ec3e333c5481d91373347b34e24f6e49925f7", func := "corbel/corbellaw20.PickTurned", spec := "pickTurned", unfollowed := true, recurses := true, apart := false, narrowed := true }
def PickTurnedUptoSaid : Prop := pickTurnedUptoRow.holds Try.pinned (OpenSpec.upto pickTurnedSpec)

/-- 'corbellaw21.FitSizes', WHERE WHAT IT READS IS OF BULK AT MOST 1048576: true; the input reads as it did. -/
def fitSizesUptoRow : OpenClaim := { program := "ytbgkmppngnedlaa", sum := "ad4859923d336ad085093ff8937ec3e333c5481d91373347b34e24f6e49925f7", func := "corbel/corbellaw21.FitSizes", spec := "fitSizes", unfollowed := true, recurses := true, apart := false, narrowed := true }
def FitSizesUptoSaid : Prop := fitSizesUptoRow.holds Try.pinned (OpenSpec.upto fitSizesSpec)

/-- 'corbellaw21.FitPacks', WHERE WHAT IT READS IS OF BULK AT MOST 1048576: true; the input reads as it did. -/
def fitPacksUptoRow : OpenClaim := { program := "ytbgkmppngnedlaa", sum := "ad4859923d336ad085093ff8937ec3e333c5481d91373347b34e24f6e49925f7", func := "corbel/corbellaw21.FitPacks", spec := "fitPacks", unfollowed := true, recurses := true, apart := false, narrowed := true }
def FitPacksUptoSaid : Prop := fitPacksUptoRow.holds Try.pinned (OpenSpec.upto fitPacksSpec)

/-- 'corbellaw21.FitGrows', WHERE WHAT IT READS IS OF BULK AT MOST 1048576: true; the input reads as it did. -/
def fitGrowsUptoRow : OpenClaim := { program := "ytbgkmppngnedlaa", sum := "ad4859923d336ad085093ff8937ec3e333c5481d91373347b34e24f6e49925f7", func := "corbel/corbellaw21.FitGrows", spec := "fitGrows", unfollowed := true, recurses := true, apart := false, narrowed := true }
def FitGrowsUptoSaid : Prop := fitGrowsUptoRow.holds Try.pinned (OpenSpec.upto fitGrowsSpec)

/-- 'corbellaw19.LmapScripts', WHERE WHAT IT READS IS OF BULK AT MOST 1048576: true; the input reads as it did. -/
def lmapScriptsUptoRow : OpenClaim := { program := "ytbgkmppngnedlaa", sum := "ad4859923d336ad085093ff8937ec3e333c5481d91373347b34e24f6e49925f7", func := "corbel/corbellaw19.LmapScripts", spec := "lmapScripts", unfollowed := true, recurses := true, apart := false, narrowed := true }
def LmapScriptsUptoSaid : Prop := lmapScriptsUptoRow.holds Try.pinned (OpenSpec.upto lmapScriptsSpec)

/-- 'corbellaw12.TailKeeps', WHERE WHAT IT READS IS OF BULK AT MOST 1048576: true; the input reads as it did. -/
def tailKeepsUptoRow : OpenClaim := { program := "ytbgkmppngnedlaa", sum := "ad4859923d336ad085093ff8937ec3e333c5481d91373347b34e24f6e49925f7", func := "corbel/corbellaw12.TailKeeps", spec := "tailKeeps", unfollowed := true, recurses := true, apart := false, narrowed := true }
def TailKeepsUptoSaid : Prop := tailKeepsUptoRow.holds Try.pinned (OpenSpec.upto tailKeepsSpec)

end Rows
end Go.Proofs.Ytbgkmppngnedlaa
