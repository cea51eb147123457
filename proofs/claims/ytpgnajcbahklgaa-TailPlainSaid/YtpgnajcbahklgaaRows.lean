/-
  No cell of these rows narrows 'for every input' (looked for: loops, veiled, ifaces, maps, wideKeys, modest, calm, conditions, laid).
  DERIVED. THE GIVEN ROWS OF THIS SEAT. 9 by the template 'for every input the law returns true; each argument reads behind the call as it read before'; 0 by the template 'total and deterministic' (their statements: YtpgnajcbahklgaaTotals.lean).
  GIVEN WITH THE SEED: the statements are not yours to turn. If you find one false, say at which input.
  Laid BY PROGRAM, IN A SANDBOX (cutbox-rows.mjs): the forced cells as the released guide's own fill.sh prints them over the translation c5d086538d1afa27… (all of the seat's roots in one cut). By AI agents, Wed Nov 11 2026. No macro, syntax, notation, axiom, sorry.
-/
import Derived.Test.YtpgnajcbahklgaaChecked
import GoSem.Claim
import GoSem.ClaimJoined
import GoSem.ClaimMapViews
import Derived.JoinedTies
import Derived.KernelRfl
namespace Go.Proofs.Ytpgnajcbahklgaa
/- THE CELL 'sum', in the pinned program and in every row, IS THE sha256 OF THE DUMP (.gsa) THAT YtpgnajcbahklgaaProg.lean LOADS. Nothing in Lean hashes anything: it is a label: what it is worth is what the hold of that sum in a sandbox is worth. -/
noncomputable def Try.pinned : Pinned := { name := "ytpgnajcbahklgaa", sum := "c5d086538d1afa270e6b3756cc166d77b7ef2fef6ba2f829e79657b24a10707f", checked := Try.checked }
namespace Rows
def none {H : Type} : Left H := { results := [], args := [] }

/-- 'corbellaw12.TailSources': WHATEVER THE INPUT: true; the input reads as it did. -/
def tailSourcesSpec : ChangeSpec := { name := "tailSources", fn := fun _ => fun
  | [d1, d2, d3] => { results := [.lit (.bool true)], args := [d1, d2, d3] }
  | _ => none }
def tailSourcesRow : OpenClaim := { program := "ytpgnajcbahklgaa", sum := "c5d086538d1afa270e6b3756cc166d77b7ef2fef6ba2f829e79657b24a10707f", func := "corbel/corbellaw12.TailSources", spec := "tailSources", unfollowed := true, recurses := true, apart := false }
def TailSourcesSaid : Prop := tailSourcesRow.holds Try.pinned (OpenSpec.ofChange tailSourcesSpec)

/-- ITS FALSE NEIGHBOUR: 'it returns false'. Refute it at one input. -/
def tailSourcesWrong : ChangeSpec := { name := "tailSources", fn := fun _ => fun
  | [d1, d2, d3] => { results := [.lit (.bool false)], args := [d1, d2, d3] }
  | _ => none }
def TailSourcesWrongFalsely : Prop := tailSourcesRow.holds Try.pinned (OpenSpec.ofChange tailSourcesWrong)

/-- 'corbellaw12.TailGrows': WHATEVER THE INPUT: true; the input reads as it did. -/
def tailGrowsSpec : ChangeSpec := { name := "tailGrows", fn := fun _ => fun
  | [d1, d2, d3] => { results := [.lit (.bool true)], args := [d1, d2, d3] }
  | _ => none }
def tailGrowsRow : OpenClaim := { program := "ytpgnajcbahklgaa", sum := "c5d086538d1afa270e6b3756cc166d77b7ef2fef6ba2f829e79657b24a10707f", func := "corbel/corbellaw12.TailGrows", spec := "tailGrows", unfollowed := true, recurses := true, apart := false }
def TailGrowsSaid : Prop := tailGrowsRow.holds Try.pinned (OpenSpec.ofChange tailGrowsSpec)

/-- ITS FALSE NEIGHBOUR: 'it returns false'. Refute it at one input. -/
def tailGrowsWrong : ChangeSpec := { name := "tailGrows", fn := fun _ => fun
  | [d1, d2, d3] => { results := [.lit (.bool false)], args := [d1, d2, d3] }
  | _ => none }
def TailGrowsWrongFalsely : Prop := tailGrowsRow.holds Try.pinned (OpenSpec.ofChange tailGrowsWrong)

/-- 'corbellaw12.TailKeeps': WHATEVER THE INPUT: true; the input reads as it did. -/
def tailKeepsSpec : ChangeSpec := { name := "tailKeeps", fn := fun _ => fun
  | [d1, d2, d3] => { results := [.lit (.bool true)], args := [d1, d2, d3] }
  | _ => none }
def tailKeepsRow : OpenClaim := { program := "ytpgnajcbahklgaa", sum := "c5d086538d1afa270e6b3756cc166d77b7ef2fef6ba2f829e79657b24a10707f", func := "corbel/corbellaw12.TailKeeps", spec := "tailKeeps", unfollowed := true, recurses := true, apart := false }
def TailKeepsSaid : Prop := tailKeepsRow.holds Try.pinned (OpenSpec.ofChange tailKeepsSpec)

/-- ITS FALSE NEIGHBOUR: 'it returns false'. Refute it at one input. -/
def tailKeepsWrong : ChangeSpec := { name := "tailKeeps", fn := fun _ => fun
  | [d1, d2, d3] => { results := [.lit (.bool false)], args := [d1, d2, d3] }
  | _ => none }
def TailKeepsWrongFalsely : Prop := tailKeepsRow.holds Try.pinned (OpenSpec.ofChange tailKeepsWrong)

/-- 'corbellaw12.TailPlain': WHATEVER THE INPUT: true; the input reads as it did. -/
def tailPlainSpec : ChangeSpec := { name := "tailPlain", fn := fun _ => fun
  | [d1, d2, d3] => { results := [.lit (.bool true)], args := [d1, d2, d3] }
  | _ => none }
def tailPlainRow : OpenClaim := { program := "ytpgnajcbahklgaa", sum := "c5d086538d1afa270e6b3756cc166d77b7ef2fef6ba2f829e79657b24a10707f", func := "corbel/corbellaw12.TailPlain", spec := "tailPlain", unfollowed := true, recurses := true, apart := false }
def TailPlainSaid : Prop := tailPlainRow.holds Try.pinned (OpenSpec.ofChange tailPlainSpec)

/-- ITS FALSE NEIGHBOUR: 'it returns false'. Refute it at one input. -/
def tailPlainWrong : ChangeSpec := { name := "tailPlain", fn := fun _ => fun
  | [d1, d2, d3] => { results := [.lit (.bool false)], args := [d1, d2, d3] }
  | _ => none }
def TailPlainWrongFalsely : Prop := tailPlainRow.holds Try.pinned (OpenSpec.ofChange tailPlainWrong)

/-- 'corbellaw13.PlanWrites': WHATEVER THE INPUT: true; the input reads as it did. -/
def planWritesSpec : ChangeSpec := { name := "planWrites", fn := fun _ => fun
  | [d1, d2, d3] => { results := [.lit (.bool true)], args := [d1, d2, d3] }
  | _ => none }
def planWritesRow : OpenClaim := { program := "ytpgnajcbahklgaa", sum := "c5d086538d1afa270e6b3756cc166d77b7ef2fef6ba2f829e79657b24a10707f", func := "corbel/corbellaw13.PlanWrites", spec := "planWrites", apart := false }
def PlanWritesSaid : Prop := planWritesRow.holds Try.pinned (OpenSpec.ofChange planWritesSpec)

/-- ITS FALSE NEIGHBOUR: 'it returns false'. Refute it at one input. -/
def planWritesWrong : ChangeSpec := { name := "planWrites", fn := fun _ => fun
  | [d1, d2, d3] => { results := [.lit (.bool false)], args := [d1, d2, d3] }
  | _ => none }
def PlanWritesWrongFalsely : Prop := planWritesRow.holds Try.pinned (OpenSpec.ofChange planWritesWrong)

/-- 'corbellaw13.PlanLengths': WHATEVER THE INPUT: true; the input reads as it did. -/
def planLengthsSpec : ChangeSpec := { name := "planLengths", fn := fun _ => fun
  | [d1, d2, d3] => { results := [.lit (.bool true)], args := [d1, d2, d3] }
  | _ => none }
def planLengthsRow : OpenClaim := { program := "ytpgnajcbahklgaa", sum := "c5d086538d1afa270e6b3756cc166d77b7ef2fef6ba2f829e79657b24a10707f", func := "corbel/corbellaw13.PlanLengths", spec := "planLengths", apart := false }
def PlanLengthsSaid : Prop := planLengthsRow.holds Try.pinned (OpenSpec.ofChange planLengthsSpec)

/-- ITS FALSE NEIGHBOUR: 'it returns false'. Refute it at one input. -/
def planLengthsWrong : ChangeSpec := { name := "planLengths", fn := fun _ => fun
  | [d1, d2, d3] => { results := [.lit (.bool false)], args := [d1, d2, d3] }
  | _ => none }
def PlanLengthsWrongFalsely : Prop := planLengthsRow.holds Try.pinned (OpenSpec.ofChange planLengthsWrong)

/-- 'corbellaw13.PlanSums': WHATEVER THE INPUT: true; the input reads as it did. -/
def planSumsSpec : ChangeSpec := { name := "planSums", fn := fun _ => fun
  | [d1, d2, d3] => { results := [.lit (.bool true)], args := [d1, d2, d3] }
  | _ => none }
def planSumsRow : OpenClaim := { program := "ytpgnajcbahklgaa", sum := "c5d086538d1afa270e6b3756cc166d77b7ef2fef6ba2f829e79657b24a10707f", func := "corbel/corbellaw13.PlanSums", spec := "planSums", apart := false }
def PlanSumsSaid : Prop := planSumsRow.holds Try.pinned (OpenSpec.ofChange planSumsSpec)

/-- ITS FALSE NEIGHBOUR: 'it returns false'. Refute it at one input. -/
def planSumsWrong : ChangeSpec := { name := "planSums", fn := fun _ => fun
  | [d1, d2, d3] => { results := [.lit (.bool false)], args := [d1, d2, d3] }
  | _ => none }
def PlanSumsWrongFalsely : Prop := planSumsRow.holds Try.pinned (OpenSpec.ofChange planSumsWrong)

/-- 'corbellaw13.PlanEnds': WHATEVER THE INPUT: true; the input reads as it did. -/
def planEndsSpec : ChangeSpec := { name := "planEnds", fn := fun _ => fun
  | [d1, d2, d3] => { results := [.lit (.bool true)], args := [d1, d2, d3] }
  | _ => none }
def planEndsRow : OpenClaim := { program := "ytpgnajcbahklgaa", sum := "c5d086538d1afa270e6b3756cc166d77b7ef2fef6ba2f829e79657b24a10707f", func := "corbel/corbellaw13.PlanEnds", spec := "planEnds", apart := false }
def PlanEndsSaid : Prop := planEndsRow.holds Try.pinned (OpenSpec.ofChange planEndsSpec)

/-- ITS FALSE NEIGHBOUR: 'it returns false'. Refute it at one input. -/
def planEndsWrong : ChangeSpec := { name := "planEnds", fn := fun _ => fun
  | [d1, d2, d3] => { results := [.lit (.bool false)], args := [d1, d2, d3] }
  | _ => none }
def PlanEndsWrongFalsely : Prop := planEndsRow.holds Try.pinned (OpenSpec.ofChange planEndsWrong)

/-- 'corbellaw13.PlanParts': WHATEVER THE INPUT: true; the input reads as it did. -/
def planPartsSpec : ChangeSpec := { name := "planParts", fn := fun _ => fun
  | [d1, d2, d3] => { results := [.lit (.bool true)], args := [d1, d2, d3] }
  | _ => none }
def planPartsRow : OpenClaim := { program := "ytpgnajcbahklgaa", sum := "c5d086538d1afa270e6b3756cc166d77b7ef2fef6ba2f829e79657b24a10707f", func := "corbel/corbellaw13.PlanParts", spec := "planParts", apart := false }
def PlanPartsSaid : Prop := planPartsRow.holds Try.pinned (OpenSpec.ofChange planPartsSpec)

/-- ITS FALSE NEIGHBOUR: 'it returns false'. Refute it at one input. -/
def planPartsWrong : ChangeSpec := { name := "planParts", fn := fun _ => fun
  | [d1, d2, d3] => { results := [.lit (.bool false)], args := [d1, d2, d3] }
  | _ => none }
def PlanPartsWrongFalsely : Prop := planPartsRow.holds Try.pinned (OpenSpec.ofChange planPartsWrong)

/- THE SECOND FORM. 'bulk': how many values and letters a reading holds, each counted each time it is reached (what is shared counts as often as it is met; a slice's spare places count too). A statement '..UptoSaid' is the law's where the arguments, and the package variables that the reading takes, are together of bulk at most 1048576: NARROWER than '..Said'. Prove '..Said' where nothing that the law and all that it calls make is longer than what came in: it says more and counts as full. Else prove '..UptoSaid'. A law counts once. -/
mutual
def uptoBulk {H : Type} : DataW H → Nat
  | .lit (.string bytes) => bytes.length + 1
  | .lit _ => 1
  | .nil => 1
  | .ptr d => uptoBulk d + 1
  | .slice elems spare => uptoBulkAll elems + uptoBulkAll spare + 1
  | .agg parts => uptoBulkAll parts + 1
  | .iface _ d => uptoBulk d + 1
  | .map entries => uptoBulkEntries entries + 1
  | .held _ => 1
def uptoBulkAll {H : Type} : List (DataW H) → Nat
  | [] => 0
  | d :: r => uptoBulk d + uptoBulkAll r
def uptoBulkEntries {H : Type} : List (Lit × DataW H) → Nat
  | [] => 0
  | x :: r => uptoBulkEntry x + uptoBulkEntries r
def uptoBulkEntry {H : Type} : Lit × DataW H → Nat
  | (.string bytes, d) => bytes.length + uptoBulk d + 1
  | (_, d) => uptoBulk d + 1
 end
def uptoSmall : (H : Type) → List (DataW H) → Bool := fun _ ds => decide (uptoBulkAll ds ≤ 1048576)
def OpenSpec.upto (s : _root_.Go.ChangeSpec) : _root_.Go.OpenSpec := { _root_.Go.OpenSpec.ofChange s with cond := some uptoSmall }

/-- 'corbellaw12.TailSources', WHERE WHAT IT READS IS OF BULK AT MOST 1048576: true; the input reads as it did. -/
def tailSourcesUptoRow : OpenClaim := { program := "ytpgnajcbahklgaa", sum := "c5d086538d1afa270e6b3756cc166d77b7ef2fef6ba2f829e79657b24a10707f", func := "corbel/corbellaw12.TailSources", spec := "tailSources", unfollowed := true, recurses := true, apart := false, narrowed := true }
def TailSourcesUptoSaid : Prop := tailSourcesUptoRow.holds Try.pinned (OpenSpec.upto tailSourcesSpec)

/-- 'corbellaw12.TailGrows', WHERE WHAT IT READS IS OF BULK AT MOST 1048576: true; the input reads as it did. -/
def tailGrowsUptoRow : OpenClaim := { program := "ytpgnajcbahklgaa", sum := "c5d086538d1afa270e6b3756cc166d77b7ef2fef6ba2f829e79657b24a10707f", func := "corbel/corbellaw12.TailGrows", spec := "tailGrows", unfollowed := true, recurses := true, apart := false, narrowed := true }
def TailGrowsUptoSaid : Prop := tailGrowsUptoRow.holds Try.pinned (OpenSpec.upto tailGrowsSpec)

/-- 'corbellaw12.TailKeeps', WHERE WHAT IT READS IS OF BULK AT MOST 1048576: true; the input reads as it did. -/
def tailKeepsUptoRow : OpenClaim := { program := "ytpgnajcbahklgaa", sum := "c5d086538d1afa270e6b3756cc166d77b7ef2fef6ba2f829e79657b24a10707f", func := "corbel/corbellaw12.TailKeeps", spec := "tailKeeps", unfollowed := true, recurses := true, apart := false, narrowed := true }
def TailKeepsUptoSaid : Prop := tailKeepsUptoRow.holds Try.pinned (OpenSpec.upto tailKeepsSpec)

/-- 'corbellaw12.TailPlain', WHERE WHAT IT READS IS OF BULK AT MOST 1048576: true; the input reads as it did. -/
def tailPlainUptoRow : OpenClaim := { program := "ytpgnajcbahklgaa", sum := "c5d086538d1afa270e6b3756cc166d77b7ef2fef6ba2f829e79657b24a10707f", func := "corbel/corbellaw12.TailPlain", spec := "tailPlain", unfollowed := true, recurses := true, apart := false, narrowed := true }
def TailPlainUptoSaid : Prop := tailPlainUptoRow.holds Try.pinned (OpenSpec.upto tailPlainSpec)

/-- 'corbellaw13.PlanWrites', WHERE WHAT IT READS IS OF BULK AT MOST 1048576: true; the input reads as it did. -/
def planWritesUptoRow : OpenClaim := { program := "ytpgnajcbahklgaa", sum := "c5d086538d1afa270e6b3756cc166d77b7ef2fef6ba2f829e79657b24a10707f", func := "corbel/corbellaw13.PlanWrites", spec := "planWrites", apart := false, narrowed := true }
def PlanWritesUptoSaid : Prop := planWritesUptoRow.holds Try.pinned (OpenSpec.upto planWritesSpec)

/-- 'corbellaw13.PlanLengths', WHERE WHAT IT READS IS OF BULK AT MOST 1048576: true; the input reads as it did. -/
def planLengthsUptoRow : OpenClaim := { program := "ytpgnajcbahklgaa", sum := "c5d086538d1afa270e6b3756cc166d77b7ef2fef6ba2f829e79657b24a10707f", func := "corbel/corbellaw13.PlanLengths", spec := "planLengths", apart := false, narrowed := true }
def PlanLengthsUptoSaid : Prop := planLengthsUptoRow.holds Try.pinned (OpenSpec.upto planLengthsSpec)

/-- 'corbellaw13.PlanSums', WHERE WHAT IT READS IS OF BULK AT MOST 1048576: true; the input reads as it did. -/
def planSumsUptoRow : OpenClaim := { program := "ytpgnajcbahklgaa", sum := "c5d086538d1afa270e6b3756cc166d77b7ef2fef6ba2f829e79657b24a10707f", func := "corbel/corbellaw13.PlanSums", spec := "planSums", apart := false, narrowed := true }
def PlanSumsUptoSaid : Prop := planSumsUptoRow.holds Try.pinned (OpenSpec.upto planSumsSpec)

/-- 'corbellaw13.PlanEnds', WHERE WHAT IT READS IS OF BULK AT MOST 1048576: true; the input reads as it did. -/
def planEndsUptoRow : OpenClaim := { program := "ytpgnajcbahklgaa", sum := "c5d086538d1afa270e6b3756cc166d77b7ef2fef6ba2f829e79657b24a10707f", func := "corbel/corbellaw13.PlanEnds", spec := "planEnds", apart := false, narrowed := true }
def PlanEndsUptoSaid : Prop := planEndsUptoRow.holds Try.pinned (OpenSpec.upto planEndsSpec)

/-- 'corbellaw13.PlanParts', WHERE WHAT IT READS IS OF BULK AT MOST 1048576: true; the input reads as it did. -/
def planPartsUptoRow : OpenClaim := { program := "ytpgnajcbahklgaa", sum := "c5d086538d1afa270e6b3756cc166d77b7ef2fef6ba2f829e79657b24a10707f", func := "corbel/corbellaw13.PlanParts", spec := "planParts", apart := false, narrowed := true }
def PlanPartsUptoSaid : Prop := planPartsUptoRow.holds Try.pinned (OpenSpec.upto planPartsSpec)

end Rows
end Go.Proofs.Ytpgnajcbahklgaa
