/-
  No cell of these rows narrows 'for every input' (looked for: loops, veiled, ifaces, maps, wideKeys, modest, calm, conditions, laid).
  DERIVED. THE GIVEN ROWS OF THIS SEAT. 9 by the template 'for every input the law returns true; each argument reads behind the call as it read before'; 0 by the template 'total and deterministic' (their statements: YtonoanjakfaloaaTotals.lean).
  GIVEN WITH THE SEED: the statements are not yours to turn. If you find one false, say at which input.
  Laid BY PROGRAM, IN A SANDBOX (cutbox-rows.mjs): the forced cells as the released guide's own fill.sh prints them over the translation 918102d774784b24… (all of the seat's roots in one cut). By AI agents, Wed Nov 11 2026. No macro, syntax, notation, axiom, sorry.
-/
import Derived.Test.YtonoanjakfaloaaChecked
import GoSem.Claim
import GoSem.ClaimJoined
import GoSem.ClaimMapViews
import Derived.JoinedTies
import Derived.KernelRfl
namespace Go.Proofs.Ytonoanjakfaloaa
/- THE CELL 'sum', in the pinned program and in every row, IS THE sha256 OF THE DUMP (.gsa) THAT YtonoanjakfaloaaProg.lean LOADS. Nothing in Lean hashes anything: it is a label: what it is worth is what the hold of that sum in a sandbox is worth. -/
noncomputable def Try.pinned : Pinned := { name := "ytonoanjakfaloaa", sum := "918102d774784b2410e8169f02bba5f16dc8d5f1176ae44aef0bd136a08fc849", checked := Try.checked }
namespace Rows
def none {H : Type} : Left H := { results := [], args := [] }

/-- 'corbellaw11.StripeRows': WHATEVER THE INPUT: true; the input reads as it did. -/
def stripeRowsSpec : ChangeSpec := { name := "stripeRows", fn := fun _ => fun
  | [d1, d2, d3] => { results := [.lit (.bool true)], args := [d1, d2, d3] }
  | _ => none }
def stripeRowsRow : OpenClaim := { program := "ytonoanjakfaloaa", sum := "918102d774784b2410e8169f02bba5f16dc8d5f1176ae44aef0bd136a08fc849", func := "corbel/corbellaw11.StripeRows", spec := "stripeRows", apart := false }
def StripeRowsSaid : Prop := stripeRowsRow.holds Try.pinned (OpenSpec.ofChange stripeRowsSpec)

/-- ITS FALSE NEIGHBOUR: 'it returns false'. Refute it at one input. -/
def stripeRowsWrong : ChangeSpec := { name := "stripeRows", fn := fun _ => fun
  | [d1, d2, d3] => { results := [.lit (.bool false)], args := [d1, d2, d3] }
  | _ => none }
def StripeRowsWrongFalsely : Prop := stripeRowsRow.holds Try.pinned (OpenSpec.ofChange stripeRowsWrong)

/-- 'corbellaw11.StripeBranches': WHATEVER THE INPUT: true; the input reads as it did. -/
def stripeBranchesSpec : ChangeSpec := { name := "stripeBranches", fn := fun _ => fun
  | [d1, d2, d3] => { results := [.lit (.bool true)], args := [d1, d2, d3] }
  | _ => none }
def stripeBranchesRow : OpenClaim := { program := "ytonoanjakfaloaa", sum := "918102d774784b2410e8169f02bba5f16dc8d5f1176ae44aef0bd136a08fc849", func := "corbel/corbellaw11.StripeBranches", spec := "stripeBranches", apart := false }
def StripeBranchesSaid : Prop := stripeBranchesRow.holds Try.pinned (OpenSpec.ofChange stripeBranchesSpec)

/-- ITS FALSE NEIGHBOUR: 'it returns false'. Refute it at one input. -/
def stripeBranchesWrong : ChangeSpec := { name := "stripeBranches", fn := fun _ => fun
  | [d1, d2, d3] => { results := [.lit (.bool false)], args := [d1, d2, d3] }
  | _ => none }
def StripeBranchesWrongFalsely : Prop := stripeBranchesRow.holds Try.pinned (OpenSpec.ofChange stripeBranchesWrong)

/-- 'corbellaw11.StripeRestores': WHATEVER THE INPUT: true; the input reads as it did. -/
def stripeRestoresSpec : ChangeSpec := { name := "stripeRestores", fn := fun _ => fun
  | [d1, d2, d3] => { results := [.lit (.bool true)], args := [d1, d2, d3] }
  | _ => none }
def stripeRestoresRow : OpenClaim := { program := "ytonoanjakfaloaa", sum := "918102d774784b2410e8169f02bba5f16dc8d5f1176ae44aef0bd136a08fc849", func := "corbel/corbellaw11.StripeRestores", spec := "stripeRestores", unfollowed := true, recurses := true, apart := false }
def StripeRestoresSaid : Prop := stripeRestoresRow.holds Try.pinned (OpenSpec.ofChange stripeRestoresSpec)

/-- ITS FALSE NEIGHBOUR: 'it returns false'. Refute it at one input. -/
def stripeRestoresWrong : ChangeSpec := { name := "stripeRestores", fn := fun _ => fun
  | [d1, d2, d3] => { results := [.lit (.bool false)], args := [d1, d2, d3] }
  | _ => none }
def StripeRestoresWrongFalsely : Prop := stripeRestoresRow.holds Try.pinned (OpenSpec.ofChange stripeRestoresWrong)

/-- 'corbellaw11.StripePieces': WHATEVER THE INPUT: true; the input reads as it did. -/
def stripePiecesSpec : ChangeSpec := { name := "stripePieces", fn := fun _ => fun
  | [d1, d2, d3] => { results := [.lit (.bool true)], args := [d1, d2, d3] }
  | _ => none }
def stripePiecesRow : OpenClaim := { program := "ytonoanjakfaloaa", sum := "918102d774784b2410e8169f02bba5f16dc8d5f1176ae44aef0bd136a08fc849", func := "corbel/corbellaw11.StripePieces", spec := "stripePieces", apart := false }
def StripePiecesSaid : Prop := stripePiecesRow.holds Try.pinned (OpenSpec.ofChange stripePiecesSpec)

/-- ITS FALSE NEIGHBOUR: 'it returns false'. Refute it at one input. -/
def stripePiecesWrong : ChangeSpec := { name := "stripePieces", fn := fun _ => fun
  | [d1, d2, d3] => { results := [.lit (.bool false)], args := [d1, d2, d3] }
  | _ => none }
def StripePiecesWrongFalsely : Prop := stripePiecesRow.holds Try.pinned (OpenSpec.ofChange stripePiecesWrong)

/-- 'corbellaw11.StripeOne': WHATEVER THE INPUT: true; the input reads as it did. -/
def stripeOneSpec : ChangeSpec := { name := "stripeOne", fn := fun _ => fun
  | [d1, d2] => { results := [.lit (.bool true)], args := [d1, d2] }
  | _ => none }
def stripeOneRow : OpenClaim := { program := "ytonoanjakfaloaa", sum := "918102d774784b2410e8169f02bba5f16dc8d5f1176ae44aef0bd136a08fc849", func := "corbel/corbellaw11.StripeOne", spec := "stripeOne", unfollowed := true, recurses := true, apart := false }
def StripeOneSaid : Prop := stripeOneRow.holds Try.pinned (OpenSpec.ofChange stripeOneSpec)

/-- ITS FALSE NEIGHBOUR: 'it returns false'. Refute it at one input. -/
def stripeOneWrong : ChangeSpec := { name := "stripeOne", fn := fun _ => fun
  | [d1, d2] => { results := [.lit (.bool false)], args := [d1, d2] }
  | _ => none }
def StripeOneWrongFalsely : Prop := stripeOneRow.holds Try.pinned (OpenSpec.ofChange stripeOneWrong)

/-- 'corbellaw12.TailSources': WHATEVER THE INPUT: true; the input reads as it did. -/
def tailSourcesSpec : ChangeSpec := { name := "tailSources", fn := fun _ => fun
  | [d1, d2, d3] => { results := [.lit (.bool true)], args := [d1, d2, d3] }
  | _ => none }
def tailSourcesRow : OpenClaim := { program := "ytonoanjakfaloaa", sum := "918102d774784b2410e8169f02bba5f16dc8d5f1176ae44aef0bd136a08fc849", func := "corbel/corbellaw12.TailSources", spec := "tailSources", unfollowed := true, recurses := true, apart := false }
def TailSourcesSaid : Prop := tailSourcesRow.holds Try.pinned (OpenSpec.ofChange tailSourcesSpec)

/-- ITS FALSE NEIGHBOUR: 'it returns false'. Refute it at one input. -/
def tailSourcesWrong : ChangeSpec := { name := "tailSources", fn := fun _ => fun
  | [d1, d2, d3] => { results := [.lit (.bool false)], args := [d1, d2, d3] }
  | _ => none }
def TailSourcesWrongFalsely : Prop := tailSourcesRow.holds Try.pinned (OpenSpec.ofChange tailSourcesWrong)

/-- 'corbellaw12.TailGrows': WHATEVER THE INPUT: true; the input reads as it did. -/
def tailGrowsSpec : ChangeSpec := { name := "tailGrows", fn := fun _ => fun
  | [d1, d2, d3] => { results := [.lit (.bool true)], args := [d1, d2, d3] }
  | _ => none }
def tailGrowsRow : OpenClaim := { program := "ytonoanjakfaloaa", sum := "918102d774784b2410e8169f02bba5f16dc8d5f1176ae44aef0bd136a08fc849", func := "corbel/corbellaw12.TailGrows", spec := "tailGrows", unfollowed := true, recurses := true, apart := false }
def TailGrowsSaid : Prop := tailGrowsRow.holds Try.pinned (OpenSpec.ofChange tailGrowsSpec)

/-- ITS FALSE NEIGHBOUR: 'it returns false'. Refute it at one input. -/
def tailGrowsWrong : ChangeSpec := { name := "tailGrows", fn := fun _ => fun
  | [d1, d2, d3] => { results := [.lit (.bool false)], args := [d1, d2, d3] }
  | _ => none }
def TailGrowsWrongFalsely : Prop := tailGrowsRow.holds Try.pinned (OpenSpec.ofChange tailGrowsWrong)

/-- 'corbellaw12.TailKeeps': WHATEVER THE INPUT: true; the input reads as it did. -/
def tailKeepsSpec : ChangeSpec := { name := "tailKeeps", fn := fun _ => fun
  | [d1, d2, d3] => { results := [.lit (.bool true)], args := [d1, d2, d3] }
  | _ => none }
def tailKeepsRow : OpenClaim := { program := "ytonoanjakfaloaa", sum := "918102d774784b2410e8169f02bba5f16dc8d5f1176ae44aef0bd136a08fc849", func := "corbel/corbellaw12.TailKeeps", spec := "tailKeeps", unfollowed := true, recurses := true, apart := false }
def TailKeepsSaid : Prop := tailKeepsRow.holds Try.pinned (OpenSpec.ofChange tailKeepsSpec)

/-- ITS FALSE NEIGHBOUR: 'it returns false'. Refute it at one input. -/
def tailKeepsWrong : ChangeSpec := { name := "tailKeeps", fn := fun _ => fun
  | [d1, d2, d3] => { results := [.lit (.bool false)], args := [d1, d2, d3] }
  | _ => none }
def TailKeepsWrongFalsely : Prop := tailKeepsRow.holds Try.pinned (OpenSpec.ofChange tailKeepsWrong)

/-- 'corbellaw12.TailPlain': WHATEVER THE INPUT: true; the input reads as it did. -/
def tailPlainSpec : ChangeSpec := { name := "tailPlain", fn := fun _ => fun
  | [d1, d2, d3] => { results := [.lit (.bool true)], args := [d1, d2, d3] }
  | _ => none }
def tailPlainRow : OpenClaim := { program := "ytonoanjakfaloaa", sum := "918102d774784b2410e8169f02bba5f16dc8d5f1176ae44aef0bd136a08fc849", func := "corbel/corbellaw12.TailPlain", spec := "tailPlain", unfollowed := true, recurses := true, apart := false }
def TailPlainSaid : Prop := tailPlainRow.holds Try.pinned (OpenSpec.ofChange tailPlainSpec)

/-- ITS FALSE NEIGHBOUR: 'it returns false'. Refute it at one input. -/
def tailPlainWrong : ChangeSpec := { name := "tailPlain", fn := fun _ => fun
  | [d1, d2, d3] => { results := [.lit (.bool false)], args := [d1, d2, d3] }
  | _ => none }
def TailPlainWrongFalsely : Prop := tailPlainRow.holds Try.pinned (OpenSpec.ofChange tailPlainWrong)

/- THE SECOND FORM. 'bulk': how many values and letters a reading holds, each counted each time it is reached (what is shared counts as often as it is met; a slice's spare places count too). A statement '..UptoSaid' is the law's where the arguments, and the package variables that the reading takes, are together of bulk at most 1048576: NARROWER than '..Said'. Prove '..Said' where nothing that the law and all that it calls make is longer than what came in: it says more and counts as full. Else prove '..UptoSaid'. A law counts once. -/
mutual
def uptoBulk {H : Type} : DataW H → Nat
  | .lit (.string bytes) => bytes.length + 1
  | .lit _ => 1
  | .nil => 1
  | .ptr d => uptoBulk d + 1
  | .slice elems spare => uptoBulkAll elems + uptoBulkAll spare + 1
  | .agg parts => uptoBulkAll parts + 1
  | .iface _ d => uptoBulk d + 1
  | .map entries => uptoBulkEntries entries + 1
  | .held _ => 1
def uptoBulkAll {H : Type} : List (DataW H) → Nat
  | [] => 0
  | d :: r => uptoBulk d + uptoBulkAll r
def uptoBulkEntries {H : Type} : List (Lit × DataW H) → Nat
  | [] => 0
  | x :: r => uptoBulkEntry x + uptoBulkEntries r
def uptoBulkEntry {H : Type} : Lit × DataW H → Nat
  | (.string bytes, d) => bytes.length + uptoBulk d + 1
  | (_, d) => uptoBulk d + 1
 end
def uptoSmall : (H : Type) → List (DataW H) → Bool := fun _ ds => decide (uptoBulkAll ds ≤ 1048576)
def OpenSpec.upto (s : _root_.Go.ChangeSpec) : _root_.Go.OpenSpec := { _root_.Go.OpenSpec.ofChange s with cond := some uptoSmall }

/-- 'corbellaw11.StripeRows', WHERE WHAT IT READS IS OF BULK AT MOST 1048576: true; the input reads as it did. -/
def stripeRowsUptoRow : OpenClaim := { program := "ytonoanjakfaloaa", sum := "918102d774784b2410e8169f02bba5f16dc8d5f1176ae44aef0bd136a08fc849", func := "corbel/corbellaw11.StripeRows", spec := "stripeRows", apart := false, narrowed := true }
def StripeRowsUptoSaid : Prop := stripeRowsUptoRow.holds Try.pinned (OpenSpec.upto stripeRowsSpec)

/-- 'corbellaw11.StripeBranches', WHERE WHAT IT READS IS OF BULK AT MOST 1048576: true; the input reads as it did. -/
def stripeBranchesUptoRow : OpenClaim := { program := "ytonoanjakfaloaa", sum := "918102d774784b2410e8169f02bba5f16dc8d5f1176ae44aef0bd136a08fc849", func := "corbel/corbellaw11.StripeBranches", spec := "stripeBranches", apart := false, narrowed := true }
def StripeBranchesUptoSaid : Prop := stripeBranchesUptoRow.holds Try.pinned (OpenSpec.upto stripeBranchesSpec)

/-- 'corbellaw11.StripeRestores', WHERE WHAT IT READS IS OF BULK AT MOST 1048576: true; the input reads as it did. -/
def stripeRestoresUptoRow : OpenClaim := { program := "ytonoanjakfaloaa", sum := "918102d774784b2410e8169f02bba5f16dc8d5f1176ae44aef0bd136a08fc849", func := "corbel/corbellaw11.StripeRestores", spec := "stripeRestores", unfollowed := true, recurses := true, apart := false, narrowed := true }
def StripeRestoresUptoSaid : Prop := stripeRestoresUptoRow.holds Try.pinned (OpenSpec.upto stripeRestoresSpec)

/-- 'corbellaw11.StripePieces', WHERE WHAT IT READS IS OF BULK AT MOST 1048576: true; the input reads as it did. -/
def stripePiecesUptoRow : OpenClaim := { program := "ytonoanjakfaloaa", sum := "918102d774784b2410e8169f02bba5f16dc8d5f1176ae44aef0bd136a08fc849", func := "corbel/corbellaw11.StripePieces", spec := "stripePieces", apart := false, narrowed := true }
def StripePiecesUptoSaid : Prop := stripePiecesUptoRow.holds Try.pinned (OpenSpec.upto stripePiecesSpec)

/-- 'corbellaw11.StripeOne', WHERE WHAT IT READS IS OF BULK AT MOST 1048576: true; the input reads as it did. -/
def stripeOneUptoRow : OpenClaim := { program := "ytonoanjakfaloaa", sum := "918102d774784b2410e8169f02bba5f16dc8d5f1176ae44aef0bd136a08fc849", func := "corbel/corbellaw11.StripeOne", spec := "stripeOne", unfollowed := true, recurses := true, apart := false, narrowed := true }
def StripeOneUptoSaid : Prop := stripeOneUptoRow.holds Try.pinned (OpenSpec.upto stripeOneSpec)

/-- 'corbellaw12.TailSources', WHERE WHAT IT READS IS OF BULK AT MOST 1048576: true; the input reads as it did. -/
def tailSourcesUptoRow : OpenClaim := { program := "ytonoanjakfaloaa", sum := "918102d774784b2410e8169f02bba5f16dc8d5f1176ae44aef0bd136a08fc849", func := "corbel/corbellaw12.TailSources", spec := "tailSources", unfollowed := true, recurses := true, apart := false, narrowed := true }
def TailSourcesUptoSaid : Prop := tailSourcesUptoRow.holds Try.pinned (OpenSpec.upto tailSourcesSpec)

/-- 'corbellaw12.TailGrows', WHERE WHAT IT READS IS OF BULK AT MOST 1048576: true; the input reads as it did. -/
def tailGrowsUptoRow : OpenClaim := { program := "ytonoanjakfaloaa", sum := "918102d774784b2410e8169f02bba5f16dc8d5f1176ae44aef0bd136a08fc849", func := "corbel/corbellaw12.TailGrows", spec := "tailGrows", unfollowed := true, recurses := true, apart := false, narrowed := true }
def TailGrowsUptoSaid : Prop := tailGrowsUptoRow.holds Try.pinned (OpenSpec.upto tailGrowsSpec)

/-- 'corbellaw12.TailKeeps', WHERE WHAT IT READS IS OF BULK AT MOST 1048576: true; the input reads as it did. -/
def tailKeepsUptoRow : OpenClaim := { program := "ytonoanjakfaloaa", sum := "918102d774784b2410e8169f02bba5f16dc8d5f1176ae44aef0bd136a08fc849", func := "corbel/corbellaw12.TailKeeps", spec := "tailKeeps", unfollowed := true, recurses := true, apart := false, narrowed := true }
def TailKeepsUptoSaid : Prop := tailKeepsUptoRow.holds Try.pinned (OpenSpec.upto tailKeepsSpec)

/-- 'corbellaw12.TailPlain', WHERE WHAT IT READS IS OF BULK AT MOST 1048576: true; the input reads as it did. -/
def tailPlainUptoRow : OpenClaim := { program := "ytonoanjakfaloaa", sum := "918102d774784b2410e8169f02bba5f16dc8d5f1176ae44aef0bd136a08fc849", func := "corbel/corbellaw12.TailPlain", spec := "tailPlain", unfollowed := true, recurses := true, apart := false, narrowed := true }
def TailPlainUptoSaid : Prop := tailPlainUptoRow.holds Try.pinned (OpenSpec.upto tailPlainSpec)

end Rows
end Go.Proofs.Ytonoanjakfaloaa
