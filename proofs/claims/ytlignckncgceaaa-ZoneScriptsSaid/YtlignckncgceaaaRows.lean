/-
  No cell of these rows narrows 'for every input' (looked for: loops, veiled, ifaces, maps, wideKeys, modest, calm, conditions, laid).
  DERIVED. THE GIVEN ROWS OF THIS SEAT. 6 by the template 'for every input the law returns true; each argument reads behind the call as it read before'; 0 by the template 'total and deterministic' (their statements: YtlignckncgceaaaTotals.lean).
  GIVEN WITH THE SEED: the statements are not yours to turn. If you find one false, say at which input.
  Laid BY PROGRAM, IN A SANDBOX (cutbox-rows.mjs): the forced cells as the released guide's own fill.sh prints them over the translation 942a819747fc9329… (all of the seat's roots in one cut). By AI agents, Wed Nov 11 2026. No macro, syntax, notation, axiom, sorry.
-/
import Derived.Test.YtlignckncgceaaaChecked
import GoSem.Claim
import GoSem.ClaimJoined
import GoSem.ClaimMapViews
import Derived.JoinedTies
import Derived.KernelRfl
namespace Go.Proofs.Ytlignckncgceaaa
/- THE CELL 'sum', in the pinned program and in every row, IS THE sha256 OF THE DUMP (.gsa) THAT YtlignckncgceaaaProg.lean LOADS. Nothing in Lean hashes anything: it is a label: what it is worth is what the hold of that sum in a sandbox is worth. -/
noncomputable def Try.pinned : Pinned := { name := "ytlignckncgceaaa", sum := "942a819747fc9329e94d45c743059f287f3e1b7a3262e341a0ad09bc055c102b", checked := Try.checked }
namespace Rows
def none {H : Type} : Left H := { results := [], args := [] }

/-- 'corbellaw05.ZoneScripts': WHATEVER THE INPUT: true; the input reads as it did. -/
def zoneScriptsSpec : ChangeSpec := { name := "zoneScripts", fn := fun _ => fun
  | [d1, d2, d3] => { results := [.lit (.bool true)], args := [d1, d2, d3] }
  | _ => none }
def zoneScriptsRow : OpenClaim := { program := "ytlignckncgceaaa", sum := "942a819747fc9329e94d45c743059f287f3e1b7a3262e341a0ad09bc055c102b", func := "corbel/corbellaw05.ZoneScripts", spec := "zoneScripts", unfollowed := true, recurses := true, apart := false }
def ZoneScriptsSaid : Prop := zoneScriptsRow.holds Try.pinned (OpenSpec.ofChange zoneScriptsSpec)

/-- ITS FALSE NEIGHBOUR: 'it returns false'. Refute it at one input. -/
def zoneScriptsWrong : ChangeSpec := { name := "zoneScripts", fn := fun _ => fun
  | [d1, d2, d3] => { results := [.lit (.bool false)], args := [d1, d2, d3] }
  | _ => none }
def ZoneScriptsWrongFalsely : Prop := zoneScriptsRow.holds Try.pinned (OpenSpec.ofChange zoneScriptsWrong)

/-- 'corbellaw05.ZoneLimits': WHATEVER THE INPUT: true; the input reads as it did. -/
def zoneLimitsSpec : ChangeSpec := { name := "zoneLimits", fn := fun _ => fun
  | [d1, d2] => { results := [.lit (.bool true)], args := [d1, d2] }
  | _ => none }
def zoneLimitsRow : OpenClaim := { program := "ytlignckncgceaaa", sum := "942a819747fc9329e94d45c743059f287f3e1b7a3262e341a0ad09bc055c102b", func := "corbel/corbellaw05.ZoneLimits", spec := "zoneLimits", unfollowed := true, recurses := true, apart := false }
def ZoneLimitsSaid : Prop := zoneLimitsRow.holds Try.pinned (OpenSpec.ofChange zoneLimitsSpec)

/-- ITS FALSE NEIGHBOUR: 'it returns false'. Refute it at one input. -/
def zoneLimitsWrong : ChangeSpec := { name := "zoneLimits", fn := fun _ => fun
  | [d1, d2] => { results := [.lit (.bool false)], args := [d1, d2] }
  | _ => none }
def ZoneLimitsWrongFalsely : Prop := zoneLimitsRow.holds Try.pinned (OpenSpec.ofChange zoneLimitsWrong)

/-- 'corbellaw05.ZoneGoes': WHATEVER THE INPUT: true; the input reads as it did. -/
def zoneGoesSpec : ChangeSpec := { name := "zoneGoes", fn := fun _ => fun
  | [d1, d2] => { results := [.lit (.bool true)], args := [d1, d2] }
  | _ => none }
def zoneGoesRow : OpenClaim := { program := "ytlignckncgceaaa", sum := "942a819747fc9329e94d45c743059f287f3e1b7a3262e341a0ad09bc055c102b", func := "corbel/corbellaw05.ZoneGoes", spec := "zoneGoes", unfollowed := true, recurses := true, apart := false }
def ZoneGoesSaid : Prop := zoneGoesRow.holds Try.pinned (OpenSpec.ofChange zoneGoesSpec)

/-- ITS FALSE NEIGHBOUR: 'it returns false'. Refute it at one input. -/
def zoneGoesWrong : ChangeSpec := { name := "zoneGoes", fn := fun _ => fun
  | [d1, d2] => { results := [.lit (.bool false)], args := [d1, d2] }
  | _ => none }
def ZoneGoesWrongFalsely : Prop := zoneGoesRow.holds Try.pinned (OpenSpec.ofChange zoneGoesWrong)

/-- 'corbellaw05.ZoneNil': WHATEVER THE INPUT: true; the input reads as it did. -/
def zoneNilSpec : ChangeSpec := { name := "zoneNil", fn := fun _ => fun
  | [d1, d2] => { results := [.lit (.bool true)], args := [d1, d2] }
  | _ => none }
def zoneNilRow : OpenClaim := { program := "ytlignckncgceaaa", sum := "942a819747fc9329e94d45c743059f287f3e1b7a3262e341a0ad09bc055c102b", func := "corbel/corbellaw05.ZoneNil", spec := "zoneNil", unfollowed := true, recurses := true, apart := false }
def ZoneNilSaid : Prop := zoneNilRow.holds Try.pinned (OpenSpec.ofChange zoneNilSpec)

/-- ITS FALSE NEIGHBOUR: 'it returns false'. Refute it at one input. -/
def zoneNilWrong : ChangeSpec := { name := "zoneNil", fn := fun _ => fun
  | [d1, d2] => { results := [.lit (.bool false)], args := [d1, d2] }
  | _ => none }
def ZoneNilWrongFalsely : Prop := zoneNilRow.holds Try.pinned (OpenSpec.ofChange zoneNilWrong)

/-- 'corbellaw05.ZoneApart': WHATEVER THE INPUT: true; the input reads as it did. -/
def zoneApartSpec : ChangeSpec := { name := "zoneApart", fn := fun _ => fun
  | [d1, d2, d3] => { results := [.lit (.bool true)], args := [d1, d2, d3] }
  | _ => none }
def zoneApartRow : OpenClaim := { program := "ytlignckncgceaaa", sum := "942a819747fc9329e94d45c743059f287f3e1b7a3262e341a0ad09bc055c102b", func := "corbel/corbellaw05.ZoneApart", spec := "zoneApart", unfollowed := true, recurses := true, apart := false }
def ZoneApartSaid : Prop := zoneApartRow.holds Try.pinned (OpenSpec.ofChange zoneApartSpec)

/-- ITS FALSE NEIGHBOUR: 'it returns false'. Refute it at one input. -/
def zoneApartWrong : ChangeSpec := { name := "zoneApart", fn := fun _ => fun
  | [d1, d2, d3] => { results := [.lit (.bool false)], args := [d1, d2, d3] }
  | _ => none }
def ZoneApartWrongFalsely : Prop := zoneApartRow.holds Try.pinned (OpenSpec.ofChange zoneApartWrong)

/-- 'corbellaw05.ZoneFrees': WHATEVER THE INPUT: true; the input reads as it did. -/
def zoneFreesSpec : ChangeSpec := { name := "zoneFrees", fn := fun _ => fun
  | [d1, d2, d3] => { results := [.lit (.bool true)], args := [d1, d2, d3] }
  | _ => none }
def zoneFreesRow : OpenClaim := { program := "ytlignckncgceaaa", sum := "942a819747fc9329e94d45c743059f287f3e1b7a3262e341a0ad09bc055c102b", func := "corbel/corbellaw05.ZoneFrees", spec := "zoneFrees", unfollowed := true, recurses := true, apart := false }
def ZoneFreesSaid : Prop := zoneFreesRow.holds Try.pinned (OpenSpec.ofChange zoneFreesSpec)

/-- ITS FALSE NEIGHBOUR: 'it returns false'. Refute it at one input. -/
def zoneFreesWrong : ChangeSpec := { name := "zoneFrees", fn := fun _ => fun
  | [d1, d2, d3] => { results := [.lit (.bool false)], args := [d1, d2, d3] }
  | _ => none }
def ZoneFreesWrongFalsely : Prop := zoneFreesRow.holds Try.pinned (OpenSpec.ofChange zoneFreesWrong)

/- THE SECOND FORM. 'bulk': how many values and letters a reading holds, each counted each time it is reached (what is shared counts as often as it is met; a slice's spare places count too). A statement '..UptoSaid' is the law's where the arguments, and the package variables that the reading takes, are together of bulk at most 1048576: NARROWER than '..Said'. Prove '..Said' where nothing that the law and all that it calls make is longer than what came in: it says more and counts as full. Else prove '..UptoSaid'. A law counts once. -/
mutual
def uptoBulk {H : Type} : DataW H → Nat
  | .lit (.string bytes) => bytes.length + 1
  | .lit _ => 1
  | .nil => 1
  | .ptr d => uptoBulk d + 1
  | .slice elems spare => uptoBulkAll elems + uptoBulkAll spare + 1
  | .agg parts => uptoBulkAll parts + 1
  | .iface _ d => uptoBulk d + 1
  | .map entries => uptoBulkEntries entries + 1
  | .held _ => 1
def uptoBulkAll {H : Type} : List (DataW H) → Nat
  | [] => 0
  | d :: r => uptoBulk d + uptoBulkAll r
def uptoBulkEntries {H : Type} : List (Lit × DataW H) → Nat
  | [] => 0
  | x :: r => uptoBulkEntry x + uptoBulkEntries r
def uptoBulkEntry {H : Type} : Lit × DataW H → Nat
  | (.string bytes, d) => bytes.length + uptoBulk d + 1
  | (_, d) => uptoBulk d + 1
 end
def uptoSmall : (H : Type) → List (DataW H) → Bool := fun _ ds => decide (uptoBulkAll ds ≤ 1048576)
def OpenSpec.upto (s : _root_.Go.ChangeSpec) : _root_.Go.OpenSpec := { _root_.Go.OpenSpec.ofChange s with cond := some uptoSmall }

/-- 'corbellaw05.ZoneScripts', WHERE WHAT IT READS IS OF BULK AT MOST 1048576: true; the input reads as it did. -/
def zoneScriptsUptoRow : OpenClaim := { program := "ytlignckncgceaaa", sum := "942a819747fc9329e94d45c743059f287f3e1b7a3262e341a0ad09bc055c102b", func := "corbel/corbellaw05.ZoneScripts", spec := "zoneScripts", unfollowed := true, recurses := true, apart := false, narrowed := true }
def ZoneScriptsUptoSaid : Prop := zoneScriptsUptoRow.holds Try.pinned (OpenSpec.upto zoneScriptsSpec)

/-- 'corbellaw05.ZoneLimits', WHERE WHAT IT READS IS OF BULK AT MOST 1048576: true; the input reads as it did. -/
def zoneLimitsUptoRow : OpenClaim := { program := "ytlignckncgceaaa", sum := "942a819747fc9329e94d45c743059f287f3e1b7a3262e341a0ad09bc055c102b", func := "corbel/corbellaw05.ZoneLimits", spec := "zoneLimits", unfollowed := true, recurses := true, apart := false, narrowed := true }
def ZoneLimitsUptoSaid : Prop := zoneLimitsUptoRow.holds Try.pinned (OpenSpec.upto zoneLimitsSpec)

/-- 'corbellaw05.ZoneGoes', WHERE WHAT IT READS IS OF BULK AT MOST 1048576: true; the input reads as it did. -/
def zoneGoesUptoRow : OpenClaim := { program := "ytlignckncgceaaa", sum := "942a819747fc9329e94d45c743059f287f3e1b7a3262e341a0ad09bc055c102b", func := "corbel/corbellaw05.ZoneGoes", spec := "zoneGoes", unfollowed := true, recurses := true, apart := false, narrowed := true }
def ZoneGoesUptoSaid : Prop := zoneGoesUptoRow.holds Try.pinned (OpenSpec.upto zoneGoesSpec)

/-- 'corbellaw05.ZoneNil', WHERE WHAT IT READS IS OF BULK AT MOST 1048576: true; the input reads as it did. -/
def zoneNilUptoRow : OpenClaim := { program := "ytlignckncgceaaa", sum := "942a819747fc9329e94d45c743059f287f3e1b7a3262e341a0ad09bc055c102b", func := "corbel/corbellaw05.ZoneNil", spec := "zoneNil", unfollowed := true, recurses := true, apart := false, narrowed := true }
def ZoneNilUptoSaid : Prop := zoneNilUptoRow.holds Try.pinned (OpenSpec.upto zoneNilSpec)

/-- 'corbellaw05.ZoneApart', WHERE WHAT IT READS IS OF BULK AT MOST 1048576: true; the input reads as it did. -/
def zoneApartUptoRow : OpenClaim := { program := "ytlignckncgceaaa", sum := "942a819747fc9329e94d45c743059f287f3e1b7a3262e341a0ad09bc055c102b", func := "corbel/corbellaw05.ZoneApart", spec := "zoneApart", unfollowed := true, recurses := true, apart := false, narrowed := true }
def ZoneApartUptoSaid : Prop := zoneApartUptoRow.holds Try.pinned (OpenSpec.upto zoneApartSpec)

/-- 'corbellaw05.ZoneFrees', WHERE WHAT IT READS IS OF BULK AT MOST 1048576: true; the input reads as it did. -/
def zoneFreesUptoRow : OpenClaim := { program := "ytlignckncgceaaa", sum := "942a819747fc9329e94d45c743059f287f3e1b7a3262e341a0ad09bc055c102b", func := "corbel/corbellaw05.ZoneFrees", spec := "zoneFrees", unfollowed := true, recurses := true, apart := false, narrowed := true }
def ZoneFreesUptoSaid : Prop := zoneFreesUptoRow.holds Try.pinned (OpenSpec.upto zoneFreesSpec)

end Rows
end Go.Proofs.Ytlignckncgceaaa
