/-
  No cell of these rows narrows 'for every input' (looked for: loops, veiled, ifaces, maps, wideKeys, modest, calm, conditions, laid).
  DERIVED. THE GIVEN ROWS OF THIS SEAT. 10 by the template 'for every input the law returns true; each argument reads behind the call as it read before'; 0 by the template 'total and deterministic' (their statements: YtjdilmmpdlcimaaTotals.lean).
  GIVEN WITH THE SEED: the statements are not yours to turn. If you find one false, say at which input.
  Laid BY PROGRAM, IN A SANDBOX (cutbox-rows.mjs): the forced cells as the released guide's own fill.sh prints them over the translation 8fac135355a05bf5… (all of the seat's roots in one cut). By AI agents, Wed Nov 11 2026. No macro, syntax, notation, axiom, sorry.
-/
import Derived.Test.YtjdilmmpdlcimaaChecked
import GoSem.Claim
import GoSem.ClaimJoined
import GoSem.ClaimMapViews
import Derived.JoinedTies
import Derived.KernelRfl
namespace Go.Proofs.Ytjdilmmpdlcimaa
/- THE CELL 'sum', in the pinned program and in every row, IS THE sha256 OF THE DUMP (.gsa) THAT YtjdilmmpdlcimaaProg.lean LOADS. Nothing in Lean hashes anything: it is a label: what it is worth is what the hold of that sum in a sandbox is worth. -/
noncomputable def Try.pinned : Pinned := { name := "ytjdilmmpdlcimaa", sum := "8fac135355a05bf5865baeeb46b48450e71b9a1deec55036a17b52aa24ebd12f", checked := Try.checked }
namespace Rows
def none {H : Type} : Left H := { results := [], args := [] }

/-- 'martensitelaw06.DistortShafts': WHATEVER THE INPUT: true; the input reads as it did. -/
def distortShaftsSpec : ChangeSpec := { name := "distortShafts", fn := fun _ => fun
  | [d1, d2, d3] => { results := [.lit (.bool true)], args := [d1, d2, d3] }
  | _ => none }
def distortShaftsRow : OpenClaim := { program := "ytjdilmmpdlcimaa", sum := "8fac135355a05bf5865baeeb46b48450e71b9a1deec55036a17b52aa24ebd12f", func := "martensite/martensitelaw06.DistortShafts", spec := "distortShafts", unfollowed := true, recurses := true, apart := false }
def DistortShaftsSaid : Prop := distortShaftsRow.holds Try.pinned (OpenSpec.ofChange distortShaftsSpec)

/-- ITS FALSE NEIGHBOUR: 'it returns false'. Refute it at one input. -/
def distortShaftsWrong : ChangeSpec := { name := "distortShafts", fn := fun _ => fun
  | [d1, d2, d3] => { results := [.lit (.bool false)], args := [d1, d2, d3] }
  | _ => none }
def DistortShaftsWrongFalsely : Prop := distortShaftsRow.holds Try.pinned (OpenSpec.ofChange distortShaftsWrong)

/-- 'martensitelaw06.DistortContained': WHATEVER THE INPUT: true; the input reads as it did. -/
def distortContainedSpec : ChangeSpec := { name := "distortContained", fn := fun _ => fun
  | [d1, d2, d3] => { results := [.lit (.bool true)], args := [d1, d2, d3] }
  | _ => none }
def distortContainedRow : OpenClaim := { program := "ytjdilmmpdlcimaa", sum := "8fac135355a05bf5865baeeb46b48450e71b9a1deec55036a17b52aa24ebd12f", func := "martensite/martensitelaw06.DistortContained", spec := "distortContained", unfollowed := true, recurses := true, apart := false }
def DistortContainedSaid : Prop := distortContainedRow.holds Try.pinned (OpenSpec.ofChange distortContainedSpec)

/-- ITS FALSE NEIGHBOUR: 'it returns false'. Refute it at one input. -/
def distortContainedWrong : ChangeSpec := { name := "distortContained", fn := fun _ => fun
  | [d1, d2, d3] => { results := [.lit (.bool false)], args := [d1, d2, d3] }
  | _ => none }
def DistortContainedWrongFalsely : Prop := distortContainedRow.holds Try.pinned (OpenSpec.ofChange distortContainedWrong)

/-- 'martensitelaw06.DistortRelieved': WHATEVER THE INPUT: true; the input reads as it did. -/
def distortRelievedSpec : ChangeSpec := { name := "distortRelieved", fn := fun _ => fun
  | [d1, d2] => { results := [.lit (.bool true)], args := [d1, d2] }
  | _ => none }
def distortRelievedRow : OpenClaim := { program := "ytjdilmmpdlcimaa", sum := "8fac135355a05bf5865baeeb46b48450e71b9a1deec55036a17b52aa24ebd12f", func := "martensite/martensitelaw06.DistortRelieved", spec := "distortRelieved", unfollowed := true, recurses := true, apart := false }
def DistortRelievedSaid : Prop := distortRelievedRow.holds Try.pinned (OpenSpec.ofChange distortRelievedSpec)

/-- ITS FALSE NEIGHBOUR: 'it returns false'. Refute it at one input. -/
def distortRelievedWrong : ChangeSpec := { name := "distortRelieved", fn := fun _ => fun
  | [d1, d2] => { results := [.lit (.bool false)], args := [d1, d2] }
  | _ => none }
def DistortRelievedWrongFalsely : Prop := distortRelievedRow.holds Try.pinned (OpenSpec.ofChange distortRelievedWrong)

/-- 'martensitelaw06.DistortPresses': WHATEVER THE INPUT: true; the input reads as it did. -/
def distortPressesSpec : ChangeSpec := { name := "distortPresses", fn := fun _ => fun
  | [d1, d2, d3] => { results := [.lit (.bool true)], args := [d1, d2, d3] }
  | _ => none }
def distortPressesRow : OpenClaim := { program := "ytjdilmmpdlcimaa", sum := "8fac135355a05bf5865baeeb46b48450e71b9a1deec55036a17b52aa24ebd12f", func := "martensite/martensitelaw06.DistortPresses", spec := "distortPresses", unfollowed := true, recurses := true, apart := false }
def DistortPressesSaid : Prop := distortPressesRow.holds Try.pinned (OpenSpec.ofChange distortPressesSpec)

/-- ITS FALSE NEIGHBOUR: 'it returns false'. Refute it at one input. -/
def distortPressesWrong : ChangeSpec := { name := "distortPresses", fn := fun _ => fun
  | [d1, d2, d3] => { results := [.lit (.bool false)], args := [d1, d2, d3] }
  | _ => none }
def DistortPressesWrongFalsely : Prop := distortPressesRow.holds Try.pinned (OpenSpec.ofChange distortPressesWrong)

/-- 'martensitelaw06.DistortAnyOrder': WHATEVER THE INPUT: true; the input reads as it did. -/
def distortAnyOrderSpec : ChangeSpec := { name := "distortAnyOrder", fn := fun _ => fun
  | [d1, d2, d3] => { results := [.lit (.bool true)], args := [d1, d2, d3] }
  | _ => none }
def distortAnyOrderRow : OpenClaim := { program := "ytjdilmmpdlcimaa", sum := "8fac135355a05bf5865baeeb46b48450e71b9a1deec55036a17b52aa24ebd12f", func := "martensite/martensitelaw06.DistortAnyOrder", spec := "distortAnyOrder", unfollowed := true, recurses := true, apart := false }
def DistortAnyOrderSaid : Prop := distortAnyOrderRow.holds Try.pinned (OpenSpec.ofChange distortAnyOrderSpec)

/-- ITS FALSE NEIGHBOUR: 'it returns false'. Refute it at one input. -/
def distortAnyOrderWrong : ChangeSpec := { name := "distortAnyOrder", fn := fun _ => fun
  | [d1, d2, d3] => { results := [.lit (.bool false)], args := [d1, d2, d3] }
  | _ => none }
def DistortAnyOrderWrongFalsely : Prop := distortAnyOrderRow.holds Try.pinned (OpenSpec.ofChange distortAnyOrderWrong)

/-- 'martensitelaw06.DistortPlans': WHATEVER THE INPUT: true; the input reads as it did. -/
def distortPlansSpec : ChangeSpec := { name := "distortPlans", fn := fun _ => fun
  | [d1, d2, d3] => { results := [.lit (.bool true)], args := [d1, d2, d3] }
  | _ => none }
def distortPlansRow : OpenClaim := { program := "ytjdilmmpdlcimaa", sum := "8fac135355a05bf5865baeeb46b48450e71b9a1deec55036a17b52aa24ebd12f", func := "martensite/martensitelaw06.DistortPlans", spec := "distortPlans", unfollowed := true, recurses := true, apart := false }
def DistortPlansSaid : Prop := distortPlansRow.holds Try.pinned (OpenSpec.ofChange distortPlansSpec)

/-- ITS FALSE NEIGHBOUR: 'it returns false'. Refute it at one input. -/
def distortPlansWrong : ChangeSpec := { name := "distortPlans", fn := fun _ => fun
  | [d1, d2, d3] => { results := [.lit (.bool false)], args := [d1, d2, d3] }
  | _ => none }
def DistortPlansWrongFalsely : Prop := distortPlansRow.holds Try.pinned (OpenSpec.ofChange distortPlansWrong)

/-- 'martensitelaw06.DistortNoFewer': WHATEVER THE INPUT: true; the input reads as it did. -/
def distortNoFewerSpec : ChangeSpec := { name := "distortNoFewer", fn := fun _ => fun
  | [d1, d2, d3] => { results := [.lit (.bool true)], args := [d1, d2, d3] }
  | _ => none }
def distortNoFewerRow : OpenClaim := { program := "ytjdilmmpdlcimaa", sum := "8fac135355a05bf5865baeeb46b48450e71b9a1deec55036a17b52aa24ebd12f", func := "martensite/martensitelaw06.DistortNoFewer", spec := "distortNoFewer", unfollowed := true, recurses := true, apart := false }
def DistortNoFewerSaid : Prop := distortNoFewerRow.holds Try.pinned (OpenSpec.ofChange distortNoFewerSpec)

/-- ITS FALSE NEIGHBOUR: 'it returns false'. Refute it at one input. -/
def distortNoFewerWrong : ChangeSpec := { name := "distortNoFewer", fn := fun _ => fun
  | [d1, d2, d3] => { results := [.lit (.bool false)], args := [d1, d2, d3] }
  | _ => none }
def DistortNoFewerWrongFalsely : Prop := distortNoFewerRow.holds Try.pinned (OpenSpec.ofChange distortNoFewerWrong)

/-- 'martensitelaw06.DistortReadings': WHATEVER THE INPUT: true; the input reads as it did. -/
def distortReadingsSpec : ChangeSpec := { name := "distortReadings", fn := fun _ => fun
  | [d1, d2, d3] => { results := [.lit (.bool true)], args := [d1, d2, d3] }
  | _ => none }
def distortReadingsRow : OpenClaim := { program := "ytjdilmmpdlcimaa", sum := "8fac135355a05bf5865baeeb46b48450e71b9a1deec55036a17b52aa24ebd12f", func := "martensite/martensitelaw06.DistortReadings", spec := "distortReadings", unfollowed := true, recurses := true, apart := false }
def DistortReadingsSaid : Prop := distortReadingsRow.holds Try.pinned (OpenSpec.ofChange distortReadingsSpec)

/-- ITS FALSE NEIGHBOUR: 'it returns false'. Refute it at one input. -/
def distortReadingsWrong : ChangeSpec := { name := "distortReadings", fn := fun _ => fun
  | [d1, d2, d3] => { results := [.lit (.bool false)], args := [d1, d2, d3] }
  | _ => none }
def DistortReadingsWrongFalsely : Prop := distortReadingsRow.holds Try.pinned (OpenSpec.ofChange distortReadingsWrong)

/-- 'martensitelaw06.DistortTurned': WHATEVER THE INPUT: true; the input reads as it did. -/
def distortTurnedSpec : ChangeSpec := { name := "distortTurned", fn := fun _ => fun
  | [d1, d2, d3] => { results := [.lit (.bool true)], args := [d1, d2, d3] }
  | _ => none }
def distortTurnedRow : OpenClaim := { program := "ytjdilmmpdlcimaa", sum := "8fac135355a05bf5865baeeb46b48450e71b9a1deec55036a17b52aa24ebd12f", func := "martensite/martensitelaw06.DistortTurned", spec := "distortTurned", unfollowed := true, recurses := true, apart := false }
def DistortTurnedSaid : Prop := distortTurnedRow.holds Try.pinned (OpenSpec.ofChange distortTurnedSpec)

/-- ITS FALSE NEIGHBOUR: 'it returns false'. Refute it at one input. -/
def distortTurnedWrong : ChangeSpec := { name := "distortTurned", fn := fun _ => fun
  | [d1, d2, d3] => { results := [.lit (.bool false)], args := [d1, d2, d3] }
  | _ => none }
def DistortTurnedWrongFalsely : Prop := distortTurnedRow.holds Try.pinned (OpenSpec.ofChange distortTurnedWrong)

/-- 'martensitelaw06.DistortMoreParts': WHATEVER THE INPUT: true; the input reads as it did. -/
def distortMorePartsSpec : ChangeSpec := { name := "distortMoreParts", fn := fun _ => fun
  | [d1, d2, d3] => { results := [.lit (.bool true)], args := [d1, d2, d3] }
  | _ => none }
def distortMorePartsRow : OpenClaim := { program := "ytjdilmmpdlcimaa", sum := "8fac135355a05bf5865baeeb46b48450e71b9a1deec55036a17b52aa24ebd12f", func := "martensite/martensitelaw06.DistortMoreParts", spec := "distortMoreParts", unfollowed := true, recurses := true, apart := false }
def DistortMorePartsSaid : Prop := distortMorePartsRow.holds Try.pinned (OpenSpec.ofChange distortMorePartsSpec)

/-- ITS FALSE NEIGHBOUR: 'it returns false'. Refute it at one input. -/
def distortMorePartsWrong : ChangeSpec := { name := "distortMoreParts", fn := fun _ => fun
  | [d1, d2, d3] => { results := [.lit (.bool false)], args := [d1, d2, d3] }
  | _ => none }
def DistortMorePartsWrongFalsely : Prop := distortMorePartsRow.holds Try.pinned (OpenSpec.ofChange distortMorePartsWrong)

/- THE SECOND FORM. 'bulk': how many values and letters a reading holds, each counted each time it is reached (what is shared counts as often as it is met; a slice's spare places count too). A statement '..UptoSaid' is the law's where the arguments, and the package variables that the reading takes, are together of bulk at most 1048576: NARROWER than '..Said'. Prove '..Said' where nothing that the law and all that it calls make is longer than what came in: it says more and counts as full. Else prove '..UptoSaid'. A law counts once. -/
mutual
def uptoBulk {H : Type} : DataW H → Nat
  | .lit (.string bytes) => bytes.length + 1
  | .lit _ => 1
  | .nil => 1
  | .ptr d => uptoBulk d + 1
  | .slice elems spare => uptoBulkAll elems + uptoBulkAll spare + 1
  | .agg parts => uptoBulkAll parts + 1
  | .iface _ d => uptoBulk d + 1
  | .map entries => uptoBulkEntries entries + 1
  | .held _ => 1
def uptoBulkAll {H : Type} : List (DataW H) → Nat
  | [] => 0
  | d :: r => uptoBulk d + uptoBulkAll r
def uptoBulkEntries {H : Type} : List (Lit × DataW H) → Nat
  | [] => 0
  | x :: r => uptoBulkEntry x + uptoBulkEntries r
def uptoBulkEntry {H : Type} : Lit × DataW H → Nat
  | (.string bytes, d) => bytes.length + uptoBulk d + 1
  | (_, d) => uptoBulk d + 1
 end
def uptoSmall : (H : Type) → List (DataW H) → Bool := fun _ ds => decide (uptoBulkAll ds ≤ 1048576)
def OpenSpec.upto (s : _root_.Go.ChangeSpec) : _root_.Go.OpenSpec := { _root_.Go.OpenSpec.ofChange s with cond := some uptoSmall }

/-- 'martensitelaw06.DistortShafts', WHERE WHAT IT READS IS OF BULK AT MOST 1048576: true; the input reads as it did. -/
def distortShaftsUptoRow : OpenClaim := { program := "ytjdilmmpdlcimaa", sum := "8fac135355a05bf5865baeeb46b48450e71b9a1deec55036a17b52aa24ebd12f", func := "martensite/martensitelaw06.DistortShafts", spec := "distortShafts", unfollowed := true, recurses := true, apart := false, narrowed := true }
def DistortShaftsUptoSaid : Prop := distortShaftsUptoRow.holds Try.pinned (OpenSpec.upto distortShaftsSpec)

/-- 'martensitelaw06.DistortContained', WHERE WHAT IT READS IS OF BULK AT MOST 1048576: true; the input reads as it did. -/
def distortContainedUptoRow : OpenClaim := { program := "ytjdilmmpdlcimaa", sum := "8fac135355a05bf5865baeeb46b48450e71b9a1deec55036a17b52aa24ebd12f", func := "martensite/martensitelaw06.DistortContained", spec := "distortContained", unfollowed := true, recurses := true, apart := false, narrowed := true }
def DistortContainedUptoSaid : Prop := distortContainedUptoRow.holds Try.pinned (OpenSpec.upto distortContainedSpec)

/-- 'martensitelaw06.DistortRelieved', WHERE WHAT IT READS IS OF BULK AT MOST 1048576: true; the input reads as it did. -/
def distortRelievedUptoRow : OpenClaim := { program := "ytjdilmmpdlcimaa", sum := "8fac135355a05bf5865baeeb46b48450e71b9a1deec55036a17b52aa24ebd12f", func := "martensite/martensitelaw06.DistortRelieved", spec := "distortRelieved", unfollowed := true, recurses := true, apart := false, narrowed := true }
def DistortRelievedUptoSaid : Prop := distortRelievedUptoRow.holds Try.pinned (OpenSpec.upto distortRelievedSpec)

/-- 'martensitelaw06.DistortPresses', WHERE WHAT IT READS IS OF BULK AT MOST 1048576: true; the input reads as it did. -/
def distortPressesUptoRow : OpenClaim := { program := "ytjdilmmpdlcimaa", sum := "8fac135355a05bf5865baeeb46b48450e71b9a1deec55036a17b52aa24ebd12f", func := "martensite/martensitelaw06.DistortPresses", spec := "distortPresses", unfollowed := true, recurses := true, apart := false, narrowed := true }
def DistortPressesUptoSaid : Prop := distortPressesUptoRow.holds Try.pinned (OpenSpec.upto distortPressesSpec)

/-- 'martensitelaw06.DistortAnyOrder', WHERE WHAT IT READS IS OF BULK AT MOST 1048576: true; the input reads as it did. -/
def distortAnyOrderUptoRow : OpenClaim := { program := "ytjdilmmpdlcimaa", sum := "8fac135355a05bf5865baeeb46b48450e71b9a1deec55036a17b52aa24ebd12f", func := "martensite/martensitelaw06.DistortAnyOrder", spec := "distortAnyOrder", unfollowed := true, recurses := true, apart := false, narrowed := true }
def DistortAnyOrderUptoSaid : Prop := distortAnyOrderUptoRow.holds Try.pinned (OpenSpec.upto distortAnyOrderSpec)

/-- 'martensitelaw06.DistortPlans', WHERE WHAT IT READS IS OF BULK AT MOST 1048576: true; the input reads as it did. -/
def distortPlansUptoRow : OpenClaim := { program := "ytjdilmmpdlcimaa", sum := "8fac135355a05bf5865baeeb46b48450e71b9a1deec55036a17b52aa24ebd12f", func := "martensite/martensitelaw06.DistortPlans", spec := "distortPlans", unfollowed := true, recurses := true, apart := false, narrowed := true }
def DistortPlansUptoSaid : Prop := distortPlansUptoRow.holds Try.pinned (OpenSpec.upto distortPlansSpec)

/-- 'martensitelaw06.DistortNoFewer', WHERE WHAT IT READS IS OF BULK AT MOST 1048576: true; the input reads as it did. -/
def distortNoFewerUptoRow : OpenClaim := { program := "ytjdilmmpdlcimaa", sum := "8fac135355a05bf5865baeeb46b48450e71b9a1deec55036a17b52aa24ebd12f", func := "martensite/martensitelaw06.DistortNoFewer", spec := "distortNoFewer", unfollowed := true, recurses := true, apart := false, narrowed := true }
def DistortNoFewerUptoSaid : Prop := distortNoFewerUptoRow.holds Try.pinned (OpenSpec.upto distortNoFewerSpec)

/-- 'martensitelaw06.DistortReadings', WHERE WHAT IT READS IS OF BULK AT MOST 1048576: true; the input reads as it did. -/
def distortReadingsUptoRow : OpenClaim := { program := "ytjdilmmpdlcimaa", sum := "8fac135355a05bf5865baeeb46b48450e71b9a1deec55036a17b52aa24ebd12f", func := "martensite/martensitelaw06.DistortReadings", spec := "distortReadings", unfollowed := true, recurses := true, apart := false, narrowed := true }
def DistortReadingsUptoSaid : Prop := distortReadingsUptoRow.holds Try.pinned (OpenSpec.upto distortReadingsSpec)

/-- 'martensitelaw06.DistortTurned', WHERE WHAT IT READS IS OF BULK AT MOST 1048576: true; the input reads as it did. -/
def distortTurnedUptoRow : OpenClaim := { program := "ytjdilmmpdlcimaa", sum := "8fac135355a05bf5865baeeb46b48450e71b9a1deec55036a17b52aa24ebd12f", func := "martensite/martensitelaw06.DistortTurned", spec := "distortTurned", unfollowed := true, recurses := true, apart := false, narrowed := true }
def DistortTurnedUptoSaid : Prop := distortTurnedUptoRow.holds Try.pinned (OpenSpec.upto distortTurnedSpec)

/-- 'martensitelaw06.DistortMoreParts', WHERE WHAT IT READS IS OF BULK AT MOST 1048576: true; the input reads as it did. -/
def distortMorePartsUptoRow : OpenClaim := { program := "ytjdilmmpdlcimaa", sum := "8fac135355a05bf5865baeeb46b48450e71b9a1deec55036a17b52aa24ebd12f", func := "martensite/martensitelaw06.DistortMoreParts", spec := "distortMoreParts", unfollowed := true, recurses := true, apart := false, narrowed := true }
def DistortMorePartsUptoSaid : Prop := distortMorePartsUptoRow.holds Try.pinned (OpenSpec.upto distortMorePartsSpec)

end Rows
end Go.Proofs.Ytjdilmmpdlcimaa
