/-
  No cell of these rows narrows 'for every input' (looked for: loops, veiled, ifaces, maps, wideKeys, modest, calm, conditions, laid).
  DERIVED. THE GIVEN ROWS OF THIS SEAT. 10 by the template 'for every input the law returns true; each argument reads behind the call as it read before'; 0 by the template 'total and deterministic' (their statements: YtmddnpagfgilcaaTotals.lean).
  GIVEN WITH THE SEED: the statements are not yours to turn. If you find one false, say at which input.
  Laid BY PROGRAM, IN A SANDBOX (cutbox-rows.mjs): the forced cells as the released guide's own fill.sh prints them over the translation 4d04e80af439dcb5… (all of the seat's roots in one cut). By AI agents, Wed Nov 11 2026. No macro, syntax, notation, axiom, sorry.
-/
import Derived.Test.YtmddnpagfgilcaaChecked
import GoSem.Claim
import GoSem.ClaimJoined
import GoSem.ClaimMapViews
import Derived.JoinedTies
import Derived.KernelRfl
namespace Go.Proofs.Ytmddnpagfgilcaa
/- THE CELL 'sum', in the pinned program and in every row, IS THE sha256 OF THE DUMP (.gsa) THAT YtmddnpagfgilcaaProg.lean LOADS. Nothing in Lean hashes anything: it is a label: what it is worth is what the hold of that sum in a sandbox is worth. -/
noncomputable def Try.pinned : Pinned := { name := "ytmddnpagfgilcaa", sum := "4d04e80af439dcb533e3bc23e05d3327c42a3d3994fb3a84d8a33babc8307e5b", checked := Try.checked }
namespace Rows
def none {H : Type} : Left H := { results := [], args := [] }

/-- 'martensitelaw08.InspectTraverses': WHATEVER THE INPUT: true; the input reads as it did. -/
def inspectTraversesSpec : ChangeSpec := { name := "inspectTraverses", fn := fun _ => fun
  | [d1, d2, d3] => { results := [.lit (.bool true)], args := [d1, d2, d3] }
  | _ => none }
def inspectTraversesRow : OpenClaim := { program := "ytmddnpagfgilcaa", sum := "4d04e80af439dcb533e3bc23e05d3327c42a3d3994fb3a84d8a33babc8307e5b", func := "martensite/martensitelaw08.InspectTraverses", spec := "inspectTraverses", unfollowed := true, recurses := true, apart := false }
def InspectTraversesSaid : Prop := inspectTraversesRow.holds Try.pinned (OpenSpec.ofChange inspectTraversesSpec)

/-- ITS FALSE NEIGHBOUR: 'it returns false'. Refute it at one input. -/
def inspectTraversesWrong : ChangeSpec := { name := "inspectTraverses", fn := fun _ => fun
  | [d1, d2, d3] => { results := [.lit (.bool false)], args := [d1, d2, d3] }
  | _ => none }
def InspectTraversesWrongFalsely : Prop := inspectTraversesRow.holds Try.pinned (OpenSpec.ofChange inspectTraversesWrong)

/-- 'martensitelaw08.InspectEnclosed': WHATEVER THE INPUT: true; the input reads as it did. -/
def inspectEnclosedSpec : ChangeSpec := { name := "inspectEnclosed", fn := fun _ => fun
  | [d1, d2, d3] => { results := [.lit (.bool true)], args := [d1, d2, d3] }
  | _ => none }
def inspectEnclosedRow : OpenClaim := { program := "ytmddnpagfgilcaa", sum := "4d04e80af439dcb533e3bc23e05d3327c42a3d3994fb3a84d8a33babc8307e5b", func := "martensite/martensitelaw08.InspectEnclosed", spec := "inspectEnclosed", unfollowed := true, recurses := true, apart := false }
def InspectEnclosedSaid : Prop := inspectEnclosedRow.holds Try.pinned (OpenSpec.ofChange inspectEnclosedSpec)

/-- ITS FALSE NEIGHBOUR: 'it returns false'. Refute it at one input. -/
def inspectEnclosedWrong : ChangeSpec := { name := "inspectEnclosed", fn := fun _ => fun
  | [d1, d2, d3] => { results := [.lit (.bool false)], args := [d1, d2, d3] }
  | _ => none }
def InspectEnclosedWrongFalsely : Prop := inspectEnclosedRow.holds Try.pinned (OpenSpec.ofChange inspectEnclosedWrong)

/-- 'martensitelaw08.InspectTables': WHATEVER THE INPUT: true; the input reads as it did. -/
def inspectTablesSpec : ChangeSpec := { name := "inspectTables", fn := fun _ => fun
  | [d1, d2] => { results := [.lit (.bool true)], args := [d1, d2] }
  | _ => none }
def inspectTablesRow : OpenClaim := { program := "ytmddnpagfgilcaa", sum := "4d04e80af439dcb533e3bc23e05d3327c42a3d3994fb3a84d8a33babc8307e5b", func := "martensite/martensitelaw08.InspectTables", spec := "inspectTables", unfollowed := true, recurses := true, apart := false }
def InspectTablesSaid : Prop := inspectTablesRow.holds Try.pinned (OpenSpec.ofChange inspectTablesSpec)

/-- ITS FALSE NEIGHBOUR: 'it returns false'. Refute it at one input. -/
def inspectTablesWrong : ChangeSpec := { name := "inspectTables", fn := fun _ => fun
  | [d1, d2] => { results := [.lit (.bool false)], args := [d1, d2] }
  | _ => none }
def InspectTablesWrongFalsely : Prop := inspectTablesRow.holds Try.pinned (OpenSpec.ofChange inspectTablesWrong)

/-- 'martensitelaw08.InspectMonotone': WHATEVER THE INPUT: true; the input reads as it did. -/
def inspectMonotoneSpec : ChangeSpec := { name := "inspectMonotone", fn := fun _ => fun
  | [d1, d2, d3] => { results := [.lit (.bool true)], args := [d1, d2, d3] }
  | _ => none }
def inspectMonotoneRow : OpenClaim := { program := "ytmddnpagfgilcaa", sum := "4d04e80af439dcb533e3bc23e05d3327c42a3d3994fb3a84d8a33babc8307e5b", func := "martensite/martensitelaw08.InspectMonotone", spec := "inspectMonotone", unfollowed := true, recurses := true, apart := false }
def InspectMonotoneSaid : Prop := inspectMonotoneRow.holds Try.pinned (OpenSpec.ofChange inspectMonotoneSpec)

/-- ITS FALSE NEIGHBOUR: 'it returns false'. Refute it at one input. -/
def inspectMonotoneWrong : ChangeSpec := { name := "inspectMonotone", fn := fun _ => fun
  | [d1, d2, d3] => { results := [.lit (.bool false)], args := [d1, d2, d3] }
  | _ => none }
def InspectMonotoneWrongFalsely : Prop := inspectMonotoneRow.holds Try.pinned (OpenSpec.ofChange inspectMonotoneWrong)

/-- 'martensitelaw08.InspectConverted': WHATEVER THE INPUT: true; the input reads as it did. -/
def inspectConvertedSpec : ChangeSpec := { name := "inspectConverted", fn := fun _ => fun
  | [d1, d2] => { results := [.lit (.bool true)], args := [d1, d2] }
  | _ => none }
def inspectConvertedRow : OpenClaim := { program := "ytmddnpagfgilcaa", sum := "4d04e80af439dcb533e3bc23e05d3327c42a3d3994fb3a84d8a33babc8307e5b", func := "martensite/martensitelaw08.InspectConverted", spec := "inspectConverted", unfollowed := true, recurses := true, apart := false }
def InspectConvertedSaid : Prop := inspectConvertedRow.holds Try.pinned (OpenSpec.ofChange inspectConvertedSpec)

/-- ITS FALSE NEIGHBOUR: 'it returns false'. Refute it at one input. -/
def inspectConvertedWrong : ChangeSpec := { name := "inspectConverted", fn := fun _ => fun
  | [d1, d2] => { results := [.lit (.bool false)], args := [d1, d2] }
  | _ => none }
def InspectConvertedWrongFalsely : Prop := inspectConvertedRow.holds Try.pinned (OpenSpec.ofChange inspectConvertedWrong)

/-- 'martensitelaw08.InspectSections': WHATEVER THE INPUT: true; the input reads as it did. -/
def inspectSectionsSpec : ChangeSpec := { name := "inspectSections", fn := fun _ => fun
  | [d] => { results := [.lit (.bool true)], args := [d] }
  | _ => none }
def inspectSectionsRow : OpenClaim := { program := "ytmddnpagfgilcaa", sum := "4d04e80af439dcb533e3bc23e05d3327c42a3d3994fb3a84d8a33babc8307e5b", func := "martensite/martensitelaw08.InspectSections", spec := "inspectSections", unfollowed := true, recurses := true, apart := false }
def InspectSectionsSaid : Prop := inspectSectionsRow.holds Try.pinned (OpenSpec.ofChange inspectSectionsSpec)

/-- ITS FALSE NEIGHBOUR: 'it returns false'. Refute it at one input. -/
def inspectSectionsWrong : ChangeSpec := { name := "inspectSections", fn := fun _ => fun
  | [d] => { results := [.lit (.bool false)], args := [d] }
  | _ => none }
def InspectSectionsWrongFalsely : Prop := inspectSectionsRow.holds Try.pinned (OpenSpec.ofChange inspectSectionsWrong)

/-- 'martensitelaw08.InspectStudies': WHATEVER THE INPUT: true; the input reads as it did. -/
def inspectStudiesSpec : ChangeSpec := { name := "inspectStudies", fn := fun _ => fun
  | [d1, d2, d3] => { results := [.lit (.bool true)], args := [d1, d2, d3] }
  | _ => none }
def inspectStudiesRow : OpenClaim := { program := "ytmddnpagfgilcaa", sum := "4d04e80af439dcb533e3bc23e05d3327c42a3d3994fb3a84d8a33babc8307e5b", func := "martensite/martensitelaw08.InspectStudies", spec := "inspectStudies", unfollowed := true, recurses := true, apart := false }
def InspectStudiesSaid : Prop := inspectStudiesRow.holds Try.pinned (OpenSpec.ofChange inspectStudiesSpec)

/-- ITS FALSE NEIGHBOUR: 'it returns false'. Refute it at one input. -/
def inspectStudiesWrong : ChangeSpec := { name := "inspectStudies", fn := fun _ => fun
  | [d1, d2, d3] => { results := [.lit (.bool false)], args := [d1, d2, d3] }
  | _ => none }
def InspectStudiesWrongFalsely : Prop := inspectStudiesRow.holds Try.pinned (OpenSpec.ofChange inspectStudiesWrong)

/-- 'martensitelaw08.InspectCounted': WHATEVER THE INPUT: true; the input reads as it did. -/
def inspectCountedSpec : ChangeSpec := { name := "inspectCounted", fn := fun _ => fun
  | [d1, d2, d3] => { results := [.lit (.bool true)], args := [d1, d2, d3] }
  | _ => none }
def inspectCountedRow : OpenClaim := { program := "ytmddnpagfgilcaa", sum := "4d04e80af439dcb533e3bc23e05d3327c42a3d3994fb3a84d8a33babc8307e5b", func := "martensite/martensitelaw08.InspectCounted", spec := "inspectCounted", unfollowed := true, recurses := true, apart := false }
def InspectCountedSaid : Prop := inspectCountedRow.holds Try.pinned (OpenSpec.ofChange inspectCountedSpec)

/-- ITS FALSE NEIGHBOUR: 'it returns false'. Refute it at one input. -/
def inspectCountedWrong : ChangeSpec := { name := "inspectCounted", fn := fun _ => fun
  | [d1, d2, d3] => { results := [.lit (.bool false)], args := [d1, d2, d3] }
  | _ => none }
def InspectCountedWrongFalsely : Prop := inspectCountedRow.holds Try.pinned (OpenSpec.ofChange inspectCountedWrong)

/-- 'martensitelaw08.InspectSamples': WHATEVER THE INPUT: true; the input reads as it did. -/
def inspectSamplesSpec : ChangeSpec := { name := "inspectSamples", fn := fun _ => fun
  | [d1, d2, d3] => { results := [.lit (.bool true)], args := [d1, d2, d3] }
  | _ => none }
def inspectSamplesRow : OpenClaim := { program := "ytmddnpagfgilcaa", sum := "4d04e80af439dcb533e3bc23e05d3327c42a3d3994fb3a84d8a33babc8307e5b", func := "martensite/martensitelaw08.InspectSamples", spec := "inspectSamples", unfollowed := true, recurses := true, apart := false }
def InspectSamplesSaid : Prop := inspectSamplesRow.holds Try.pinned (OpenSpec.ofChange inspectSamplesSpec)

/-- ITS FALSE NEIGHBOUR: 'it returns false'. Refute it at one input. -/
def inspectSamplesWrong : ChangeSpec := { name := "inspectSamples", fn := fun _ => fun
  | [d1, d2, d3] => { results := [.lit (.bool false)], args := [d1, d2, d3] }
  | _ => none }
def InspectSamplesWrongFalsely : Prop := inspectSamplesRow.holds Try.pinned (OpenSpec.ofChange inspectSamplesWrong)

/-- 'martensitelaw08.InspectExact': WHATEVER THE INPUT: true; the input reads as it did. -/
def inspectExactSpec : ChangeSpec := { name := "inspectExact", fn := fun _ => fun
  | [d1, d2, d3] => { results := [.lit (.bool true)], args := [d1, d2, d3] }
  | _ => none }
def inspectExactRow : OpenClaim := { program := "ytmddnpagfgilcaa", sum := "4d04e80af439dcb533e3bc23e05d3327c42a3d3994fb3a84d8a33babc8307e5b", func := "martensite/martensitelaw08.InspectExact", spec := "inspectExact", unfollowed := true, recurses := true, apart := false }
def InspectExactSaid : Prop := inspectExactRow.holds Try.pinned (OpenSpec.ofChange inspectExactSpec)

/-- ITS FALSE NEIGHBOUR: 'it returns false'. Refute it at one input. -/
def inspectExactWrong : ChangeSpec := { name := "inspectExact", fn := fun _ => fun
  | [d1, d2, d3] => { results := [.lit (.bool false)], args := [d1, d2, d3] }
  | _ => none }
def InspectExactWrongFalsely : Prop := inspectExactRow.holds Try.pinned (OpenSpec.ofChange inspectExactWrong)

/- THE SECOND FORM. 'bulk': how many values and letters a reading holds, each counted each time it is reached (what is shared counts as often as it is met; a slice's spare places count too). A statement '..UptoSaid' is the law's where the arguments, and the package variables that the reading takes, are together of bulk at most 1048576: NARROWER than '..Said'. Prove '..Said' where nothing that the law and all that it calls make is longer than what came in: it says more and counts as full. Else prove '..UptoSaid'. A law counts once. -/
mutual
def uptoBulk {H : Type} : DataW H → Nat
  | .lit (.string bytes) => bytes.length + 1
  | .lit _ => 1
  | .nil => 1
  | .ptr d => uptoBulk d + 1
  | .slice elems spare => uptoBulkAll elems + uptoBulkAll spare + 1
  | .agg parts => uptoBulkAll parts + 1
  | .iface _ d => uptoBulk d + 1
  | .map entries => uptoBulkEntries entries + 1
  | .held _ => 1
def uptoBulkAll {H : Type} : List (DataW H) → Nat
  | [] => 0
  | d :: r => uptoBulk d + uptoBulkAll r
def uptoBulkEntries {H : Type} : List (Lit × DataW H) → Nat
  | [] => 0
  | x :: r => uptoBulkEntry x + uptoBulkEntries r
def uptoBulkEntry {H : Type} : Lit × DataW H → Nat
  | (.string bytes, d) => bytes.length + uptoBulk d + 1
  | (_, d) => uptoBulk d + 1
 end
def uptoSmall : (H : Type) → List (DataW H) → Bool := fun _ ds => decide (uptoBulkAll ds ≤ 1048576)
def OpenSpec.upto (s : _root_.Go.ChangeSpec) : _root_.Go.OpenSpec := { _root_.Go.OpenSpec.ofChange s with cond := some uptoSmall }

/-- 'martensitelaw08.InspectTraverses', WHERE WHAT IT READS IS OF BULK AT MOST 1048576: true; the input reads as it did. -/
def inspectTraversesUptoRow : OpenClaim := { program := "ytmddnpagfgilcaa", sum := "4d04e80af439dcb533e3bc23e05d3327c42a3d3994fb3a84d8a33babc8307e5b", func := "martensite/martensitelaw08.InspectTraverses", spec := "inspectTraverses", unfollowed := true, recurses := true, apart := false, narrowed := true }
def InspectTraversesUptoSaid : Prop := inspectTraversesUptoRow.holds Try.pinned (OpenSpec.upto inspectTraversesSpec)

/-- 'martensitelaw08.InspectEnclosed', WHERE WHAT IT READS IS OF BULK AT MOST 1048576: true; the input reads as it did. -/
def inspectEnclosedUptoRow : OpenClaim := { program := "ytmddnpagfgilcaa", sum := "4d04e80af439dcb533e3bc23e05d3327c42a3d3994fb3a84d8a33babc8307e5b", func := "martensite/martensitelaw08.InspectEnclosed", spec := "inspectEnclosed", unfollowed := true, recurses := true, apart := false, narrowed := true }
def InspectEnclosedUptoSaid : Prop := inspectEnclosedUptoRow.holds Try.pinned (OpenSpec.upto inspectEnclosedSpec)

/-- 'martensitelaw08.InspectTables', WHERE WHAT IT READS IS OF BULK AT MOST 1048576: true; the input reads as it did. -/
def inspectTablesUptoRow : OpenClaim := { program := "ytmddnpagfgilcaa", sum := "4d04e80af439dcb533e3bc23e05d3327c42a3d3994fb3a84d8a33babc8307e5b", func := "martensite/martensitelaw08.InspectTables", spec := "inspectTables", unfollowed := true, recurses := true, apart := false, narrowed := true }
def InspectTablesUptoSaid : Prop := inspectTablesUptoRow.holds Try.pinned (OpenSpec.upto inspectTablesSpec)

/-- 'martensitelaw08.InspectMonotone', WHERE WHAT IT READS IS OF BULK AT MOST 1048576: true; the input reads as it did. -/
def inspectMonotoneUptoRow : OpenClaim := { program := "ytmddnpagfgilcaa", sum := "4d04e80af439dcb533e3bc23e05d3327c42a3d3994fb3a84d8a33babc8307e5b", func := "martensite/martensitelaw08.InspectMonotone", spec := "inspectMonotone", unfollowed := true, recurses := true, apart := false, narrowed := true }
def InspectMonotoneUptoSaid : Prop := inspectMonotoneUptoRow.holds Try.pinned (OpenSpec.upto inspectMonotoneSpec)

/-- 'martensitelaw08.InspectConverted', WHERE WHAT IT READS IS OF BULK AT MOST 1048576: true; the input reads as it did. -/
def inspectConvertedUptoRow : OpenClaim := { program := "ytmddnpagfgilcaa", sum := "4d04e80af439dcb533e3bc23e05d3327c42a3d3994fb3a84d8a33babc8307e5b", func := "martensite/martensitelaw08.InspectConverted", spec := "inspectConverted", unfollowed := true, recurses := true, apart := false, narrowed := true }
def InspectConvertedUptoSaid : Prop := inspectConvertedUptoRow.holds Try.pinned (OpenSpec.upto inspectConvertedSpec)

/-- 'martensitelaw08.InspectSections', WHERE WHAT IT READS IS OF BULK AT MOST 1048576: true; the input reads as it did. -/
def inspectSectionsUptoRow : OpenClaim := { program := "ytmddnpagfgilcaa", sum := "4d04e80af439dcb533e3bc23e05d3327c42a3d3994fb3a84d8a33babc8307e5b", func := "martensite/martensitelaw08.InspectSections", spec := "inspectSections", unfollowed := true, recurses := true, apart := false, narrowed := true }
def InspectSectionsUptoSaid : Prop := inspectSectionsUptoRow.holds Try.pinned (OpenSpec.upto inspectSectionsSpec)

/-- 'martensitelaw08.InspectStudies', WHERE WHAT IT READS IS OF BULK AT MOST 1048576: true; the input reads as it did. -/
def inspectStudiesUptoRow : OpenClaim := { program := "ytmddnpagfgilcaa", sum := "4d04e80af439dcb533e3bc23e05d3327c42a3d3994fb3a84d8a33babc8307e5b", func := "martensite/martensitelaw08.InspectStudies", spec := "inspectStudies", unfollowed := true, recurses := true, apart := false, narrowed := true }
def InspectStudiesUptoSaid : Prop := inspectStudiesUptoRow.holds Try.pinned (OpenSpec.upto inspectStudiesSpec)

/-- 'martensitelaw08.InspectCounted', WHERE WHAT IT READS IS OF BULK AT MOST 1048576: true; the input reads as it did. -/
def inspectCountedUptoRow : OpenClaim := { program := "ytmddnpagfgilcaa", sum := "4d04e80af439dcb533e3bc23e05d3327c42a3d3994fb3a84d8a33babc8307e5b", func := "martensite/martensitelaw08.InspectCounted", spec := "inspectCounted", unfollowed := true, recurses := true, apart := false, narrowed := true }
def InspectCountedUptoSaid : Prop := inspectCountedUptoRow.holds Try.pinned (OpenSpec.upto inspectCountedSpec)

/-- 'martensitelaw08.InspectSamples', WHERE WHAT IT READS IS OF BULK AT MOST 1048576: true; the input reads as it did. -/
def inspectSamplesUptoRow : OpenClaim := { program := "ytmddnpagfgilcaa", sum := "4d04e80af439dcb533e3bc23e05d3327c42a3d3994fb3a84d8a33babc8307e5b", func := "martensite/martensitelaw08.InspectSamples", spec := "inspectSamples", unfollowed := true, recurses := true, apart := false, narrowed := true }
def InspectSamplesUptoSaid : Prop := inspectSamplesUptoRow.holds Try.pinned (OpenSpec.upto inspectSamplesSpec)

/-- 'martensitelaw08.InspectExact', WHERE WHAT IT READS IS OF BULK AT MOST 1048576: true; the input reads as it did. -/
def inspectExactUptoRow : OpenClaim := { program := "ytmddnpagfgilcaa", sum := "4d04e80af439dcb533e3bc23e05d3327c42a3d3994fb3a84d8a33babc8307e5b", func := "martensite/martensitelaw08.InspectExact", spec := "inspectExact", unfollowed := true, recurses := true, apart := false, narrowed := true }
def InspectExactUptoSaid : Prop := inspectExactUptoRow.holds Try.pinned (OpenSpec.upto inspectExactSpec)

end Rows
end Go.Proofs.Ytmddnpagfgilcaa
