/-
  No cell of these rows narrows 'for every input' (looked for: loops, veiled, ifaces, maps, wideKeys, modest, calm, conditions, laid).
  DERIVED. THE GIVEN ROWS OF THIS SEAT. 10 by the template 'for every input the law returns true; each argument reads behind the call as it read before'; 0 by the template 'total and deterministic' (their statements: YtkmekbafjnlfkaaGreatTotals.lean).
  GIVEN WITH THE SEED: the statements are not yours to turn. If you find one false, say at which input.
  Laid BY PROGRAM, IN A SANDBOX (cutbox-rows.mjs): the forced cells as the released guide's own fill.sh prints them over the translation 403aab18125fa518… (all of the seat's roots in one cut). By AI agents, Wed Nov 11 2026. No macro, syntax, notation, axiom, sorry.
-/
import Derived.Test.YtkmekbafjnlfkaaGreatChecked
import GoSem.Claim
import GoSem.ClaimJoined
import GoSem.ClaimMapViews
import Derived.JoinedTies
import Derived.KernelRfl
namespace Go.Proofs.YtkmekbafjnlfkaaGreat
/- THE CELL 'sum', in the pinned program and in every row, IS THE sha256 OF THE DUMP (.gsa) THAT YtkmekbafjnlfkaaGreatProg.lean LOADS. Nothing in Lean hashes anything: it is a label: what it is worth is what the hold of that sum in a sandbox is worth. -/
noncomputable def Tryz.pinned : Pinned := { name := "ytkmekbafjnlfkaagreat", sum := "403aab18125fa5181875053f8ee693daa7aaa4d50f1b5d90a8fa7cf2ba6d5efb", checked := Tryz.checked }
namespace Rows
def none {H : Type} : Left H := { results := [], args := [] }

/-- 'martensitelaw04.SteelRuled': WHATEVER THE INPUT: true; the input reads as it did. -/
def steelRuledSpec : ChangeSpec := { name := "steelRuled", fn := fun _ => fun
  | [d1, d2, d3] => { results := [.lit (.bool true)], args := [d1, d2, d3] }
  | _ => none }
def steelRuledRow : OpenClaim := { program := "ytkmekbafjnlfkaagreat", sum := "403aab18125fa5181875053f8ee693daa7aaa4d50f1b5d90a8fa7cf2ba6d5efb", func := "martensite/martensitelaw04.SteelRuled", spec := "steelRuled", unfollowed := true, recurses := true, apart := false }
def SteelRuledSaid : Prop := steelRuledRow.holds Tryz.pinned (OpenSpec.ofChange steelRuledSpec)

/-- ITS FALSE NEIGHBOUR: 'it returns false'. Refute it at one input. -/
def steelRuledWrong : ChangeSpec := { name := "steelRuled", fn := fun _ => fun
  | [d1, d2, d3] => { results := [.lit (.bool false)], args := [d1, d2, d3] }
  | _ => none }
def SteelRuledWrongFalsely : Prop := steelRuledRow.holds Tryz.pinned (OpenSpec.ofChange steelRuledWrong)

/-- 'martensitelaw04.SteelRuns': WHATEVER THE INPUT: true; the input reads as it did. -/
def steelRunsSpec : ChangeSpec := { name := "steelRuns", fn := fun _ => fun
  | [d1, d2, d3] => { results := [.lit (.bool true)], args := [d1, d2, d3] }
  | _ => none }
def steelRunsRow : OpenClaim := { program := "ytkmekbafjnlfkaagreat", sum := "403aab18125fa5181875053f8ee693daa7aaa4d50f1b5d90a8fa7cf2ba6d5efb", func := "martensite/martensitelaw04.SteelRuns", spec := "steelRuns", unfollowed := true, recurses := true, apart := false }
def SteelRunsSaid : Prop := steelRunsRow.holds Tryz.pinned (OpenSpec.ofChange steelRunsSpec)

/-- ITS FALSE NEIGHBOUR: 'it returns false'. Refute it at one input. -/
def steelRunsWrong : ChangeSpec := { name := "steelRuns", fn := fun _ => fun
  | [d1, d2, d3] => { results := [.lit (.bool false)], args := [d1, d2, d3] }
  | _ => none }
def SteelRunsWrongFalsely : Prop := steelRunsRow.holds Tryz.pinned (OpenSpec.ofChange steelRunsWrong)

/-- 'martensitelaw04.SteelShares': WHATEVER THE INPUT: true; the input reads as it did. -/
def steelSharesSpec : ChangeSpec := { name := "steelShares", fn := fun _ => fun
  | [d1, d2, d3] => { results := [.lit (.bool true)], args := [d1, d2, d3] }
  | _ => none }
def steelSharesRow : OpenClaim := { program := "ytkmekbafjnlfkaagreat", sum := "403aab18125fa5181875053f8ee693daa7aaa4d50f1b5d90a8fa7cf2ba6d5efb", func := "martensite/martensitelaw04.SteelShares", spec := "steelShares", unfollowed := true, recurses := true, apart := false }
def SteelSharesSaid : Prop := steelSharesRow.holds Tryz.pinned (OpenSpec.ofChange steelSharesSpec)

/-- ITS FALSE NEIGHBOUR: 'it returns false'. Refute it at one input. -/
def steelSharesWrong : ChangeSpec := { name := "steelShares", fn := fun _ => fun
  | [d1, d2, d3] => { results := [.lit (.bool false)], args := [d1, d2, d3] }
  | _ => none }
def SteelSharesWrongFalsely : Prop := steelSharesRow.holds Tryz.pinned (OpenSpec.ofChange steelSharesWrong)

/-- 'martensitelaw04.SteelFaster': WHATEVER THE INPUT: true; the input reads as it did. -/
def steelFasterSpec : ChangeSpec := { name := "steelFaster", fn := fun _ => fun
  | [d1, d2, d3] => { results := [.lit (.bool true)], args := [d1, d2, d3] }
  | _ => none }
def steelFasterRow : OpenClaim := { program := "ytkmekbafjnlfkaagreat", sum := "403aab18125fa5181875053f8ee693daa7aaa4d50f1b5d90a8fa7cf2ba6d5efb", func := "martensite/martensitelaw04.SteelFaster", spec := "steelFaster", unfollowed := true, recurses := true, apart := false }
def SteelFasterSaid : Prop := steelFasterRow.holds Tryz.pinned (OpenSpec.ofChange steelFasterSpec)

/-- ITS FALSE NEIGHBOUR: 'it returns false'. Refute it at one input. -/
def steelFasterWrong : ChangeSpec := { name := "steelFaster", fn := fun _ => fun
  | [d1, d2, d3] => { results := [.lit (.bool false)], args := [d1, d2, d3] }
  | _ => none }
def SteelFasterWrongFalsely : Prop := steelFasterRow.holds Tryz.pinned (OpenSpec.ofChange steelFasterWrong)

/-- 'martensitelaw04.SteelBoxes': WHATEVER THE INPUT: true; the input reads as it did. -/
def steelBoxesSpec : ChangeSpec := { name := "steelBoxes", fn := fun _ => fun
  | [d1, d2, d3] => { results := [.lit (.bool true)], args := [d1, d2, d3] }
  | _ => none }
def steelBoxesRow : OpenClaim := { program := "ytkmekbafjnlfkaagreat", sum := "403aab18125fa5181875053f8ee693daa7aaa4d50f1b5d90a8fa7cf2ba6d5efb", func := "martensite/martensitelaw04.SteelBoxes", spec := "steelBoxes", unfollowed := true, recurses := true, apart := false }
def SteelBoxesSaid : Prop := steelBoxesRow.holds Tryz.pinned (OpenSpec.ofChange steelBoxesSpec)

/-- ITS FALSE NEIGHBOUR: 'it returns false'. Refute it at one input. -/
def steelBoxesWrong : ChangeSpec := { name := "steelBoxes", fn := fun _ => fun
  | [d1, d2, d3] => { results := [.lit (.bool false)], args := [d1, d2, d3] }
  | _ => none }
def SteelBoxesWrongFalsely : Prop := steelBoxesRow.holds Tryz.pinned (OpenSpec.ofChange steelBoxesWrong)

/-- 'martensitelaw04.SteelEnclosed': WHATEVER THE INPUT: true; the input reads as it did. -/
def steelEnclosedSpec : ChangeSpec := { name := "steelEnclosed", fn := fun _ => fun
  | [d1, d2, d3] => { results := [.lit (.bool true)], args := [d1, d2, d3] }
  | _ => none }
def steelEnclosedRow : OpenClaim := { program := "ytkmekbafjnlfkaagreat", sum := "403aab18125fa5181875053f8ee693daa7aaa4d50f1b5d90a8fa7cf2ba6d5efb", func := "martensite/martensitelaw04.SteelEnclosed", spec := "steelEnclosed", unfollowed := true, recurses := true, apart := false }
def SteelEnclosedSaid : Prop := steelEnclosedRow.holds Tryz.pinned (OpenSpec.ofChange steelEnclosedSpec)

/-- ITS FALSE NEIGHBOUR: 'it returns false'. Refute it at one input. -/
def steelEnclosedWrong : ChangeSpec := { name := "steelEnclosed", fn := fun _ => fun
  | [d1, d2, d3] => { results := [.lit (.bool false)], args := [d1, d2, d3] }
  | _ => none }
def SteelEnclosedWrongFalsely : Prop := steelEnclosedRow.holds Tryz.pinned (OpenSpec.ofChange steelEnclosedWrong)

/-- 'martensitelaw04.SteelProfiles': WHATEVER THE INPUT: true; the input reads as it did. -/
def steelProfilesSpec : ChangeSpec := { name := "steelProfiles", fn := fun _ => fun
  | [d1, d2, d3] => { results := [.lit (.bool true)], args := [d1, d2, d3] }
  | _ => none }
def steelProfilesRow : OpenClaim := { program := "ytkmekbafjnlfkaagreat", sum := "403aab18125fa5181875053f8ee693daa7aaa4d50f1b5d90a8fa7cf2ba6d5efb", func := "martensite/martensitelaw04.SteelProfiles", spec := "steelProfiles", unfollowed := true, recurses := true, apart := false }
def SteelProfilesSaid : Prop := steelProfilesRow.holds Tryz.pinned (OpenSpec.ofChange steelProfilesSpec)

/-- ITS FALSE NEIGHBOUR: 'it returns false'. Refute it at one input. -/
def steelProfilesWrong : ChangeSpec := { name := "steelProfiles", fn := fun _ => fun
  | [d1, d2, d3] => { results := [.lit (.bool false)], args := [d1, d2, d3] }
  | _ => none }
def SteelProfilesWrongFalsely : Prop := steelProfilesRow.holds Tryz.pinned (OpenSpec.ofChange steelProfilesWrong)

/-- 'martensitelaw04.SteelCases': WHATEVER THE INPUT: true; the input reads as it did. -/
def steelCasesSpec : ChangeSpec := { name := "steelCases", fn := fun _ => fun
  | [d1, d2, d3] => { results := [.lit (.bool true)], args := [d1, d2, d3] }
  | _ => none }
def steelCasesRow : OpenClaim := { program := "ytkmekbafjnlfkaagreat", sum := "403aab18125fa5181875053f8ee693daa7aaa4d50f1b5d90a8fa7cf2ba6d5efb", func := "martensite/martensitelaw04.SteelCases", spec := "steelCases", unfollowed := true, recurses := true, apart := false }
def SteelCasesSaid : Prop := steelCasesRow.holds Tryz.pinned (OpenSpec.ofChange steelCasesSpec)

/-- ITS FALSE NEIGHBOUR: 'it returns false'. Refute it at one input. -/
def steelCasesWrong : ChangeSpec := { name := "steelCases", fn := fun _ => fun
  | [d1, d2, d3] => { results := [.lit (.bool false)], args := [d1, d2, d3] }
  | _ => none }
def SteelCasesWrongFalsely : Prop := steelCasesRow.holds Tryz.pinned (OpenSpec.ofChange steelCasesWrong)

/-- 'martensitelaw04.SteelCurves': WHATEVER THE INPUT: true; the input reads as it did. -/
def steelCurvesSpec : ChangeSpec := { name := "steelCurves", fn := fun _ => fun
  | [d1, d2, d3] => { results := [.lit (.bool true)], args := [d1, d2, d3] }
  | _ => none }
def steelCurvesRow : OpenClaim := { program := "ytkmekbafjnlfkaagreat", sum := "403aab18125fa5181875053f8ee693daa7aaa4d50f1b5d90a8fa7cf2ba6d5efb", func := "martensite/martensitelaw04.SteelCurves", spec := "steelCurves", unfollowed := true, recurses := true, apart := false }
def SteelCurvesSaid : Prop := steelCurvesRow.holds Tryz.pinned (OpenSpec.ofChange steelCurvesSpec)

/-- ITS FALSE NEIGHBOUR: 'it returns false'. Refute it at one input. -/
def steelCurvesWrong : ChangeSpec := { name := "steelCurves", fn := fun _ => fun
  | [d1, d2, d3] => { results := [.lit (.bool false)], args := [d1, d2, d3] }
  | _ => none }
def SteelCurvesWrongFalsely : Prop := steelCurvesRow.holds Tryz.pinned (OpenSpec.ofChange steelCurvesWrong)

/-- 'martensitelaw04.SteelTempered': WHATEVER THE INPUT: true; the input reads as it did. -/
def steelTemperedSpec : ChangeSpec := { name := "steelTempered", fn := fun _ => fun
  | [d1, d2, d3] => { results := [.lit (.bool true)], args := [d1, d2, d3] }
  | _ => none }
def steelTemperedRow : OpenClaim := { program := "ytkmekbafjnlfkaagreat", sum := "403aab18125fa5181875053f8ee693daa7aaa4d50f1b5d90a8fa7cf2ba6d5efb", func := "martensite/martensitelaw04.SteelTempered", spec := "steelTempered", unfollowed := true, recurses := true, apart := false }
def SteelTemperedSaid : Prop := steelTemperedRow.holds Tryz.pinned (OpenSpec.ofChange steelTemperedSpec)

/-- ITS FALSE NEIGHBOUR: 'it returns false'. Refute it at one input. -/
def steelTemperedWrong : ChangeSpec := { name := "steelTempered", fn := fun _ => fun
  | [d1, d2, d3] => { results := [.lit (.bool false)], args := [d1, d2, d3] }
  | _ => none }
def SteelTemperedWrongFalsely : Prop := steelTemperedRow.holds Tryz.pinned (OpenSpec.ofChange steelTemperedWrong)

/- THE SECOND FORM. 'bulk': how many values and letters a reading holds, each counted each time it is reached (what is shared counts as often as it is met; a slice's spare places count too). A statement '..UptoSaid' is the law's where the arguments, and the package variables that the reading takes, are together of bulk at most 1048576: NARROWER than '..Said'. Prove '..Said' where nothing that the law and all that it calls make is longer than what came in: it says more and counts as full. Else prove '..UptoSaid'. A law counts once. -/
mutual
def uptoBulk {H : Type} : DataW H → Nat
  | .lit (.string bytes) => bytes.length + 1
  | .lit _ => 1
  | .nil => 1
  | .ptr d => uptoBulk d + 1
  | .slice elems spare => uptoBulkAll elems + uptoBulkAll spare + 1
  | .agg parts => uptoBulkAll parts + 1
  | .iface _ d => uptoBulk d + 1
  | .map entries => uptoBulkEntries entries + 1
  | .held _ => 1
def uptoBulkAll {H : Type} : List (DataW H) → Nat
  | [] => 0
  | d :: r => uptoBulk d + uptoBulkAll r
def uptoBulkEntries {H : Type} : List (Lit × DataW H) → Nat
  | [] => 0
  | x :: r => uptoBulkEntry x + uptoBulkEntries r
def uptoBulkEntry {H : Type} : Lit × DataW H → Nat
  | (.string bytes, d) => bytes.length + uptoBulk d + 1
  | (_, d) => uptoBulk d + 1
 end
def uptoSmall : (H : Type) → List (DataW H) → Bool := fun _ ds => decide (uptoBulkAll ds ≤ 1048576)
def OpenSpec.upto (s : _root_.Go.ChangeSpec) : _root_.Go.OpenSpec := { _root_.Go.OpenSpec.ofChange s with cond := some uptoSmall }

/-- 'martensitelaw04.SteelRuled', WHERE WHAT IT READS IS OF BULK AT MOST 1048576: true; the input reads as it did. -/
def steelRuledUptoRow : OpenClaim := { program := "ytkmekbafjnlfkaagreat", sum := "403aab18125fa5181875053f8ee693daa7aaa4d50f1b5d90a8fa7cf2ba6d5efb", func := "martensite/martensitelaw04.SteelRuled", spec := "steelRuled", unfollowed := true, recurses := true, apart := false, narrowed := true }
def SteelRuledUptoSaid : Prop := steelRuledUptoRow.holds Tryz.pinned (OpenSpec.upto steelRuledSpec)

/-- 'martensitelaw04.SteelRuns', WHERE WHAT IT READS IS OF BULK AT MOST 1048576: true; the input reads as it did. -/
def steelRunsUptoRow : OpenClaim := { program := "ytkmekbafjnlfkaagreat", sum := "403aab18125fa5181875053f8ee693daa7aaa4d50f1b5d90a8fa7cf2ba6d5efb", func := "martensite/martensitelaw04.SteelRuns", spec := "steelRuns", unfollowed := true, recurses := true, apart := false, narrowed := true }
def SteelRunsUptoSaid : Prop := steelRunsUptoRow.holds Tryz.pinned (OpenSpec.upto steelRunsSpec)

/-- 'martensitelaw04.SteelShares', WHERE WHAT IT READS IS OF BULK AT MOST 1048576: true; the input reads as it did. -/
def steelSharesUptoRow : OpenClaim := { program := "ytkmekbafjnlfkaagreat", sum := "403aab18125fa5181875053f8ee693daa7aaa4d50f1b5d90a8fa7cf2ba6d5efb", func := "martensite/martensitelaw04.SteelShares", spec := "steelShares", unfollowed := true, recurses := true, apart := false, narrowed := true }
def SteelSharesUptoSaid : Prop := steelSharesUptoRow.holds Tryz.pinned (OpenSpec.upto steelSharesSpec)

/-- 'martensitelaw04.SteelFaster', WHERE WHAT IT READS IS OF BULK AT MOST 1048576: true; the input reads as it did. -/
def steelFasterUptoRow : OpenClaim := { program := "ytkmekbafjnlfkaagreat", sum := "403aab18125fa5181875053f8ee693daa7aaa4d50f1b5d90a8fa7cf2ba6d5efb", func := "martensite/martensitelaw04.SteelFaster", spec := "steelFaster", unfollowed := true, recurses := true, apart := false, narrowed := true }
def SteelFasterUptoSaid : Prop := steelFasterUptoRow.holds Tryz.pinned (OpenSpec.upto steelFasterSpec)

/-- 'martensitelaw04.SteelBoxes', WHERE WHAT IT READS IS OF BULK AT MOST 1048576: true; the input reads as it did. -/
def steelBoxesUptoRow : OpenClaim := { program := "ytkmekbafjnlfkaagreat", sum := "403aab18125fa5181875053f8ee693daa7aaa4d50f1b5d90a8fa7cf2ba6d5efb", func := "martensite/martensitelaw04.SteelBoxes", spec := "steelBoxes", unfollowed := true, recurses := true, apart := false, narrowed := true }
def SteelBoxesUptoSaid : Prop := steelBoxesUptoRow.holds Tryz.pinned (OpenSpec.upto steelBoxesSpec)

/-- 'martensitelaw04.SteelEnclosed', WHERE WHAT IT READS IS OF BULK AT MOST 1048576: true; the input reads as it did. -/
def steelEnclosedUptoRow : OpenClaim := { program := "ytkmekbafjnlfkaagreat", sum := "403aab18125fa5181875053f8ee693daa7aaa4d50f1b5d90a8fa7cf2ba6d5efb", func := "martensite/martensitelaw04.SteelEnclosed", spec := "steelEnclosed", unfollowed := true, recurses := true, apart := false, narrowed := true }
def SteelEnclosedUptoSaid : Prop := steelEnclosedUptoRow.holds Tryz.pinned (OpenSpec.upto steelEnclosedSpec)

/-- 'martensitelaw04.SteelProfiles', WHERE WHAT IT READS IS OF BULK AT MOST 1048576: true; the input reads as it did. -/
def steelProfilesUptoRow : OpenClaim := { program := "ytkmekbafjnlfkaagreat", sum := "403aab18125fa5181875053f8ee693daa7aaa4d50f1b5d90a8fa7cf2ba6d5efb", func := "martensite/martensitelaw04.SteelProfiles", spec := "steelProfiles", unfollowed := true, recurses := true, apart := false, narrowed := true }
def SteelProfilesUptoSaid : Prop := steelProfilesUptoRow.holds Tryz.pinned (OpenSpec.upto steelProfilesSpec)

/-- 'martensitelaw04.SteelCases', WHERE WHAT IT READS IS OF BULK AT MOST 1048576: true; the input reads as it did. -/
def steelCasesUptoRow : OpenClaim := { program := "ytkmekbafjnlfkaagreat", sum := "403aab18125fa5181875053f8ee693daa7aaa4d50f1b5d90a8fa7cf2ba6d5efb", func := "martensite/martensitelaw04.SteelCases", spec := "steelCases", unfollowed := true, recurses := true, apart := false, narrowed := true }
def SteelCasesUptoSaid : Prop := steelCasesUptoRow.holds Tryz.pinned (OpenSpec.upto steelCasesSpec)

/-- 'martensitelaw04.SteelCurves', WHERE WHAT IT READS IS OF BULK AT MOST 1048576: true; the input reads as it did. -/
def steelCurvesUptoRow : OpenClaim := { program := "ytkmekbafjnlfkaagreat", sum := "403aab18125fa5181875053f8ee693daa7aaa4d50f1b5d90a8fa7cf2ba6d5efb", func := "martensite/martensitelaw04.SteelCurves", spec := "steelCurves", unfollowed := true, recurses := true, apart := false, narrowed := true }
def SteelCurvesUptoSaid : Prop := steelCurvesUptoRow.holds Tryz.pinned (OpenSpec.upto steelCurvesSpec)

/-- 'martensitelaw04.SteelTempered', WHERE WHAT IT READS IS OF BULK AT MOST 1048576: true; the input reads as it did. -/
def steelTemperedUptoRow : OpenClaim := { program := "ytkmekbafjnlfkaagreat", sum := "403aab18125fa5181875053f8ee693daa7aaa4d50f1b5d90a8fa7cf2ba6d5efb", func := "martensite/martensitelaw04.SteelTempered", spec := "steelTempered", unfollowed := true, recurses := true, apart := false, narrowed := true }
def SteelTemperedUptoSaid : Prop := steelTemperedUptoRow.holds Tryz.pinned (OpenSpec.upto steelTemperedSpec)

end Rows
end Go.Proofs.YtkmekbafjnlfkaaGreat
