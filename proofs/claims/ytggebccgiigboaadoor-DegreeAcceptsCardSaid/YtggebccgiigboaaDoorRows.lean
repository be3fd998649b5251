/-
  NARROWER THAN 'FOR EVERY INPUT', by the rows' own cells (each row's printed sentence says how): DegreeFits: laid · DegreeAll: laid · DegreeEvents: laid · DegreeAccepts: laid · DegreeRejects: laid.
  DERIVED. THE GIVEN ROWS OF THIS SEAT. 5 by the template 'for every input the law returns true; each argument reads behind the call as it read before'; 0 by the template 'total and deterministic' (their statements: YtggebccgiigboaaDoorTotals.lean).
  GIVEN WITH THE SEED: the statements are not yours to turn. If you find one false, say at which input.
  Laid BY PROGRAM, IN A SANDBOX (cutbox-rows.mjs): the forced cells as the released guide's own fill.sh prints them over the translation 0b6b97cebada5c43… (all of the seat's roots in one cut). By AI agents, Wed Nov 11 2026. No macro, syntax, notation, axiom, sorry.
-/
import Derived.Test.YtggebccgiigboaaDoorChecked
import GoSem.Claim
import GoSem.ClaimJoined
import GoSem.ClaimMapViews
import Derived.JoinedTies
import Derived.KernelRfl
namespace Go.Proofs.YtggebccgiigboaaDoor
/- THE CELL 'sum', in the pinned program and in every row, IS THE sha256 OF THE DUMP (.gsa) THAT YtggebccgiigboaaDoorProg.lean LOADS. Nothing in Lean hashes anything: it is a label: what it is worth is what the hold of that sum in a sandbox is worth. -/
noncomputable def Tryd.pinned : Pinned := { name := "ytggebccgiigboaadoor", sum := "0b6b97cebada5c43427005adb37264ae9b108526cf63d8e4eeabd3f6a5d24d57", checked := Tryd.checked }
namespace Rows
def none {H : Type} : Left H := { results := [], args := [] }

/- WHAT THE LISTED PACKAGE-LEVEL VARIABLES READ AS WHEN THE CALL BEGINS. Each datum BY PROGRAM (the guide's laid-datum.mjs) off the statement by which the dump's own 'gosem.cut.vars' lays the variable. In a bare row this is a premise. The card (YtggebccgiigboaaDoorCards.lean) ties it to the program's text. -/
def laid_sharecore_field_fields {H : Type} : DataW H := .agg [.agg [.lit (.int .i64 1), .agg [.lit (.int .u64 18446744073709551597), .lit (.int .u64 18446744073709551615), .lit (.int .u64 18446744073709551615), .lit (.int .u64 9223372036854775807)], .lit (.int .u64 9708812670373448219), .agg [.lit (.int .u64 38), .lit (.int .u64 0), .lit (.int .u64 0), .lit (.int .u64 0)], .agg [.lit (.int .u64 1444), .lit (.int .u64 0), .lit (.int .u64 0), .lit (.int .u64 0)]], .agg [.lit (.int .i64 2), .agg [.lit (.int .u64 17562291160714782033), .lit (.int .u64 13611842547513532036), .lit (.int .u64 18446744073709551615), .lit (.int .u64 18446744069414584320)], .lit (.int .u64 14758798090332847183), .agg [.lit (.int .u64 884452912994769583), .lit (.int .u64 4834901526196019579), .lit (.int .u64 0), .lit (.int .u64 4294967295)], .agg [.lit (.int .u64 9449762124159643298), .lit (.int .u64 5087230966250696614), .lit (.int .u64 2901921493521525849), .lit (.int .u64 7413256579398063648)]]]

/-- 'sharecorelaw10.DegreeFits': WHATEVER THE INPUT: true; the input reads as it did. -/
def degreeFitsSpec : ChangeSpec := { name := "degreeFits", fn := fun _ => fun
  | [d1, d2, d3] => { results := [.lit (.bool true)], args := [d1, d2, d3] }
  | _ => none }
def degreeFitsRow : OpenClaim := { program := "ytggebccgiigboaadoor", sum := "0b6b97cebada5c43427005adb37264ae9b108526cf63d8e4eeabd3f6a5d24d57", func := "sharecore/sharecorelaw10.DegreeFits", spec := "degreeFits", inPlace := ["math/bits.Add64", "math/bits.Sub64"], unfollowed := true, recurses := true, named := ["sharecore/field.fields"], apart := false, laid := [("sharecore/field.fields", laid_sharecore_field_fields)] }
def DegreeFitsSaid : Prop := degreeFitsRow.holds Tryd.pinned (OpenSpec.ofChange degreeFitsSpec)

/-- ITS FALSE NEIGHBOUR: 'it returns false'. Refute it at one input. -/
def degreeFitsWrong : ChangeSpec := { name := "degreeFits", fn := fun _ => fun
  | [d1, d2, d3] => { results := [.lit (.bool false)], args := [d1, d2, d3] }
  | _ => none }
def DegreeFitsWrongFalsely : Prop := degreeFitsRow.holds Tryd.pinned (OpenSpec.ofChange degreeFitsWrong)

/-- 'sharecorelaw10.DegreeAll': WHATEVER THE INPUT: true; the input reads as it did. -/
def degreeAllSpec : ChangeSpec := { name := "degreeAll", fn := fun _ => fun
  | [d1, d2, d3] => { results := [.lit (.bool true)], args := [d1, d2, d3] }
  | _ => none }
def degreeAllRow : OpenClaim := { program := "ytggebccgiigboaadoor", sum := "0b6b97cebada5c43427005adb37264ae9b108526cf63d8e4eeabd3f6a5d24d57", func := "sharecore/sharecorelaw10.DegreeAll", spec := "degreeAll", inPlace := ["math/bits.Add64", "math/bits.Sub64"], unfollowed := true, recurses := true, named := ["sharecore/field.fields"], apart := false, laid := [("sharecore/field.fields", laid_sharecore_field_fields)] }
def DegreeAllSaid : Prop := degreeAllRow.holds Tryd.pinned (OpenSpec.ofChange degreeAllSpec)

/-- ITS FALSE NEIGHBOUR: 'it returns false'. Refute it at one input. -/
def degreeAllWrong : ChangeSpec := { name := "degreeAll", fn := fun _ => fun
  | [d1, d2, d3] => { results := [.lit (.bool false)], args := [d1, d2, d3] }
  | _ => none }
def DegreeAllWrongFalsely : Prop := degreeAllRow.holds Tryd.pinned (OpenSpec.ofChange degreeAllWrong)

/-- 'sharecorelaw10.DegreeEvents': WHATEVER THE INPUT: true; the input reads as it did. -/
def degreeEventsSpec : ChangeSpec := { name := "degreeEvents", fn := fun _ => fun
  | [d1, d2, d3] => { results := [.lit (.bool true)], args := [d1, d2, d3] }
  | _ => none }
def degreeEventsRow : OpenClaim := { program := "ytggebccgiigboaadoor", sum := "0b6b97cebada5c43427005adb37264ae9b108526cf63d8e4eeabd3f6a5d24d57", func := "sharecore/sharecorelaw10.DegreeEvents", spec := "degreeEvents", inPlace := ["math/bits.Add64", "math/bits.Sub64"], unfollowed := true, recurses := true, named := ["sharecore/field.fields"], apart := false, laid := [("sharecore/field.fields", laid_sharecore_field_fields)] }
def DegreeEventsSaid : Prop := degreeEventsRow.holds Tryd.pinned (OpenSpec.ofChange degreeEventsSpec)

/-- ITS FALSE NEIGHBOUR: 'it returns false'. Refute it at one input. -/
def degreeEventsWrong : ChangeSpec := { name := "degreeEvents", fn := fun _ => fun
  | [d1, d2, d3] => { results := [.lit (.bool false)], args := [d1, d2, d3] }
  | _ => none }
def DegreeEventsWrongFalsely : Prop := degreeEventsRow.holds Tryd.pinned (OpenSpec.ofChange degreeEventsWrong)

/-- 'sharecorelaw10.DegreeAccepts': WHATEVER THE INPUT: true; the input reads as it did. -/
def degreeAcceptsSpec : ChangeSpec := { name := "degreeAccepts", fn := fun _ => fun
  | [d1, d2, d3] => { results := [.lit (.bool true)], args := [d1, d2, d3] }
  | _ => none }
def degreeAcceptsRow : OpenClaim := { program := "ytggebccgiigboaadoor", sum := "0b6b97cebada5c43427005adb37264ae9b108526cf63d8e4eeabd3f6a5d24d57", func := "sharecore/sharecorelaw10.DegreeAccepts", spec := "degreeAccepts", inPlace := ["math/bits.Add64", "math/bits.Sub64"], unfollowed := true, recurses := true, named := ["sharecore/field.fields"], apart := false, laid := [("sharecore/field.fields", laid_sharecore_field_fields)] }
def DegreeAcceptsSaid : Prop := degreeAcceptsRow.holds Tryd.pinned (OpenSpec.ofChange degreeAcceptsSpec)

/-- ITS FALSE NEIGHBOUR: 'it returns false'. Refute it at one input. -/
def degreeAcceptsWrong : ChangeSpec := { name := "degreeAccepts", fn := fun _ => fun
  | [d1, d2, d3] => { results := [.lit (.bool false)], args := [d1, d2, d3] }
  | _ => none }
def DegreeAcceptsWrongFalsely : Prop := degreeAcceptsRow.holds Tryd.pinned (OpenSpec.ofChange degreeAcceptsWrong)

/-- 'sharecorelaw10.DegreeRejects': WHATEVER THE INPUT: true; the input reads as it did. -/
def degreeRejectsSpec : ChangeSpec := { name := "degreeRejects", fn := fun _ => fun
  | [d1, d2, d3] => { results := [.lit (.bool true)], args := [d1, d2, d3] }
  | _ => none }
def degreeRejectsRow : OpenClaim := { program := "ytggebccgiigboaadoor", sum := "0b6b97cebada5c43427005adb37264ae9b108526cf63d8e4eeabd3f6a5d24d57", func := "sharecore/sharecorelaw10.DegreeRejects", spec := "degreeRejects", inPlace := ["math/bits.Add64", "math/bits.Sub64"], unfollowed := true, recurses := true, named := ["sharecore/field.fields"], apart := false, laid := [("sharecore/field.fields", laid_sharecore_field_fields)] }
def DegreeRejectsSaid : Prop := degreeRejectsRow.holds Tryd.pinned (OpenSpec.ofChange degreeRejectsSpec)

/-- ITS FALSE NEIGHBOUR: 'it returns false'. Refute it at one input. -/
def degreeRejectsWrong : ChangeSpec := { name := "degreeRejects", fn := fun _ => fun
  | [d1, d2, d3] => { results := [.lit (.bool false)], args := [d1, d2, d3] }
  | _ => none }
def DegreeRejectsWrongFalsely : Prop := degreeRejectsRow.holds Tryd.pinned (OpenSpec.ofChange degreeRejectsWrong)

/- THE SECOND FORM. 'bulk': how many values and letters a reading holds, each counted each time it is reached (what is shared counts as often as it is met; a slice's spare places count too). A statement '..UptoSaid' is the law's where the arguments, and the package variables that the reading takes, are together of bulk at most 1048576: NARROWER than '..Said'. Prove '..Said' where nothing that the law and all that it calls make is longer than what came in: it says more and counts as full. Else prove '..UptoSaid'. A law counts once. -/
mutual
def uptoBulk {H : Type} : DataW H → Nat
  | .lit (.string bytes) => bytes.length + 1
  | .lit _ => 1
  | .nil => 1
  | .ptr d => uptoBulk d + 1
  | .slice elems spare => uptoBulkAll elems + uptoBulkAll spare + 1
  | .agg parts => uptoBulkAll parts + 1
  | .iface _ d => uptoBulk d + 1
  | .map entries => uptoBulkEntries entries + 1
  | .held _ => 1
def uptoBulkAll {H : Type} : List (DataW H) → Nat
  | [] => 0
  | d :: r => uptoBulk d + uptoBulkAll r
def uptoBulkEntries {H : Type} : List (Lit × DataW H) → Nat
  | [] => 0
  | x :: r => uptoBulkEntry x + uptoBulkEntries r
def uptoBulkEntry {H : Type} : Lit × DataW H → Nat
  | (.string bytes, d) => bytes.length + uptoBulk d + 1
  | (_, d) => uptoBulk d + 1
 end
def uptoSmall : (H : Type) → List (DataW H) → Bool := fun _ ds => decide (uptoBulkAll ds ≤ 1048576)
def OpenSpec.upto (s : _root_.Go.ChangeSpec) : _root_.Go.OpenSpec := { _root_.Go.OpenSpec.ofChange s with cond := some uptoSmall }

/-- 'sharecorelaw10.DegreeFits', WHERE WHAT IT READS IS OF BULK AT MOST 1048576: true; the input reads as it did. -/
def degreeFitsUptoRow : OpenClaim := { program := "ytggebccgiigboaadoor", sum := "0b6b97cebada5c43427005adb37264ae9b108526cf63d8e4eeabd3f6a5d24d57", func := "sharecore/sharecorelaw10.DegreeFits", spec := "degreeFits", inPlace := ["math/bits.Add64", "math/bits.Sub64"], unfollowed := true, recurses := true, named := ["sharecore/field.fields"], apart := false, laid := [("sharecore/field.fields", laid_sharecore_field_fields)], narrowed := true }
def DegreeFitsUptoSaid : Prop := degreeFitsUptoRow.holds Tryd.pinned (OpenSpec.upto degreeFitsSpec)

/-- 'sharecorelaw10.DegreeAll', WHERE WHAT IT READS IS OF BULK AT MOST 1048576: true; the input reads as it did. -/
def degreeAllUptoRow : OpenClaim := { program := "ytggebccgiigboaadoor", sum := "0b6b97cebada5c43427005adb37264ae9b108526cf63d8e4eeabd3f6a5d24d57", func := "sharecore/sharecorelaw10.DegreeAll", spec := "degreeAll", inPlace := ["math/bits.Add64", "math/bits.Sub64"], unfollowed := true, recurses := true, named := ["sharecore/field.fields"], apart := false, laid := [("sharecore/field.fields", laid_sharecore_field_fields)], narrowed := true }
def DegreeAllUptoSaid : Prop := degreeAllUptoRow.holds Tryd.pinned (OpenSpec.upto degreeAllSpec)

/-- 'sharecorelaw10.DegreeEvents', WHERE WHAT IT READS IS OF BULK AT MOST 1048576: true; the input reads as it did. -/
def degreeEventsUptoRow : OpenClaim := { program := "ytggebccgiigboaadoor", sum := "0b6b97cebada5c43427005adb37264ae9b108526cf63d8e4eeabd3f6a5d24d57", func := "sharecore/sharecorelaw10.DegreeEvents", spec := "degreeEvents", inPlace := ["math/bits.Add64", "math/bits.Sub64"], unfollowed := true, recurses := true, named := ["sharecore/field.fields"], apart := false, laid := [("sharecore/field.fields", laid_sharecore_field_fields)], narrowed := true }
def DegreeEventsUptoSaid : Prop := degreeEventsUptoRow.holds Tryd.pinned (OpenSpec.upto degreeEventsSpec)

/-- 'sharecorelaw10.DegreeAccepts', WHERE WHAT IT READS IS OF BULK AT MOST 1048576: true; the input reads as it did. -/
def degreeAcceptsUptoRow : OpenClaim := { program := "ytggebccgiigboaadoor", sum := "0b6b97cebada5c43427005adb37264ae9b108526cf63d8e4eeabd3f6a5d24d57", func := "sharecore/sharecorelaw10.DegreeAccepts", spec := "degreeAccepts", inPlace := ["math/bits.Add64", "math/bits.Sub64"], unfollowed := true, recurses := true, named := ["sharecore/field.fields"], apart := false, laid := [("sharecore/field.fields", laid_sharecore_field_fields)], narrowed := true }
def DegreeAcceptsUptoSaid : Prop := degreeAcceptsUptoRow.holds Tryd.pinned (OpenSpec.upto degreeAcceptsSpec)

/-- 'sharecorelaw10.DegreeRejects', WHERE WHAT IT READS IS OF BULK AT MOST 1048576: true; the input reads as it did. -/
def degreeRejectsUptoRow : OpenClaim := { program := "ytggebccgiigboaadoor", sum := "0b6b97cebada5c43427005adb37264ae9b108526cf63d8e4eeabd3f6a5d24d57", func := "sharecore/sharecorelaw10.DegreeRejects", spec := "degreeRejects", inPlace := ["math/bits.Add64", "math/bits.Sub64"], unfollowed := true, recurses := true, named := ["sharecore/field.fields"], apart := false, laid := [("sharecore/field.fields", laid_sharecore_field_fields)], narrowed := true }
def DegreeRejectsUptoSaid : Prop := degreeRejectsUptoRow.holds Tryd.pinned (OpenSpec.upto degreeRejectsSpec)

end Rows
end Go.Proofs.YtggebccgiigboaaDoor
