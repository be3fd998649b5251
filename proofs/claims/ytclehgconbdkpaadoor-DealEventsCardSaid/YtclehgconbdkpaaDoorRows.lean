/-
  NARROWER THAN 'FOR EVERY INPUT', by the rows' own cells (each row's printed sentence says how): DealPolynomials: laid · DealShares: laid · DealEvaluates: laid · DealEvents: laid · DealIsAccepted: laid · DealIsLinear: laid.
  DERIVED. THE GIVEN ROWS OF THIS SEAT. 6 by the template 'for every input the law returns true; each argument reads behind the call as it read before'; 0 by the template 'total and deterministic' (their statements: YtclehgconbdkpaaDoorTotals.lean).
  GIVEN WITH THE SEED: the statements are not yours to turn. If you find one false, say at which input.
  Laid BY PROGRAM, IN A SANDBOX (cutbox-rows.mjs): the forced cells as the released guide's own fill.sh prints them over the translation 3aa47895c85be34f… (all of the seat's roots in one cut). By AI agents, Wed Nov 11 2026. No macro, syntax, notation, axiom, sorry.
-/
import Derived.Test.YtclehgconbdkpaaDoorChecked
import GoSem.Claim
import GoSem.ClaimJoined
import GoSem.ClaimMapViews
import Derived.JoinedTies
import Derived.KernelRfl
namespace Go.Proofs.YtclehgconbdkpaaDoor
/- THE CELL 'sum', in the pinned program and in every row, IS THE sha256 OF THE DUMP (.gsa) THAT YtclehgconbdkpaaDoorProg.lean LOADS. Nothing in Lean hashes anything: it is a label: what it is worth is what the hold of that sum in a sandbox is worth. -/
noncomputable def Tryd.pinned : Pinned := { name := "ytclehgconbdkpaadoor", sum := "3aa47895c85be34f6b7f40d67675e663983b035ff486e5c6d3250a175ea351d2", checked := Tryd.checked }
namespace Rows
def none {H : Type} : Left H := { results := [], args := [] }

/- WHAT THE LISTED PACKAGE-LEVEL VARIABLES READ AS WHEN THE CALL BEGINS. Each datum BY PROGRAM (the guide's laid-datum.mjs) off the statement by which the dump's own 'gosem.cut.vars' lays the variable. In a bare row this is a premise. The card (YtclehgconbdkpaaDoorCards.lean) ties it to the program's text. -/
def laid_sharecore_field_fields {H : Type} : DataW H := .agg [.agg [.lit (.int .i64 1), .agg [.lit (.int .u64 18446744073709551597), .lit (.int .u64 18446744073709551615), .lit (.int .u64 18446744073709551615), .lit (.int .u64 9223372036854775807)], .lit (.int .u64 9708812670373448219), .agg [.lit (.int .u64 38), .lit (.int .u64 0), .lit (.int .u64 0), .lit (.int .u64 0)], .agg [.lit (.int .u64 1444), .lit (.int .u64 0), .lit (.int .u64 0), .lit (.int .u64 0)]], .agg [.lit (.int .i64 2), .agg [.lit (.int .u64 17562291160714782033), .lit (.int .u64 13611842547513532036), .lit (.int .u64 18446744073709551615), .lit (.int .u64 18446744069414584320)], .lit (.int .u64 14758798090332847183), .agg [.lit (.int .u64 884452912994769583), .lit (.int .u64 4834901526196019579), .lit (.int .u64 0), .lit (.int .u64 4294967295)], .agg [.lit (.int .u64 9449762124159643298), .lit (.int .u64 5087230966250696614), .lit (.int .u64 2901921493521525849), .lit (.int .u64 7413256579398063648)]]]

/-- 'sharecorelaw16.DealPolynomials': WHATEVER THE INPUT: true; the input reads as it did. -/
def dealPolynomialsSpec : ChangeSpec := { name := "dealPolynomials", fn := fun _ => fun
  | [d] => { results := [.lit (.bool true)], args := [d] }
  | _ => none }
def dealPolynomialsRow : OpenClaim := { program := "ytclehgconbdkpaadoor", sum := "3aa47895c85be34f6b7f40d67675e663983b035ff486e5c6d3250a175ea351d2", func := "sharecore/sharecorelaw16.DealPolynomials", spec := "dealPolynomials", inPlace := ["math/bits.Add64", "math/bits.Sub64"], unfollowed := true, recurses := true, named := ["sharecore/field.fields"], apart := false, laid := [("sharecore/field.fields", laid_sharecore_field_fields)] }
def DealPolynomialsSaid : Prop := dealPolynomialsRow.holds Tryd.pinned (OpenSpec.ofChange dealPolynomialsSpec)

/-- ITS FALSE NEIGHBOUR: 'it returns false'. Refute it at one input. -/
def dealPolynomialsWrong : ChangeSpec := { name := "dealPolynomials", fn := fun _ => fun
  | [d] => { results := [.lit (.bool false)], args := [d] }
  | _ => none }
def DealPolynomialsWrongFalsely : Prop := dealPolynomialsRow.holds Tryd.pinned (OpenSpec.ofChange dealPolynomialsWrong)

/-- 'sharecorelaw16.DealShares': WHATEVER THE INPUT: true; the input reads as it did. -/
def dealSharesSpec : ChangeSpec := { name := "dealShares", fn := fun _ => fun
  | [d] => { results := [.lit (.bool true)], args := [d] }
  | _ => none }
def dealSharesRow : OpenClaim := { program := "ytclehgconbdkpaadoor", sum := "3aa47895c85be34f6b7f40d67675e663983b035ff486e5c6d3250a175ea351d2", func := "sharecore/sharecorelaw16.DealShares", spec := "dealShares", inPlace := ["math/bits.Add64", "math/bits.Sub64"], unfollowed := true, recurses := true, named := ["sharecore/field.fields"], apart := false, laid := [("sharecore/field.fields", laid_sharecore_field_fields)] }
def DealSharesSaid : Prop := dealSharesRow.holds Tryd.pinned (OpenSpec.ofChange dealSharesSpec)

/-- ITS FALSE NEIGHBOUR: 'it returns false'. Refute it at one input. -/
def dealSharesWrong : ChangeSpec := { name := "dealShares", fn := fun _ => fun
  | [d] => { results := [.lit (.bool false)], args := [d] }
  | _ => none }
def DealSharesWrongFalsely : Prop := dealSharesRow.holds Tryd.pinned (OpenSpec.ofChange dealSharesWrong)

/-- 'sharecorelaw16.DealEvaluates': WHATEVER THE INPUT: true; the input reads as it did. -/
def dealEvaluatesSpec : ChangeSpec := { name := "dealEvaluates", fn := fun _ => fun
  | [d1, d2] => { results := [.lit (.bool true)], args := [d1, d2] }
  | _ => none }
def dealEvaluatesRow : OpenClaim := { program := "ytclehgconbdkpaadoor", sum := "3aa47895c85be34f6b7f40d67675e663983b035ff486e5c6d3250a175ea351d2", func := "sharecore/sharecorelaw16.DealEvaluates", spec := "dealEvaluates", inPlace := ["math/bits.Add64", "math/bits.Sub64"], unfollowed := true, recurses := true, named := ["sharecore/field.fields"], apart := false, laid := [("sharecore/field.fields", laid_sharecore_field_fields)] }
def DealEvaluatesSaid : Prop := dealEvaluatesRow.holds Tryd.pinned (OpenSpec.ofChange dealEvaluatesSpec)

/-- ITS FALSE NEIGHBOUR: 'it returns false'. Refute it at one input. -/
def dealEvaluatesWrong : ChangeSpec := { name := "dealEvaluates", fn := fun _ => fun
  | [d1, d2] => { results := [.lit (.bool false)], args := [d1, d2] }
  | _ => none }
def DealEvaluatesWrongFalsely : Prop := dealEvaluatesRow.holds Tryd.pinned (OpenSpec.ofChange dealEvaluatesWrong)

/-- 'sharecorelaw16.DealEvents': WHATEVER THE INPUT: true; the input reads as it did. -/
def dealEventsSpec : ChangeSpec := { name := "dealEvents", fn := fun _ => fun
  | [d] => { results := [.lit (.bool true)], args := [d] }
  | _ => none }
def dealEventsRow : OpenClaim := { program := "ytclehgconbdkpaadoor", sum := "3aa47895c85be34f6b7f40d67675e663983b035ff486e5c6d3250a175ea351d2", func := "sharecore/sharecorelaw16.DealEvents", spec := "dealEvents", inPlace := ["math/bits.Add64", "math/bits.Sub64"], unfollowed := true, recurses := true, named := ["sharecore/field.fields"], apart := false, laid := [("sharecore/field.fields", laid_sharecore_field_fields)] }
def DealEventsSaid : Prop := dealEventsRow.holds Tryd.pinned (OpenSpec.ofChange dealEventsSpec)

/-- ITS FALSE NEIGHBOUR: 'it returns false'. Refute it at one input. -/
def dealEventsWrong : ChangeSpec := { name := "dealEvents", fn := fun _ => fun
  | [d] => { results := [.lit (.bool false)], args := [d] }
  | _ => none }
def DealEventsWrongFalsely : Prop := dealEventsRow.holds Tryd.pinned (OpenSpec.ofChange dealEventsWrong)

/-- 'sharecorelaw16.DealIsAccepted': WHATEVER THE INPUT: true; the input reads as it did. -/
def dealIsAcceptedSpec : ChangeSpec := { name := "dealIsAccepted", fn := fun _ => fun
  | [d] => { results := [.lit (.bool true)], args := [d] }
  | _ => none }
def dealIsAcceptedRow : OpenClaim := { program := "ytclehgconbdkpaadoor", sum := "3aa47895c85be34f6b7f40d67675e663983b035ff486e5c6d3250a175ea351d2", func := "sharecore/sharecorelaw16.DealIsAccepted", spec := "dealIsAccepted", inPlace := ["math/bits.Add64", "math/bits.Sub64"], unfollowed := true, recurses := true, named := ["sharecore/field.fields"], apart := false, laid := [("sharecore/field.fields", laid_sharecore_field_fields)] }
def DealIsAcceptedSaid : Prop := dealIsAcceptedRow.holds Tryd.pinned (OpenSpec.ofChange dealIsAcceptedSpec)

/-- ITS FALSE NEIGHBOUR: 'it returns false'. Refute it at one input. -/
def dealIsAcceptedWrong : ChangeSpec := { name := "dealIsAccepted", fn := fun _ => fun
  | [d] => { results := [.lit (.bool false)], args := [d] }
  | _ => none }
def DealIsAcceptedWrongFalsely : Prop := dealIsAcceptedRow.holds Tryd.pinned (OpenSpec.ofChange dealIsAcceptedWrong)

/-- 'sharecorelaw16.DealIsLinear': WHATEVER THE INPUT: true; the input reads as it did. -/
def dealIsLinearSpec : ChangeSpec := { name := "dealIsLinear", fn := fun _ => fun
  | [d1, d2, d3] => { results := [.lit (.bool true)], args := [d1, d2, d3] }
  | _ => none }
def dealIsLinearRow : OpenClaim := { program := "ytclehgconbdkpaadoor", sum := "3aa47895c85be34f6b7f40d67675e663983b035ff486e5c6d3250a175ea351d2", func := "sharecore/sharecorelaw16.DealIsLinear", spec := "dealIsLinear", inPlace := ["math/bits.Add64", "math/bits.Sub64"], unfollowed := true, recurses := true, named := ["sharecore/field.fields"], apart := false, laid := [("sharecore/field.fields", laid_sharecore_field_fields)] }
def DealIsLinearSaid : Prop := dealIsLinearRow.holds Tryd.pinned (OpenSpec.ofChange dealIsLinearSpec)

/-- ITS FALSE NEIGHBOUR: 'it returns false'. Refute it at one input. -/
def dealIsLinearWrong : ChangeSpec := { name := "dealIsLinear", fn := fun _ => fun
  | [d1, d2, d3] => { results := [.lit (.bool false)], args := [d1, d2, d3] }
  | _ => none }
def DealIsLinearWrongFalsely : Prop := dealIsLinearRow.holds Tryd.pinned (OpenSpec.ofChange dealIsLinearWrong)

/- THE SECOND FORM. 'bulk': how many values and letters a reading holds, each counted each time it is reached (what is shared counts as often as it is met; a slice's spare places count too). A statement '..UptoSaid' is the law's where the arguments, and the package variables that the reading takes, are together of bulk at most 1048576: NARROWER than '..Said'. Prove '..Said' where nothing that the law and all that it calls make is longer than what came in: it says more and counts as full. Else prove '..UptoSaid'. A law counts once. -/
mutual
def uptoBulk {H : Type} : DataW H → Nat
  | .lit (.string bytes) => bytes.length + 1
  | .lit _ => 1
  | .nil => 1
  | .ptr d => uptoBulk d + 1
  | .slice elems spare => uptoBulkAll elems + uptoBulkAll spare + 1
  | .agg parts => uptoBulkAll parts + 1
  | .iface _ d => uptoBulk d + 1
  | .map entries => uptoBulkEntries entries + 1
  | .held _ => 1
def uptoBulkAll {H : Type} : List (DataW H) → Nat
  | [] => 0
  | d :: r => uptoBulk d + uptoBulkAll r
def uptoBulkEntries {H : Type} : List (Lit × DataW H) → Nat
  | [] => 0
  | x :: r => uptoBulkEntry x + uptoBulkEntries r
def uptoBulkEntry {H : Type} : Lit × DataW H → Nat
  | (.string bytes, d) => bytes.length + uptoBulk d + 1
  | (_, d) => uptoBulk d + 1
 end
def uptoSmall : (H : Type) → List (DataW H) → Bool := fun _ ds => decide (uptoBulkAll ds ≤ 1048576)
def OpenSpec.upto (s : _root_.Go.ChangeSpec) : _root_.Go.OpenSpec := { _root_.Go.OpenSpec.ofChange s with cond := some uptoSmall }

/-- 'sharecorelaw16.DealPolynomials', WHERE WHAT IT READS IS OF BULK AT MOST 1048576: true; the input reads as it did. -/
def dealPolynomialsUptoRow : OpenClaim := { program := "ytclehgconbdkpaadoor", sum := "3aa47895c85be34f6b7f40d67675e663983b035ff486e5c6d3250a175ea351d2", func := "sharecore/sharecorelaw16.DealPolynomials", spec := "dealPolynomials", inPlace := ["math/bits.Add64", "math/bits.Sub64"], unfollowed := true, recurses := true, named := ["sharecore/field.fields"], apart := false, laid := [("sharecore/field.fields", laid_sharecore_field_fields)], narrowed := true }
def DealPolynomialsUptoSaid : Prop := dealPolynomialsUptoRow.holds Tryd.pinned (OpenSpec.upto dealPolynomialsSpec)

/-- 'sharecorelaw16.DealShares', WHERE WHAT IT READS IS OF BULK AT MOST 1048576: true; the input reads as it did. -/
def dealSharesUptoRow : OpenClaim := { program := "ytclehgconbdkpaadoor", sum := "3aa47895c85be34f6b7f40d67675e663983b035ff486e5c6d3250a175ea351d2", func := "sharecore/sharecorelaw16.DealShares", spec := "dealShares", inPlace := ["math/bits.Add64", "math/bits.Sub64"], unfollowed := true, recurses := true, named := ["sharecore/field.fields"], apart := false, laid := [("sharecore/field.fields", laid_sharecore_field_fields)], narrowed := true }
def DealSharesUptoSaid : Prop := dealSharesUptoRow.holds Tryd.pinned (OpenSpec.upto dealSharesSpec)

/-- 'sharecorelaw16.DealEvaluates', WHERE WHAT IT READS IS OF BULK AT MOST 1048576: true; the input reads as it did. -/
def dealEvaluatesUptoRow : OpenClaim := { program := "ytclehgconbdkpaadoor", sum := "3aa47895c85be34f6b7f40d67675e663983b035ff486e5c6d3250a175ea351d2", func := "sharecore/sharecorelaw16.DealEvaluates", spec := "dealEvaluates", inPlace := ["math/bits.Add64", "math/bits.Sub64"], unfollowed := true, recurses := true, named := ["sharecore/field.fields"], apart := false, laid := [("sharecore/field.fields", laid_sharecore_field_fields)], narrowed := true }
def DealEvaluatesUptoSaid : Prop := dealEvaluatesUptoRow.holds Tryd.pinned (OpenSpec.upto dealEvaluatesSpec)

/-- 'sharecorelaw16.DealEvents', WHERE WHAT IT READS IS OF BULK AT MOST 1048576: true; the input reads as it did. -/
def dealEventsUptoRow : OpenClaim := { program := "ytclehgconbdkpaadoor", sum := "3aa47895c85be34f6b7f40d67675e663983b035ff486e5c6d3250a175ea351d2", func := "sharecore/sharecorelaw16.DealEvents", spec := "dealEvents", inPlace := ["math/bits.Add64", "math/bits.Sub64"], unfollowed := true, recurses := true, named := ["sharecore/field.fields"], apart := false, laid := [("sharecore/field.fields", laid_sharecore_field_fields)], narrowed := true }
def DealEventsUptoSaid : Prop := dealEventsUptoRow.holds Tryd.pinned (OpenSpec.upto dealEventsSpec)

/-- 'sharecorelaw16.DealIsAccepted', WHERE WHAT IT READS IS OF BULK AT MOST 1048576: true; the input reads as it did. -/
def dealIsAcceptedUptoRow : OpenClaim := { program := "ytclehgconbdkpaadoor", sum := "3aa47895c85be34f6b7f40d67675e663983b035ff486e5c6d3250a175ea351d2", func := "sharecore/sharecorelaw16.DealIsAccepted", spec := "dealIsAccepted", inPlace := ["math/bits.Add64", "math/bits.Sub64"], unfollowed := true, recurses := true, named := ["sharecore/field.fields"], apart := false, laid := [("sharecore/field.fields", laid_sharecore_field_fields)], narrowed := true }
def DealIsAcceptedUptoSaid : Prop := dealIsAcceptedUptoRow.holds Tryd.pinned (OpenSpec.upto dealIsAcceptedSpec)

/-- 'sharecorelaw16.DealIsLinear', WHERE WHAT IT READS IS OF BULK AT MOST 1048576: true; the input reads as it did. -/
def dealIsLinearUptoRow : OpenClaim := { program := "ytclehgconbdkpaadoor", sum := "3aa47895c85be34f6b7f40d67675e663983b035ff486e5c6d3250a175ea351d2", func := "sharecore/sharecorelaw16.DealIsLinear", spec := "dealIsLinear", inPlace := ["math/bits.Add64", "math/bits.Sub64"], unfollowed := true, recurses := true, named := ["sharecore/field.fields"], apart := false, laid := [("sharecore/field.fields", laid_sharecore_field_fields)], narrowed := true }
def DealIsLinearUptoSaid : Prop := dealIsLinearUptoRow.holds Tryd.pinned (OpenSpec.upto dealIsLinearSpec)

end Rows
end Go.Proofs.YtclehgconbdkpaaDoor
