/-
  NARROWER THAN 'FOR EVERY INPUT', by the rows' own cells (each row's printed sentence says how): JoinValues: laid · JoinCombines: laid · JoinAt: laid · JoinEvents: laid · JoinRecovers: laid · JoinExtends: laid.
  DERIVED. THE GIVEN ROWS OF THIS SEAT. 6 by the template 'for every input the law returns true; each argument reads behind the call as it read before'; 0 by the template 'total and deterministic' (their statements: YtpfjgifcjengkaaGreatDoorTotals.lean).
  GIVEN WITH THE SEED: the statements are not yours to turn. If you find one false, say at which input.
  Laid BY PROGRAM, IN A SANDBOX (cutbox-rows.mjs): the forced cells as the released guide's own fill.sh prints them over the translation 90b60ddecb18fbf8… (all of the seat's roots in one cut). By AI agents, Wed Nov 11 2026. No macro, syntax, notation, axiom, sorry.
-/
import Derived.Test.YtpfjgifcjengkaaGreatDoorChecked
import GoSem.Claim
import GoSem.ClaimJoined
import GoSem.ClaimMapViews
import Derived.JoinedTies
import Derived.KernelRfl
namespace Go.Proofs.YtpfjgifcjengkaaGreatDoor
/- THE CELL 'sum', in the pinned program and in every row, IS THE sha256 OF THE DUMP (.gsa) THAT YtpfjgifcjengkaaGreatDoorProg.lean LOADS. Nothing in Lean hashes anything: it is a label: what it is worth is what the hold of that sum in a sandbox is worth. -/
noncomputable def Tryz.pinned : Pinned := { name := "ytpfjgifcjengkaagreatdoor", sum := "90b60ddecb18fbf8af7624c797a622ea97b9d9e7a7eef62c129380e891549722", checked := Tryz.checked }
namespace Rows
def none {H : Type} : Left H := { results := [], args := [] }

/- WHAT THE LISTED PACKAGE-LEVEL VARIABLES READ AS WHEN THE CALL BEGINS. Each datum BY PROGRAM (the guide's laid-datum.mjs) off the statement by which the dump's own 'gosem.cut.vars' lays the variable. In a bare row this is a premise. The card (YtpfjgifcjengkaaGreatDoorCards.lean) ties it to the program's text. -/
def laid_sharecore_field_fields {H : Type} : DataW H := .agg [.agg [.lit (.int .i64 1), .agg [.lit (.int .u64 18446744073709551597), .lit (.int .u64 18446744073709551615), .lit (.int .u64 18446744073709551615), .lit (.int .u64 9223372036854775807)], .lit (.int .u64 9708812670373448219), .agg [.lit (.int .u64 38), .lit (.int .u64 0), .lit (.int .u64 0), .lit (.int .u64 0)], .agg [.lit (.int .u64 1444), .lit (.int .u64 0), .lit (.int .u64 0), .lit (.int .u64 0)]], .agg [.lit (.int .i64 2), .agg [.lit (.int .u64 17562291160714782033), .lit (.int .u64 13611842547513532036), .lit (.int .u64 18446744073709551615), .lit (.int .u64 18446744069414584320)], .lit (.int .u64 14758798090332847183), .agg [.lit (.int .u64 884452912994769583), .lit (.int .u64 4834901526196019579), .lit (.int .u64 0), .lit (.int .u64 4294967295)], .agg [.lit (.int .u64 9449762124159643298), .lit (.int .u64 5087230966250696614), .lit (.int .u64 2901921493521525849), .lit (.int .u64 7413256579398063648)]]]

/-- 'sharecorelaw17.JoinValues': WHATEVER THE INPUT: true; the input reads as it did. -/
def joinValuesSpec : ChangeSpec := { name := "joinValues", fn := fun _ => fun
  | [d] => { results := [.lit (.bool true)], args := [d] }
  | _ => none }
def joinValuesRow : OpenClaim := { program := "ytpfjgifcjengkaagreatdoor", sum := "90b60ddecb18fbf8af7624c797a622ea97b9d9e7a7eef62c129380e891549722", func := "sharecore/sharecorelaw17.JoinValues", spec := "joinValues", inPlace := ["math/bits.Sub64", "math/bits.Add64"], unfollowed := true, recurses := true, named := ["sharecore/field.fields"], apart := false, laid := [("sharecore/field.fields", laid_sharecore_field_fields)] }
def JoinValuesSaid : Prop := joinValuesRow.holds Tryz.pinned (OpenSpec.ofChange joinValuesSpec)

/-- ITS FALSE NEIGHBOUR: 'it returns false'. Refute it at one input. -/
def joinValuesWrong : ChangeSpec := { name := "joinValues", fn := fun _ => fun
  | [d] => { results := [.lit (.bool false)], args := [d] }
  | _ => none }
def JoinValuesWrongFalsely : Prop := joinValuesRow.holds Tryz.pinned (OpenSpec.ofChange joinValuesWrong)

/-- 'sharecorelaw17.JoinCombines': WHATEVER THE INPUT: true; the input reads as it did. -/
def joinCombinesSpec : ChangeSpec := { name := "joinCombines", fn := fun _ => fun
  | [d] => { results := [.lit (.bool true)], args := [d] }
  | _ => none }
def joinCombinesRow : OpenClaim := { program := "ytpfjgifcjengkaagreatdoor", sum := "90b60ddecb18fbf8af7624c797a622ea97b9d9e7a7eef62c129380e891549722", func := "sharecore/sharecorelaw17.JoinCombines", spec := "joinCombines", inPlace := ["math/bits.Sub64", "math/bits.Add64"], unfollowed := true, recurses := true, named := ["sharecore/field.fields"], apart := false, laid := [("sharecore/field.fields", laid_sharecore_field_fields)] }
def JoinCombinesSaid : Prop := joinCombinesRow.holds Tryz.pinned (OpenSpec.ofChange joinCombinesSpec)

/-- ITS FALSE NEIGHBOUR: 'it returns false'. Refute it at one input. -/
def joinCombinesWrong : ChangeSpec := { name := "joinCombines", fn := fun _ => fun
  | [d] => { results := [.lit (.bool false)], args := [d] }
  | _ => none }
def JoinCombinesWrongFalsely : Prop := joinCombinesRow.holds Tryz.pinned (OpenSpec.ofChange joinCombinesWrong)

/-- 'sharecorelaw17.JoinAt': WHATEVER THE INPUT: true; the input reads as it did. -/
def joinAtSpec : ChangeSpec := { name := "joinAt", fn := fun _ => fun
  | [d1, d2] => { results := [.lit (.bool true)], args := [d1, d2] }
  | _ => none }
def joinAtRow : OpenClaim := { program := "ytpfjgifcjengkaagreatdoor", sum := "90b60ddecb18fbf8af7624c797a622ea97b9d9e7a7eef62c129380e891549722", func := "sharecore/sharecorelaw17.JoinAt", spec := "joinAt", inPlace := ["math/bits.Sub64", "math/bits.Add64"], unfollowed := true, recurses := true, named := ["sharecore/field.fields"], apart := false, laid := [("sharecore/field.fields", laid_sharecore_field_fields)] }
def JoinAtSaid : Prop := joinAtRow.holds Tryz.pinned (OpenSpec.ofChange joinAtSpec)

/-- ITS FALSE NEIGHBOUR: 'it returns false'. Refute it at one input. -/
def joinAtWrong : ChangeSpec := { name := "joinAt", fn := fun _ => fun
  | [d1, d2] => { results := [.lit (.bool false)], args := [d1, d2] }
  | _ => none }
def JoinAtWrongFalsely : Prop := joinAtRow.holds Tryz.pinned (OpenSpec.ofChange joinAtWrong)

/-- 'sharecorelaw17.JoinEvents': WHATEVER THE INPUT: true; the input reads as it did. -/
def joinEventsSpec : ChangeSpec := { name := "joinEvents", fn := fun _ => fun
  | [d] => { results := [.lit (.bool true)], args := [d] }
  | _ => none }
def joinEventsRow : OpenClaim := { program := "ytpfjgifcjengkaagreatdoor", sum := "90b60ddecb18fbf8af7624c797a622ea97b9d9e7a7eef62c129380e891549722", func := "sharecore/sharecorelaw17.JoinEvents", spec := "joinEvents", inPlace := ["math/bits.Sub64", "math/bits.Add64"], unfollowed := true, recurses := true, named := ["sharecore/field.fields"], apart := false, laid := [("sharecore/field.fields", laid_sharecore_field_fields)] }
def JoinEventsSaid : Prop := joinEventsRow.holds Tryz.pinned (OpenSpec.ofChange joinEventsSpec)

/-- ITS FALSE NEIGHBOUR: 'it returns false'. Refute it at one input. -/
def joinEventsWrong : ChangeSpec := { name := "joinEvents", fn := fun _ => fun
  | [d] => { results := [.lit (.bool false)], args := [d] }
  | _ => none }
def JoinEventsWrongFalsely : Prop := joinEventsRow.holds Tryz.pinned (OpenSpec.ofChange joinEventsWrong)

/-- 'sharecorelaw17.JoinRecovers': WHATEVER THE INPUT: true; the input reads as it did. -/
def joinRecoversSpec : ChangeSpec := { name := "joinRecovers", fn := fun _ => fun
  | [d1, d2, d3] => { results := [.lit (.bool true)], args := [d1, d2, d3] }
  | _ => none }
def joinRecoversRow : OpenClaim := { program := "ytpfjgifcjengkaagreatdoor", sum := "90b60ddecb18fbf8af7624c797a622ea97b9d9e7a7eef62c129380e891549722", func := "sharecore/sharecorelaw17.JoinRecovers", spec := "joinRecovers", inPlace := ["math/bits.Sub64", "math/bits.Add64"], unfollowed := true, recurses := true, named := ["sharecore/field.fields"], apart := false, laid := [("sharecore/field.fields", laid_sharecore_field_fields)] }
def JoinRecoversSaid : Prop := joinRecoversRow.holds Tryz.pinned (OpenSpec.ofChange joinRecoversSpec)

/-- ITS FALSE NEIGHBOUR: 'it returns false'. Refute it at one input. -/
def joinRecoversWrong : ChangeSpec := { name := "joinRecovers", fn := fun _ => fun
  | [d1, d2, d3] => { results := [.lit (.bool false)], args := [d1, d2, d3] }
  | _ => none }
def JoinRecoversWrongFalsely : Prop := joinRecoversRow.holds Tryz.pinned (OpenSpec.ofChange joinRecoversWrong)

/-- 'sharecorelaw17.JoinExtends': WHATEVER THE INPUT: true; the input reads as it did. -/
def joinExtendsSpec : ChangeSpec := { name := "joinExtends", fn := fun _ => fun
  | [d1, d2, d3] => { results := [.lit (.bool true)], args := [d1, d2, d3] }
  | _ => none }
def joinExtendsRow : OpenClaim := { program := "ytpfjgifcjengkaagreatdoor", sum := "90b60ddecb18fbf8af7624c797a622ea97b9d9e7a7eef62c129380e891549722", func := "sharecore/sharecorelaw17.JoinExtends", spec := "joinExtends", inPlace := ["math/bits.Sub64", "math/bits.Add64"], unfollowed := true, recurses := true, named := ["sharecore/field.fields"], apart := false, laid := [("sharecore/field.fields", laid_sharecore_field_fields)] }
def JoinExtendsSaid : Prop := joinExtendsRow.holds Tryz.pinned (OpenSpec.ofChange joinExtendsSpec)

/-- ITS FALSE NEIGHBOUR: 'it returns false'. Refute it at one input. -/
def joinExtendsWrong : ChangeSpec := { name := "joinExtends", fn := fun _ => fun
  | [d1, d2, d3] => { results := [.lit (.bool false)], args := [d1, d2, d3] }
  | _ => none }
def JoinExtendsWrongFalsely : Prop := joinExtendsRow.holds Tryz.pinned (OpenSpec.ofChange joinExtendsWrong)

/- THE SECOND FORM. 'bulk': how many values and letters a reading holds, each counted each time it is reached (what is shared counts as often as it is met; a slice's spare places count too). A statement '..UptoSaid' is the law's where the arguments, and the package variables that the reading takes, are together of bulk at most 1048576: NARROWER than '..Said'. Prove '..Said' where nothing that the law and all that it calls make is longer than what came in: it says more and counts as full. Else prove '..UptoSaid'. A law counts once. -/
mutual
def uptoBulk {H : Type} : DataW H → Nat
  | .lit (.string bytes) => bytes.length + 1
  | .lit _ => 1
  | .nil => 1
  | .ptr d => uptoBulk d + 1
  | .slice elems spare => uptoBulkAll elems + uptoBulkAll spare + 1
  | .agg parts => uptoBulkAll parts + 1
  | .iface _ d => uptoBulk d + 1
  | .map entries => uptoBulkEntries entries + 1
  | .held _ => 1
def uptoBulkAll {H : Type} : List (DataW H) → Nat
  | [] => 0
  | d :: r => uptoBulk d + uptoBulkAll r
def uptoBulkEntries {H : Type} : List (Lit × DataW H) → Nat
  | [] => 0
  | x :: r => uptoBulkEntry x + uptoBulkEntries r
def uptoBulkEntry {H : Type} : Lit × DataW H → Nat
  | (.string bytes, d) => bytes.length + uptoBulk d + 1
  | (_, d) => uptoBulk d + 1
 end
def uptoSmall : (H : Type) → List (DataW H) → Bool := fun _ ds => decide (uptoBulkAll ds ≤ 1048576)
def OpenSpec.upto (s : _root_.Go.ChangeSpec) : _root_.Go.OpenSpec := { _root_.Go.OpenSpec.ofChange s with cond := some uptoSmall }

/-- 'sharecorelaw17.JoinValues', WHERE WHAT IT READS IS OF BULK AT MOST 1048576: true; the input reads as it did. -/
def joinValuesUptoRow : OpenClaim := { program := "ytpfjgifcjengkaagreatdoor", sum := "90b60ddecb18fbf8af7624c797a622ea97b9d9e7a7eef62c129380e891549722", func := "sharecore/sharecorelaw17.JoinValues", spec := "joinValues", inPlace := ["math/bits.Sub64", "math/bits.Add64"], unfollowed := true, recurses := true, named := ["sharecore/field.fields"], apart := false, laid := [("sharecore/field.fields", laid_sharecore_field_fields)], narrowed := true }
def JoinValuesUptoSaid : Prop := joinValuesUptoRow.holds Tryz.pinned (OpenSpec.upto joinValuesSpec)

/-- 'sharecorelaw17.JoinCombines', WHERE WHAT IT READS IS OF BULK AT MOST 1048576: true; the input reads as it did. -/
def joinCombinesUptoRow : OpenClaim := { program := "ytpfjgifcjengkaagreatdoor", sum := "90b60ddecb18fbf8af7624c797a622ea97b9d9e7a7eef62c129380e891549722", func := "sharecore/sharecorelaw17.JoinCombines", spec := "joinCombines", inPlace := ["math/bits.Sub64", "math/bits.Add64"], unfollowed := true, recurses := true, named := ["sharecore/field.fields"], apart := false, laid := [("sharecore/field.fields", laid_sharecore_field_fields)], narrowed := true }
def JoinCombinesUptoSaid : Prop := joinCombinesUptoRow.holds Tryz.pinned (OpenSpec.upto joinCombinesSpec)

/-- 'sharecorelaw17.JoinAt', WHERE WHAT IT READS IS OF BULK AT MOST 1048576: true; the input reads as it did. -/
def joinAtUptoRow : OpenClaim := { program := "ytpfjgifcjengkaagreatdoor", sum := "90b60ddecb18fbf8af7624c797a622ea97b9d9e7a7eef62c129380e891549722", func := "sharecore/sharecorelaw17.JoinAt", spec := "joinAt", inPlace := ["math/bits.Sub64", "math/bits.Add64"], unfollowed := true, recurses := true, named := ["sharecore/field.fields"], apart := false, laid := [("sharecore/field.fields", laid_sharecore_field_fields)], narrowed := true }
def JoinAtUptoSaid : Prop := joinAtUptoRow.holds Tryz.pinned (OpenSpec.upto joinAtSpec)

/-- 'sharecorelaw17.JoinEvents', WHERE WHAT IT READS IS OF BULK AT MOST 1048576: true; the input reads as it did. -/
def joinEventsUptoRow : OpenClaim := { program := "ytpfjgifcjengkaagreatdoor", sum := "90b60ddecb18fbf8af7624c797a622ea97b9d9e7a7eef62c129380e891549722", func := "sharecore/sharecorelaw17.JoinEvents", spec := "joinEvents", inPlace := ["math/bits.Sub64", "math/bits.Add64"], unfollowed := true, recurses := true, named := ["sharecore/field.fields"], apart := false, laid := [("sharecore/field.fields", laid_sharecore_field_fields)], narrowed := true }
def JoinEventsUptoSaid : Prop := joinEventsUptoRow.holds Tryz.pinned (OpenSpec.upto joinEventsSpec)

/-- 'sharecorelaw17.JoinRecovers', WHERE WHAT IT READS IS OF BULK AT MOST 1048576: true; the input reads as it did. -/
def joinRecoversUptoRow : OpenClaim := { program := "ytpfjgifcjengkaagreatdoor", sum := "90b60ddecb18fbf8af7624c797a622ea97b9d9e7a7eef62c129380e891549722", func := "sharecore/sharecorelaw17.JoinRecovers", spec := "joinRecovers", inPlace := ["math/bits.Sub64", "math/bits.Add64"], unfollowed := true, recurses := true, named := ["sharecore/field.fields"], apart := false, laid := [("sharecore/field.fields", laid_sharecore_field_fields)], narrowed := true }
def JoinRecoversUptoSaid : Prop := joinRecoversUptoRow.holds Tryz.pinned (OpenSpec.upto joinRecoversSpec)

/-- 'sharecorelaw17.JoinExtends', WHERE WHAT IT READS IS OF BULK AT MOST 1048576: true; the input reads as it did. -/
def joinExtendsUptoRow : OpenClaim := { program := "ytpfjgifcjengkaagreatdoor", sum := "90b60ddecb18fbf8af7624c797a622ea97b9d9e7a7eef62c129380e891549722", func := "sharecore/sharecorelaw17.JoinExtends", spec := "joinExtends", inPlace := ["math/bits.Sub64", "math/bits.Add64"], unfollowed := true, recurses := true, named := ["sharecore/field.fields"], apart := false, laid := [("sharecore/field.fields", laid_sharecore_field_fields)], narrowed := true }
def JoinExtendsUptoSaid : Prop := joinExtendsUptoRow.holds Tryz.pinned (OpenSpec.upto joinExtendsSpec)

end Rows
end Go.Proofs.YtpfjgifcjengkaaGreatDoor
