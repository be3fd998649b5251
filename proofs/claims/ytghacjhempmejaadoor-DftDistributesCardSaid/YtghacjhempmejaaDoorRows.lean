/-
  NARROWER THAN 'FOR EVERY INPUT', by the rows' own cells (each row's printed sentence says how): DftMultiplies: laid · DftRoots: laid · DftInverts: laid · DftIsLinear: laid · DftCommutes: laid · DftDistributes: laid.
  DERIVED. THE GIVEN ROWS OF THIS SEAT. 6 by the template 'for every input the law returns true; each argument reads behind the call as it read before'; 0 by the template 'total and deterministic' (their statements: YtghacjhempmejaaDoorTotals.lean).
  GIVEN WITH THE SEED: the statements are not yours to turn. If you find one false, say at which input.
  Laid BY PROGRAM, IN A SANDBOX (cutbox-rows.mjs): the forced cells as the released guide's own fill.sh prints them over the translation 2f1bd5694b86c36a… (all of the seat's roots in one cut). By AI agents, Wed Nov 11 2026. No macro, syntax, notation, axiom, sorry.
-/
import Derived.Test.YtghacjhempmejaaDoorChecked
import GoSem.Claim
import GoSem.ClaimJoined
import GoSem.ClaimMapViews
import Derived.JoinedTies
import Derived.KernelRfl
namespace Go.Proofs.YtghacjhempmejaaDoor
/- THE CELL 'sum', in the pinned program and in every row, IS THE sha256 OF THE DUMP (.gsa) THAT YtghacjhempmejaaDoorProg.lean LOADS. Nothing in Lean hashes anything: it is a label: what it is worth is what the hold of that sum in a sandbox is worth. -/
noncomputable def Tryd.pinned : Pinned := { name := "ytghacjhempmejaadoor", sum := "2f1bd5694b86c36a885eb343f0e401c6cce3bc724add5747fd6e4042b9ecc780", checked := Tryd.checked }
namespace Rows
def none {H : Type} : Left H := { results := [], args := [] }

/- WHAT THE LISTED PACKAGE-LEVEL VARIABLES READ AS WHEN THE CALL BEGINS. Each datum BY PROGRAM (the guide's laid-datum.mjs) off the statement by which the dump's own 'gosem.cut.vars' lays the variable. In a bare row this is a premise. The card (YtghacjhempmejaaDoorCards.lean) ties it to the program's text. -/
def laid_math_sin {H : Type} : DataW H := .agg [.lit (.float .f64 4460209587652500685), .lit (.float .f64 13716528389658582877), .lit (.float .f64 4523617212962785441), .lit (.float .f64 13774824197404483331), .lit (.float .f64 4575957461383575504), .lit (.float .f64 13818544856648471880)]
def laid_math_cos {H : Type} : DataW H := .agg [.lit (.float .f64 13666448263388469915), .lit (.float .f64 4477121864728985349), .lit (.float .f64 13732177093698800582), .lit (.float .f64 4537941361668146421), .lit (.float .f64 13787419979223748497), .lit (.float .f64 4586165620538955083)]
def laid_math_mPi4 {H : Type} : DataW H := .agg [.lit (.int .u64 1), .lit (.int .u64 5040379952546458195), .lit (.int .u64 17892431488136887169), .lit (.int .u64 13169980181085364355), .lit (.int .u64 18204331823439776451), .lit (.int .u64 7946843935494350272), .lit (.int .u64 905889640498799673), .lit (.int .u64 18175356263134875261), .lit (.int .u64 15061281708168349961), .lit (.int .u64 15220161563773041794), .lit (.int .u64 8296664548579374057), .lit (.int .u64 4109744767560208502), .lit (.int .u64 4607516669194743839), .lit (.int .u64 16023283104648321598), .lit (.int .u64 15739233654134936430), .lit (.int .u64 11424645774684705882), .lit (.int .u64 16883842788696515318), .lit (.int .u64 8795094592981902804), .lit (.int .u64 15561835991111744016), .lit (.int .u64 12395701187267450711)]

/-- 'sharecorelaw11.DftMultiplies': WHATEVER THE INPUT: true; the input reads as it did. -/
def dftMultipliesSpec : ChangeSpec := { name := "dftMultiplies", fn := fun _ => fun
  | [d1, d2] => { results := [.lit (.bool true)], args := [d1, d2] }
  | _ => none }
def dftMultipliesRow : OpenClaim := { program := "ytghacjhempmejaadoor", sum := "2f1bd5694b86c36a885eb343f0e401c6cce3bc724add5747fd6e4042b9ecc780", func := "sharecore/sharecorelaw11.DftMultiplies", spec := "dftMultiplies", inPlace := ["math.Float64bits", "math.Float64frombits", "math/bits.Add64"], recurses := true, named := ["math._cos", "math._sin", "math.mPi4"], apart := false, laid := [("math._sin", laid_math_sin), ("math._cos", laid_math_cos), ("math.mPi4", laid_math_mPi4)] }
def DftMultipliesSaid : Prop := dftMultipliesRow.holds Tryd.pinned (OpenSpec.ofChange dftMultipliesSpec)

/-- ITS FALSE NEIGHBOUR: 'it returns false'. Refute it at one input. -/
def dftMultipliesWrong : ChangeSpec := { name := "dftMultiplies", fn := fun _ => fun
  | [d1, d2] => { results := [.lit (.bool false)], args := [d1, d2] }
  | _ => none }
def DftMultipliesWrongFalsely : Prop := dftMultipliesRow.holds Tryd.pinned (OpenSpec.ofChange dftMultipliesWrong)

/-- 'sharecorelaw11.DftRoots': WHATEVER THE INPUT: true; the input reads as it did. -/
def dftRootsSpec : ChangeSpec := { name := "dftRoots", fn := fun _ => fun
  | [d] => { results := [.lit (.bool true)], args := [d] }
  | _ => none }
def dftRootsRow : OpenClaim := { program := "ytghacjhempmejaadoor", sum := "2f1bd5694b86c36a885eb343f0e401c6cce3bc724add5747fd6e4042b9ecc780", func := "sharecore/sharecorelaw11.DftRoots", spec := "dftRoots", inPlace := ["math.Float64bits", "math.Float64frombits", "math/bits.Add64"], recurses := true, named := ["math._cos", "math._sin", "math.mPi4"], apart := false, laid := [("math._sin", laid_math_sin), ("math._cos", laid_math_cos), ("math.mPi4", laid_math_mPi4)] }
def DftRootsSaid : Prop := dftRootsRow.holds Tryd.pinned (OpenSpec.ofChange dftRootsSpec)

/-- ITS FALSE NEIGHBOUR: 'it returns false'. Refute it at one input. -/
def dftRootsWrong : ChangeSpec := { name := "dftRoots", fn := fun _ => fun
  | [d] => { results := [.lit (.bool false)], args := [d] }
  | _ => none }
def DftRootsWrongFalsely : Prop := dftRootsRow.holds Tryd.pinned (OpenSpec.ofChange dftRootsWrong)

/-- 'sharecorelaw11.DftInverts': WHATEVER THE INPUT: true; the input reads as it did. -/
def dftInvertsSpec : ChangeSpec := { name := "dftInverts", fn := fun _ => fun
  | [d1, d2, d3] => { results := [.lit (.bool true)], args := [d1, d2, d3] }
  | _ => none }
def dftInvertsRow : OpenClaim := { program := "ytghacjhempmejaadoor", sum := "2f1bd5694b86c36a885eb343f0e401c6cce3bc724add5747fd6e4042b9ecc780", func := "sharecore/sharecorelaw11.DftInverts", spec := "dftInverts", inPlace := ["math.Float64bits", "math.Float64frombits", "math/bits.Add64"], recurses := true, named := ["math._cos", "math._sin", "math.mPi4"], apart := false, laid := [("math._sin", laid_math_sin), ("math._cos", laid_math_cos), ("math.mPi4", laid_math_mPi4)] }
def DftInvertsSaid : Prop := dftInvertsRow.holds Tryd.pinned (OpenSpec.ofChange dftInvertsSpec)

/-- ITS FALSE NEIGHBOUR: 'it returns false'. Refute it at one input. -/
def dftInvertsWrong : ChangeSpec := { name := "dftInverts", fn := fun _ => fun
  | [d1, d2, d3] => { results := [.lit (.bool false)], args := [d1, d2, d3] }
  | _ => none }
def DftInvertsWrongFalsely : Prop := dftInvertsRow.holds Tryd.pinned (OpenSpec.ofChange dftInvertsWrong)

/-- 'sharecorelaw11.DftIsLinear': WHATEVER THE INPUT: true; the input reads as it did. -/
def dftIsLinearSpec : ChangeSpec := { name := "dftIsLinear", fn := fun _ => fun
  | [d1, d2] => { results := [.lit (.bool true)], args := [d1, d2] }
  | _ => none }
def dftIsLinearRow : OpenClaim := { program := "ytghacjhempmejaadoor", sum := "2f1bd5694b86c36a885eb343f0e401c6cce3bc724add5747fd6e4042b9ecc780", func := "sharecore/sharecorelaw11.DftIsLinear", spec := "dftIsLinear", inPlace := ["math.Float64bits", "math.Float64frombits", "math/bits.Add64"], recurses := true, named := ["math._cos", "math._sin", "math.mPi4"], apart := false, laid := [("math._sin", laid_math_sin), ("math._cos", laid_math_cos), ("math.mPi4", laid_math_mPi4)] }
def DftIsLinearSaid : Prop := dftIsLinearRow.holds Tryd.pinned (OpenSpec.ofChange dftIsLinearSpec)

/-- ITS FALSE NEIGHBOUR: 'it returns false'. Refute it at one input. -/
def dftIsLinearWrong : ChangeSpec := { name := "dftIsLinear", fn := fun _ => fun
  | [d1, d2] => { results := [.lit (.bool false)], args := [d1, d2] }
  | _ => none }
def DftIsLinearWrongFalsely : Prop := dftIsLinearRow.holds Tryd.pinned (OpenSpec.ofChange dftIsLinearWrong)

/-- 'sharecorelaw11.DftCommutes': WHATEVER THE INPUT: true; the input reads as it did. -/
def dftCommutesSpec : ChangeSpec := { name := "dftCommutes", fn := fun _ => fun
  | [d1, d2] => { results := [.lit (.bool true)], args := [d1, d2] }
  | _ => none }
def dftCommutesRow : OpenClaim := { program := "ytghacjhempmejaadoor", sum := "2f1bd5694b86c36a885eb343f0e401c6cce3bc724add5747fd6e4042b9ecc780", func := "sharecore/sharecorelaw11.DftCommutes", spec := "dftCommutes", inPlace := ["math.Float64bits", "math.Float64frombits", "math/bits.Add64"], recurses := true, named := ["math._cos", "math._sin", "math.mPi4"], apart := false, laid := [("math._sin", laid_math_sin), ("math._cos", laid_math_cos), ("math.mPi4", laid_math_mPi4)] }
def DftCommutesSaid : Prop := dftCommutesRow.holds Tryd.pinned (OpenSpec.ofChange dftCommutesSpec)

/-- ITS FALSE NEIGHBOUR: 'it returns false'. Refute it at one input. -/
def dftCommutesWrong : ChangeSpec := { name := "dftCommutes", fn := fun _ => fun
  | [d1, d2] => { results := [.lit (.bool false)], args := [d1, d2] }
  | _ => none }
def DftCommutesWrongFalsely : Prop := dftCommutesRow.holds Tryd.pinned (OpenSpec.ofChange dftCommutesWrong)

/-- 'sharecorelaw11.DftDistributes': WHATEVER THE INPUT: true; the input reads as it did. -/
def dftDistributesSpec : ChangeSpec := { name := "dftDistributes", fn := fun _ => fun
  | [d1, d2] => { results := [.lit (.bool true)], args := [d1, d2] }
  | _ => none }
def dftDistributesRow : OpenClaim := { program := "ytghacjhempmejaadoor", sum := "2f1bd5694b86c36a885eb343f0e401c6cce3bc724add5747fd6e4042b9ecc780", func := "sharecore/sharecorelaw11.DftDistributes", spec := "dftDistributes", inPlace := ["math.Float64bits", "math.Float64frombits", "math/bits.Add64"], recurses := true, named := ["math._cos", "math._sin", "math.mPi4"], apart := false, laid := [("math._sin", laid_math_sin), ("math._cos", laid_math_cos), ("math.mPi4", laid_math_mPi4)] }
def DftDistributesSaid : Prop := dftDistributesRow.holds Tryd.pinned (OpenSpec.ofChange dftDistributesSpec)

/-- ITS FALSE NEIGHBOUR: 'it returns false'. Refute it at one input. -/
def dftDistributesWrong : ChangeSpec := { name := "dftDistributes", fn := fun _ => fun
  | [d1, d2] => { results := [.lit (.bool false)], args := [d1, d2] }
  | _ => none }
def DftDistributesWrongFalsely : Prop := dftDistributesRow.holds Tryd.pinned (OpenSpec.ofChange dftDistributesWrong)

/- THE SECOND FORM. 'bulk': how many values and letters a reading holds, each counted each time it is reached (what is shared counts as often as it is met; a slice's spare places count too). A statement '..UptoSaid' is the law's where the arguments, and the package variables that the reading takes, are together of bulk at most 1048576: NARROWER than '..Said'. Prove '..Said' where nothing that the law and all that it calls make is longer than what came in: it says more and counts as full. Else prove '..UptoSaid'. A law counts once. -/
mutual
def uptoBulk {H : Type} : DataW H → Nat
  | .lit (.string bytes) => bytes.length + 1
  | .lit _ => 1
  | .nil => 1
  | .ptr d => uptoBulk d + 1
  | .slice elems spare => uptoBulkAll elems + uptoBulkAll spare + 1
  | .agg parts => uptoBulkAll parts + 1
  | .iface _ d => uptoBulk d + 1
  | .map entries => uptoBulkEntries entries + 1
  | .held _ => 1
def uptoBulkAll {H : Type} : List (DataW H) → Nat
  | [] => 0
  | d :: r => uptoBulk d + uptoBulkAll r
def uptoBulkEntries {H : Type} : List (Lit × DataW H) → Nat
  | [] => 0
  | x :: r => uptoBulkEntry x + uptoBulkEntries r
def uptoBulkEntry {H : Type} : Lit × DataW H → Nat
  | (.string bytes, d) => bytes.length + uptoBulk d + 1
  | (_, d) => uptoBulk d + 1
 end
def uptoSmall : (H : Type) → List (DataW H) → Bool := fun _ ds => decide (uptoBulkAll ds ≤ 1048576)
def OpenSpec.upto (s : _root_.Go.ChangeSpec) : _root_.Go.OpenSpec := { _root_.Go.OpenSpec.ofChange s with cond := some uptoSmall }

/-- 'sharecorelaw11.DftMultiplies', WHERE WHAT IT READS IS OF BULK AT MOST 1048576: true; the input reads as it did. -/
def dftMultipliesUptoRow : OpenClaim := { program := "ytghacjhempmejaadoor", sum := "2f1bd5694b86c36a885eb343f0e401c6cce3bc724add5747fd6e4042b9ecc780", func := "sharecore/sharecorelaw11.DftMultiplies", spec := "dftMultiplies", inPlace := ["math.Float64bits", "math.Float64frombits", "math/bits.Add64"], recurses := true, named := ["math._cos", "math._sin", "math.mPi4"], apart := false, laid := [("math._sin", laid_math_sin), ("math._cos", laid_math_cos), ("math.mPi4", laid_math_mPi4)], narrowed := true }
def DftMultipliesUptoSaid : Prop := dftMultipliesUptoRow.holds Tryd.pinned (OpenSpec.upto dftMultipliesSpec)

/-- 'sharecorelaw11.DftRoots', WHERE WHAT IT READS IS OF BULK AT MOST 1048576: true; the input reads as it did. -/
def dftRootsUptoRow : OpenClaim := { program := "ytghacjhempmejaadoor", sum := "2f1bd5694b86c36a885eb343f0e401c6cce3bc724add5747fd6e4042b9ecc780", func := "sharecore/sharecorelaw11.DftRoots", spec := "dftRoots", inPlace := ["math.Float64bits", "math.Float64frombits", "math/bits.Add64"], recurses := true, named := ["math._cos", "math._sin", "math.mPi4"], apart := false, laid := [("math._sin", laid_math_sin), ("math._cos", laid_math_cos), ("math.mPi4", laid_math_mPi4)], narrowed := true }
def DftRootsUptoSaid : Prop := dftRootsUptoRow.holds Tryd.pinned (OpenSpec.upto dftRootsSpec)

/-- 'sharecorelaw11.DftInverts', WHERE WHAT IT READS IS OF BULK AT MOST 1048576: true; the input reads as it did. -/
def dftInvertsUptoRow : OpenClaim := { program := "ytghacjhempmejaadoor", sum := "2f1bd5694b86c36a885eb343f0e401c6cce3bc724add5747fd6e4042b9ecc780", func := "sharecore/sharecorelaw11.DftInverts", spec := "dftInverts", inPlace := ["math.Float64bits", "math.Float64frombits", "math/bits.Add64"], recurses := true, named := ["math._cos", "math._sin", "math.mPi4"], apart := false, laid := [("math._sin", laid_math_sin), ("math._cos", laid_math_cos), ("math.mPi4", laid_math_mPi4)], narrowed := true }
def DftInvertsUptoSaid : Prop := dftInvertsUptoRow.holds Tryd.pinned (OpenSpec.upto dftInvertsSpec)

/-- 'sharecorelaw11.DftIsLinear', WHERE WHAT IT READS IS OF BULK AT MOST 1048576: true; the input reads as it did. -/
def dftIsLinearUptoRow : OpenClaim := { program := "ytghacjhempmejaadoor", sum := "2f1bd5694b86c36a885eb343f0e401c6cce3bc724add5747fd6e4042b9ecc780", func := "sharecore/sharecorelaw11.DftIsLinear", spec := "dftIsLinear", inPlace := ["math.Float64bits", "math.Float64frombits", "math/bits.Add64"], recurses := true, named := ["math._cos", "math._sin", "math.mPi4"], apart := false, laid := [("math._sin", laid_math_sin), ("math._cos", laid_math_cos), ("math.mPi4", laid_math_mPi4)], narrowed := true }
def DftIsLinearUptoSaid : Prop := dftIsLinearUptoRow.holds Tryd.pinned (OpenSpec.upto dftIsLinearSpec)

/-- 'sharecorelaw11.DftCommutes', WHERE WHAT IT READS IS OF BULK AT MOST 1048576: true; the input reads as it did. -/
def dftCommutesUptoRow : OpenClaim := { program := "ytghacjhempmejaadoor", sum := "2f1bd5694b86c36a885eb343f0e401c6cce3bc724add5747fd6e4042b9ecc780", func := "sharecore/sharecorelaw11.DftCommutes", spec := "dftCommutes", inPlace := ["math.Float64bits", "math.Float64frombits", "math/bits.Add64"], recurses := true, named := ["math._cos", "math._sin", "math.mPi4"], apart := false, laid := [("math._sin", laid_math_sin), ("math._cos", laid_math_cos), ("math.mPi4", laid_math_mPi4)], narrowed := true }
def DftCommutesUptoSaid : Prop := dftCommutesUptoRow.holds Tryd.pinned (OpenSpec.upto dftCommutesSpec)

/-- 'sharecorelaw11.DftDistributes', WHERE WHAT IT READS IS OF BULK AT MOST 1048576: true; the input reads as it did. -/
def dftDistributesUptoRow : OpenClaim := { program := "ytghacjhempmejaadoor", sum := "2f1bd5694b86c36a885eb343f0e401c6cce3bc724add5747fd6e4042b9ecc780", func := "sharecore/sharecorelaw11.DftDistributes", spec := "dftDistributes", inPlace := ["math.Float64bits", "math.Float64frombits", "math/bits.Add64"], recurses := true, named := ["math._cos", "math._sin", "math.mPi4"], apart := false, laid := [("math._sin", laid_math_sin), ("math._cos", laid_math_cos), ("math.mPi4", laid_math_mPi4)], narrowed := true }
def DftDistributesUptoSaid : Prop := dftDistributesUptoRow.holds Tryd.pinned (OpenSpec.upto dftDistributesSpec)

end Rows
end Go.Proofs.YtghacjhempmejaaDoor
