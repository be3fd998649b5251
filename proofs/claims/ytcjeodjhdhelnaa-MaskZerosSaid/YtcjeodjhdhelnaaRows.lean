/-
  No cell of these rows narrows 'for every input' (looked for: loops, veiled, ifaces, maps, wideKeys, modest, calm, conditions, laid).
  DERIVED. THE GIVEN ROWS OF THIS SEAT. 6 by the template 'for every input the law returns true; each argument reads behind the call as it read before'; 0 by the template 'total and deterministic' (their statements: YtcjeodjhdhelnaaTotals.lean).
  GIVEN WITH THE SEED: the statements are not yours to turn. If you find one false, say at which input.
  Laid BY PROGRAM, IN A SANDBOX (cutbox-rows.mjs): the forced cells as the released guide's own fill.sh prints them over the translation a1a5e3e74768c3b0… (all of the seat's roots in one cut). By AI agents, Wed Nov 11 2026. No macro, syntax, notation, axiom, sorry.
-/
import Derived.Test.YtcjeodjhdhelnaaChecked
import GoSem.Claim
import GoSem.ClaimJoined
import GoSem.ClaimMapViews
import Derived.JoinedTies
import Derived.KernelRfl
namespace Go.Proofs.Ytcjeodjhdhelnaa
/- THE CELL 'sum', in the pinned program and in every row, IS THE sha256 OF THE DUMP (.gsa) THAT YtcjeodjhdhelnaaProg.lean LOADS. Nothing in Lean hashes anything: it is a label: what it is worth is what the hold of that sum in a sandbox is worth. -/
noncomputable def Try.pinned : Pinned := { name := "ytcjeodjhdhelnaa", sum := "a1a5e3e74768c3b0db81945791df237e2a435594d1a7374151719c003bb154f4", checked := Try.checked }
namespace Rows
def none {H : Type} : Left H := { results := [], args := [] }

/-- 'sharecorelaw01.MaskBits': WHATEVER THE INPUT: true; the input reads as it did. -/
def maskBitsSpec : ChangeSpec := { name := "maskBits", fn := fun _ => fun
  | [d] => { results := [.lit (.bool true)], args := [d] }
  | _ => none }
def maskBitsRow : OpenClaim := { program := "ytcjeodjhdhelnaa", sum := "a1a5e3e74768c3b0db81945791df237e2a435594d1a7374151719c003bb154f4", func := "sharecore/sharecorelaw01.MaskBits", spec := "maskBits", inPlace := ["math/bits.Sub64"], unfollowed := true, recurses := true, apart := false }
def MaskBitsSaid : Prop := maskBitsRow.holds Try.pinned (OpenSpec.ofChange maskBitsSpec)

/-- ITS FALSE NEIGHBOUR: 'it returns false'. Refute it at one input. -/
def maskBitsWrong : ChangeSpec := { name := "maskBits", fn := fun _ => fun
  | [d] => { results := [.lit (.bool false)], args := [d] }
  | _ => none }
def MaskBitsWrongFalsely : Prop := maskBitsRow.holds Try.pinned (OpenSpec.ofChange maskBitsWrong)

/-- 'sharecorelaw01.MaskZeros': WHATEVER THE INPUT: true; the input reads as it did. -/
def maskZerosSpec : ChangeSpec := { name := "maskZeros", fn := fun _ => fun
  | [d] => { results := [.lit (.bool true)], args := [d] }
  | _ => none }
def maskZerosRow : OpenClaim := { program := "ytcjeodjhdhelnaa", sum := "a1a5e3e74768c3b0db81945791df237e2a435594d1a7374151719c003bb154f4", func := "sharecore/sharecorelaw01.MaskZeros", spec := "maskZeros", inPlace := ["math/bits.Sub64"], unfollowed := true, recurses := true, apart := false }
def MaskZerosSaid : Prop := maskZerosRow.holds Try.pinned (OpenSpec.ofChange maskZerosSpec)

/-- ITS FALSE NEIGHBOUR: 'it returns false'. Refute it at one input. -/
def maskZerosWrong : ChangeSpec := { name := "maskZeros", fn := fun _ => fun
  | [d] => { results := [.lit (.bool false)], args := [d] }
  | _ => none }
def MaskZerosWrongFalsely : Prop := maskZerosRow.holds Try.pinned (OpenSpec.ofChange maskZerosWrong)

/-- 'sharecorelaw01.MaskCompares': WHATEVER THE INPUT: true; the input reads as it did. -/
def maskComparesSpec : ChangeSpec := { name := "maskCompares", fn := fun _ => fun
  | [d1, d2] => { results := [.lit (.bool true)], args := [d1, d2] }
  | _ => none }
def maskComparesRow : OpenClaim := { program := "ytcjeodjhdhelnaa", sum := "a1a5e3e74768c3b0db81945791df237e2a435594d1a7374151719c003bb154f4", func := "sharecore/sharecorelaw01.MaskCompares", spec := "maskCompares", inPlace := ["math/bits.Sub64"], unfollowed := true, recurses := true, apart := false }
def MaskComparesSaid : Prop := maskComparesRow.holds Try.pinned (OpenSpec.ofChange maskComparesSpec)

/-- ITS FALSE NEIGHBOUR: 'it returns false'. Refute it at one input. -/
def maskComparesWrong : ChangeSpec := { name := "maskCompares", fn := fun _ => fun
  | [d1, d2] => { results := [.lit (.bool false)], args := [d1, d2] }
  | _ => none }
def MaskComparesWrongFalsely : Prop := maskComparesRow.holds Try.pinned (OpenSpec.ofChange maskComparesWrong)

/-- 'sharecorelaw01.MaskChooses': WHATEVER THE INPUT: true; the input reads as it did. -/
def maskChoosesSpec : ChangeSpec := { name := "maskChooses", fn := fun _ => fun
  | [d1, d2, d3] => { results := [.lit (.bool true)], args := [d1, d2, d3] }
  | _ => none }
def maskChoosesRow : OpenClaim := { program := "ytcjeodjhdhelnaa", sum := "a1a5e3e74768c3b0db81945791df237e2a435594d1a7374151719c003bb154f4", func := "sharecore/sharecorelaw01.MaskChooses", spec := "maskChooses", inPlace := ["math/bits.Sub64"], unfollowed := true, recurses := true, apart := false }
def MaskChoosesSaid : Prop := maskChoosesRow.holds Try.pinned (OpenSpec.ofChange maskChoosesSpec)

/-- ITS FALSE NEIGHBOUR: 'it returns false'. Refute it at one input. -/
def maskChoosesWrong : ChangeSpec := { name := "maskChooses", fn := fun _ => fun
  | [d1, d2, d3] => { results := [.lit (.bool false)], args := [d1, d2, d3] }
  | _ => none }
def MaskChoosesWrongFalsely : Prop := maskChoosesRow.holds Try.pinned (OpenSpec.ofChange maskChoosesWrong)

/-- 'sharecorelaw01.MaskTables': WHATEVER THE INPUT: true; the input reads as it did. -/
def maskTablesSpec : ChangeSpec := { name := "maskTables", fn := fun _ => fun
  | [d1, d2] => { results := [.lit (.bool true)], args := [d1, d2] }
  | _ => none }
def maskTablesRow : OpenClaim := { program := "ytcjeodjhdhelnaa", sum := "a1a5e3e74768c3b0db81945791df237e2a435594d1a7374151719c003bb154f4", func := "sharecore/sharecorelaw01.MaskTables", spec := "maskTables", inPlace := ["math/bits.Sub64"], unfollowed := true, recurses := true, apart := false }
def MaskTablesSaid : Prop := maskTablesRow.holds Try.pinned (OpenSpec.ofChange maskTablesSpec)

/-- ITS FALSE NEIGHBOUR: 'it returns false'. Refute it at one input. -/
def maskTablesWrong : ChangeSpec := { name := "maskTables", fn := fun _ => fun
  | [d1, d2] => { results := [.lit (.bool false)], args := [d1, d2] }
  | _ => none }
def MaskTablesWrongFalsely : Prop := maskTablesRow.holds Try.pinned (OpenSpec.ofChange maskTablesWrong)

/-- 'sharecorelaw01.MaskTrichotomy': WHATEVER THE INPUT: true; the input reads as it did. -/
def maskTrichotomySpec : ChangeSpec := { name := "maskTrichotomy", fn := fun _ => fun
  | [d1, d2] => { results := [.lit (.bool true)], args := [d1, d2] }
  | _ => none }
def maskTrichotomyRow : OpenClaim := { program := "ytcjeodjhdhelnaa", sum := "a1a5e3e74768c3b0db81945791df237e2a435594d1a7374151719c003bb154f4", func := "sharecore/sharecorelaw01.MaskTrichotomy", spec := "maskTrichotomy", inPlace := ["math/bits.Sub64"], unfollowed := true, recurses := true, apart := false }
def MaskTrichotomySaid : Prop := maskTrichotomyRow.holds Try.pinned (OpenSpec.ofChange maskTrichotomySpec)

/-- ITS FALSE NEIGHBOUR: 'it returns false'. Refute it at one input. -/
def maskTrichotomyWrong : ChangeSpec := { name := "maskTrichotomy", fn := fun _ => fun
  | [d1, d2] => { results := [.lit (.bool false)], args := [d1, d2] }
  | _ => none }
def MaskTrichotomyWrongFalsely : Prop := maskTrichotomyRow.holds Try.pinned (OpenSpec.ofChange maskTrichotomyWrong)

/- THE SECOND FORM. 'bulk': how many values and letters a reading holds, each counted each time it is reached (what is shared counts as often as it is met; a slice's spare places count too). A statement '..UptoSaid' is the law's where the arguments, and the package variables that the reading takes, are together of bulk at most 1048576: NARROWER than '..Said'. Prove '..Said' where nothing that the law and all that it calls make is longer than what came in: it says more and counts as full. Else prove '..UptoSaid'. A law counts once. -/
mutual
def uptoBulk {H : Type} : DataW H → Nat
  | .lit (.string bytes) => bytes.length + 1
  | .lit _ => 1
  | .nil => 1
  | .ptr d => uptoBulk d + 1
  | .slice elems spare => uptoBulkAll elems + uptoBulkAll spare + 1
  | .agg parts => uptoBulkAll parts + 1
  | .iface _ d => uptoBulk d + 1
  | .map entries => uptoBulkEntries entries + 1
  | .held _ => 1
def uptoBulkAll {H : Type} : List (DataW H) → Nat
  | [] => 0
  | d :: r => uptoBulk d + uptoBulkAll r
def uptoBulkEntries {H : Type} : List (Lit × DataW H) → Nat
  | [] => 0
  | x :: r => uptoBulkEntry x + uptoBulkEntries r
def uptoBulkEntry {H : Type} : Lit × DataW H → Nat
  | (.string bytes, d) => bytes.length + uptoBulk d + 1
  | (_, d) => uptoBulk d + 1
 end
def uptoSmall : (H : Type) → List (DataW H) → Bool := fun _ ds => decide (uptoBulkAll ds ≤ 1048576)
def OpenSpec.upto (s : _root_.Go.ChangeSpec) : _root_.Go.OpenSpec := { _root_.Go.OpenSpec.ofChange s with cond := some uptoSmall }

/-- 'sharecorelaw01.MaskBits', WHERE WHAT IT READS IS OF BULK AT MOST 1048576: true; the input reads as it did. -/
def maskBitsUptoRow : OpenClaim := { program := "ytcjeodjhdhelnaa", sum := "a1a5e3e74768c3b0db81945791df237e2a435594d1a7374151719c003bb154f4", func := "sharecore/sharecorelaw01.MaskBits", spec := "maskBits", inPlace := ["math/bits.Sub64"], unfollowed := true, recurses := true, apart := false, narrowed := true }
def MaskBitsUptoSaid : Prop := maskBitsUptoRow.holds Try.pinned (OpenSpec.upto maskBitsSpec)

/-- 'sharecorelaw01.MaskZeros', WHERE WHAT IT READS IS OF BULK AT MOST 1048576: true; the input reads as it did. -/
def maskZerosUptoRow : OpenClaim := { program := "ytcjeodjhdhelnaa", sum := "a1a5e3e74768c3b0db81945791df237e2a435594d1a7374151719c003bb154f4", func := "sharecore/sharecorelaw01.MaskZeros", spec := "maskZeros", inPlace := ["math/bits.Sub64"], unfollowed := true, recurses := true, apart := false, narrowed := true }
def MaskZerosUptoSaid : Prop := maskZerosUptoRow.holds Try.pinned (OpenSpec.upto maskZerosSpec)

/-- 'sharecorelaw01.MaskCompares', WHERE WHAT IT READS IS OF BULK AT MOST 1048576: true; the input reads as it did. -/
def maskComparesUptoRow : OpenClaim := { program := "ytcjeodjhdhelnaa", sum := "a1a5e3e74768c3b0db81945791df237e2a435594d1a7374151719c003bb154f4", func := "sharecore/sharecorelaw01.MaskCompares", spec := "maskCompares", inPlace := ["math/bits.Sub64"], unfollowed := true, recurses := true, apart := false, narrowed := true }
def MaskComparesUptoSaid : Prop := maskComparesUptoRow.holds Try.pinned (OpenSpec.upto maskComparesSpec)

/-- 'sharecorelaw01.MaskChooses', WHERE WHAT IT READS IS OF BULK AT MOST 1048576: true; the input reads as it did. -/
def maskChoosesUptoRow : OpenClaim := { program := "ytcjeodjhdhelnaa", sum := "a1a5e3e74768c3b0db81945791df237e2a435594d1a7374151719c003bb154f4", func := "sharecore/sharecorelaw01.MaskChooses", spec := "maskChooses", inPlace := ["math/bits.Sub64"], unfollowed := true, recurses := true, apart := false, narrowed := true }
def MaskChoosesUptoSaid : Prop := maskChoosesUptoRow.holds Try.pinned (OpenSpec.upto maskChoosesSpec)

/-- 'sharecorelaw01.MaskTables', WHERE WHAT IT READS IS OF BULK AT MOST 1048576: true; the input reads as it did. -/
def maskTablesUptoRow : OpenClaim := { program := "ytcjeodjhdhelnaa", sum := "a1a5e3e74768c3b0db81945791df237e2a435594d1a7374151719c003bb154f4", func := "sharecore/sharecorelaw01.MaskTables", spec := "maskTables", inPlace := ["math/bits.Sub64"], unfollowed := true, recurses := true, apart := false, narrowed := true }
def MaskTablesUptoSaid : Prop := maskTablesUptoRow.holds Try.pinned (OpenSpec.upto maskTablesSpec)

/-- 'sharecorelaw01.MaskTrichotomy', WHERE WHAT IT READS IS OF BULK AT MOST 1048576: true; the input reads as it did. -/
def maskTrichotomyUptoRow : OpenClaim := { program := "ytcjeodjhdhelnaa", sum := "a1a5e3e74768c3b0db81945791df237e2a435594d1a7374151719c003bb154f4", func := "sharecore/sharecorelaw01.MaskTrichotomy", spec := "maskTrichotomy", inPlace := ["math/bits.Sub64"], unfollowed := true, recurses := true, apart := false, narrowed := true }
def MaskTrichotomyUptoSaid : Prop := maskTrichotomyUptoRow.holds Try.pinned (OpenSpec.upto maskTrichotomySpec)

end Rows
end Go.Proofs.Ytcjeodjhdhelnaa
