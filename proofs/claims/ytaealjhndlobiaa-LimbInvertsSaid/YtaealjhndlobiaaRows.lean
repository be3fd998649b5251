/-
  No cell of these rows narrows 'for every input' (looked for: loops, veiled, ifaces, maps, wideKeys, modest, calm, conditions, laid).
  DERIVED. THE GIVEN ROWS OF THIS SEAT. 6 by the template 'for every input the law returns true; each argument reads behind the call as it read before'; 0 by the template 'total and deterministic' (their statements: YtaealjhndlobiaaTotals.lean).
  GIVEN WITH THE SEED: the statements are not yours to turn. If you find one false, say at which input.
  Laid BY PROGRAM, IN A SANDBOX (cutbox-rows.mjs): the forced cells as the released guide's own fill.sh prints them over the translation f9c55fd216721f03… (all of the seat's roots in one cut). By AI agents, Wed Nov 11 2026. No macro, syntax, notation, axiom, sorry.
-/
import Derived.Test.YtaealjhndlobiaaChecked
import GoSem.Claim
import GoSem.ClaimJoined
import GoSem.ClaimMapViews
import Derived.JoinedTies
import Derived.KernelRfl
namespace Go.Proofs.Ytaealjhndlobiaa
/- THE CELL 'sum', in the pinned program and in every row, IS THE sha256 OF THE DUMP (.gsa) THAT YtaealjhndlobiaaProg.lean LOADS. Nothing in Lean hashes anything: it is a label: what it is worth is what the hold of that sum in a sandbox is worth. -/
noncomputable def Try.pinned : Pinned := { name := "ytaealjhndlobiaa", sum := "f9c55fd216721f03b75652c9093870f77d11af98b468455a528231b568667cab", checked := Try.checked }
namespace Rows
def none {H : Type} : Left H := { results := [], args := [] }

/-- 'sharecorelaw03.LimbAdds': WHATEVER THE INPUT: true; the input reads as it did. -/
def limbAddsSpec : ChangeSpec := { name := "limbAdds", fn := fun _ => fun
  | [d1, d2] => { results := [.lit (.bool true)], args := [d1, d2] }
  | _ => none }
def limbAddsRow : OpenClaim := { program := "ytaealjhndlobiaa", sum := "f9c55fd216721f03b75652c9093870f77d11af98b468455a528231b568667cab", func := "sharecore/sharecorelaw03.LimbAdds", spec := "limbAdds", inPlace := ["math/bits.Add64", "math/bits.Sub64"], unfollowed := true, recurses := true, apart := false }
def LimbAddsSaid : Prop := limbAddsRow.holds Try.pinned (OpenSpec.ofChange limbAddsSpec)

/-- ITS FALSE NEIGHBOUR: 'it returns false'. Refute it at one input. -/
def limbAddsWrong : ChangeSpec := { name := "limbAdds", fn := fun _ => fun
  | [d1, d2] => { results := [.lit (.bool false)], args := [d1, d2] }
  | _ => none }
def LimbAddsWrongFalsely : Prop := limbAddsRow.holds Try.pinned (OpenSpec.ofChange limbAddsWrong)

/-- 'sharecorelaw03.LimbMultiplies': WHATEVER THE INPUT: true; the input reads as it did. -/
def limbMultipliesSpec : ChangeSpec := { name := "limbMultiplies", fn := fun _ => fun
  | [d1, d2] => { results := [.lit (.bool true)], args := [d1, d2] }
  | _ => none }
def limbMultipliesRow : OpenClaim := { program := "ytaealjhndlobiaa", sum := "f9c55fd216721f03b75652c9093870f77d11af98b468455a528231b568667cab", func := "sharecore/sharecorelaw03.LimbMultiplies", spec := "limbMultiplies", inPlace := ["math/bits.Add64"], unfollowed := true, recurses := true, apart := false }
def LimbMultipliesSaid : Prop := limbMultipliesRow.holds Try.pinned (OpenSpec.ofChange limbMultipliesSpec)

/-- ITS FALSE NEIGHBOUR: 'it returns false'. Refute it at one input. -/
def limbMultipliesWrong : ChangeSpec := { name := "limbMultiplies", fn := fun _ => fun
  | [d1, d2] => { results := [.lit (.bool false)], args := [d1, d2] }
  | _ => none }
def LimbMultipliesWrongFalsely : Prop := limbMultipliesRow.holds Try.pinned (OpenSpec.ofChange limbMultipliesWrong)

/-- 'sharecorelaw03.LimbCompares': WHATEVER THE INPUT: true; the input reads as it did. -/
def limbComparesSpec : ChangeSpec := { name := "limbCompares", fn := fun _ => fun
  | [d1, d2, d3] => { results := [.lit (.bool true)], args := [d1, d2, d3] }
  | _ => none }
def limbComparesRow : OpenClaim := { program := "ytaealjhndlobiaa", sum := "f9c55fd216721f03b75652c9093870f77d11af98b468455a528231b568667cab", func := "sharecore/sharecorelaw03.LimbCompares", spec := "limbCompares", inPlace := ["math/bits.Add64", "math/bits.Sub64"], unfollowed := true, recurses := true, apart := false }
def LimbComparesSaid : Prop := limbComparesRow.holds Try.pinned (OpenSpec.ofChange limbComparesSpec)

/-- ITS FALSE NEIGHBOUR: 'it returns false'. Refute it at one input. -/
def limbComparesWrong : ChangeSpec := { name := "limbCompares", fn := fun _ => fun
  | [d1, d2, d3] => { results := [.lit (.bool false)], args := [d1, d2, d3] }
  | _ => none }
def LimbComparesWrongFalsely : Prop := limbComparesRow.holds Try.pinned (OpenSpec.ofChange limbComparesWrong)

/-- 'sharecorelaw03.LimbBits': WHATEVER THE INPUT: true; the input reads as it did. -/
def limbBitsSpec : ChangeSpec := { name := "limbBits", fn := fun _ => fun
  | [d1, d2, d3] => { results := [.lit (.bool true)], args := [d1, d2, d3] }
  | _ => none }
def limbBitsRow : OpenClaim := { program := "ytaealjhndlobiaa", sum := "f9c55fd216721f03b75652c9093870f77d11af98b468455a528231b568667cab", func := "sharecore/sharecorelaw03.LimbBits", spec := "limbBits", inPlace := ["math/bits.Add64"], unfollowed := true, recurses := true, apart := false }
def LimbBitsSaid : Prop := limbBitsRow.holds Try.pinned (OpenSpec.ofChange limbBitsSpec)

/-- ITS FALSE NEIGHBOUR: 'it returns false'. Refute it at one input. -/
def limbBitsWrong : ChangeSpec := { name := "limbBits", fn := fun _ => fun
  | [d1, d2, d3] => { results := [.lit (.bool false)], args := [d1, d2, d3] }
  | _ => none }
def LimbBitsWrongFalsely : Prop := limbBitsRow.holds Try.pinned (OpenSpec.ofChange limbBitsWrong)

/-- 'sharecorelaw03.LimbInverts': WHATEVER THE INPUT: true; the input reads as it did. -/
def limbInvertsSpec : ChangeSpec := { name := "limbInverts", fn := fun _ => fun
  | [d1, d2] => { results := [.lit (.bool true)], args := [d1, d2] }
  | _ => none }
def limbInvertsRow : OpenClaim := { program := "ytaealjhndlobiaa", sum := "f9c55fd216721f03b75652c9093870f77d11af98b468455a528231b568667cab", func := "sharecore/sharecorelaw03.LimbInverts", spec := "limbInverts", inPlace := ["math/bits.Add64", "math/bits.Sub64"], unfollowed := true, recurses := true, apart := false }
def LimbInvertsSaid : Prop := limbInvertsRow.holds Try.pinned (OpenSpec.ofChange limbInvertsSpec)

/-- ITS FALSE NEIGHBOUR: 'it returns false'. Refute it at one input. -/
def limbInvertsWrong : ChangeSpec := { name := "limbInverts", fn := fun _ => fun
  | [d1, d2] => { results := [.lit (.bool false)], args := [d1, d2] }
  | _ => none }
def LimbInvertsWrongFalsely : Prop := limbInvertsRow.holds Try.pinned (OpenSpec.ofChange limbInvertsWrong)

/-- 'sharecorelaw03.LimbAssembles': WHATEVER THE INPUT: true; the input reads as it did. -/
def limbAssemblesSpec : ChangeSpec := { name := "limbAssembles", fn := fun _ => fun
  | [d1, d2] => { results := [.lit (.bool true)], args := [d1, d2] }
  | _ => none }
def limbAssemblesRow : OpenClaim := { program := "ytaealjhndlobiaa", sum := "f9c55fd216721f03b75652c9093870f77d11af98b468455a528231b568667cab", func := "sharecore/sharecorelaw03.LimbAssembles", spec := "limbAssembles", inPlace := ["math/bits.Add64"], unfollowed := true, recurses := true, apart := false }
def LimbAssemblesSaid : Prop := limbAssemblesRow.holds Try.pinned (OpenSpec.ofChange limbAssemblesSpec)

/-- ITS FALSE NEIGHBOUR: 'it returns false'. Refute it at one input. -/
def limbAssemblesWrong : ChangeSpec := { name := "limbAssembles", fn := fun _ => fun
  | [d1, d2] => { results := [.lit (.bool false)], args := [d1, d2] }
  | _ => none }
def LimbAssemblesWrongFalsely : Prop := limbAssemblesRow.holds Try.pinned (OpenSpec.ofChange limbAssemblesWrong)

/- THE SECOND FORM. 'bulk': how many values and letters a reading holds, each counted each time it is reached (what is shared counts as often as it is met; a slice's spare places count too). A statement '..UptoSaid' is the law's where the arguments, and the package variables that the reading takes, are together of bulk at most 1048576: NARROWER than '..Said'. Prove '..Said' where nothing that the law and all that it calls make is longer than what came in: it says more and counts as full. Else prove '..UptoSaid'. A law counts once. -/
mutual
def uptoBulk {H : Type} : DataW H → Nat
  | .lit (.string bytes) => bytes.length + 1
  | .lit _ => 1
  | .nil => 1
  | .ptr d => uptoBulk d + 1
  | .slice elems spare => uptoBulkAll elems + uptoBulkAll spare + 1
  | .agg parts => uptoBulkAll parts + 1
  | .iface _ d => uptoBulk d + 1
  | .map entries => uptoBulkEntries entries + 1
  | .held _ => 1
def uptoBulkAll {H : Type} : List (DataW H) → Nat
  | [] => 0
  | d :: r => uptoBulk d + uptoBulkAll r
def uptoBulkEntries {H : Type} : List (Lit × DataW H) → Nat
  | [] => 0
  | x :: r => uptoBulkEntry x + uptoBulkEntries r
def uptoBulkEntry {H : Type} : Lit × DataW H → Nat
  | (.string bytes, d) => bytes.length + uptoBulk d + 1
  | (_, d) => uptoBulk d + 1
 end
def uptoSmall : (H : Type) → List (DataW H) → Bool := fun _ ds => decide (uptoBulkAll ds ≤ 1048576)
def OpenSpec.upto (s : _root_.Go.ChangeSpec) : _root_.Go.OpenSpec := { _root_.Go.OpenSpec.ofChange s with cond := some uptoSmall }

/-- 'sharecorelaw03.LimbAdds', WHERE WHAT IT READS IS OF BULK AT MOST 1048576: true; the input reads as it did. -/
def limbAddsUptoRow : OpenClaim := { program := "ytaealjhndlobiaa", sum := "f9c55fd216721f03b75652c9093870f77d11af98b468455a528231b568667cab", func := "sharecore/sharecorelaw03.LimbAdds", spec := "limbAdds", inPlace := ["math/bits.Add64", "math/bits.Sub64"], unfollowed := true, recurses := true, apart := false, narrowed := true }
def LimbAddsUptoSaid : Prop := limbAddsUptoRow.holds Try.pinned (OpenSpec.upto limbAddsSpec)

/-- 'sharecorelaw03.LimbMultiplies', WHERE WHAT IT READS IS OF BULK AT MOST 1048576: true; the input reads as it did. -/
def limbMultipliesUptoRow : OpenClaim := { program := "ytaealjhndlobiaa", sum := "f9c55fd216721f03b75652c9093870f77d11af98b468455a528231b568667cab", func := "sharecore/sharecorelaw03.LimbMultiplies", spec := "limbMultiplies", inPlace := ["math/bits.Add64"], unfollowed := true, recurses := true, apart := false, narrowed := true }
def LimbMultipliesUptoSaid : Prop := limbMultipliesUptoRow.holds Try.pinned (OpenSpec.upto limbMultipliesSpec)

/-- 'sharecorelaw03.LimbCompares', WHERE WHAT IT READS IS OF BULK AT MOST 1048576: true; the input reads as it did. -/
def limbComparesUptoRow : OpenClaim := { program := "ytaealjhndlobiaa", sum := "f9c55fd216721f03b75652c9093870f77d11af98b468455a528231b568667cab", func := "sharecore/sharecorelaw03.LimbCompares", spec := "limbCompares", inPlace := ["math/bits.Add64", "math/bits.Sub64"], unfollowed := true, recurses := true, apart := false, narrowed := true }
def LimbComparesUptoSaid : Prop := limbComparesUptoRow.holds Try.pinned (OpenSpec.upto limbComparesSpec)

/-- 'sharecorelaw03.LimbBits', WHERE WHAT IT READS IS OF BULK AT MOST 1048576: true; the input reads as it did. -/
def limbBitsUptoRow : OpenClaim := { program := "ytaealjhndlobiaa", sum := "f9c55fd216721f03b75652c9093870f77d11af98b468455a528231b568667cab", func := "sharecore/sharecorelaw03.LimbBits", spec := "limbBits", inPlace := ["math/bits.Add64"], unfollowed := true, recurses := true, apart := false, narrowed := true }
def LimbBitsUptoSaid : Prop := limbBitsUptoRow.holds Try.pinned (OpenSpec.upto limbBitsSpec)

/-- 'sharecorelaw03.LimbInverts', WHERE WHAT IT READS IS OF BULK AT MOST 1048576: true; the input reads as it did. -/
def limbInvertsUptoRow : OpenClaim := { program := "ytaealjhndlobiaa", sum := "f9c55fd216721f03b75652c9093870f77d11af98b468455a528231b568667cab", func := "sharecore/sharecorelaw03.LimbInverts", spec := "limbInverts", inPlace := ["math/bits.Add64", "math/bits.Sub64"], unfollowed := true, recurses := true, apart := false, narrowed := true }
def LimbInvertsUptoSaid : Prop := limbInvertsUptoRow.holds Try.pinned (OpenSpec.upto limbInvertsSpec)

/-- 'sharecorelaw03.LimbAssembles', WHERE WHAT IT READS IS OF BULK AT MOST 1048576: true; the input reads as it did. -/
def limbAssemblesUptoRow : OpenClaim := { program := "ytaealjhndlobiaa", sum := "f9c55fd216721f03b75652c9093870f77d11af98b468455a528231b568667cab", func := "sharecore/sharecorelaw03.LimbAssembles", spec := "limbAssembles", inPlace := ["math/bits.Add64"], unfollowed := true, recurses := true, apart := false, narrowed := true }
def LimbAssemblesUptoSaid : Prop := limbAssemblesUptoRow.holds Try.pinned (OpenSpec.upto limbAssemblesSpec)

end Rows
end Go.Proofs.Ytaealjhndlobiaa
