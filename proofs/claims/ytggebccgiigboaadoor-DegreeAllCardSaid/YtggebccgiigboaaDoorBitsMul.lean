/-
  The shelf's contract of math/bits.Mul64 at this seat's numbers. Conditions: the arguments are words.
-/
import Derived.Shelf.Bits.Mul64
import Derived.Test.YtggebccgiigboaaDoorProg
namespace Go.Proofs.YtggebccgiigboaaDoor
open Go.Shelf
def lays264_ren : Go.Shelf.Ren := ⟨fun | 264 => 62 | n => n,fun | 53 => 27 | 46 => 78 | n => n,fun | n => n⟩
theorem lays264 : Go.Proofs.Lays.n264 Tryd.prog lays264_ren := {
 mixed := by kernel_rfl
 f264 := Tryd.func62.trans (congrArg some (by kernel_rfl))
 t46 := Tryd.underlying78
 a46 := Tryd.isAgg78
 z46 := Tryd.sizeOf78
 v46 := Tryd.zeroValue78
 t53 := Tryd.underlying27
 a53 := Tryd.isAgg27
 z53 := Tryd.sizeOf27
 v53 := Tryd.zeroValue27 }
theorem mul64_any (x y : Nat) (hx : x < 18446744073709551616) (hy : y < 18446744073709551616) (w : World) :
  Calls Tryd.prog 62 #[.int .u64 x,.int .u64 y] w fun e w' => e = .returned (.tuple #[.int .u64 ((x * y / 18446744073709551616 : Nat) : Int),.int .u64 ((x * y % 18446744073709551616 : Nat) : Int)]) /\ w' = w := Any.bits_Mul64 lays264 x y hx hy w
end Go.Proofs.YtggebccgiigboaaDoor
-- squeezed
