/-
  The shelf's contract of math/bits.Mul64 at this seat's numbers. Conditions: the arguments are words.
-/
import Derived.Shelf.Bits.Mul64
import Derived.Test.YtpfjgifcjengkaaGreatDoorProg
namespace Go.Proofs.YtpfjgifcjengkaaGreatDoor
open Go.Shelf
def lays264_ren:Go.Shelf.Ren:=⟨fun | 264=>156 | n=>n,fun | 53=>32 | 46=>208 | n=>n,fun | n=>n⟩
theorem lays264:Go.Proofs.Lays.n264 Tryz.prog lays264_ren:={
 mixed:=by kernel_rfl
 f264:=Tryz.func156.trans (congrArg some (by kernel_rfl))
 t46:=Tryz.underlying208
 a46:=Tryz.isAgg208
 z46:=Tryz.sizeOf208
 v46:=Tryz.zeroValue208
 t53:=Tryz.underlying32
 a53:=Tryz.isAgg32
 z53:=Tryz.sizeOf32
 v53:=Tryz.zeroValue32 }
theorem mul64_any (x y:Nat) (hx:x<18446744073709551616) (hy:y<18446744073709551616) (w:World) :
  Calls Tryz.prog 156 #[.int .u64 x,.int .u64 y] w fun e w'=>e=.returned (.tuple #[.int .u64 ((x*y / 18446744073709551616:Nat):Int),.int .u64 ((x*y%18446744073709551616:Nat):Int)])/\w'=w:=Any.bits_Mul64 lays264 x y hx hy w
end Go.Proofs.YtpfjgifcjengkaaGreatDoor
