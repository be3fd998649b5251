/-
  Random bytes in plain lists: what Take, Element and Elements return and leave. Plain facts; the conditions are of lengths.
-/
import Derived.Test.YtbkgghhngeibhaaGreatDoorBytLow
namespace Go.Proofs.YtbkgghhngeibhaaGreatDoor
section
def elB (bs:List Nat) (i:Nat):Nat:=numB ((bs.drop (64*i)).take 64)
def elsK (bs:List Nat) (k:Nat):List Nat:=(List.range k).map (elB bs)
theorem elsK_length (bs:List Nat) (k:Nat):(elsK bs k).length=k:=by simp[elsK]
end
end Go.Proofs.YtbkgghhngeibhaaGreatDoor
