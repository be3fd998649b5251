/-
  Random bytes in plain lists: what Take, Element and Elements return and leave. Plain facts; the conditions are of lengths.
-/
import Derived.Test.YtpfjgifcjengkaaGreatDoorBytLow
namespace Go.Proofs.YtpfjgifcjengkaaGreatDoor
section
def elB (bs:List Nat) (i:Nat):Nat:=numB ((bs.drop (64*i)).take 64)
def elsK (bs:List Nat) (k:Nat):List Nat:=(List.range k).map (elB bs)
theorem elsK_length (bs:List Nat) (k:Nat):(elsK bs k).length=k:=by simp[elsK]
def elemV (bs:List Nat):Nat × Nat × List Nat:=if 64<=bs.length then(elB bs 0,0,bs.drop 64) else(0,7,bs)
end
end Go.Proofs.YtpfjgifcjengkaaGreatDoor
