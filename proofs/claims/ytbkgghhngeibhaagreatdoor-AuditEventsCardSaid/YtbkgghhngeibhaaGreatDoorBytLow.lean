/-
  Numbers as bytes: the byte with the index i has the weight 256^i. Plain arithmetic; no condition but that bytes are below 256.
  Bytes in memory: whole blocks of bytes, and slices of bytes. Plain facts on worlds; no condition.
-/
import Derived.WalkLawsBesides
import Derived.WalkSpells
import Derived.BigQuiet
import Derived.Deep.DeepCutAuto
import Derived.Deep.DrawnRows
import Derived.Deep.OwnRows
import Derived.Deep.RegionHeld3
import Derived.Laws.AppendOwnNone
import Derived.Lib.Hide
import Derived.Lib.LaidTab
import Derived.MakeChecks
import Derived.OpenShut
import Derived.ProofKit
import Derived.RangeFuncNested
import Derived.Shelf.Bytes.SlEqualAll
import Derived.Shelf.Spec.BitsCarry
import Derived.StillTailTactics
import Derived.Test.YtbkgghhngeibhaaGreatDoorChecked
namespace Go.Proofs.YtbkgghhngeibhaaGreatDoor
section

def numB:List Nat->Nat
 | []=>0
 | b::r=>b+256*numB r
end
section
open Go.RowKit

/- bytes.Equal and bytes.HasPrefix at this seat's numbers. -/
end
end Go.Proofs.YtbkgghhngeibhaaGreatDoor
