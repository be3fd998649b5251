/-
  The reference's Chunks of layer 18 over this seat's translation. Conditions: the shares are accepted, at most 90; the payloads have at most 1000 elements.
-/
import Derived.Deep.DeepCutAuto
import Derived.Deep.DrawnRows
import Derived.Deep.OwnRows
import Derived.Deep.RegionHeld3
import Derived.Deep.Strs
import Derived.Deep.Upon
import Derived.Laws.AppendOwnNone
import Derived.Lib.AppendZeros
import Derived.Lib.Hide
import Derived.Lib.LaidTab
import Derived.LoopIn
import Derived.LoopNIn
import Derived.MakeChecks
import Derived.OpenShut
import Derived.OwnWalkIn
import Derived.ProofKit
import Derived.RangeFuncBound
import Derived.RangeFuncNested
import Derived.Shelf.Bits.Mul64
import Derived.Shelf.Bytes.SlEqualAll
import Derived.Shelf.RegionOpen
import Derived.Shelf.Spec.BitsCarry
import Derived.StillTailTactics
import Derived.Test.YtbkgghhngeibhaaGreatDoorChecked
import Derived.Test.YtbkgghhngeibhaaGreatDoorProg
import Derived.WalkLawsBesides
import Derived.WalkSpells
namespace Go.Proofs.YtbkgghhngeibhaaGreatDoor
open Go.RowKit
attribute [local go_sem ↓] Go.wp_at_zero Go.wp_at_succ
set_option linter.unusedSimpArgs false
set_option maxRecDepth 100000
set_option maxHeartbeats 4000000
theorem own_capA {w:World} {B size n c:Nat} {T:TypeId} {a:Option Addr} {xs:List Value} (h:w.ownsRow B T size (.slice a n c) n xs):n<=c:=by
 rcases h.2 with ⟨e,hn⟩ | ⟨g,cap,cur,e,_,_,hnc,_⟩
 ·omega
 cases e;exact hnc
end Go.Proofs.YtbkgghhngeibhaaGreatDoor
