/-
  The contracts of tape.First and tape.Equal over this seat's translation: -1 if the tapes have the same events, otherwise the number of events in the longest common beginning. Conditions: the tapes lie in memory as TapeV says and have at most 90000 events each.
-/
import Derived.Test.YtpfjgifcjengkaaGreatDoorTapeCore
import Derived.LoopIn
import Derived.LoopNIn
import Derived.OwnWalkIn
import Derived.RangeFuncBound
import Derived.Shelf.RegionOpen
namespace Go.Proofs.YtpfjgifcjengkaaGreatDoor
end Go.Proofs.YtpfjgifcjengkaaGreatDoor
