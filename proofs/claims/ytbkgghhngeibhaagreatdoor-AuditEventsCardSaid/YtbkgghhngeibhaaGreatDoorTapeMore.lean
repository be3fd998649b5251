/-
  The contracts of tape.First and tape.Equal over this seat's translation: -1 if the tapes have the same events, otherwise the number of events in the longest common beginning. Conditions: the tapes lie in memory as TapeV says and have at most 90000 events each.
-/
import Derived.Test.YtbkgghhngeibhaaGreatDoorTapeCore
namespace Go.Proofs.YtbkgghhngeibhaaGreatDoor
section
open Go.RowKit Go.Shelf
attribute [local go_sem] Oper.semAt_some wide_fn
end
end Go.Proofs.YtbkgghhngeibhaaGreatDoor
