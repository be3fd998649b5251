/-
  The reference of layer 18 over this seat's translation: Consistent, Without, Suspects. Conditions: the shares are accepted, or their list is short; the payloads have at most 1000 elements.
-/
import Derived.Test.YtbkgghhngeibhaaGreatDoorParGrp
import Derived.Deep.OwnRows
import Derived.Deep.Upon
import Derived.Shelf.Bits.Mul64
import Derived.Shelf.Bytes.SlEqualAll
import Derived.Test.YtbkgghhngeibhaaGreatDoorProg
namespace Go.Proofs.YtbkgghhngeibhaaGreatDoor
open Go.RowKit
attribute [local go_sem ↓] Go.wp_at_zero Go.wp_at_succ
set_option linter.unusedSimpArgs false
set_option maxRecDepth 100000
set_option maxHeartbeats 4000000
theorem RowS.empty (w:World):RowS w.heap.size (w.alloc (.cells #[] 45)) (.slice (some ⟨w.heap.size,0,none⟩) 0 0) [] :=
 ⟨rfl,.inr ⟨w.heap.size,0,#[],rfl,Nat.le_refl _,heap_new' rfl _,Nat.le_refl _,Nat.zero_le _,rfl,rfl⟩⟩
end Go.Proofs.YtbkgghhngeibhaaGreatDoor
