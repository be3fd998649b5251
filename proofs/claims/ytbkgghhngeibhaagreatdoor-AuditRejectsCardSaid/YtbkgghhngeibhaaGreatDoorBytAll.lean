/-
  Contracts of package bytecode over this seat's translation: Decode, Pack, Unpack and Wide. Conditions: the field's constants are those of its modulus; the slice is told by its bytes.
  Contract of Unpack of package bytecode over this seat's translation. Conditions: the field's constants are those of its modulus, the element lies below it.
  Contracts of the reference of layer 7 over this seat's translation: Encode, Number, Unpack. Conditions: as each says.
  Contracts of the reference's Decode and Wide of layer 7 over this seat's translation. Conditions: the modulus is a number of four words above 1; the slice is told by its bytes.
-/
import Derived.BigQuiet
import Derived.Deep.DeepCutAuto
import Derived.Deep.DrawnRows
import Derived.Deep.OwnRows
import Derived.Deep.RegionHeld3
import Derived.Laws.AppendOwnNone
import Derived.Lib.Hide
import Derived.Lib.LaidTab
import Derived.MakeChecks
import Derived.OpenShut
import Derived.ProofKit
import Derived.RangeFuncNested
import Derived.Shelf.Bits.Mul64
import Derived.Shelf.Bytes.SlEqualAll
import Derived.Shelf.Spec.BitsCarry
import Derived.StillTailTactics
import Derived.Test.YtbkgghhngeibhaaGreatDoorChecked
import Derived.Test.YtbkgghhngeibhaaGreatDoorProg
import Derived.WalkLawsBesides
import Derived.WalkSpells
namespace Go.Proofs.YtbkgghhngeibhaaGreatDoor
section
open Go.RowKit
attribute [local go_sem ↓] Go.wp_at_zero Go.wp_at_succ
end
section
open Go.RowKit
attribute [local go_sem ↓] Go.wp_at_zero Go.wp_at_succ
end
section
open Go.RowKit
attribute [local go_sem ↓] Go.wp_at_zero Go.wp_at_succ
end
section
open Go.RowKit
attribute [local go_sem ↓] Go.wp_at_zero Go.wp_at_succ
end
end Go.Proofs.YtbkgghhngeibhaaGreatDoor
