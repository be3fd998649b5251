/-
  '==' of elements and of the structs of a field. No condition.
-/
import Derived.Test.YtggebccgiigboaaDoorLimbWords
namespace Go.Proofs.YtggebccgiigboaaDoor
open Go.RowKit

theorem equalIn_same (n : Nat) (w : World) : (Op.equalIn 10000 28 (V n) (V n)).run Tryd.prog w = .ok true w := by
 rw [equalIn_four]; simp
end Go.Proofs.YtggebccgiigboaaDoor
-- squeezed
