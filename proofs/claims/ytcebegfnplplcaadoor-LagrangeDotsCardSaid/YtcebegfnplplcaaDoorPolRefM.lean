/-
  The reference's Mul of layer 8. Conditions: the modulus is a number above 1 of four words, the numbers lie below it, the lists are short.
-/
import Derived.Test.YtcebegfnplplcaaDoorPolRefer
namespace Go.Proofs.YtcebegfnplplcaaDoor
open Go.RowKit
attribute [local go_sem ↓] Go.wp_at_zero Go.wp_at_succ
end Go.Proofs.YtcebegfnplplcaaDoor
-- squeezed
