/-
  What the walks of the laws of layer 4 share: the table of fields and numbers in memory are kept by calls that change nothing that lay there before. No condition.
-/
import Derived.Test.YtggebccgiigboaaDoorModGet
import Derived.Test.YtggebccgiigboaaDoorLimbWords
import Derived.Test.YtggebccgiigboaaDoorFieldTab
namespace Go.Proofs.YtggebccgiigboaaDoor
open Go.RowKit

theorem wd_zero (i : Nat) : wd 0 i = 0 := by unfold wd dg; simp
/-- The fourteen cells of a block that is known whole. -/
theorem fv_cells {w : World} {b : Nat} {T : TypeId} {c0 c1 c2 c3 c4 c5 c6 c7 c8 c9 c10 c11 c12 c13 : Value} (h : w.heap[b]? = some (.cells #[c0,c1,c2,c3,c4,c5,c6,c7,c8,c9,c10,c11,c12,c13] T (0,0))) :
  w.cell? ⟨b,0,none⟩ = some c0 /\ w.cell? ⟨b,1,none⟩ = some c1 /\ w.cell? ⟨b,2,none⟩ = some c2 /\ w.cell? ⟨b,3,none⟩ = some c3 /\ w.cell? ⟨b,4,none⟩ = some c4 /\ w.cell? ⟨b,5,none⟩ = some c5 /\ w.cell? ⟨b,6,none⟩ = some c6 /\ w.cell? ⟨b,7,none⟩ = some c7 /\ w.cell? ⟨b,8,none⟩ = some c8 /\ w.cell? ⟨b,9,none⟩ = some c9 /\ w.cell? ⟨b,10,none⟩ = some c10 /\ w.cell? ⟨b,11,none⟩ = some c11 /\ w.cell? ⟨b,12,none⟩ = some c12 /\ w.cell? ⟨b,13,none⟩ = some c13 := by
 refine ⟨?_,?_,?_,?_,?_,?_,?_,?_,?_,?_,?_,?_,?_,?_⟩ <;> rw [cell_of_heap h] <;> rfl
end Go.Proofs.YtggebccgiigboaaDoor
-- squeezed
