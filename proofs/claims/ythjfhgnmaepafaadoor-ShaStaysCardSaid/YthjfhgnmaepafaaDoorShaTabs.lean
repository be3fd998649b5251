/-
  The package-level tables of package sha, out of the row's condition: their cells. Conditions: the row's own.
-/
import Derived.Test.YthjfhgnmaepafaaDoorPlainLaid
import Derived.Test.YthjfhgnmaepafaaDoorRows
import Derived.Test.YthjfhgnmaepafaaDoorShaRotr
import Derived.Test.YthjfhgnmaepafaaDoorShaPlain
namespace Go.Proofs.YthjfhgnmaepafaaDoor
open Go.RowKit Go.ChangeShapes
/-- The cells of the constants and of the first state. -/
def TabAt (w : World) : Prop := (∀ i x, kL[i]? = some x → w.cell? ⟨1, i, none⟩ = some (u32v x)) ∧ (∀ i x, hV.list[i]? = some x → w.cell? ⟨0, i, none⟩ = some (u32v x))
theorem TabAt.off {w w' : World} (h : TabAt w) (ho : Off (fun _ => False) w w') : TabAt w' := ⟨fun i v hv => ho.cell (h.1 i v hv) (fun c => c), fun i v hv => ho.cell (h.2 i v hv) (fun c => c)⟩
theorem kL_laid : flatD (H := Unit) Rows.laid_sharecore_sha_constants = kL.map u32v := by kernel_rfl
theorem hV_laid : flatD (H := Unit) Rows.laid_sharecore_sha_initial = hV.list.map u32v := by kernel_rfl
theorem tab_of_laid {w : World} (h : laidMetH Tryd.prog [("sharecore/sha.constants", Rows.laid_sharecore_sha_constants), ("sharecore/sha.initial", Rows.laid_sharecore_sha_initial)] w) : TabAt w :=
  ⟨fun i v hv => (cells_of_laid 8 h (by kernel_rfl) (n := "sharecore/sha.constants") (d := Rows.laid_sharecore_sha_constants) (by simp) (by kernel_rfl) (by kernel_rfl) i).trans (by rw [kL_laid, List.getElem?_map, hv]; rfl),
   fun i v hv => (cells_of_laid 8 h (by kernel_rfl) (n := "sharecore/sha.initial") (d := Rows.laid_sharecore_sha_initial) (by simp) (by kernel_rfl) (by kernel_rfl) i).trans (by rw [hV_laid, List.getElem?_map, hv]; rfl)⟩
end Go.Proofs.YthjfhgnmaepafaaDoor
