/-
  The package-level table of the fields, out of the row's condition: its cells. Conditions: the row's own.
-/
import Derived.Test.YtclehgconbdkpaaDoorPlainLaid
import Derived.Test.YtclehgconbdkpaaDoorRows
namespace Go.Proofs.YtclehgconbdkpaaDoor
open Go.RowKit Go.ChangeShapes

/-- The cells of the table of fields, as the listed datum has them. -/
def TabAt (w : World) : Prop := ∀ i v, (flatD (H := Unit) Rows.laid_sharecore_field_fields)[i]? = some v → w.cell? ⟨0, i, none⟩ = some v
theorem TabAt.off {w w' : World} (h : TabAt w) (ho : Off (fun _ => False) w w') : TabAt w' := fun i v hv => ho.cell (h i v hv) (fun c => c)
theorem tab_of_laid {w : World} (h : laidMetH Tryd.prog [("sharecore/field.fields", Rows.laid_sharecore_field_fields)] w) : TabAt w := fun i v hv =>
  (cells_of_laid 8 h (by kernel_rfl) (List.mem_singleton.2 rfl) (by kernel_rfl) (by kernel_rfl) i).trans hv
end Go.Proofs.YtclehgconbdkpaaDoor
