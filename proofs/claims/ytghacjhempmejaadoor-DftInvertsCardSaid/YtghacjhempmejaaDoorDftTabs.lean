/-
  The package-level tables of math.Sincos, out of the row's condition: their cells. Conditions: the row's own.
-/
import Derived.Test.YtghacjhempmejaaDoorPlainLaid
import Derived.Test.YtghacjhempmejaaDoorRows
namespace Go.Proofs.YtghacjhempmejaaDoor
open Go.RowKit Go.ChangeShapes
/-- The cells of the tables of the cosine and of the sine, as the listed data have them. -/
def TabAt (w : World) : Prop := (∀ i v, (flatD (H := Unit) Rows.laid_math_cos)[i]? = some v → w.cell? ⟨1, i, none⟩ = some v) ∧ (∀ i v, (flatD (H := Unit) Rows.laid_math_sin)[i]? = some v → w.cell? ⟨2, i, none⟩ = some v)
theorem TabAt.off {w w' : World} (h : TabAt w) (ho : Off (fun _ => False) w w') : TabAt w' := ⟨fun i v hv => ho.cell (h.1 i v hv) (fun c => c), fun i v hv => ho.cell (h.2 i v hv) (fun c => c)⟩
theorem tab_of_laid {w : World} (h : laidMetH Tryd.prog [("math._sin", Rows.laid_math_sin), ("math._cos", Rows.laid_math_cos), ("math.mPi4", Rows.laid_math_mPi4)] w) : TabAt w :=
  ⟨fun i v hv => (cells_of_laid 8 h (by kernel_rfl) (n := "math._cos") (d := Rows.laid_math_cos) (by simp) (by kernel_rfl) (by kernel_rfl) i).trans hv,
   fun i v hv => (cells_of_laid 8 h (by kernel_rfl) (n := "math._sin") (d := Rows.laid_math_sin) (by simp) (by kernel_rfl) (by kernel_rfl) i).trans hv⟩
end Go.Proofs.YtghacjhempmejaaDoor
