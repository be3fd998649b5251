/-
  The contracts of package poly with the nil tape, for lists that lie anywhere. Conditions: the field's constants are those of its modulus, the lists are short.
-/
import Derived.Test.YtggebccgiigboaaDoorPolQuot
import Derived.Test.YtggebccgiigboaaDoorPolMul
import Derived.Test.YtggebccgiigboaaDoorPolRefer
namespace Go.Proofs.YtggebccgiigboaaDoor
open Go.RowKit
theorem Off.none {S : Nat -> Prop} {w w' : World} (h : Off S w w') (hs : ∀ k,¬ S k) : Off (fun _ => False) w w' := h.mono (fun k _ c => hs k c)
theorem none_lst {w : World} : ∀ b,(fun k => k < w.heap.size /\ ¬ False) b -> b < w.heap.size /\ ¬ (fun _ : Nat => False) b := fun _ h => h
section
variable {id : Int} {p i0 r s : Nat}
theorem mulL_length (p : Nat) (vs us : List Nat) (h : 0 < vs.length) (h2 : 0 < us.length) : (mulL p vs us).length = vs.length + us.length - 1 := by
 unfold mulL; rw [if_neg (by omega),mulAll_length]
end
/-- A slice that is built of numbers. -/
theorem ls_build (w : World) (xs : List Nat) (hl : xs.length <= 100000) (T : TypeId) : Ls (w.alloc (.cells (flat4 xs).toArray T (0,0))) (.slice (some ⟨w.heap.size,0,none⟩) xs.length xs.length) xs :=
 Ls.of_all (T := T) (heap_new' rfl _ : NumsAt _ _ T xs) hl
end Go.Proofs.YtggebccgiigboaaDoor
-- squeezed
