/-
  Blocks that are made and stored into, for seats without numbers of four words. Plain facts.
-/
import Derived.Test.YthjfhgnmaepafaaDoorOff
import Derived.Deep.Cut
import Derived.Deep.CutRange
import Derived.Deep.DeepCutAuto
namespace Go.Proofs.YthjfhgnmaepafaaDoor
open Go.RowKit
theorem heap_new' {w : World} {n : Nat} (h : w.heap.size = n) (o : Obj) : (w.alloc o).heap[n]? = some o := by subst h; exact World.alloc_heap_new w o
theorem heap_old' {w : World} {n : Nat} {x : Obj} (h : w.heap[n]? = some x) (o : Obj) : (w.alloc o).heap[n]? = some x := (Below.heap_alloc w o n (heap_lt h)).trans h
theorem setCells_off (b : Nat) : ∀ (vs : List Value) (o : Nat) (w : World), Off (fun k => k = b) w (w.setCells b o vs)
  | [], _, w => Off.refl _ w
  | v :: r, o, w => ((Off.refl (fun k => k = b) w).setCell (p := ⟨b, o, none⟩) (fun _ => rfl) v).trans (setCells_off b r (o + 1) _) (fun _ _ h => h)
end Go.Proofs.YthjfhgnmaepafaaDoor
