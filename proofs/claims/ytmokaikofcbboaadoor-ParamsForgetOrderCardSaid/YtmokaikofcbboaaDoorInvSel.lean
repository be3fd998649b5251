/-
  The frame of a region that draws its order, told by which operations have been carried out. Plain facts; no condition.
-/
import Derived.Test.YtmokaikofcbboaaDoorInvMem
namespace Go.Proofs.YtmokaikofcbboaaDoor
/-- v once the operation has been carried out, and z before. -/
def sel (b : Bool) (v z : Value) : Value := if b then v else z
theorem sel_of {b : Bool} (h : b = true) (v z : Value) : sel b v z = v := by unfold sel; rw [if_pos h]
theorem sel_dep {l : Nat → Bool} {i d : Nat} (h : l d = true) (v z : Value) : sel (upd l i d) v z = v := sel_of (by unfold upd; split <;> first | rfl | exact h) v z
theorem sel_new (l : Nat → Bool) (i : Nat) (v z : Value) : sel (upd l i i) v z = v := sel_of (upd_same l i) v z
theorem sel_start (v z : Value) : sel false v z = z := rfl
/-- A frame whose slots from n on are vs. -/
def fill (a : Act) (n : Nat) (vs : List Value) : Act := { a with tmps := (a.tmps.toList.take n ++ vs).toArray }
theorem fill_eq (t vs : List Value) (d) (n : Nat) : fill ⟨t.toArray, d⟩ n vs = ⟨(t.take n ++ vs).toArray, d⟩ := rfl
end Go.Proofs.YtmokaikofcbboaaDoor
