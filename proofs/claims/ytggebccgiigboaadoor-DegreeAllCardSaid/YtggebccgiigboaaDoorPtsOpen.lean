/-
  Arguments of statements, opened: a slice is no longer than its capacity; a struct of a list of ints and a list of numbers. No condition.
-/
import Derived.Test.YtggebccgiigboaaDoorIntAll
import Derived.Test.YtggebccgiigboaaDoorVecOpen
import Derived.Deep.Slices
import Derived.ProofKit
namespace Go.Proofs.YtggebccgiigboaaDoor
open Go.RowKit Go.ChangeShapes Go.WideShapes Go.ChangeAt Go.Deep
set_option linter.unusedSimpArgs false
theorem cap_of_trod {H : Type} {enc : TypeId × Value -> H} {P : Program} {w : World} {base : Nat} {spare : Nat -> Bool} {held : Bool} {t e : TypeId} {fuel : Nat} {a : Option Addr} {len cap : Nat} {x : DataW H × List MemPlace} (ht : P.underlying t = some (.slice e))
  (h : DataW.trod enc P w base spare held fuel t [.slice a len cap] = some x) : len <= cap := by
 rcases open_slice ht h with ⟨hcs,_⟩ | ⟨b,l,c,m,n,D,Pl,hcs,_,hl,_⟩
 ·simp at hcs; omega
 ·simp at hcs; omega
theorem slice_of_trod {H : Type} {enc : TypeId × Value -> H} {P : Program} {w : World} {base : Nat} {spare : Nat -> Bool} {held : Bool} {t e : TypeId} {fuel : Nat} {c : Value} {x : DataW H × List MemPlace} (ht : P.underlying t = some (.slice e))
  (h : DataW.trod enc P w base spare held fuel t [c] = some x) : ∃ a n cap,c = .slice a n cap := by
 rcases open_slice ht h with ⟨hcs,_⟩ | ⟨b,l,k,m,n,D,Pl,hcs,_⟩
 ·simp at hcs; exact ⟨_,_,_,hcs⟩
 ·simp at hcs; exact ⟨_,_,_,hcs⟩
theorem cells_pts2 : Tryd.prog.cellsOf 25 = 2 := by kernel_rfl
theorem cells_ints1 : Tryd.prog.cellsOf 22 = 1 := by kernel_rfl
theorem cells_vs1 : Tryd.prog.cellsOf 23 = 1 := by kernel_rfl
theorem list_two {α : Type} (l : List α) (h : (⟨l⟩ : Array α).size = 2) : ∃ a b,l = [a,b] := by
 match l,h with
 | [a,b],_ => exact ⟨a,b,rfl⟩
set_option maxRecDepth 100000 in
theorem open_points {H : Type} {enc : TypeId × Value -> H} {W : World} {r : Reach} {base : Nat} {sp : Nat -> Bool} {held : Bool} {v : Value} {d : DataW H} {p : List MemPlace}
  (hok : Value.okWide Tryd.prog W r base 25 v) (h : DataW.Trod enc Tryd.prog W 0 sp held 25 v d p) : ∃ (a : Option Addr) (n cap : Nat) (is : List Int) (b : Option Addr) (m dap : Nat) (ys : List Nat),(n = is.length /\ n <= cap /\ m = ys.length /\ m <= dap /\ IvAt W (.slice a n cap) is (fun k => k < W.heap.size) /\ VsAt W (.slice b m dap) ys (fun k => k < W.heap.size)) /\ v = .agg #[.slice a n cap,.slice b m dap] := by
 obtain ⟨cs,rfl,hsz⟩ := okWide_struct Tryd.underlying25 hok
 rw [cells_pts2] at hsz
 obtain ⟨l⟩ := cs
 obtain ⟨c0,c1,rfl⟩ := list_two l hsz
 obtain ⟨fuel,hf⟩ := h
 obtain ⟨y0,y1,m,_,_,hy0,hy1⟩ := trod_struct2 Tryd.underlying25 hf
 simp only [cells_ints1,cells_vs1,List.drop_zero,List.drop_succ_cons,List.take_succ_cons,List.take_zero] at hy0 hy1
 obtain ⟨a,n,cap,rfl⟩ := slice_of_trod Tryd.underlying22 hy0
 obtain ⟨b,k,dap,rfl⟩ := slice_of_trod Tryd.underlying23 hy1
 obtain ⟨xs,hx,vx⟩ := ints_of_trod hy0
 obtain ⟨ys,hy,vy⟩ := vecs_of_trod hy1
 exact ⟨a,n,cap,xs,b,k,dap,ys,⟨hx,cap_of_trod Tryd.underlying22 hy0,hy,cap_of_trod Tryd.underlying23 hy1,vx,vy⟩,rfl⟩
end Go.Proofs.YtggebccgiigboaaDoor
-- squeezed
