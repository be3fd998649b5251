/-
  The contract of poly's Eval with the nil tape, for a list that lies anywhere (XPolNil's, for seats of layer 9). Conditions: the field's constants are those of its modulus, the list is short.
-/
import Derived.Test.YtcebegfnplplcaaDoorPolEval
import Derived.Test.YtcebegfnplplcaaDoorPolNil
namespace Go.Proofs.YtcebegfnplplcaaDoor
open Go.RowKit
section
variable {id : Int} {p i0 r s : Nat}
theorem eval_ls (hF : Fld id p i0 r s) (vs : List Nat) (hl : vs.length <= 10000) (x : Nat) (v : Value) (w : World) (h : Ls w v (vs.map (fm p))) :
  Calls Tryd.prog 32 #[.pointer none,FV id p i0 r s,v,V (fm p x)] w fun e w' => e = .returned (V (fm p (pv vs x % p))) /\ Off (fun _ => False) w w' := by
 obtain ⟨a,cap,rfl,hL⟩ := h.open
 rw [List.length_map] at hL ⊢
 refine (eval_any hF vs _ cap a rfl hl none [] (fun _ => False) _ w hL none_lst (Tp.none w) (by simp) x).mono ?_
 rintro e w' ⟨rfl,_,hO⟩
 exact ⟨rfl,hO⟩
end
end Go.Proofs.YtcebegfnplplcaaDoor
-- squeezed
