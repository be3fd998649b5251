/-
  Degrees of interpolated polynomials: the coefficients from an index on are 0 exactly if a shorter polynomial passes through all points. Plain facts; conditions as written.
-/
import Derived.Test.YtbkgghhngeibhaaGreatDoorLagMath
namespace Go.Proofs.YtbkgghhngeibhaaGreatDoor

def lowV (cs:List Nat) (K:Nat):Bool:=(cs.drop K).all (·==0)
theorem lowV_iff (cs:List Nat) (K:Nat):lowV cs K=true↔∀ i,K<=i->cs.getD i 0=0:=by
 unfold lowV
 rw[List.all_eq_true]
 constructor
 ·intro h i hi
  rw[List.getD_eq_getElem?_getD]
  cases e:cs[i]? with
  | none=>rfl
  | some v =>
   have hm:v∈cs.drop K:=by
    have h2:(cs.drop K)[i-K]?=some v:=by rw[List.getElem?_drop,show K+(i-K)=i by omega,e]
    exact List.mem_of_getElem? h2
   simpa using h v hm
 intro h v hv
 obtain⟨j,hj⟩:=List.getElem?_of_mem hv
 rw[List.getElem?_drop]at hj
 have:=h (K+j) (by omega)
 rw[List.getD_eq_getElem?_getD,hj]at this
 simpa using this
theorem pv_zero (a:Nat):∀ k,pv (List.replicate k 0) a=0
 | 0=>rfl
 | k+1=>by
  show 0+a*pv (List.replicate k 0) a=0
  rw[pv_zero a k];simp
theorem pv_more (c:List Nat) (k a:Nat):pv (c++List.replicate k 0) a=pv c a:=by rw[pv_append,pv_zero];simp
theorem low_split {cs:List Nat} {K:Nat} (h:lowV cs K=true):cs=cs.take K++List.replicate (cs.length-K) 0:=by
 apply List.ext_getElem?
 intro i
 by_cases hi:i<K
 ·by_cases hl:i<cs.length
  ·rw[List.getElem?_append_left (by rw[List.length_take];omega),List.getElem?_take,if_pos hi]
  rw[List.getElem?_eq_none (by omega),List.getElem?_eq_none (by rw[List.length_append,List.length_take,List.length_replicate];omega)]
 by_cases hl:i<cs.length
 ·have h2:=(lowV_iff cs K).1 h i (by omega)
  rw[List.getD_eq_getElem?_getD,List.getElem?_eq_getElem hl]at h2
  rw[List.getElem?_append_right (by rw[List.length_take];omega),List.length_take,List.getElem?_replicate,if_pos (by omega),List.getElem?_eq_getElem hl]
  simpa using h2
 rw[List.getElem?_eq_none (by omega),List.getElem?_eq_none (by rw[List.length_append,List.length_take,List.length_replicate];omega)]
theorem low_of_values {p:Nat} (h1:1<p) (hf:Fer p) (xs:List Nat) (hx:∀ x∈xs,x<p) (h:Apart p xs) (c:List Nat) (hc:∀ v∈c,v<p) (ys:List Nat) (hy:∀ j,j<xs.length->ys.getD j 0%p=pv c (xs.getD j 0)%p) {K:Nat} (hK:c.length<=K):lowV (itpL p xs ys) K=true:=by
 have hlen:(itpL p xs ys).length=xs.length:=itpF_length p xs ys _ (Nat.le_refl _)
 by_cases hl:c.length<=xs.length
 ·rw[itp_values h1 hf xs hx h c hc hl ys hy,lowV_iff]
  intro i hi
  rw[List.getD_eq_getElem?_getD,List.getElem?_append_right (by omega),List.getElem?_replicate]
  split <;> rfl
 rw[lowV_iff]
 intro i hi
 rw[List.getD_eq_getElem?_getD,List.getElem?_eq_none (by omega)];rfl
theorem low_long {p:Nat} (xs ys:List Nat) {K:Nat} (hK:xs.length<=K):lowV (itpL p xs ys) K=true:=by
 have hlen:(itpL p xs ys).length=xs.length:=itpF_length p xs ys _ (Nat.le_refl _)
 rw[lowV_iff]
 intro i hi
 rw[List.getD_eq_getElem?_getD,List.getElem?_eq_none (by omega)];rfl
theorem erase_getD (xs:List Nat) (i j:Nat):(xs.eraseIdx i).getD j 0=xs.getD (if j<i then j else j+1) 0:=by
 rw[List.getD_eq_getElem?_getD,List.getD_eq_getElem?_getD,List.getElem?_eraseIdx]
 split <;> rfl
end Go.Proofs.YtbkgghhngeibhaaGreatDoor
