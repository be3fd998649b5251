/-
  Powers, windows of an exponent, halvings and inverses of Montgomery forms as plain numbers. Conditions: as each says.
  What Batch's two loops have computed when they have visited a list of indices, as plain numbers. No condition.
-/
import Derived.Test.YtbkgghhngeibhaaGreatDoorMontAll
import Derived.Test.YtbkgghhngeibhaaGreatDoorTapeCore
import Derived.Deep.DeepCutAuto
import Derived.Lib.LaidTab
import Derived.LoopIn
import Derived.LoopNIn
import Derived.MakeChecks
import Derived.OwnWalkIn
import Derived.RangeFuncBound
import Derived.Shelf.RegionOpen
namespace Go.Proofs.YtbkgghhngeibhaaGreatDoor
section

theorem fm_inj {p x y:Nat} (h:Mp p) (hx:x<p) (hy:y<p) (e:fm p x=fm p y):x=y:=by
 have h1:=mm_one h x
 rw[e,mm_one h y,Nat.mod_eq_of_lt hx,Nat.mod_eq_of_lt hy]at h1
 exact h1.symm
theorem pow_mm {p:Nat} (h:Mp p) (v m n:Nat):mm p (fm p (v^m%p)) (fm p (v^n%p))=fm p (v^(m+n)%p):=by
 rw[mm_fm h,<-Nat.mul_mod,<-Nat.pow_add]
theorem pow_mm1 {p:Nat} (h:Mp p) (v m:Nat):mm p (fm p (v^m%p)) (fm p v)=fm p (v^(m+1)%p):=by
 rw[mm_fm h,Nat.mod_mul_mod,<-Nat.pow_succ]
theorem pow_zero_fm (p v:Nat):fm p (v^0%p)=radV p 256:=by rw[Nat.pow_zero,fm_mod,fm_one]

def winV (e k:Nat):Nat:=e / 16^(64-k)
theorem r256_win:R256=16^64:=by decide +kernel
theorem win_zero {e:Nat} (he:e<R256):winV e 0=0:=by
 unfold winV;rw[r256_win]at he;exact Nat.div_eq_of_lt he
theorem win_full (e:Nat):winV e 64=e:=by unfold winV;simp
def digV (e w:Nat):Nat:=e / 16^w%16
theorem win_next (e k:Nat) (hk:k<64):winV e (k+1)=16*winV e k+digV e (63-k):=by
 unfold winV digV
 have h1:64-(k+1)=63-k:=by omega
 have h2:64-k=(63-k)+1:=by omega
 rw[h1,h2,Nat.pow_succ,<-Nat.div_div_eq_div_mul]
 have:=Nat.div_add_mod (e / 16^(63-k)) 16
 omega
theorem digV_lt (e w:Nat):digV e w<16:=Nat.mod_lt _ (by decide)
theorem digV_bits (e w:Nat):e / 2^(w*4)%2^4=digV e w:=by
 unfold digV
 rw[show(2:Nat)^(w*4)=16^w by rw[Nat.mul_comm,Nat.pow_mul]]

def Fer (p:Nat):Prop:=∀ x,x%p≠0->x^(p-1)%p=1
theorem pow_ne {p:Nat} (h1:1<p) (hf:Fer p) {x y:Nat} (hx:x%p≠0) (hy:y%p≠0):x*y%p≠0:=by
 intro h
 have h2:(x*y)^(p-1)%p=1:=by rw[Nat.mul_pow,Nat.mul_mod,hf x hx,hf y hy,Nat.mul_one,Nat.mod_eq_of_lt h1]
 rw[Nat.pow_mod,h,Nat.zero_pow (by omega),Nat.zero_mod]at h2
 cases h2
theorem inv_mul {p:Nat} (h1:1<p) (hf:Fer p) {x:Nat} (hx:x%p≠0):x*(x^(p-2)%p)%p=1:=by
 rw[Nat.mul_mod_mod,Nat.mul_comm,<-Nat.pow_succ,show(p-2).succ=p-1 by omega]
 exact hf x hx
theorem inv_zero {p:Nat} (h3:2<p):0^(p-2)%p=0:=by rw[Nat.zero_pow (by omega),Nat.zero_mod]
def facV (v:Nat):Nat:=if v=0 then 1 else v
def prdV (p:Nat) (vs:List Nat):Nat->Nat
 | 0=>1
 | k+1=>prdV p vs k*facV (vs.getD k 0)%p
def rstV (p:Nat) (vs:List Nat):Nat->Nat
 | 0=>prdV p vs vs.length^(p-2)%p
 | k+1=>rstV p vs k*facV (vs.getD (vs.length-1-k) 0)%p
def batV (p:Nat) (vs:List Nat) (i:Nat):Nat:=if vs.getD i 0=0 then 0 else prdV p vs i*rstV p vs (vs.length-1-i)%p
theorem facV_lt {p v:Nat} (h1:1<p) (h:v<p):facV v<p:=by unfold facV;split <;> omega
theorem facV_ne {p v:Nat} (h1:1<p) (h:v<p):facV v%p≠0:=by
 rw[Nat.mod_eq_of_lt (facV_lt h1 h)];unfold facV;split <;> omega
theorem getD_lt {p:Nat} (h0:0<p) {vs:List Nat} (h:∀ v∈vs,v<p) (i:Nat):vs.getD i 0<p:=by
 rw[List.getD_eq_getElem?_getD]
 by_cases hi:i<vs.length
 ·rw[List.getElem?_eq_getElem hi];exact h _ (List.getElem_mem hi)
 rw[List.getElem?_eq_none (by omega)];exact h0
theorem batV_lt {p:Nat} (h1:1<p) (vs:List Nat) (i:Nat):batV p vs i<p:=by
 unfold batV;split
 ·omega
 exact Nat.mod_lt _ (by omega)
theorem prdV_ne {p:Nat} (h1:1<p) (hf:Fer p) {vs:List Nat} (h:∀ v∈vs,v<p):∀ k,prdV p vs k%p≠0
 | 0=>by rw[prdV,Nat.mod_eq_of_lt h1];decide
 | k+1=>by
  rw[prdV,Nat.mod_mod]
  exact pow_ne h1 hf (prdV_ne h1 hf h k) (facV_ne h1 (getD_lt (by omega) h k))
theorem prd_rst {p:Nat} (h1:1<p) (hf:Fer p) {vs:List Nat} (h:∀ v∈vs,v<p):∀ k,k<=vs.length->prdV p vs (vs.length-k)*rstV p vs k%p=1
 | 0,_=>by
  rw[rstV,Nat.sub_zero]
  exact inv_mul h1 hf (prdV_ne h1 hf h _)
 | k+1,hk=>by
  have ih:=prd_rst h1 hf h k (by omega)
  have e:vs.length-k=(vs.length-(k+1))+1:=by omega
  rw[e,prdV,Nat.mod_mul_mod]at ih
  rw[rstV,Nat.mul_mod_mod,show vs.length-1-k=vs.length-(k+1) by omega]
  refine Eq.trans ?_ ih
  congr 1
  ac_rfl
theorem batV_zero (p:Nat) (vs:List Nat) {i:Nat} (h:vs.getD i 0=0):batV p vs i=0:=by unfold batV;rw[if_pos h]
theorem batV_inv {p:Nat} (h1:1<p) (hf:Fer p) {vs:List Nat} (h:∀ v∈vs,v<p) {i:Nat} (hi:i<vs.length) (h0:vs.getD i 0≠0):vs.getD i 0*batV p vs i%p=1:=by
 have e:=prd_rst h1 hf h (vs.length-1-i) (by omega)
 rw[show vs.length-(vs.length-1-i)=i+1 by omega,prdV,Nat.mod_mul_mod]at e
 unfold batV
 rw[if_neg h0,Nat.mul_mod_mod]
 refine Eq.trans ?_ e
 unfold facV
 rw[if_neg h0]
 congr 1
 ac_rfl
end
section

theorem snoc_ind {α:Type} {P:List α->Prop} (h0:P []) (h1:∀ l x,P l->P (l++[x])) (l:List α):P l:=by
 rw[<-List.reverse_reverse l]
 induction l.reverse with
 | nil=>exact h0
 | cons x r ih=>rw[List.reverse_cons];exact h1 _ _ ih
def bat1 (p:Nat) (vs:List Nat) (pre:List Nat):Nat × List Nat :=
 pre.foldl (fun s x=>(s.1*facV (vs.getD (x%vs.length) 0)%p,s.2.set (x%vs.length) s.1)) (1,List.replicate vs.length 0)
theorem bat1_snoc (p:Nat) (vs pre:List Nat) (x:Nat):bat1 p vs (pre++[x])=((bat1 p vs pre).1*facV (vs.getD (x%vs.length) 0)%p,(bat1 p vs pre).2.set (x%vs.length) (bat1 p vs pre).1):=by
 unfold bat1;rw[List.foldl_append];rfl
theorem bat1_length (p:Nat) (vs:List Nat):∀ pre:List Nat,(bat1 p vs pre).2.length=vs.length:=by
 refine snoc_ind (by simp[bat1]) (fun pre x ih=>?_)
 rw[bat1_snoc];simp[ih]
theorem bat1_range (p:Nat) (vs:List Nat):∀ k,k<=vs.length->bat1 p vs (List.range k)=(prdV p vs k,(List.range vs.length).map (fun j=>if j<k then prdV p vs j else 0))
 | 0,_=>by simp[bat1,prdV,List.map_const']
 | k+1,hk=>by
  have hm:k%vs.length=k:=Nat.mod_eq_of_lt (by omega)
  rw[List.range_succ,bat1_snoc,bat1_range p vs k (by omega),hm]
  refine Prod.ext (by simp only[prdV]) ?_
  apply List.ext_getElem?
  intro j
  by_cases hj:j=k
  ·subst hj
   rw[List.getElem?_set_self (by simp;omega),List.getElem?_map,List.getElem?_range (by omega)]
   simp
  rw[List.getElem?_set_ne (fun e=>hj e.symm),List.getElem?_map,List.getElem?_map]
  by_cases hj2:j<vs.length
  ·rw[List.getElem?_range hj2]
   simp only[Option.map_some,Option.some.injEq]
   by_cases h1:j<k
   ·rw[if_pos h1,if_pos (by omega)]
   rw[if_neg h1,if_neg (by omega)]
  rw[List.getElem?_eq_none (by simp;omega)];rfl

def bat2 (p:Nat) (vs:List Nat) (pre:List Nat):Nat × List Nat :=
 pre.foldl (fun s x=>(s.1*facV (vs.getD (vs.length-1-x) 0)%p,s.2.set (vs.length-1-x) (if vs.getD (vs.length-1-x) 0=0 then 0 else s.2.getD (vs.length-1-x) 0*s.1%p))) (rstV p vs 0,(List.range vs.length).map (prdV p vs))
theorem bat2_snoc (p:Nat) (vs pre:List Nat) (x:Nat):bat2 p vs (pre++[x])=((bat2 p vs pre).1*facV (vs.getD (vs.length-1-x) 0)%p,(bat2 p vs pre).2.set (vs.length-1-x) (if vs.getD (vs.length-1-x) 0=0 then 0 else(bat2 p vs pre).2.getD (vs.length-1-x) 0*(bat2 p vs pre).1%p)):=by
 unfold bat2;rw[List.foldl_append];rfl
theorem bat2_length (p:Nat) (vs:List Nat):∀ pre:List Nat,(bat2 p vs pre).2.length=vs.length:=by
 refine snoc_ind (by simp[bat2]) (fun pre x ih=>?_)
 rw[bat2_snoc];simp[ih]
theorem bat2_range (p:Nat) (vs:List Nat):∀ k,k<=vs.length->bat2 p vs (List.range k)=(rstV p vs k,(List.range vs.length).map (fun j=>if vs.length-1-j<k then batV p vs j else prdV p vs j))
 | 0,_=>by simp[bat2]
 | k+1,hk=>by
  rw[List.range_succ,bat2_snoc,bat2_range p vs k (by omega)]
  refine Prod.ext (by simp only[rstV]) ?_
  apply List.ext_getElem?
  intro j
  by_cases hj:j=vs.length-1-k
  ·subst hj
   have e:vs.length-1-(vs.length-1-k)=k:=by omega
   rw[List.getElem?_set_self (by simp;omega),List.getElem?_map,List.getElem?_range (by omega)]
   have e3:((List.range vs.length).map (fun j=>if vs.length-1-j<k then batV p vs j else prdV p vs j)).getD (vs.length-1-k) 0=prdV p vs (vs.length-1-k):=by
    rw[List.getD_eq_getElem?_getD,List.getElem?_map,List.getElem?_range (by omega)]
    simp only[Option.map_some,Option.getD_some,e]
    rw[if_neg (Nat.lt_irrefl k)]
   rw[e3]
   simp only[Option.map_some,Option.some.injEq,e]
   rw[if_pos (Nat.lt_succ_self k)]
   unfold batV
   rw[e]
  rw[List.getElem?_set_ne (fun e=>hj e.symm),List.getElem?_map,List.getElem?_map]
  by_cases hj2:j<vs.length
  ·rw[List.getElem?_range hj2]
   simp only[Option.map_some,Option.some.injEq]
   by_cases h1:vs.length-1-j<k
   ·rw[if_pos h1,if_pos (by omega)]
   rw[if_neg h1,if_neg (by omega)]
  rw[List.getElem?_eq_none (by simp;omega)];rfl
def batL (p:Nat) (vs:List Nat):List Nat:=(List.range vs.length).map (batV p vs)
theorem bat1_done (p:Nat) (vs:List Nat):bat1 p vs (List.range vs.length)=(prdV p vs vs.length,(List.range vs.length).map (prdV p vs)):=by
 rw[bat1_range p vs _ (Nat.le_refl _)]
 refine Prod.ext rfl ?_
 apply List.map_congr_left
 intro j hj
 rw[if_pos (List.mem_range.1 hj)]
theorem bat2_done (p:Nat) (vs:List Nat):bat2 p vs (List.range vs.length)=(rstV p vs vs.length,batL p vs):=by
 rw[bat2_range p vs _ (Nat.le_refl _)]
 refine Prod.ext rfl ?_
 apply List.map_congr_left
 intro j hj
 have:=List.mem_range.1 hj
 rw[if_pos (by omega)]
def coefU (n:Nat) (pre:List Nat):List Ev:=pre.map (fun x:Nat=>((2:Int),((x%n:Nat):Int),(0:Int)))
def coefD (n:Nat) (pre:List Nat):List Ev:=pre.map (fun x:Nat=>((2:Int),((n-1-x:Nat):Int),(0:Int)))
theorem coefU_snoc (n:Nat) (pre:List Nat) (x:Nat):coefU n (pre++[x])=coefU n pre++[((2:Int),((x%n:Nat):Int),(0:Int))]:=by simp[coefU]
theorem coefD_snoc (n:Nat) (pre:List Nat) (x:Nat):coefD n (pre++[x])=coefD n pre++[((2:Int),((n-1-x:Nat):Int),(0:Int))]:=by simp[coefD]
theorem coefU_length (n:Nat) (pre:List Nat):(coefU n pre).length=pre.length:=by simp[coefU]
theorem coefD_length (n:Nat) (pre:List Nat):(coefD n pre).length=pre.length:=by simp[coefD]
end
end Go.Proofs.YtbkgghhngeibhaaGreatDoor
