/-
  Dividing by a linear polynomial and multiplying back: the same polynomial. Plain facts; conditions as written.
  Interpolation over lists of numbers modulo p: weights, numerators, sums; the values of the interpolated polynomial, and that it is the only one. Plain facts; conditions as written.
-/
import Derived.Test.YtbkgghhngeibhaaGreatDoorPolCore
namespace Go.Proofs.YtbkgghhngeibhaaGreatDoor
section
theorem div_row (p v m i:Nat) (L:List Nat) (h:i+1<L.length) (j:Nat):(mulRow p v [m,1] i L (List.range 2)).getD j 0=if j=i+1 then(L.getD (i+1) 0+v*1%p)%p else if j=i then(L.getD i 0+v*m%p)%p else L.getD j 0:=by
 rw[show List.range 2=([]++[0])++[1] from rfl,mulRow_snoc,mulRow_snoc]
 have e0:mulRow p v [m,1] i L []=L:=rfl
 rw[e0]
 simp only[List.length_cons,List.length_nil,Nat.reduceAdd,Nat.zero_mod,Nat.reduceMod,Nat.add_zero]
 rw[getD_set _ _ _ _ (by rw[List.length_set];exact h),getD_set _ _ _ _ (by omega),getD_set _ _ _ _ (by omega)]
 rw[if_neg (show ¬i+1=i by omega)]
 rfl
theorem divAll_get (p:Nat) (qs:List Nat) (m:Nat) (hq:0<qs.length):∀ i,i<=qs.length->∀ j,(mulAll p qs [m,1] (List.range i)).getD j 0=if j<i then((if j=0 then 0 else qs.getD (j-1) 0)+qs.getD j 0*m%p)%p else if j=i/\0<i then qs.getD (i-1) 0%p else 0
 | 0,_,j=>by
  rw[if_neg (by omega),if_neg (by omega)]
  show(List.replicate _ 0).getD j 0=0
  rw[List.getD_eq_getElem?_getD,List.getElem?_replicate]
  split <;> rfl
 | i+1,h,j=>by
  rw[List.range_succ,mulAll_snoc,Nat.mod_eq_of_lt (a:=i) (b:=qs.length) (by omega)]
  rw[show [m,1].length=2 from rfl,div_row _ _ _ _ _ (by rw[mulAll_length];simp only[List.length_cons,List.length_nil];omega)]
  have ih:=divAll_get p qs m hq i (by omega)
  by_cases e:j=i+1
  ·have a1:(mulAll p qs [m,1] (List.range i)).getD (i+1) 0=0:=by rw[ih,if_neg (by omega),if_neg (by omega)]
   rw[if_pos e,a1,if_neg (show ¬j<i+1 by omega),if_pos (show j=i+1/\0<i+1 by omega),Nat.zero_add,Nat.mul_one,Nat.mod_mod]
   rfl
  rw[if_neg e]
  by_cases e2:j=i
  ·rw[if_pos e2,if_pos (show j<i+1 by omega),e2]
   by_cases e3:i=0
   ·have a1:(mulAll p qs [m,1] (List.range i)).getD i 0=0:=by rw[ih,if_neg (by omega),if_neg (by omega)]
    rw[a1,if_pos e3]
   have a1:(mulAll p qs [m,1] (List.range i)).getD i 0=qs.getD (i-1) 0%p:=by rw[ih,if_neg (by omega),if_pos (by omega)]
   rw[a1,if_neg e3]
   exact md_add (md_self _ _) rfl
  rw[if_neg e2,ih]
  by_cases e3:j<i
  ·rw[if_pos e3,if_pos (show j<i+1 by omega)]
  rw[if_neg e3,if_neg (show ¬(j=i/\0<i) by omega),if_neg (show ¬j<i+1 by omega),if_neg (show ¬(j=i+1/\0<i+1) by omega)]
end
section

def ng (p x:Nat):Nat:=(p-x)%p
def tl (p x:Nat) (c:List Nat):List Nat:=mulL p c [ng p x,1]
theorem ng_add {p x:Nat} (hx:x<=p):(x+ng p x)%p=0:=by
 unfold ng
 rw[Nat.add_mod,Nat.mod_mod,<-Nat.add_mod,Nat.add_sub_cancel' hx,Nat.mod_self]
theorem tl_length (p x:Nat) {c:List Nat} (h:0<c.length):(tl p x c).length=c.length+1:=by
 unfold tl mulL;rw[if_neg (by simp only[List.length_cons,List.length_nil];omega),mulAll_length];rfl
theorem tl_nil (p x:Nat):tl p x []=[]:=by unfold tl mulL;rw[if_pos (.inl rfl)]
theorem tl_lt {p:Nat} (h0:0<p) (x:Nat) (c:List Nat):∀ u∈tl p x c,u<p:=mulL_lt h0 _ _
theorem tl_get (p x:Nat) (c:List Nat) (j:Nat):(tl p x c).getD j 0=((if j=0 then 0 else c.getD (j-1) 0)+c.getD j 0*ng p x)%p:=by
 by_cases h:0<c.length
 ·unfold tl mulL
  rw[if_neg (by simp only[List.length_cons,List.length_nil];omega),divAll_get p c _ h _ (Nat.le_refl _)]
  by_cases e:j<c.length
  ·rw[if_pos e];exact md_add rfl (md_self _ _)
  rw[if_neg e,getD_over (L:=c) (i:=j) (by omega),Nat.zero_mul,Nat.add_zero]
  by_cases e2:j=c.length
  ·rw[if_pos ⟨e2,h⟩,if_neg (by omega),e2]
  rw[if_neg (by omega),if_neg (by omega),getD_over (by omega),Nat.zero_mod]
 have:c=[]:=List.eq_nil_of_length_eq_zero (by omega)
 subst this
 rw[tl_nil];simp
theorem tl_comm (p x y:Nat) (c:List Nat):tl p x (tl p y c)=tl p y (tl p x c):=by
 by_cases h:0<c.length
 ·apply ext_getD
  ·rw[tl_length,tl_length,tl_length,tl_length] <;> (try rw[tl_length]) <;> omega
  intro i _
  rw[tl_get,tl_get p y (tl p x c),tl_get p y c i,tl_get p x c i]
  obtain⟨a,ha⟩:∃ a,a=c.getD i 0:=⟨_,rfl⟩
  rw[<-ha]
  by_cases e:i=0
  ·simp only[if_pos e,Nat.zero_add,Nat.mod_mul_mod]
   congr 1
   rw[Nat.mul_assoc,Nat.mul_assoc,Nat.mul_comm (ng p y)]
  rw[if_neg e,if_neg e,if_neg e,tl_get,tl_get]
  obtain⟨b,hb⟩:∃ b,b=c.getD (i-1) 0:=⟨_,rfl⟩
  obtain⟨d,hd⟩:∃ d,d=(if i-1=0 then 0 else c.getD (i-1-1) 0):=⟨_,rfl⟩
  rw[<-hb,<-hd]
  have e1:∀ u v:Nat,((d+b*u)%p+(b+a*u)%p*v)%p=(d+b*u+(b+a*u)*v)%p:=fun u v=>md_add (md_self _ _) (md_mul (md_self _ _) rfl)
  rw[e1,e1]
  congr 1
  rw[Nat.add_mul,Nat.add_mul,Nat.mul_assoc a,Nat.mul_assoc a,Nat.mul_comm (ng p x) (ng p y)]
  omega
 have:c=[]:=List.eq_nil_of_length_eq_zero (by omega)
 subst this
 rw[tl_nil,tl_nil,tl_nil]
theorem tl_drop {p x:Nat} (hx:x<=p) (c:List Nat) (h:0<c.length):∀ m k,k+m=c.length+1->pv ((tl p x c).drop k) x%p=(if k=0 then 0 else c.getD (k-1) 0)%p
 | 0,k,hk=>by
  rw[List.drop_eq_nil_of_le (by rw[tl_length p x h];omega),if_neg (by omega),getD_over (by omega)];rfl
 | m+1,k,hk=>by
  have ih:=tl_drop hx c h m (k+1) (by omega)
  rw[if_neg (by omega),show k+1-1=k by omega]at ih
  rw[drop_cons _ (by rw[tl_length p x h];omega)]
  simp only[pv]
  rw[md_add (b:=(if k=0 then 0 else c.getD (k-1) 0)+c.getD k 0*ng p x) (d:=x*c.getD k 0) (by rw[tl_get,md_self]) (md_mul rfl ih),Nat.add_assoc,Nat.mul_comm x,<-Nat.mul_add]
  rw[md_add (b:=(if k=0 then 0 else c.getD (k-1) 0)) (d:=0) rfl (by rw[Nat.mul_mod,Nat.add_comm,ng_add hx,Nat.mul_zero]),Nat.add_zero]
theorem quo_tl {p x:Nat} (hx:x<=p) (c:List Nat) (h:0<c.length) (hc:∀ u∈c,u<p):quoL p (tl p x c) x=c:=by
 apply ext_getD (by rw[quoL_length,tl_length p x h];omega)
 intro i hi
 rw[quoL_length,tl_length p x h]at hi
 unfold quoL
 rw[getD_range,if_pos (by rw[tl_length p x h];omega),tl_drop hx c h (c.length-i) (i+1) (by omega),if_neg (by omega),show i+1-1=i by omega]
 refine Nat.mod_eq_of_lt ?_
 rw[List.getD_eq_getElem?_getD,List.getElem?_eq_getElem (by omega)]
 exact hc _ (List.getElem_mem _)

def oth (n i:Nat):List Nat:=(List.range n).filter (fun k=>decide (k≠i))
theorem oth_next (n i:Nat):oth (n+1) i=if n=i then oth n i else oth n i++[n]:=by
 unfold oth
 rw[List.range_succ,List.filter_append]
 by_cases h:n=i
 ·rw[if_pos h];simp[h]
 rw[if_neg h];simp[h]
theorem oth_mem {n i k:Nat}:k∈oth n i↔k<n/\k≠i:=by unfold oth;simp
def tlF (p:Nat) (xs:List Nat) (c:List Nat) (l:List Nat):List Nat:=l.foldl (fun c k=>tl p (xs.getD k 0) c) c
def dfF (p:Nat) (xs:List Nat) (i d:Nat) (l:List Nat):Nat:=l.foldl (fun d k=>d*((xs.getD i 0+(p-xs.getD k 0))%p)%p) d
theorem tlF_snoc (p:Nat) (xs c l:List Nat) (k:Nat):tlF p xs c (l++[k])=tl p (xs.getD k 0) (tlF p xs c l):=by unfold tlF;rw[List.foldl_append];rfl
theorem dfF_snoc (p:Nat) (xs:List Nat) (i d:Nat) (l:List Nat) (k:Nat):dfF p xs i d (l++[k])=dfF p xs i d l*((xs.getD i 0+(p-xs.getD k 0))%p)%p:=by unfold dfF;rw[List.foldl_append];rfl
theorem dfF_lt {p:Nat} (h0:0<p) (xs:List Nat) (i:Nat) {d:Nat} (hd:d<p):∀ l,dfF p xs i d l<p :=
 snoc_ind hd (fun l x _=>by rw[dfF_snoc];exact Nat.mod_lt _ h0)
theorem tlF_length (p:Nat) (xs:List Nat) {c:List Nat} (h:0<c.length):∀ l,(tlF p xs c l).length=c.length+l.length :=
 snoc_ind rfl (fun l x ih=>by rw[tlF_snoc,tl_length _ _ (by omega),ih];simp;omega)
theorem tlF_lt {p:Nat} (h0:0<p) (xs:List Nat) {c:List Nat} (h:∀ u∈c,u<p):∀ l,∀ u∈tlF p xs c l,u<p :=
 snoc_ind h (fun l x _=>by rw[tlF_snoc];exact tl_lt h0 _ _)
theorem tlF_all (p:Nat) (xs c:List Nat) (i:Nat):∀ n,tlF p xs c (List.range n)=if i<n then tl p (xs.getD i 0) (tlF p xs c (oth n i)) else tlF p xs c (oth n i)
 | 0=>by rw[if_neg (by omega)];rfl
 | n+1=>by
  rw[List.range_succ,tlF_snoc,tlF_all p xs c i n,oth_next]
  by_cases h:n=i
  ·rw[if_neg (by omega),if_pos (by omega),if_pos h,h]
  rw[if_neg h,tlF_snoc]
  by_cases h2:i<n
  ·rw[if_pos h2,if_pos (by omega),tl_comm]
  rw[if_neg h2,if_neg (by omega)]
theorem oth_length (n i:Nat):(oth n i).length=if i<n then n-1 else n:=by
 induction n with
 | zero=>rfl
 | succ n ih =>
  rw[oth_next]
  by_cases h:n=i
  ·rw[if_pos h,ih,if_neg (by omega),if_pos (by omega)];omega
  rw[if_neg h,List.length_append,ih]
  by_cases h2:i<n
  ·rw[if_pos h2,if_pos (by omega)];simp;omega
  rw[if_neg h2,if_neg (by omega)];simp
def numL (p:Nat) (xs:List Nat) (i:Nat):List Nat:=tlF p xs [1] (oth xs.length i)
def wholeL (p:Nat) (xs:List Nat):List Nat:=tlF p xs [1] (List.range xs.length)
theorem numL_length (p:Nat) (xs:List Nat) {i:Nat} (h:i<xs.length):(numL p xs i).length=xs.length:=by
 unfold numL;rw[tlF_length _ _ (by decide),oth_length,if_pos h];simp;omega
theorem wholeL_length (p:Nat) (xs:List Nat):(wholeL p xs).length=xs.length+1:=by
 unfold wholeL;rw[tlF_length _ _ (by decide)];simp;omega
theorem numL_lt {p:Nat} (h1:1<p) (xs:List Nat) (i:Nat):∀ u∈numL p xs i,u<p:=tlF_lt (by omega) _ (by simpa using h1) _
theorem quo_whole {p:Nat} (h1:1<p) (xs:List Nat) (hx:∀ x∈xs,x<p) {i:Nat} (h:i<xs.length):quoL p (wholeL p xs) (xs.getD i 0)=numL p xs i:=by
 unfold wholeL
 rw[tlF_all p xs [1] i,if_pos h]
 exact quo_tl (Nat.le_of_lt (getD_lt (by omega) hx i)) _ (by have:=numL_length p xs h;unfold numL at this;omega) (numL_lt h1 xs i)
def wgt (p:Nat) (xs:List Nat) (i:Nat):Nat:=dfF p xs i 1 (oth xs.length i)^(p-2)%p
def wgtL (p:Nat) (xs:List Nat):List Nat:=(List.range xs.length).map (wgt p xs)
def itpF (p:Nat) (xs ys:List Nat) (k:Nat):List Nat:=(List.range k).foldl (fun R i=>sumL p R (scaL p (numL p xs i) (wgt p xs i*ys.getD i 0%p))) (List.replicate xs.length 0)
def itpL (p:Nat) (xs ys:List Nat):List Nat:=itpF p xs ys xs.length
theorem itpF_next (p:Nat) (xs ys:List Nat) (k:Nat):itpF p xs ys (k+1)=sumL p (itpF p xs ys k) (scaL p (numL p xs k) (wgt p xs k*ys.getD k 0%p)):=by unfold itpF;rw[List.range_succ,List.foldl_append];rfl
theorem itpF_length (p:Nat) (xs ys:List Nat):∀ k,k<=xs.length->(itpF p xs ys k).length=xs.length
 | 0,_=>by simp[itpF]
 | k+1,h=>by rw[itpF_next,sumL_length,itpF_length p xs ys k (by omega),scaL,List.length_map,numL_length p xs (by omega)];omega
theorem itpF_lt {p:Nat} (h0:0<p) (xs ys:List Nat):∀ k,∀ u∈itpF p xs ys k,u<p
 | 0=>fun u hu=>by simp[itpF,List.mem_replicate]at hu;omega
 | k+1=>by rw[itpF_next];exact sumL_lt h0 _ _
theorem wgtL_length (p:Nat) (xs:List Nat):(wgtL p xs).length=xs.length:=by simp[wgtL]
/-! The values. -/
theorem pv_scale (p f a:Nat):∀ c:List Nat,pv (scaL p c f) a%p=pv c a*f%p
 | []=>by simp[scaL,pv]
 | v::r=>by
  have ih:=pv_scale p f a r
  show(v*f%p+a*pv (scaL p r f) a)%p=_
  rw[md_add (md_self _ _) (md_mul rfl ih)]
  simp only[pv]
  rw[Nat.add_mul,Nat.mul_assoc]
theorem pv_tl (p x a:Nat) (c:List Nat):pv (tl p x c) a%p=(a+ng p x)*pv c a%p:=by
 unfold tl
 rw[pv_mul]
 simp only[pv]
 rw[Nat.mul_zero,Nat.add_zero,Nat.mul_one,Nat.add_comm (ng p x),Nat.mul_comm]
def atF (p:Nat) (xs:List Nat) (a:Nat) (l:List Nat):Nat:=l.foldl (fun d k=>d*(a+ng p (xs.getD k 0))%p) 1
theorem atF_snoc (p:Nat) (xs:List Nat) (a:Nat) (l:List Nat) (k:Nat):atF p xs a (l++[k])=atF p xs a l*(a+ng p (xs.getD k 0))%p:=by unfold atF;rw[List.foldl_append];rfl
theorem pv_tlF (p:Nat) (xs:List Nat) (a:Nat):∀ l,pv (tlF p xs [1] l) a%p=atF p xs a l%p :=
 snoc_ind (by simp[tlF,atF,pv]) (fun l k ih=>by rw[tlF_snoc,atF_snoc,pv_tl,md_self,Nat.mul_comm (a+_)];exact md_mul ih rfl)
theorem atF_zero {p:Nat} (xs:List Nat) (hx:∀ x∈xs,x<p) (h0:0<p) (i:Nat):∀ l,i∈l->atF p xs (xs.getD i 0) l%p=0 :=
 snoc_ind (fun h=>by cases h) (fun l k ih h=>by
  rw[atF_snoc,md_self]
  rcases List.mem_append.1 h with h | h
  ·rw[Nat.mul_mod,ih h,Nat.zero_mul,Nat.zero_mod]
  simp only[List.mem_singleton]at h
  subst h
  rw[Nat.mul_mod,ng_add (Nat.le_of_lt (getD_lt h0 hx i)),Nat.mul_zero,Nat.zero_mod])
theorem atF_self (p:Nat) (xs:List Nat) (i:Nat):∀ l,atF p xs (xs.getD i 0) l%p=dfF p xs i 1 l%p :=
 snoc_ind rfl (fun l k ih=>by
  rw[atF_snoc,dfF_snoc,md_self,md_self]
  refine md_mul ih ?_
  rw[md_self]
  exact md_add rfl (md_self _ _))
def smF (p:Nat) (xs ys:List Nat) (a:Nat):Nat->Nat
 | 0=>0
 | k+1=>smF p xs ys a k+atF p xs a (oth xs.length k)*(wgt p xs k*ys.getD k 0)
theorem pv_itpF (p:Nat) (xs ys:List Nat) (a:Nat):∀ k,pv (itpF p xs ys k) a%p=smF p xs ys a k%p
 | 0=>by
  have:∀ n,pv (List.replicate n 0) a=0:=fun n=>by
   induction n with
   | zero=>rfl
   | succ n ih=>rw[List.replicate_succ,pv,ih];simp
  simp[itpF,smF,this]
 | k+1=>by
  rw[itpF_next,pv_sum]
  refine md_add (pv_itpF p xs ys a k) ?_
  rw[pv_scale]
  exact md_mul (pv_tlF p xs a _) (md_self _ _)
def Apart (p:Nat) (xs:List Nat):Prop:=∀ i k,i<xs.length->k<xs.length->i≠k->(xs.getD i 0+(p-xs.getD k 0))%p≠0
theorem dfF_ne {p:Nat} (h1:1<p) (hf:Fer p) (xs:List Nat) (h:Apart p xs) {i:Nat} (hi:i<xs.length):∀ l,(∀ k∈l,k<xs.length/\k≠i)->dfF p xs i 1 l%p≠0 :=
 snoc_ind (fun _=>by show 1%p≠0;rw[Nat.mod_eq_of_lt h1];decide) (fun l k ih hl=>by
  rw[dfF_snoc,md_self]
  have hk:=hl k (by simp)
  exact pow_ne h1 hf (ih (fun k hk=>hl k (by simp[hk]))) (by rw[md_self];exact h i k hi hk.1 (fun e=>hk.2 e.symm)))
theorem smF_at {p:Nat} (h1:1<p) (hf:Fer p) (xs ys:List Nat) (hx:∀ x∈xs,x<p) (h:Apart p xs) {j:Nat} (hj:j<xs.length):∀ k,k<=xs.length->smF p xs ys (xs.getD j 0) k%p=(if j<k then ys.getD j 0 else 0)%p
 | 0,_=>by rw[if_neg (by omega)];rfl
 | k+1,hk=>by
  simp only[smF]
  by_cases e:k=j
  ·subst e
   have ih:=smF_at h1 hf xs ys hx h hj k (by omega)
   rw[if_neg (by omega)]at ih
   rw[if_pos (by omega),md_add ih (rfl:_%p=_%p),Nat.zero_add,<-Nat.mul_assoc]
   have e1:atF p xs (xs.getD k 0) (oth xs.length k)*wgt p xs k%p=1:=by
    rw[md_mul (atF_self p xs k _) (rfl:wgt p xs k%p=_)]
    exact inv_mul h1 hf (dfF_ne h1 hf xs h hj _ (fun q hq=>oth_mem.1 hq))
   rw[<-Nat.mod_mul_mod,e1,Nat.one_mul]
  have ih:=smF_at h1 hf xs ys hx h hj k (by omega)
  have e1:atF p xs (xs.getD j 0) (oth xs.length k)%p=0:=atF_zero xs hx (by omega) j _ (oth_mem.2 ⟨hj,fun e2=>e e2.symm⟩)
  rw[md_add ih (d:=0) (by rw[Nat.mul_mod,e1,Nat.zero_mul]),Nat.add_zero]
  by_cases e2:j<k
  ·rw[if_pos e2,if_pos (by omega)]
  rw[if_neg e2,if_neg (by omega)]
theorem pv_itp {p:Nat} (h1:1<p) (hf:Fer p) (xs ys:List Nat) (hx:∀ x∈xs,x<p) (h:Apart p xs) {j:Nat} (hj:j<xs.length):pv (itpL p xs ys) (xs.getD j 0)%p=ys.getD j 0%p:=by
 unfold itpL
 rw[pv_itpF,smF_at h1 hf xs ys hx h hj _ (Nat.le_refl _),if_pos hj]
/-! The only one. -/
theorem quoL_cons (p d e:Nat) (r:List Nat) (a:Nat):quoL p (d::e::r) a=pv (e::r) a%p::quoL p (e::r) a:=by
 unfold quoL
 show(List.range (r.length+1)).map _=_
 rw[List.range_succ_eq_map,List.map_cons,List.map_map]
 rfl
theorem pv_quo (p a x:Nat):∀ D:List Nat,(pv D x+a*pv (quoL p D a) x)%p=(pv D a+x*pv (quoL p D a) x)%p
 | []=>by simp[quoL,pv]
 | [d]=>by simp[quoL,pv]
 | d::e::r=>by
  have ih:=pv_quo p a x (e::r)
  rw[quoL_cons]
  obtain⟨D,hD⟩:∃ D,D=e::r:=⟨_,rfl⟩
  rw[<-hD]at ih ⊢
  simp only[pv]
  obtain⟨Q,hQ⟩:∃ Q,Q=pv (quoL p D a) x:=⟨_,rfl⟩
  obtain⟨u,hu⟩:∃ u,u=pv D x:=⟨_,rfl⟩
  obtain⟨v,hv⟩:∃ v,v=pv D a:=⟨_,rfl⟩
  rw[<-hQ,<-hu,<-hv]at ih ⊢
  have e1:(d+x*u+a*(v%p+x*Q))%p=(d+a*v+x*(u+a*Q))%p:=by
   have:(d+x*u+a*(v%p+x*Q))%p=(d+x*u+a*(v+x*Q))%p:=md_add rfl (md_mul rfl (md_add (md_self _ _) rfl))
   rw[this];congr 1
   rw[Nat.mul_add,Nat.mul_add,Nat.mul_left_comm a x];omega
  have e2:(d+a*v+x*(v%p+x*Q))%p=(d+a*v+x*(v+x*Q))%p:=md_add rfl (md_mul rfl (md_add (md_self _ _) rfl))
  rw[e1,e2]
  exact md_add rfl (md_mul rfl ih)
theorem md_cancel {p a b c d:Nat} (h0:0<p) (h:(a+c)%p=(b+d)%p) (k:c%p=d%p):a%p=b%p:=by
 have h2:(a+c)%p=(b+c)%p:=h.trans (md_add rfl k.symm)
 have hz:c+(p-c%p)=p*(c / p+1):=by
  have:=Nat.div_add_mod c p;have:=Nat.mod_lt c h0;rw[Nat.mul_add,Nat.mul_one];omega
 have h3:=md_add h2 (rfl:(p-c%p)%p=(p-c%p)%p)
 rw[Nat.add_assoc,Nat.add_assoc,hz,Nat.add_mul_mod_self_left,Nat.add_mul_mod_self_left]at h3
 exact h3
theorem fer_cancel {p:Nat} (h1:1<p) (hf:Fer p) {c a b:Nat} (hc:c%p≠0) (h:c*a%p=c*b%p):a%p=b%p:=by
 have e:=inv_mul h1 hf hc
 obtain⟨i,hi⟩:∃ i,i=c^(p-2)%p:=⟨_,rfl⟩
 rw[<-hi]at e
 have h2:i*(c*a)%p=i*(c*b)%p:=md_mul rfl h
 rw[<-Nat.mul_assoc,<-Nat.mul_assoc,Nat.mul_comm i c,<-Nat.mod_mul_mod,<-Nat.mod_mul_mod (c*i) b,e,Nat.one_mul,Nat.one_mul]at h2
 exact h2
theorem pv_only {p:Nat} (h1:1<p) (hf:Fer p) (xs:List Nat) (hx:∀ x∈xs,x<p) (h:Apart p xs):∀ n,n<=xs.length->∀ D C:List Nat,D.length<=n->C.length<=n->(∀ j,j<n->pv D (xs.getD j 0)%p=pv C (xs.getD j 0)%p)->∀ k,D.getD k 0%p=C.getD k 0%p
 | 0,_,D,C,hD,hC,_,k=>by rw[getD_over (L:=D) (by omega),getD_over (L:=C) (by omega)]
 | n+1,hn,D,C,hD,hC,hv,k=>by
  obtain⟨a,ha⟩:∃ a,a=xs.getD n 0:=⟨_,rfl⟩
  have hva:=hv n (by omega)
  rw[<-ha]at hva
  have ihq:=pv_only h1 hf xs hx h n (by omega) (quoL p D a) (quoL p C a) (by rw[quoL_length];omega) (by rw[quoL_length];omega) (fun j hj=>by
   have hne:=h j n (by omega) (by omega) (by omega)
   obtain⟨x,hxj⟩:∃ x,x=xs.getD j 0:=⟨_,rfl⟩
   have hvx:=hv j (by omega)
   rw[<-hxj]at hvx hne ⊢
   rw[<-ha]at hne
   have hap:a<=p:=by rw[ha];exact Nat.le_of_lt (getD_lt (by omega) hx n)
   have q1:=pv_quo p a x D
   have q2:=pv_quo p a x C
   obtain⟨u,hu⟩:∃ u,u=pv (quoL p D a) x:=⟨_,rfl⟩
   obtain⟨v,hw⟩:∃ v,v=pv (quoL p C a) x:=⟨_,rfl⟩
   rw[<-hu]at q1 ⊢
   rw[<-hw]at q2 ⊢
   refine fer_cancel h1 hf hne ?_
   have t1:∀ (s t q:Nat),(s+a*q)%p=(t+x*q)%p->(t+(x+(p-a))*q)%p=s%p:=fun s t q hq=>by
    have e1:(t+(x+(p-a))*q)%p=(t+x*q+(p-a)*q)%p:=by rw[Nat.add_mul,Nat.add_assoc]
    rw[e1,md_add hq.symm (rfl:(p-a)*q%p=_),Nat.add_assoc,<-Nat.add_mul,Nat.add_sub_cancel' hap,Nat.add_mul_mod_self_left]
   have s1:=t1 _ _ _ q1
   have s2:=t1 _ _ _ q2
   have s3:((x+(p-a))*u+pv D a)%p=((x+(p-a))*v+pv C a)%p:=by
    rw[Nat.add_comm _ (pv D a),Nat.add_comm _ (pv C a),s1,s2];exact hvx
   have s4:=md_cancel (by omega) s3 hva
   have:(x+(p-a))%p*u%p=(x+(p-a))%p*v%p:=by rw[Nat.mod_mul_mod,Nat.mod_mul_mod];exact s4
   rw[Nat.mod_mul_mod,Nat.mod_mul_mod]at this
   exact this)
  have hdr:∀ k,pv (D.drop k) a%p=pv (C.drop k) a%p:=fun k=>by
   cases k with
   | zero=>exact hva
   | succ k =>
    have h3:=ihq k
    have g:∀ D:List Nat,(quoL p D a).getD k 0%p=pv (D.drop (k+1)) a%p:=fun D=>by
     unfold quoL
     rw[getD_range]
     by_cases e:k<D.length-1
     ·rw[if_pos e,md_self]
     rw[if_neg e,List.drop_eq_nil_of_le (by omega)];rfl
    rw[g,g]at h3
    exact h3
  have hstep:∀ D:List Nat,pv (D.drop k) a=D.getD k 0+a*pv (D.drop (k+1)) a:=fun D=>by
   by_cases e:k<D.length
   ·rw[drop_cons D e];rfl
   rw[List.drop_eq_nil_of_le (by omega),List.drop_eq_nil_of_le (by omega),getD_over (by omega)];rfl
  have h4:=hdr k
  rw[hstep D,hstep C]at h4
  exact md_cancel (by omega) h4 (md_mul rfl (hdr (k+1)))
theorem itp_values {p:Nat} (h1:1<p) (hf:Fer p) (xs:List Nat) (hx:∀ x∈xs,x<p) (h:Apart p xs) (c:List Nat) (hc:∀ v∈c,v<p) (hl:c.length<=xs.length) (ys:List Nat) (hy:∀ j,j<xs.length->ys.getD j 0%p=pv c (xs.getD j 0)%p):itpL p xs ys=c++List.replicate (xs.length-c.length) 0:=by
 have hlen:(itpL p xs ys).length=xs.length:=itpF_length p xs ys _ (Nat.le_refl _)
 apply ext_getD (by rw[hlen];simp;omega)
 intro i hi
 have e:=pv_only h1 hf xs hx h xs.length (Nat.le_refl _) (itpL p xs ys) c (by omega) hl (fun j hj=>by rw[pv_itp h1 hf xs ys hx h hj,hy j hj]) i
 have hp:(itpL p xs ys).getD i 0<p:=getD_lt (by omega) (itpF_lt (by omega) xs ys _) i
 have hp2:c.getD i 0<p:=getD_lt (by omega) hc i
 rw[Nat.mod_eq_of_lt hp,Nat.mod_eq_of_lt hp2]at e
 rw[e,List.getD_eq_getElem?_getD,List.getD_eq_getElem?_getD]
 by_cases hi2:i<c.length
 ·rw[List.getElem?_append_left hi2]
 rw[List.getElem?_append_right (by omega),List.getElem?_eq_none (l:=c) (by omega),List.getElem?_replicate]
 split <;> rfl
theorem apart_of {p:Nat} (hp:256<=p) {xs:List Nat} (hx:∀ x∈xs,x<=255) (hd:∀ i k,i<xs.length->k<xs.length->i≠k->xs.getD i 0≠xs.getD k 0):Apart p xs:=by
 intro i k hi hk hik e
 have h1:xs.getD i 0<256:=getD_lt (by omega) (fun v hv=>by have:=hx v hv;omega) i
 have h2:xs.getD k 0<256:=getD_lt (by omega) (fun v hv=>by have:=hx v hv;omega) k
 have hne:=hd i k hi hk hik
 by_cases h:xs.getD i 0<xs.getD k 0
 ·rw[Nat.mod_eq_of_lt (by omega)]at e;omega
 rw[show xs.getD i 0+(p-xs.getD k 0)=(xs.getD i 0-xs.getD k 0)+p by omega,Nat.add_mod_right,Nat.mod_eq_of_lt (by omega)]at e;omega
end
end Go.Proofs.YtbkgghhngeibhaaGreatDoor
