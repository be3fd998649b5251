/-
  Checks of consistency in plain terms: whether shares lie on polynomials with as many coefficients as the threshold, the suspects, their events. Plain facts.
-/
import Derived.Test.YtbkgghhngeibhaaGreatDoorDegEv
import Derived.Test.YtbkgghhngeibhaaGreatDoorDegPlain
import Derived.Test.YtbkgghhngeibhaaGreatDoorJoinLow
import Derived.Test.YtbkgghhngeibhaaGreatDoorLagBase
import Derived.Test.YtbkgghhngeibhaaGreatDoorParEnd
namespace Go.Proofs.YtbkgghhngeibhaaGreatDoor
open Go.RowKit
def fitJ (p T:Nat) (l:List Sh) (k:Nat):Bool:=lowV (jpl p l k) T
def chsL (l:List Sh):List Bool:=(List.range (cJ l)).map (fitJ (pJ l) (TJ l) l)
def conL (l:List Sh):Bool:=(chsL l).all id
def susL (l:List Sh) (n:Nat):List Nat:=(List.range n).filter fun i=>conL (l.eraseIdx i)
def susE (l:List Sh):Nat:=if shsN l≠0 then shsN l else if l.length<=TJ l then 16 else 0
def susV (l:List Sh):List Nat:=if susE l≠0 then [] else susL l l.length
def susEv (n:Nat) (T:Int) (c k:Nat):List Ev:=(List.range k).flatMap fun i:Nat=>((5:Int),(i:Int),(0:Int))::alE (n-1) T c
theorem susEv_zero (n:Nat) (T:Int) (c:Nat):susEv n T c 0=[]:=rfl
theorem susEv_succ (n:Nat) (T:Int) (c k:Nat):susEv n T c (k+1)=susEv n T c k++[((5:Int),(k:Int),(0:Int))]++alE (n-1) T c:=by simp[susEv,List.range_succ]
theorem susEv_len (n:Nat) (T:Int) (c k:Nat):(susEv n T c k).length=k*(1+(alE (n-1) T c).length):=by
 induction k with
 | zero=>simp[susEv]
 | succ k ih=>rw[susEv_succ,List.length_append,List.length_append,ih,Nat.succ_mul,List.length_singleton];omega
theorem alE_len (n:Nat) (T:Int) (c:Nat):(alE n T c).length=c*(1+(ftE n T).length):=by
 induction c with
 | zero=>simp[alE]
 | succ c ih=>rw[show alE n T (c+1)=alE n T c++((4:Int),(c:Int),(0:Int))::ftE n T from rfl,List.length_append,List.length_cons,ih,Nat.succ_mul];omega
theorem susL_succ (l:List Sh) (k:Nat):susL l (k+1)=if conL (l.eraseIdx k)=true then susL l k++[k] else susL l k:=by
 unfold susL
 rw[List.range_succ,List.filter_append]
 cases h:conL (l.eraseIdx k) <;> simp[h]
theorem susL_len (l:List Sh) (k:Nat):(susL l k).length<=k:=by
 unfold susL
 exact Nat.le_trans (List.length_filter_le _ _) (by simp)
theorem susE_cases (l:List Sh):(susE l=shsN l/\shsN l≠0)\/(susE l=16/\shsN l=0/\l.length<=TJ l)\/(susE l=0/\shsN l=0/\TJ l<l.length):=by
 unfold susE
 by_cases h:shsN l=0
 ·rw[if_neg (fun c=>c h)]
  by_cases h2:l.length<=TJ l
  ·rw[if_pos h2];exact .inr (.inl ⟨rfl,h,h2⟩)
  rw[if_neg h2];exact .inr (.inr ⟨rfl,h,by omega⟩)
 rw[if_pos h];exact .inl ⟨rfl,h⟩
section
variable {s0:Sh} {l:List Sh}
theorem Acc.chkA (h:Acc s0 l):chkV (ixs l)=0:=by
 refine chkV_ok (fun x hx=>?_) h.nodup
 obtain⟨s,hs,rfl⟩:=List.mem_map.1 hx
 have:=h.all s hs
 exact⟨this.2.1,this.2.2.1⟩
theorem Acc.colA (h:Acc s0 l) (k:Nat):∀ y∈colN l k,y<modN s0.fd:=by
 intro y hy
 unfold colN at hy
 obtain⟨s,hs,rfl⟩:=List.mem_map.1 hy
 rw[if_pos (by omega),Int.toNat_natCast,List.getD_eq_getElem?_getD]
 have ha:=h.all s hs
 cases hk:s.pl[k]? with
 | none=>exact Nat.lt_trans (by decide) (modN_pos h.kn).1
 | some x=>exact ha.2.2.2.2 x (List.mem_of_getElem? hk)
theorem Acc.pos (h:Acc s0 l):0<l.length:=by have:=(List.getElem?_eq_some_iff.1 h.first).1;omega
end
theorem getElem_mem17 {l:List Sh} {i:Nat} {s:Sh} (h:l[i]?=some s):s∈l:=List.mem_of_getElem? h
theorem acc_erase {l:List Sh} (h:shsN l=0) (hT:TJ l<l.length) (i:Nat):shsN (l.eraseIdx i)=0/\pJ (l.eraseIdx i)=pJ l/\TJ (l.eraseIdx i)=TJ l/\cJ (l.eraseIdx i)=cJ l:=by
 have hA:=acc_hd h
 have hlen:l.length-1<=(l.eraseIdx i).length:=by rw[List.length_eraseIdx];split <;> omega
 have hth:(TJ l:Int)=(hd0 l).th:=by unfold TJ;have:=hA.th1;omega
 have h0:shsN (l.eraseIdx i)=0:=by
  rw[shsN_sub h (List.eraseIdx_sublist l i) hA.first,if_neg (by omega)]
 have hB:=acc_hd h0
 have hm:hd0 (l.eraseIdx i)∈l:=(List.eraseIdx_sublist l i).subset (getElem_mem17 hB.first)
 have hs:=(hA.all _ hm).1
 unfold SameH at hs
 refine⟨h0,?_,?_,?_⟩
 ·unfold pJ;rw[hs.1]
 ·unfold TJ;rw[hs.2.1]
 unfold cJ;rw[hs.2.2]
theorem fld_ofA {id:Int} (h:Kn id):∃ i r s,Fld id (modN id) i r s:=by
 rcases h with rfl | rfl
 ·exact⟨_,_,_,fld1⟩
 exact⟨_,_,_,fld2⟩
theorem pts_lt {p:Nat} (hbig:256<=p) {xs:List Int} (hc:chkV xs=0):∀ x∈ptV xs,x<p:=ptV_lt hbig (chkV_zero hc).1
theorem pts_apart {p:Nat} (hbig:256<=p) {xs:List Int} (hc:chkV xs=0):Apart p (ptV xs):=by
 obtain⟨hr,hd⟩:=chkV_zero hc
 refine apart_of hbig (fun v hv=>?_) (fun i k hi hk hik e=>?_)
 ·obtain⟨x,hx,rfl⟩:=List.mem_map.1 hv
  have:=hr x hx;omega
 rw[ptV_length]at hi hk
 rw[ptV_at (List.getElem?_eq_getElem hi),ptV_at (List.getElem?_eq_getElem hk)]at e
 have h1:=hr _ (List.getElem_mem hi)
 have h2:=hr _ (List.getElem_mem hk)
 have e2:xs[i]=xs[k]:=by omega
 have hp:=List.pairwise_iff_getElem.1 hd
 by_cases h:i<k
 ·exact hp i k hi hk h e2
 exact hp k i hk hi (by omega) e2.symm
theorem fitM_J {p:Nat} {l:List Sh} {T:Nat} {k:Nat}:mk (lowV (itpL p (ptV (ixs l)) (jys p l k)) (T:Int).toNat)=mk (fitJ p T l k):=by rw[Int.toNat_natCast];rfl
theorem low_one {p:Nat} (h1:1<p) (hf:Fer p) (xs:List Nat) (hx:∀ x∈xs,x<p) (h:Apart p xs) (c:List Nat) (hc:∀ v∈c,v<p) {K:Nat} (hcK:c.length<=K) (hK:K<xs.length) {i:Nat} (hi:i<xs.length) {d:Nat} (hd:d<p) (ys:List Nat) (hy:∀ j,j<xs.length->ys.getD j 0%p=(if j=i then pv c (xs.getD j 0)+d else pv c (xs.getD j 0))%p):lowV (itpL p xs ys) K=decide (d=0):=by
 have hlen:(itpL p xs ys).length=xs.length:=itpF_length p xs ys _ (Nat.le_refl _)
 rw[Bool.eq_iff_iff,decide_eq_true_iff]
 constructor
 ·intro hl
  have hv:∀ a,pv (itpL p xs ys) a=pv ((itpL p xs ys).take K) a:=fun a=>by
   have e:pv (itpL p xs ys) a=pv ((itpL p xs ys).take K++List.replicate ((itpL p xs ys).length-K) 0) a:=congrArg (fun l=>pv l a) (low_split hl)
   rw[e,pv_more]
  have he:(xs.eraseIdx i).length=xs.length-1:=by rw[List.length_eraseIdx,if_pos hi]
  have hap:Apart p (xs.eraseIdx i):=by
   intro a b ha hb hne
   rw[he]at ha hb
   rw[erase_getD,erase_getD]
   refine h _ _ ?_ ?_ ?_ <;> split <;> (try split) <;> omega
  have ho:=pv_only h1 hf (xs.eraseIdx i) (fun x hm=>hx x (List.mem_of_mem_eraseIdx hm)) hap K (by omega) ((itpL p xs ys).take K) c (by rw[List.length_take];omega) hcK (fun j hj=>by
   rw[erase_getD,<-hv]
   have hjl:(if j<i then j else j+1)<xs.length:=by split <;> omega
   have hji:¬(if j<i then j else j+1)=i:=by split <;> omega
   rw[pv_itp h1 hf xs ys hx h hjl,hy _ hjl,if_neg hji])
  have hat:pv (itpL p xs ys) (xs.getD i 0)%p=pv c (xs.getD i 0)%p:=by
   have e:((itpL p xs ys).take K)=c++List.replicate (K-c.length) 0:=by
    apply ext_getD (by rw[List.length_take,List.length_append,List.length_replicate];omega)
    intro k hk
    have hb:((itpL p xs ys).take K).getD k 0<p:=getD_lt (by omega) (fun v hm=>itpF_lt (by omega) xs ys _ v (List.mem_of_mem_take hm)) k
    have hb2:c.getD k 0<p:=getD_lt (by omega) hc k
    have:=ho k
    rw[Nat.mod_eq_of_lt hb,Nat.mod_eq_of_lt hb2]at this
    rw[this,List.getD_eq_getElem?_getD,List.getD_eq_getElem?_getD]
    by_cases hl:k<c.length
    ·rw[List.getElem?_append_left hl]
    rw[List.getElem?_eq_none (by omega),List.getElem?_append_right (by omega),List.getElem?_replicate]
    split <;> rfl
   rw[hv,e,pv_more]
  rw[pv_itp h1 hf xs ys hx h hi,hy i hi,if_pos rfl]at hat
  have h2:(pv c (xs.getD i 0)+d)%p=(pv c (xs.getD i 0)+0)%p:=by rw[hat,Nat.add_zero]
  have h3:=md_cancel (p:=p) (by omega) (a:=d) (b:=0) (c:=pv c (xs.getD i 0)) (d:=pv c (xs.getD i 0)) (by rw[Nat.add_comm d,Nat.add_comm 0];exact h2) rfl
  rw[Nat.mod_eq_of_lt hd,Nat.zero_mod]at h3
  exact h3
 intro h0
 subst h0
 refine low_of_values h1 hf xs hx h c hc ys (fun j hj=>?_) hcK
 rw[hy j hj]
 split <;> rfl
def posI (ks:List Nat):List Int:=ks.map fun k:Nat=>(k:Int)
theorem posI_len (ks:List Nat):(posI ks).length=ks.length:=by simp[posI]
theorem posI_wf {l:List Sh} {n:Nat} (h:n<=1000):∀ x∈posI (susL l n),(Lit.int .i64 x).wf=true:=by
 intro x hx
 obtain⟨k,hk,rfl⟩:=List.mem_map.1 hx
 have h1:k∈List.range n:=(List.mem_filter.1 hk).1
 have:=List.mem_range.1 h1
 exact WalkArith.wf_i64 (by show -9223372036854775808<=(k:Int)/\(k:Int)<=9223372036854775807;omega)
end Go.Proofs.YtbkgghhngeibhaaGreatDoor
