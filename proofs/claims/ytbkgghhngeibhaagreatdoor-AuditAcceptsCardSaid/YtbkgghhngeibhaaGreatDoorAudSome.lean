/-
  Shares of a secret are consistent; as many as the threshold are, whatever their elements; one changed element is found. Plain facts; conditions: the parameters, the secret and the random bytes are correct.
-/
import Derived.Test.YtbkgghhngeibhaaGreatDoorAudPlain
import Derived.Test.YtbkgghhngeibhaaGreatDoorJoinSome
namespace Go.Proofs.YtbkgghhngeibhaaGreatDoor
open Go.RowKit
set_option maxRecDepth 100000
theorem con_few {l:List Sh} (hl:l.length<=TJ l):conL l=true:=by
 unfold conL chsL
 rw[List.all_eq_true]
 intro x hx
 obtain⟨k,_,rfl⟩:=List.mem_map.1 hx
 exact low_long _ _ (by rw[ptV_ixs];exact hl)
def setP (l:List Sh) (i:Nat) (s:Sh) (pl:List Nat):List Sh:=l.set i ⟨s.fd,s.th,s.ix,s.ln,pl⟩
theorem setP_len (l:List Sh) (i:Nat) (s:Sh) (pl:List Nat):(setP l i s pl).length=l.length:=by simp[setP]
theorem setP_get {l:List Sh} {i:Nat} {s:Sh} {pl:List Nat} (hs:l[i]?=some s) (j:Nat):(setP l i s pl)[j]?=if j=i then some ⟨s.fd,s.th,s.ix,s.ln,pl⟩ else l[j]?:=by
 unfold setP
 have hl:=(List.getElem?_eq_some_iff.1 hs).1
 by_cases h:j=i
 ·subst h;rw[if_pos rfl,List.getElem?_set_self hl]
 rw[if_neg h,List.getElem?_set_ne (fun c=>h c.symm)]
theorem setP_ixs {l:List Sh} {i:Nat} {s:Sh} {pl:List Nat} (hs:l[i]?=some s):ixs (setP l i s pl)=ixs l:=by
 unfold ixs
 apply List.ext_getElem?
 intro j
 rw[List.getElem?_map,List.getElem?_map,setP_get hs]
 by_cases h:j=i
 ·subst h;rw[if_pos rfl,hs];rfl
 rw[if_neg h]
theorem setP_ok {l:List Sh} (h:shsN l=0) {i:Nat} {s:Sh} (hs:l[i]?=some s) {pl:List Nat} (hl:pl.length=s.pl.length) (hp:∀ x∈pl,x<modN s.fd):shsN (setP l i s pl)=0/\pJ (setP l i s pl)=pJ l/\TJ (setP l i s pl)=TJ l/\cJ (setP l i s pl)=cJ l:=by
 obtain⟨e1,e2,e3,e4⟩:=shsN_ok h
 have hA:=acc_hd h
 have hel:∀ t∈setP l i s pl,∃ u∈l,t.fd=u.fd/\t.th=u.th/\t.ln=u.ln/\t.ix=u.ix/\shN t=0:=fun t ht=>by
  obtain⟨j,hj⟩:=List.getElem?_of_mem ht
  rw[setP_get hs]at hj
  by_cases hji:j=i
  ·rw[if_pos hji]at hj
   cases hj
   have hm:=List.mem_of_getElem? hs
   refine⟨s,hm,rfl,rfl,rfl,rfl,?_⟩
   have h1:=shN_zero (firstE_zero.1 e1 s hm)
   unfold shN
   dsimp only
   rw[if_neg (fun c=>c h1.1),if_neg (by omega),if_neg (by omega),if_neg (by omega),if_neg (fun c=>c (by rw[hl];exact h1.2.2.2.2.2.2.2.1)),if_pos hp]
  rw[if_neg hji]at hj
  have hm:=List.mem_of_getElem? hj
  exact⟨t,hm,rfl,rfl,rfl,rfl,firstE_zero.1 e1 t hm⟩
 have f1:firstE (setP l i s pl)=0:=firstE_zero.2 (fun t ht=>by obtain⟨_,_,_,_,_,_,h⟩:=hel t ht;exact h)
 have f2:OneH (setP l i s pl):=fun t ht t' ht'=>by
  obtain⟨u,hu,a1,a2,a3,_⟩:=hel t ht
  obtain⟨u',hu',b1,b2,b3,_⟩:=hel t' ht'
  have:=e2 u hu u' hu'
  unfold SameH at this ⊢
  rw[a1,a2,a3,b1,b2,b3]
  exact this
 have f3:(ixs (setP l i s pl)).Nodup:=by rw[setP_ixs hs];exact e3
 obtain⟨t,ht⟩:∃ t,(setP l i s pl)[0]?=some t:=⟨_,List.getElem?_eq_getElem (by rw[setP_len];exact hA.pos)⟩
 obtain⟨u,hu,a1,a2,a3,_⟩:=hel t (List.mem_of_getElem? ht)
 have hsu:=(hA.all u hu).1
 unfold SameH at hsu
 have hh:hd0 (setP l i s pl)=t:=by
  unfold hd0
  cases hc:setP l i s pl with
  | nil=>rw[hc]at ht;simp at ht
  | cons x r=>rw[hc]at ht;simp at ht;simpa using ht
 refine⟨?_,?_,?_,?_⟩
 ·rw[shsN_end f1 f2 f3 ht,setP_len,if_neg]
  rw[a2,hsu.2.1]
  have:=hA.few
  have:=hA.th1
  omega
 ·unfold pJ;rw[hh,a1,hsu.1]
 ·unfold TJ;rw[hh,a2,hsu.2.1]
 unfold cJ;rw[hh,a3,hsu.2.2]
section
variable {q:Pms} {sec rnd:List Nat} {l:List Sh}
theorem SomeS.val (h:SomeS q sec rnd l) (h0:polE q sec rnd=0) {k:Nat} (hk:k<q.cn) {j:Nat} {s:Sh} (hs:l[j]?=some s):∃ v,s.pl[k]?=some (fm (modN q.fd) v)/\v=pv (polN q sec rnd k) ((ptV (ixs l)).getD j 0):=by
 obtain⟨i,i1,i2,rfl⟩:=h.share h0 (List.mem_of_getElem? hs)
 have e1:(ixs l)[j]?=some (i:Int):=by unfold ixs;rw[List.getElem?_map,hs];rfl
 refine⟨_,?_,rfl⟩
 rw[ptV_at e1,Int.toNat_natCast]
 show((polsN q sec rnd).map fun c=>fm (modN q.fd) (pv c i%modN q.fd))[k]?=_
 rw[List.getElem?_map,polsN_get hk,Option.map_some,fm_mod]
theorem SomeS.facts (h:SomeS q sec rnd l) (h0:polE q sec rnd=0):shsN l=0/\pJ l=modN q.fd/\TJ l=q.T/\cJ l=q.cn/\chkV (ixs l)=0/\Kn q.fd/\1<=q.T:=by
 have hh:=h.head h0
 have hpr:=prN_ok (polE_ok h0).1
 refine⟨h.ok h0,by unfold pJ;rw[hh.1],by unfold TJ;rw[hh.2.1];rfl,by unfold cJ;rw[hh.2.2];rfl,(acc_hd (h.ok h0)).chkA,hpr.1,by unfold Pms.T;omega⟩
theorem SomeS.fit1 (h:SomeS q sec rnd l) (h0:polE q sec rnd=0) {i k:Nat} {s:Sh} (hs:l[i]?=some s) (hk:k<q.cn) {d:Nat} (hd:d<modN q.fd) {x:Nat} (hx:s.pl[k]?=some x) (hn:q.T<l.length) (j:Nat) (hj:j<q.cn):fitJ (modN q.fd) q.T (setP l i s (s.pl.set k ((x+d)%modN q.fd))) j=if j=k then decide (d=0) else true:=by
 obtain⟨_,_,_,_,hchk,hkn,hT1⟩:=h.facts h0
 obtain⟨p,hp⟩:∃ p,p=modN q.fd:=⟨_,rfl⟩
 obtain⟨i0,r,s',hF⟩:=fld_ofA hkn
 have hf:=(fld_full hF).2.1
 have hb:=big_p hkn
 rw[<-hp]at hd hF hf hb ⊢
 have h256:256<=p:=Nat.le_of_lt (Nat.lt_trans (by decide) hb)
 have hil:=(List.getElem?_eq_some_iff.1 hs).1
 have hpc:((polN q sec rnd j).map (·%p)).length=q.T:=by rw[List.length_map,polN_length q sec rnd j hT1]
 have hpl:∀ v∈(polN q sec rnd j).map (·%p),v<p:=fun v hv=>by
  obtain⟨y,_,rfl⟩:=List.mem_map.1 hv
  exact Nat.mod_lt _ hF.mp.pos
 have hval:∀ t,t<l.length->∀ y,(colN (setP l i s (s.pl.set k ((x+d)%p))) (j:Int))[t]?=some y->y=if t=i/\j=k then(fm p (pv (polN q sec rnd j) ((ptV (ixs l)).getD t 0))+d)%p else fm p (pv (polN q sec rnd j) ((ptV (ixs l)).getD t 0)):=fun t ht y hy=>by
  obtain⟨u,hu⟩:∃ u,l[t]?=some u:=⟨_,List.getElem?_eq_getElem ht⟩
  obtain⟨v,hv,ev⟩:=h.val h0 hj hu
  rw[<-hp]at hv
  unfold colN at hy
  rw[List.getElem?_map,setP_get hs]at hy
  rw[<-ev]
  by_cases hti:t=i
  ·subst hti
   rw[if_pos rfl,Option.map_some,if_pos (by omega),Int.toNat_natCast]at hy
   rw[hs]at hu
   cases hu
   have hkl:=(List.getElem?_eq_some_iff.1 hx).1
   by_cases hjk:j=k
   ·subst hjk
    rw[if_pos ⟨rfl,rfl⟩]
    rw[hx]at hv
    cases hv
    simp only[List.getD_eq_getElem?_getD,List.getElem?_set_self hkl,Option.getD_some,Option.some.injEq]at hy
    exact hy.symm
   rw[if_neg (fun c=>hjk c.2)]
   simp only[List.getD_eq_getElem?_getD,List.getElem?_set_ne (fun c=>hjk c.symm),hv,Option.getD_some,Option.some.injEq]at hy
   exact hy.symm
  rw[if_neg (fun c=>hti c.1)]
  rw[if_neg hti,hu,Option.map_some,if_pos (by omega),Int.toNat_natCast]at hy
  simp only[List.getD_eq_getElem?_getD,hv,Option.getD_some,Option.some.injEq]at hy
  exact hy.symm
 have hxl:(ptV (ixs l)).length=l.length:=ptV_ixs l
 have hys:∀ t,t<(ptV (ixs l)).length->(jys p (setP l i s (s.pl.set k ((x+d)%p))) j).getD t 0%p=(if t=i then pv ((polN q sec rnd j).map (·%p)) ((ptV (ixs l)).getD t 0)+(if j=k then mm p d 1 else 0) else pv ((polN q sec rnd j).map (·%p)) ((ptV (ixs l)).getD t 0))%p:=fun t ht=>by
  rw[hxl]at ht
  obtain⟨y,hy⟩:∃ y,(colN (setP l i s (s.pl.set k ((x+d)%p))) (j:Int))[t]?=some y:=⟨_,List.getElem?_eq_getElem (by rw[colN_length,setP_len];exact ht)⟩
  have e:=hval t ht y hy
  have hjy:(jys p (setP l i s (s.pl.set k ((x+d)%p))) j).getD t 0=mm p y 1:=by
   unfold jys
   rw[List.getD_eq_getElem?_getD,List.getElem?_map,hy];rfl
  rw[hjy]
  have hpr:=pv_redJ p ((ptV (ixs l)).getD t 0) (polN q sec rnd j)
  have hadd:∀ v,mm p ((fm p v+d)%p) 1=(v%p+mm p d 1)%p:=fun v=>by
   have a1:mm p ((fm p v+d)%p) 1%p=(mm p (fm p v) 1+mm p d 1)%p:=by
    unfold mm
    simp only[Nat.mul_one,Nat.mod_mod]
    rw[<-Nat.add_mod,<-Nat.add_mul]
    exact md_mul (by rw[<-Nat.add_mod,Nat.mod_mod]) rfl
   rw[mm_one hF.mp]at a1
   rw[<-a1,Nat.mod_eq_of_lt (mm_lt hF.mp _ _)]
  by_cases hti:t=i
  ·rw[if_pos hti]
   by_cases hjk:j=k
   ·rw[if_pos ⟨hti,hjk⟩]at e
    rw[if_pos hjk,e,hadd,Nat.mod_mod]
    exact md_add (by rw[Nat.mod_mod];exact hpr.symm) rfl
   rw[if_neg (fun c=>hjk c.2)]at e
   rw[if_neg hjk,e,mm_one hF.mp,Nat.mod_mod,Nat.add_zero,hpr]
  rw[if_neg (fun c=>hti c.1)]at e
  rw[if_neg hti,e,mm_one hF.mp,Nat.mod_mod,hpr]
 have he0:(if j=k then mm p d 1 else 0)<p:=by split;(· exact mm_lt hF.mp _ _);(· exact hF.mp.pos)
 have hl:=low_one hF.mp.one hf (ptV (ixs l)) (pts_lt h256 hchk) (pts_apart h256 hchk) ((polN q sec rnd j).map (·%p)) hpl (K:=q.T) (Nat.le_of_eq hpc) (by rw[hxl];exact hn) (i:=i) (by rw[hxl];exact hil) he0 (jys p (setP l i s (s.pl.set k ((x+d)%p))) j) hys
 unfold fitJ jpl
 rw[setP_ixs hs,hl]
 by_cases hjk:j=k
 ·rw[if_pos hjk,if_pos hjk]
  congr 1
  rw[eq_iff_iff]
  constructor
  ·intro hz
   have:=fm_out hF.mp hd
   rw[hz,fm_zero]at this
   exact this.symm
  intro hz
  rw[hz];simp[mm]
 rw[if_neg hjk,if_neg hjk];rfl
theorem SomeS.fit (h:SomeS q sec rnd l) (h0:polE q sec rnd=0) (j:Nat) (hj:j<q.cn):fitJ (modN q.fd) q.T l j=true:=by
 obtain⟨_,_,hT,_,hchk,hkn,hT1⟩:=h.facts h0
 by_cases hn:q.T<l.length
 ·obtain⟨s,hs⟩:∃ s,l[0]?=some s:=⟨_,List.getElem?_eq_getElem (by omega)⟩
  obtain⟨v,hv,_⟩:=h.val h0 hj hs
  have hpos:=(modN_pos hkn).1
  have hfl:fm (modN q.fd) v<modN q.fd:=fm_lt (by omega) v
  have h1:=h.fit1 h0 hs hj (d:=0) (by omega) hv hn j hj
  rw[if_pos rfl,Nat.add_zero,Nat.mod_eq_of_lt hfl]at h1
  have hset:s.pl.set j (fm (modN q.fd) v)=s.pl:=by
   apply List.ext_getElem?
   intro t
   by_cases ht:j=t
   ·subst ht;rw[List.getElem?_set_self (List.getElem?_eq_some_iff.1 hv).1,hv]
   rw[List.getElem?_set_ne ht]
  have hsame:setP l 0 s s.pl=l:=by
   apply List.ext_getElem?
   intro t
   rw[setP_get hs]
   by_cases ht:t=0
   ·rw[if_pos ht,ht,hs]
   rw[if_neg ht]
  rw[hset,hsame]at h1
  rw[h1];rfl
 exact low_long _ _ (by rw[ptV_ixs];omega)
theorem SomeS.con (h:SomeS q sec rnd l) (h0:polE q sec rnd=0):conL l=true:=by
 obtain⟨_,hp,hT,hc,_⟩:=h.facts h0
 unfold conL chsL
 rw[hp,hT,hc,List.all_eq_true]
 intro x hx
 obtain⟨k,hk,rfl⟩:=List.mem_map.1 hx
 exact h.fit h0 k (List.mem_range.1 hk)
theorem SomeS.erase (h:SomeS q sec rnd l) (hn:q.T<l.length) (i:Nat):SomeS q sec rnd (l.eraseIdx i):=by
 obtain⟨m,hp,hs⟩:=h.sub
 refine⟨⟨m,hp,(List.eraseIdx_sublist l i).trans hs⟩,?_⟩
 rw[List.length_eraseIdx]
 split <;> omega
structure Chg (q:Pms) (l':List Sh) (i k d:Nat):Prop where
 ok:shsN l'=0
 th:TJ l'=q.T
 cn:cJ l'=q.cn
 atk:(chsL l')[k]?=some (decide (d=0))
 con:conL l'=decide (d=0)
 sus:∀ n,i<n->i∈susL l' n
theorem SomeS.chg (h:SomeS q sec rnd l) (h0:polE q sec rnd=0) {i k:Nat} {s:Sh} (hs:l[i]?=some s) (hk:k<q.cn) {d:Nat} (hd:d<modN q.fd) {x:Nat} (hx:s.pl[k]?=some x) (hn:q.T<l.length):Chg q (setP l i s (s.pl.set k ((x+d)%modN q.fd))) i k d:=by
 obtain⟨hok,hp,hT,hc,_,hkn,_⟩:=h.facts h0
 have hpos:=(modN_pos hkn).1
 have hsf:s.fd=q.fd:=by
  obtain⟨_,_,_,e⟩:=h.share h0 (List.mem_of_getElem? hs)
  rw[e];rfl
 have hpl:=(acc_hd hok).all s (List.mem_of_getElem? hs)
 obtain⟨g1,g2,g3,g4⟩:=setP_ok hok hs (pl:=s.pl.set k ((x+d)%modN q.fd)) (by simp) (fun y hy=>by
  rw[hsf]
  rcases List.mem_or_eq_of_mem_set hy with hy | hy
  ·have:=hpl.2.2.2.2 y hy
   rw[show modN (hd0 l).fd=pJ l from rfl,hp]at this
   exact this
  rw[hy];exact Nat.mod_lt _ (by omega))
 have hch:chsL (setP l i s (s.pl.set k ((x+d)%modN q.fd)))=(List.range q.cn).map (fun j=>if j=k then decide (d=0) else true):=by
  unfold chsL
  rw[g2,g3,g4,hp,hT,hc]
  exact List.map_congr_left fun j hj=>h.fit1 h0 hs hk hd hx hn j (List.mem_range.1 hj)
 have hat:(chsL (setP l i s (s.pl.set k ((x+d)%modN q.fd))))[k]?=some (decide (d=0)):=by
  rw[hch,List.getElem?_map,List.getElem?_range hk,Option.map_some,if_pos rfl]
 refine⟨g1,by rw[g3,hT],by rw[g4,hc],hat,?_,fun n hi=>?_⟩
 ·unfold conL
  by_cases hz:d=0
  ·rw[hch,decide_eq_true hz,List.all_eq_true]
   intro y hy
   obtain⟨j,_,rfl⟩:=List.mem_map.1 hy
   split <;> rfl
  rw[decide_eq_false hz]at hat ⊢
  rw[Bool.eq_false_iff]
  intro c
  rw[List.all_eq_true]at c
  exact absurd (c false (List.mem_of_getElem? hat)) (by decide)
 refine List.mem_filter.2 ⟨List.mem_range.2 hi,?_⟩
 have he:(setP l i s (s.pl.set k ((x+d)%modN q.fd))).eraseIdx i=l.eraseIdx i:=by
  apply List.ext_getElem?
  intro t
  rw[List.getElem?_eraseIdx,List.getElem?_eraseIdx]
  split
  ·rw[setP_get hs,if_neg (by omega)]
  rw[setP_get hs,if_neg (by omega)]
 rw[he]
 exact(h.erase hn i).con h0
end
end Go.Proofs.YtbkgghhngeibhaaGreatDoor
