/-
  Some of the shares that the reference of layer 16 makes, in another order: they are accepted, and the secret and each share are found from them. Conditions: the parameters, the secret and the random bytes are correct.
-/
import Derived.Test.YtbkgghhngeibhaaGreatDoorDealPlain
import Derived.Test.YtbkgghhngeibhaaGreatDoorJoinLow
import Derived.Test.YtbkgghhngeibhaaGreatDoorParEnd
namespace Go.Proofs.YtbkgghhngeibhaaGreatDoor
open Go.RowKit
set_option maxRecDepth 100000
theorem shrsN_length17 (q:Pms) (p:Nat) (cs:List (List Nat)):(shrsN q p cs).length=q.sh.toNat:=by simp[shrsN]
theorem shrsN_get17 {q:Pms} {p:Nat} {cs:List (List Nat)} {k:Nat} (h:k<q.sh.toNat):(shrsN q p cs)[k]?=some (shrN q p cs (k+1)):=by simp[shrsN,h]
theorem shrsN_mem17 {q:Pms} {p:Nat} {cs:List (List Nat)} {s:Sh} (h:s∈shrsN q p cs):∃ i,1<=i/\i<=q.sh.toNat/\s=shrN q p cs i:=by
 obtain⟨i,hi,rfl⟩:=List.mem_map.1 h
 have:=List.mem_range.1 hi
 exact⟨i+1,by omega,by omega,rfl⟩
theorem fm_lt17 {p:Nat} (h1:0<p) (x:Nat):fm p x<p:=by unfold fm;exact Nat.mod_lt _ h1
theorem shrN_zero17 {q:Pms} (h0:prN q=0) {cs:List (List Nat)} (hc:cs.length=q.cn) {i:Nat} (h1:1<=i) (h2:i<=255):shN (shrN q (modN q.fd) cs i)=0:=by
 obtain⟨k,s1,s2,t1,t2,l1,l2⟩:=prN_ok h0
 have hp:=modN_pos k
 unfold shN shrN
 dsimp only
 rw[if_neg (fun h=>h k),if_neg (by omega),if_neg (by omega),if_neg (by omega),if_neg (fun h=>h (by simp[payN,hc,Pms.cn])),if_pos]
 intro x hx
 obtain⟨c,_,rfl⟩:=List.mem_map.1 hx
 exact fm_lt17 (by omega) _
theorem shrs_ok17 {q:Pms} (h0:prN q=0) {cs:List (List Nat)} (hc:cs.length=q.cn):shsN (shrsN q (modN q.fd) cs)=0:=by
 obtain⟨k,s1,s2,t1,t2,l1,l2⟩:=prN_ok h0
 have f1:firstE (shrsN q (modN q.fd) cs)=0:=firstE_zero.2 (fun s hs=>by
  obtain⟨i,hi,rfl⟩:=List.mem_map.1 hs
  have:=List.mem_range.1 hi
  exact shrN_zero17 h0 hc (by omega) (by omega))
 have f2:OneH (shrsN q (modN q.fd) cs):=fun s hs t ht=>by
  obtain⟨i,_,rfl⟩:=List.mem_map.1 hs
  obtain⟨j,_,rfl⟩:=List.mem_map.1 ht
  exact⟨rfl,rfl,rfl⟩
 have f3:(ixs (shrsN q (modN q.fd) cs)).Nodup:=nodup_ix.2 (fun j i s t hij hj hi=>by
  have h1:=(List.getElem?_eq_some_iff.1 hj).1
  have h2:=(List.getElem?_eq_some_iff.1 hi).1
  rw[shrsN_length17]at h1 h2
  rw[shrsN_get17 h1]at hj
  rw[shrsN_get17 h2]at hi
  cases hj;cases hi
  show((j+1:Nat):Int)≠((i+1:Nat):Int)
  omega)
 have f4:(shrsN q (modN q.fd) cs)[0]?=some (shrN q (modN q.fd) cs 1):=shrsN_get17 (by omega)
 rw[shsN_end f1 f2 f3 f4,shrsN_length17,if_neg]
 show ¬((q.sh.toNat:Nat):Int)<q.th
 omega
structure SomeS (q:Pms) (sec rnd:List Nat) (l:List Sh):Prop where
 sub:∃ m,(shrsN q (modN q.fd) (polsN q sec rnd)).Perm m/\l.Sublist m
 few:q.T<=l.length
section
variable {q:Pms} {sec rnd:List Nat} {l:List Sh}
theorem SomeS.share (h:SomeS q sec rnd l) (h0:polE q sec rnd=0) {s:Sh} (hs:s∈l):∃ i,1<=i/\i<=255/\s=shrN q (modN q.fd) (polsN q sec rnd) i:=by
 obtain⟨m,hp,hsub⟩:=h.sub
 obtain⟨i,h1,h2,e⟩:=shrsN_mem17 (hp.mem_iff.2 (hsub.subset hs))
 have:=prN_ok (polE_ok h0).1
 exact⟨i,h1,by omega,e⟩
theorem SomeS.ok (h:SomeS q sec rnd l) (h0:polE q sec rnd=0):shsN l=0:=by
 obtain⟨m,hp,hsub⟩:=h.sub
 have hpr:=(polE_ok h0).1
 have hk:=shrs_ok17 hpr (polsN_length q sec rnd)
 have h1:=shsN_perm hp (shsN_ok hk).1
 rw[hk]at h1
 obtain⟨t,ht⟩:∃ t,m[0]?=some t:=by
  have:=hp.length_eq
  rw[shrsN_length17]at this
  have:=prN_ok hpr
  exact⟨m[0]'(by omega),List.getElem?_eq_getElem _⟩
 rw[shsN_sub h1 hsub ht,if_neg]
 obtain⟨i,_,_,rfl⟩:=shrsN_mem17 (hp.mem_iff.2 (List.mem_of_getElem? ht))
 have:=h.few
 show ¬(l.length:Int)<q.th
 unfold Pms.T at this
 omega
theorem SomeS.head (h:SomeS q sec rnd l) (h0:polE q sec rnd=0):(hd0 l).fd=q.fd/\(hd0 l).th=q.th/\(hd0 l).ln=q.ln:=by
 obtain⟨i,_,_,e⟩:=h.share h0 (List.mem_of_getElem? (acc_hd (h.ok h0)).first)
 rw[e]
 exact⟨rfl,rfl,rfl⟩
end
end Go.Proofs.YtbkgghhngeibhaaGreatDoor
