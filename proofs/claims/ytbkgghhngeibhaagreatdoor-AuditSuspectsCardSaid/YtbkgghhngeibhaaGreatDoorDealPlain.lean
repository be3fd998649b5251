/-
  Sharings in plain terms: the polynomials of a secret's chunks, the shares of polynomials, the errors, the events. Plain facts.
-/
import Derived.Test.YtbkgghhngeibhaaGreatDoorChkGrp
import Derived.Test.YtbkgghhngeibhaaGreatDoorParGrp
import Derived.Test.YtbkgghhngeibhaaGreatDoorSrcGrp
namespace Go.Proofs.YtbkgghhngeibhaaGreatDoor
def Pms.T (q:Pms):Nat:=q.th.toNat
def Pms.cn (q:Pms):Nat:=cntI q.ln
def polN (q:Pms) (sec rnd:List Nat) (i:Nat):List Nat:=numB (chk sec i)::elsK (rnd.drop (64*((q.T-1)*i))) (q.T-1)
def polsN (q:Pms) (sec rnd:List Nat):List (List Nat):=(List.range q.cn).map (polN q sec rnd)
def polE (q:Pms) (sec rnd:List Nat):Nat:=if prN q≠0 then prN q else if (sec.length:Int)≠q.ln then 8 else if (rnd.length:Int)<rndN q then 7 else 0
def payN (p:Nat) (cs:List (List Nat)) (i:Nat):List Nat:=cs.map fun c=>fm p (pv c i%p)
def shrN (q:Pms) (p:Nat) (cs:List (List Nat)) (i:Nat):Sh:=⟨q.fd,q.th,(i:Int),q.ln,payN p cs i⟩
def shrsN (q:Pms) (p:Nat) (cs:List (List Nat)):List Sh:=(List.range q.sh.toNat).map fun k=>shrN q p cs (k+1)
theorem polN_length (q:Pms) (sec rnd:List Nat) (i:Nat) (h:1<=q.T):(polN q sec rnd i).length=q.T:=by simp[polN,elsK_length];omega
theorem polsN_length (q:Pms) (sec rnd:List Nat):(polsN q sec rnd).length=q.cn:=by simp[polsN]
theorem polsN_get {q:Pms} {sec rnd:List Nat} {i:Nat} (h:i<q.cn):(polsN q sec rnd)[i]?=some (polN q sec rnd i):=by simp[polsN,h]
theorem prN_ok {q:Pms} (h:prN q=0):Kn q.fd/\1<=q.sh/\q.sh<=255/\1<=q.th/\q.th<=q.sh/\0<=q.ln/\q.ln<=65535:=by
 unfold prN at h
 split at h
 ·exact absurd h (by decide)
 next c1 =>
 split at h
 ·exact absurd h (by decide)
 split at h
 ·exact absurd h (by decide)
 split at h
 ·exact absurd h (by decide)
 exact⟨by simpa using c1,by omega,by omega,by omega,by omega,by omega,by omega⟩
theorem polE_ok {q:Pms} {sec rnd:List Nat} (h:polE q sec rnd=0):prN q=0/\(sec.length:Int)=q.ln/\64*((q.T-1)*q.cn)<=rnd.length:=by
 unfold polE at h
 split at h
 ·next c=>exact absurd h c
 next c1 =>
 have h0:prN q=0:=by omega
 split at h
 ·exact absurd h (by decide)
 split at h
 ·exact absurd h (by decide)
 next c2 c3 =>
 refine⟨h0,by omega,?_⟩
 have ho:=prN_ok h0
 unfold rndN at c3
 rw[if_pos h0]at c3
 have e:(q.th-1)=((q.T-1:Nat):Int):=by unfold Pms.T;omega
 rw[e]at c3
 have e2:64*((q.T-1:Nat):Int)*(cntI q.ln:Int)=((64*((q.T-1)*q.cn):Nat):Int):=by unfold Pms.cn;push_cast;rw[Int.mul_assoc]
 rw[e2]at c3
 omega
end Go.Proofs.YtbkgghhngeibhaaGreatDoor
