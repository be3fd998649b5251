/-
  Sharings in plain terms: the polynomials of a secret's chunks, the shares of polynomials, the errors, the events. Plain facts.
-/
import Derived.Test.YtpfjgifcjengkaaGreatDoorChkGrp
import Derived.Test.YtpfjgifcjengkaaGreatDoorParGrp
import Derived.Test.YtpfjgifcjengkaaGreatDoorSrcGrp
namespace Go.Proofs.YtpfjgifcjengkaaGreatDoor
def Pms.T (q:Pms):Nat:=q.th.toNat
def Pms.cn (q:Pms):Nat:=cntI q.ln
def polN (q:Pms) (sec rnd:List Nat) (i:Nat):List Nat:=numB (chk sec i)::elsK (rnd.drop (64*((q.T-1)*i))) (q.T-1)
def polsN (q:Pms) (sec rnd:List Nat):List (List Nat):=(List.range q.cn).map (polN q sec rnd)
def payN (p:Nat) (cs:List (List Nat)) (i:Nat):List Nat:=cs.map fun c=>fm p (pv c i%p)
def shrN (q:Pms) (p:Nat) (cs:List (List Nat)) (i:Nat):Sh:=⟨q.fd,q.th,(i:Int),q.ln,payN p cs i⟩
theorem polN_length (q:Pms) (sec rnd:List Nat) (i:Nat) (h:1<=q.T):(polN q sec rnd i).length=q.T:=by simp[polN,elsK_length];omega
theorem polsN_get {q:Pms} {sec rnd:List Nat} {i:Nat} (h:i<q.cn):(polsN q sec rnd)[i]?=some (polN q sec rnd i):=by simp[polsN,h]
def chEv (T k:Nat):List Ev:=(List.range k).flatMap fun j:Nat=>((4:Int),(j:Int),(0:Int))::coefD T (List.range T)
def dealEv (cn T k:Nat):List Ev:=(List.range k).flatMap fun j:Nat=>((5:Int),((j+1:Nat):Int),(0:Int))::chEv T cn
end Go.Proofs.YtpfjgifcjengkaaGreatDoor
