/-
  Contracts of the reference's Modulus and Get (package sharecoreref04) over this seat's translation: the moduli and the constants of the fields. Conditions: as each says.
-/
import Derived.Test.YtbkgghhngeibhaaGreatDoorLimbWords
import Derived.Test.YtbkgghhngeibhaaGreatDoorPrimes
import Derived.ProofKit
namespace Go.Proofs.YtbkgghhngeibhaaGreatDoor
open Lib (hid)
open Go.RowKit

theorem p1_lt:P1<R256:=by decide
theorem p2_lt:P2<R256:=by decide
theorem p1_one:1<P1:=by decide
theorem p2_one:1<P2:=by decide
theorem lit_p1:V P1=.agg #[.int .u64 18446744073709551597,.int .u64 18446744073709551615,.int .u64 18446744073709551615,.int .u64 9223372036854775807]:=by
 have h:wd P1 0=18446744073709551597/\wd P1 1=18446744073709551615/\wd P1 2=18446744073709551615/\wd P1 3=9223372036854775807:=by decide
 simp only[V,h.1,h.2.1,h.2.2.1,h.2.2.2];rfl
theorem lit_p2:V P2=.agg #[.int .u64 17562291160714782033,.int .u64 13611842547513532036,.int .u64 18446744073709551615,.int .u64 18446744069414584320]:=by
 have h:wd P2 0=17562291160714782033/\wd P2 1=13611842547513532036/\wd P2 2=18446744073709551615/\wd P2 3=18446744069414584320:=by decide
 simp only[V,h.1,h.2.1,h.2.2.1,h.2.2.2];rfl
def modN (id:Int):Nat:=if id=1 then P1 else if id=2 then P2 else 0
theorem fermat_p1 (x:Nat) (hx:x%P1≠0):x^(P1-1)%P1=1:=both_P1.2 x hx
theorem fermat_p2 (x:Nat) (hx:x%P2≠0):x^(P2-1)%P2=1:=both_P2.2 x hx
theorem inverse_of {p:Nat} (h1:1<p) (hf:∀ x,x%p≠0->x^(p-1)%p=1) (x:Nat) (hx:x%p≠0):x*(x^(p-2)%p)%p=1:=by
 rw[Nat.mul_mod_mod,Nat.mul_comm,<-Nat.pow_succ,show(p-2).succ=p-1 by omega]
 exact hf x hx

set_option maxHeartbeats 1000000 in
theorem mod_modulus (id:Int) (w:World) :
  Calls Tryz.prog 30 #[.int .i64 id] w fun e w'=>e=.returned (V (modN id))/\Off (fun _=>False) w w':=by
 have L1:=hid lit_p1
 have L2:=hid lit_p2
 have L0:=hid (lit_small 0 (by decide))
 by_cases h1:id=1
 ·subst h1
  have e:modN 1=P1:=rfl
  rw[e,L1.out]
  clear e
  go_enter Tryz.func30,Tryz.ntmps30
  go_wp2
  refine bodyPost_ret (v:=.agg #[.int .u64 18446744073709551597,.int .u64 18446744073709551615,.int .u64 18446744073709551615,.int .u64 9223372036854775807]) (by simp[results,Tryz.results30,go_sem]) rfl ⟨rfl,?_⟩
  exact(Off.refl _ w).alloc _
 by_cases h2:id=2
 ·subst h2
  have e:modN 2=P2:=rfl
  rw[e,L2.out]
  clear e h1
  go_enter Tryz.func30,Tryz.ntmps30
  go_wp2
  refine bodyPost_ret (v:=.agg #[.int .u64 17562291160714782033,.int .u64 13611842547513532036,.int .u64 18446744073709551615,.int .u64 18446744069414584320]) (by simp[results,Tryz.results30,go_sem]) rfl ⟨rfl,?_⟩
  exact(Off.refl _ w).alloc _
 have e:modN id=0:=by unfold modN;rw[if_neg h1,if_neg h2]
 rw[e,L0.out]
 have t1:(id==1)=false:=by simpa using h1
 have t2:(id==2)=false:=by simpa using h2
 clear e h1 h2
 go_enter Tryz.func30,Tryz.ntmps30
 go_wp2
 refine bodyPost_ret (v:=.agg #[.int .u64 0,.int .u64 0,.int .u64 0,.int .u64 0]) (by simp[results,Tryz.results30,go_sem]) rfl ⟨rfl,?_⟩
 exact(Off.refl _ w).alloc _

def invStep (q x:Nat):Nat:=x*((2+18446744073709551616-q*x%18446744073709551616)%18446744073709551616)%18446744073709551616
def invV (q:Nat):Nat->Nat
 | 0=>1
 | k+1=>invStep q (invV q k)
def negInv (q:Nat):Nat:=(18446744073709551616-invV q 6)%18446744073709551616
abbrev FV (id:Int) (p i r s:Nat):Value:=.agg #[.int .i64 id,.int .u64 (wd p 0),.int .u64 (wd p 1),.int .u64 (wd p 2),.int .u64 (wd p 3),.int .u64 i,.int .u64 (wd r 0),.int .u64 (wd r 1),.int .u64 (wd r 2),.int .u64 (wd r 3),.int .u64 (wd s 0),.int .u64 (wd s 1),.int .u64 (wd s 2),.int .u64 (wd s 3)]
theorem setCells_off (b:Nat):∀ (vs:List Value) (o:Nat) (w:World),Off (fun k=>k=b) w (w.setCells b o vs)
 | [],_,w=>Off.refl _ w
 | v::r,o,w=>((Off.refl (fun k=>k=b) w).setCell (p:=⟨b,o,none⟩) (fun _=>rfl) v).trans (setCells_off b r (o+1) _) (fun _ _ h=>h)
end Go.Proofs.YtbkgghhngeibhaaGreatDoor
