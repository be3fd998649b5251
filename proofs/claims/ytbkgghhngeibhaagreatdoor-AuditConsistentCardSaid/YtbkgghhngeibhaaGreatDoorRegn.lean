/-
  Regions that draw their order, whose operations only read and whose callees leave the older memory as it was: one walk in the order of the text. Plain facts on the model's regions; no condition.
  The rule of regions that draw their order, with more: what has been carried out is closed under what it waits for. Plain facts on the model's regions; no condition.
-/
import Derived.Test.YtbkgghhngeibhaaGreatDoorFrame
import Derived.BigQuiet
import Derived.Test.YtbkgghhngeibhaaGreatDoorInvAll
namespace Go.Proofs.YtbkgghhngeibhaaGreatDoor
section
section
variable {P:Program} {W0:World} {T:Type} {g:T->World}
structure OffC (W0:World) (g:T->World):Prop where
 off:∀ t,Off (fun _=>False) W0 (g t)
 all:∀ w,Off (fun _=>False) W0 w->∃ t,w=g t
theorem OffC.cell (h:OffC W0 g) {p:Addr} {v:Value} (hc:W0.cell? p=some v) (t:T):(g t).cell? p=some v:=(h.off t).cell hc (fun c=>c)
theorem OffC.call (h:OffC W0 g) {f:FuncId} {args:Array Value} {v:Value} {t:T} (hc:Calls P f args (g t) fun e w'=>e=.returned v/\Off (fun _=>False) (g t) w') :
  Calls P f args (g t) fun e w''=>e=.returned v/\∃ t',w''=g t' :=
 hc.mono fun _ _ ⟨he,ho⟩=>⟨he,h.all _ ((h.off t).trans ho (fun _ _ c=>c))⟩
theorem wp_region_off {id:Nat} {Q:Exit->Act->World->Prop} {a:Act} {l:List Oper} (hm:P.follows .mixedOrders=true) (hB:Region.lexB .any l.toArray=true)
  (h:∀ (T:Type) [Nonempty T] (g:T->World),OffC W0 g->wpQuiet P l.toArray (fun w'=>∃ t,w'=g t) (fun a'=>∀ w',(∃ t,w'=g t)->Q .normal a' w') l a):(Code.region id l.toArray true).wp P Q a W0 :=
 have:Nonempty {w:World // Off (fun _=>False) W0 w}:=⟨⟨W0,Off.refl _ W0⟩⟩
 wp_region_quiet (C:=fun w'=>∃ t:{w:World // Off (fun _=>False) W0 w},w'=t.1) hm hB ⟨⟨_,(Off.refl _ W0).drew⟩,rfl⟩
  (by simpa using h {w:World // Off (fun _=>False) W0 w} (fun t=>t.1) ⟨fun t=>t.2,fun w hw=>⟨⟨w,hw⟩,rfl⟩⟩)
end
end
section
section
variable {P:Program} {ops:Array Oper} {Q:Exit->Act->World->Prop}
def depsAt (ops:Array Oper) (i:Nat):List Nat:=match ops[i]? with
 | some o=>depsOf o
 | none=>[]
def Clo (ops:Array Oper) (l:Nat->Bool):Prop:=∀ i,l i=true->∀ d∈depsAt ops i,l d=true
def reach (ops:Array Oper):Nat->Nat->Nat->Bool
 | 0,_,_=>false
 | f+1,i,d=>(depsAt ops i).any fun e=>e==d||reach ops f e d
theorem Clo.up {l:Nat->Bool} (h:Clo ops l):∀ (f i d:Nat),l i=true->reach ops f i d=true->l d=true
 | 0,_,_,_,hr=>by simp[reach]at hr
 | f+1,i,d,hi,hr=>by
  rw[reach,List.any_eq_true]at hr
  obtain⟨e,he,hx⟩:=hr
  have h1:=h i hi e he
  rw[Bool.or_eq_true]at hx
  rcases hx with hx | hx
  ·have:e=d:=by simpa using hx
   subst this;exact h1
  exact Clo.up h f e d h1 hx
theorem Clo.not {l:Nat->Bool} (h:Clo ops l) {i d:Nat} (hd:l d=false) (f:Nat) (hr:reach ops f i d=true):l i=false:=by
 cases hi:l i with
 | false=>rfl
 | true=>rw[h.up f i d hi hr]at hd;cases hd
theorem Clo.upd {l:Nat->Bool} (h:Clo ops l) {i:Nat} (hd:∀ d∈depsAt ops i,l d=true):Clo ops (upd l i):=by
 intro j hj d hdj
 by_cases e:d=i
 ·subst e;exact upd_same _ _
 rw[upd_ne _ e]
 by_cases ej:j=i
 ·subst ej;exact hd d hdj
 rw[upd_ne _ ej]at hj;exact h j hj d hdj
def StepClo (P:Program) (ops:Array Oper) (Q:Exit->Act->World->Prop) (I:(Nat->Bool)->Act->World->Prop) (i:Nat) (o:Oper):Prop :=
 ∀ l a w,I l a w->Clo ops l->l i=false->(∀ d∈depsOf o,l d=true)->∀ K':Act->World->Prop,Shut (∀ a' w',I (upd l i) a' w'->K' a' w')->if Region.wanted o (yielded ops a.tmps)=true then Oper.wp P o a w K' Q else K' (a.put o.dst undef) w
def StepsClo (P:Program) (ops:Array Oper) (Q:Exit->Act->World->Prop) (I:(Nat->Bool)->Act->World->Prop):Nat->List Oper->Prop
 | _,[]=>True
 | s,o::r=>StepClo P ops Q I s o/\StepsClo P ops Q I (s+1) r
theorem steps_clo {I:(Nat->Bool)->Act->World->Prop}:∀ (s:Nat) (r:List Oper),(∀ k o,r[k]?=some o->ops[s+k]?=some o)->StepsClo P ops Q I s r->StepsAt P ops Q (fun l a w=>I l a w/\Clo ops l) s r
 | _,[],_,_=>trivial
 | s,o::r,hg,h=>by
  refine⟨?_,steps_clo (s+1) r (fun k o' hk=>by have:=hg (k+1) o' (by simpa using hk);rwa [show s+1+k=s+(k+1) by omega]) h.2⟩
  intro l a w hI hl hd K' hK
  have ho:ops[s]?=some o:=by simpa using hg 0 o rfl
  exact h.1 l a w hI.1 hI.2 hl hd K' (show Shut _ from fun a' w' h'=>Shut.out hK a' w' ⟨h',hI.2.upd (fun d hd'=>hd d (by unfold depsAt at hd';rw[ho]at hd';exact hd'))⟩)
theorem wp_region_clo {id:Nat} {a:Act} {w:World} (I:Act->(Nat->Bool)->Act->World->Prop) (hm:P.follows .mixedOrders=true) (hb:backB ops=true)
  (h0:I a (fun _=>false) a w.drew) (hs:StepsClo P ops Q (I a) 0 ops.toList)
  (done:∀ l a' w',I a l a' w'->(∀ i,i<ops.size->l i=true)->Q .normal a' w'):(Code.region id ops true).wp P Q a w :=
 wp_region_inv (fun a0 l a' w'=>I a0 l a' w'/\Clo ops l) hm hb ⟨h0,fun _ h=>by cases h⟩ (steps_clo 0 _ (fun k o hk=>by simpa using hk) hs) (fun l a' w' h=>done l a' w' h.1)
end
theorem sel_no {b:Bool} (h:b=false) (v z:Value):sel b v z=z:=by unfold sel;rw[if_neg (by simp[h])]
end
end Go.Proofs.YtbkgghhngeibhaaGreatDoor
