/-
  Arguments of statements, opened: a list of numbers of four words; two such lists. No condition.
-/
import Derived.Test.YtbkgghhngeibhaaGreatDoorNumsT
import Derived.Deep.Strs
namespace Go.Proofs.YtbkgghhngeibhaaGreatDoor
open Go.RowKit Go.ChangeShapes Go.WideShapes Go.ChangeAt Go.Deep

def VsAt (w:World) (v:Value) (xs:List Nat) (S:Nat->Prop):Prop :=
 ∃ a cap,v=.slice a xs.length cap/\xs.length<=maxLen/\(∀ x∈xs,x<R256)/\(0<xs.length->∃ b off,a=some ⟨b,off,none⟩/\S b/\∀ j x,xs[j]?=some x->elAt w b (off+j*4) x)
theorem VsAt.get {w:World} {a:Option Addr} {n cap:Nat} {xs:List Nat} {S:Nat->Prop} (h:VsAt w (.slice a n cap) xs S) {j x:Nat} (hx:xs[j]?=some x):∃ b off,a=some ⟨b,off,none⟩/\S b/\elAt w b (off+j*4) x:=by
 obtain⟨a',cap',e,_,_,h4⟩:=h
 simp at e
 obtain⟨rfl,rfl,rfl⟩:=e
 obtain⟨b,off,ha,hS,hc⟩:=h4 (by have:=(List.getElem?_eq_some_iff.1 hx).1;omega)
 exact⟨b,off,ha,hS,hc j x hx⟩
theorem VsAt.len {w:World} {a:Option Addr} {n cap:Nat} {xs:List Nat} {S:Nat->Prop} (h:VsAt w (.slice a n cap) xs S):n=xs.length/\n<=maxLen/\∀ x∈xs,x<R256:=by
 obtain⟨a',cap',e,h1,h2,_⟩:=h
 simp at e
 exact⟨e.2.1,by omega,h2⟩
theorem VsAt.off {w w':World} {v:Value} {xs:List Nat} {S S':Nat->Prop} (h:VsAt w v xs S) (ho:Off S' w w') (hd:∀ k,k<w.heap.size->S k->¬S' k):VsAt w' v xs S:=by
 obtain⟨a,cap,hv,h1,h2,h4⟩:=h
 refine⟨a,cap,hv,h1,h2,fun hp=>?_⟩
 obtain⟨b,off,ha,hS,hc⟩:=h4 hp
 refine⟨b,off,ha,hS,fun j e hj=>?_⟩
 have he:=hc j e hj
 exact he.off ho (hd b (World.block_lt_of_cell? w _ he.1) hS)
end Go.Proofs.YtbkgghhngeibhaaGreatDoor
