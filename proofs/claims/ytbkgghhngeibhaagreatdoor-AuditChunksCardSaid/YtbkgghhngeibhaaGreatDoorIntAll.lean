/-
  Slices of ints in memory. Plain facts on worlds; no condition.
-/
import Derived.Test.YtbkgghhngeibhaaGreatDoorFrame
namespace Go.Proofs.YtbkgghhngeibhaaGreatDoor
section
open Go.RowKit

def IvAt (w:World) (v:Value) (xs:List Int) (S:Nat->Prop):Prop :=
 ∃ a cap,v=.slice a xs.length cap/\xs.length<=maxLen/\(∀ x∈xs,(Lit.int .i64 x).wf=true)/\(0<xs.length->∃ b off,a=some ⟨b,off,none⟩/\S b/\∀ j x,xs[j]?=some x->w.cell? ⟨b,off+j,none⟩=some (.int .i64 x))
theorem IvAt.off {w w':World} {v:Value} {xs:List Int} {S S':Nat->Prop} (h:IvAt w v xs S) (ho:Off S' w w') (hd:∀ k,k<w.heap.size->S k->¬S' k):IvAt w' v xs S:=by
 obtain⟨a,cap,hv,h1,h2,h4⟩:=h
 refine⟨a,cap,hv,h1,h2,fun hp=>?_⟩
 obtain⟨b,off,ha,hS,hc⟩:=h4 hp
 refine⟨b,off,ha,hS,fun j e hj=>?_⟩
 have he:=hc j e hj
 exact ho.cell he (hd b (World.block_lt_of_cell? w _ he) hS)
theorem IvAt.mono {w:World} {v:Value} {xs:List Int} {S S':Nat->Prop} (h:IvAt w v xs S) (hs:∀ k,k<w.heap.size->S k->S' k):IvAt w v xs S':=by
 obtain⟨a,cap,hv,h1,h2,h4⟩:=h
 refine⟨a,cap,hv,h1,h2,fun hp=>?_⟩
 obtain⟨b,off,ha,hS,hc⟩:=h4 hp
 refine⟨b,off,ha,hs b ?_ hS,hc⟩
 obtain⟨e,he⟩:∃ e,xs[0]?=some e:=⟨xs[0],List.getElem?_eq_getElem hp⟩
 exact World.block_lt_of_cell? w _ (hc 0 e he)
theorem IvAt.len {w:World} {a:Option Addr} {n cap:Nat} {xs:List Int} {S:Nat->Prop} (h:IvAt w (.slice a n cap) xs S):n=xs.length/\n<=maxLen/\∀ x∈xs,(Lit.int .i64 x).wf=true:=by
 obtain⟨a',cap',e,h1,h2,_⟩:=h
 simp at e
 exact⟨e.2.1,by omega,h2⟩
theorem IvAt.at {w:World} {a:Option Addr} {n cap:Nat} {xs:List Int} {S:Nat->Prop} (h:IvAt w (.slice a n cap) xs S) {k:Nat} (hk:k<n):∃ x b off,xs[k]?=some x/\a=some ⟨b,off,none⟩/\w.cell? ⟨b,off+k,none⟩=some (.int .i64 x)/\(Lit.int .i64 x).wf=true/\S b:=by
 obtain⟨a',cap',e,h1,h2,h4⟩:=h
 simp at e
 obtain⟨rfl,rfl,rfl⟩:=e
 obtain⟨b,off,ha,hS,hc⟩:=h4 (by omega)
 have hx:xs[k]?=some xs[k]:=List.getElem?_eq_getElem hk
 exact⟨xs[k],b,off,hx,ha,hc k _ hx,h2 _ (List.getElem_mem _),hS⟩
def Iv (w:World) (v:Value) (xs:List Int):Prop:=IvAt w v xs (fun _=>True)
theorem Iv.off {w w':World} {v:Value} {xs:List Int} (h:Iv w v xs) (ho:Off (fun _=>False) w w'):Iv w' v xs:=IvAt.off h ho (fun _ _ _ c=>c)
theorem Iv.of {w:World} {v:Value} {xs:List Int} {S:Nat->Prop} (h:IvAt w v xs S):Iv w v xs:=h.mono (fun _ _ _=>trivial)
theorem Iv.lt {w:World} {v:Value} {xs:List Int} (h:Iv w v xs):IvAt w v xs (fun k=>k<w.heap.size):=IvAt.mono h (fun _ hk _=>hk)
theorem Iv.open {w:World} {v:Value} {xs:List Int} (h:Iv w v xs):∃ a cap,v=.slice a xs.length cap/\IvAt w (.slice a xs.length cap) xs (fun k=>k<w.heap.size):=by
 have h2:=Iv.lt h
 obtain⟨a,cap,hv,_⟩:=h
 exact⟨a,cap,hv,hv▸h2⟩
end
end Go.Proofs.YtbkgghhngeibhaaGreatDoor
