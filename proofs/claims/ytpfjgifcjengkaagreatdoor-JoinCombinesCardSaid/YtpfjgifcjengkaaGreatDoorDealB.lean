/-
  Lists of lists of numbers in memory. Plain facts; no condition.
  Rows of the call's own that hold lists of numbers which are rows of the call's own. Condition: the lists are short.
-/
import Derived.Test.YtpfjgifcjengkaaGreatDoorNumsT
import Derived.Deep.OwnRows
import Derived.Shelf.Bytes.SlEqualAll
import Derived.Deep.DeepCutAuto
import Derived.Deep.DrawnRows
import Derived.Deep.RegionHeld3
import Derived.Laws.AppendOwnNone
import Derived.Lib.Hide
import Derived.Lib.LaidTab
import Derived.LoopIn
import Derived.LoopNIn
import Derived.MakeChecks
import Derived.OpenShut
import Derived.OwnWalkIn
import Derived.ProofKit
import Derived.RangeFuncBound
import Derived.RangeFuncNested
import Derived.Shelf.RegionOpen
import Derived.Shelf.Spec.BitsCarry
import Derived.StillTailTactics
import Derived.Test.YtpfjgifcjengkaaGreatDoorChecked
import Derived.WalkLawsBesides
import Derived.WalkSpells
namespace Go.Proofs.YtpfjgifcjengkaaGreatDoor
section
def LLsAt (w:World) (v:Value) (yss:List (List Nat)) (S:Nat->Prop):Prop :=
 ∃ a cap,v=.slice a yss.length cap/\yss.length<=1000/\(0<yss.length->∃ b off,a=some ⟨b,off,none⟩/\S b/\∀ j ys,yss[j]?=some ys->∃ u,w.cell? ⟨b,off+j,none⟩=some u/\LsAt w u ys S)
theorem LLsAt.off {w w':World} {v:Value} {yss:List (List Nat)} {S S':Nat->Prop} (h:LLsAt w v yss S) (ho:Off S' w w') (hd:∀ k,k<w.heap.size->S k->¬S' k):LLsAt w' v yss S:=by
 obtain⟨a,cap,hv,h1,h4⟩:=h
 refine⟨a,cap,hv,h1,fun hp=>?_⟩
 obtain⟨b,off,ha,hS,hc⟩:=h4 hp
 refine⟨b,off,ha,hS,fun j ys hj=>?_⟩
 obtain⟨u,h2,h3⟩:=hc j ys hj
 exact⟨u,ho.cell h2 (hd b (World.block_lt_of_cell? w _ h2) hS),h3.off ho hd⟩
theorem LLsAt.get {w:World} {a:Option Addr} {m cap:Nat} {yss:List (List Nat)} {S:Nat->Prop} (h:LLsAt w (.slice a m cap) yss S) {j:Nat} {ys:List Nat} (hj:yss[j]?=some ys) :
  ∃ b off a1 c1,a=some ⟨b,off,none⟩/\S b/\w.cell? ⟨b,off+j,none⟩=some (.slice a1 ys.length c1)/\LsAt w (.slice a1 ys.length c1) ys S:=by
 obtain⟨a',cap',e,_,h4⟩:=h
 simp at e
 obtain⟨rfl,rfl,rfl⟩:=e
 obtain⟨b,off,ha,hS,hc⟩:=h4 (by have:=(List.getElem?_eq_some_iff.1 hj).1;omega)
 obtain⟨u,h2,h3⟩:=hc j ys hj
 obtain⟨a1,c1,rfl,_⟩:=id h3
 exact⟨b,off,a1,c1,ha,hS,h2,h3⟩
def LLs (w:World) (v:Value) (yss:List (List Nat)):Prop:=LLsAt w v yss (fun _=>True)
theorem LLs.off {w w':World} {v:Value} {yss:List (List Nat)} (h:LLs w v yss) (ho:Off (fun _=>False) w w'):LLs w' v yss:=LLsAt.off h ho (fun _ _ _ c=>c)
end
section
open Go.RowKit
set_option maxRecDepth 100000
set_option maxHeartbeats 4000000
theorem vecs_info:(Tryz.prog.info? 29).map (fun i=>(i.zero,i.size,i.bytes))=some (some (.slice none 0 0),1,24):=by kernel_rfl
end
end Go.Proofs.YtpfjgifcjengkaaGreatDoor
