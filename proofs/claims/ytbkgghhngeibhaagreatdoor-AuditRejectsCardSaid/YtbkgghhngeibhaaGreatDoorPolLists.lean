/-
  Rows of the call's own that hold events or elements, and appends to them; a new tape. Plain facts; no condition.
  The reference's lists of events of layer 8, newly made. Condition: the numbers are small.
-/
import Derived.Test.YtbkgghhngeibhaaGreatDoorNumsT
import Derived.Test.YtbkgghhngeibhaaGreatDoorTapeCore
import Derived.Deep.DeepCutAuto
import Derived.Deep.DrawnRows
import Derived.Deep.RegionHeld3
import Derived.Laws.AppendOwnNone
import Derived.Lib.LaidTab
import Derived.LoopIn
import Derived.LoopNIn
import Derived.MakeChecks
import Derived.OwnWalkIn
import Derived.ProofKit
import Derived.RangeFuncBound
import Derived.Shelf.RegionOpen
import Derived.Shelf.Spec.BitsCarry
import Derived.StillTailTactics
namespace Go.Proofs.YtbkgghhngeibhaaGreatDoor
section
open Go.RowKit

theorem grown_off {w W w1:World} {n k size:Nat} {T:TypeId} {v:Value} {xs:List Value} (hO:Off (fun _=>False) w W) (hn:w.heap.size<=n) (h:W.ownsRow n T size v k xs) (hg:W.grownBy w1 v.ownBlock):Off (fun _=>False) w w1 :=
 hO.grown hg (fun j ej=>by
  have hx:=(h.lt j ej).1
  refine⟨fun h=>by omega,fun o ho=>?_⟩
  rcases h.2 with ⟨rfl,_⟩ | ⟨g,cap,cur,rfl,_,hgb,_⟩
  ·simp[Value.ownBlock]at ej
  obtain rfl:g=j:=by simpa[Value.ownBlock]using ej
  rw[hgb]at ho;cases ho;rfl)
theorem words4_at {w:World} {b z:Nat} {T:TypeId} (h:w.heap[b]?=some (.cells #[.int .u64 (wd z 0),.int .u64 (wd z 1),.int .u64 (wd z 2),.int .u64 (wd z 3)] T (0,0))):∀ j u,(words4 z)[j]?=some u->w.cell? ((⟨b,0,none⟩:Addr).add j)=some u:=by
 intro j u hj
 rw[Addr.add_lit,Nat.zero_add,cell_of_heap h]
 simpa using hj
theorem append_oper {P:Program} {o:Oper} {a:Act} {w w':World} {K:Act->World->Prop} {Q:Exit->Act->World->Prop} {s x:Operand} {t:TypeId} {v xv v':Value}
  (ho:o.op=.call { callee:=.builtin .append,args:=#[s,x],argTypes:=#[t,t] }) (hs:a.eval s=v) (hx:a.eval x=xv) (hr:(Builtin.append_ #[t,t] o.type #[v,xv]).run P w=.ok v' w') (hK:K (a.put o.dst v') w'):o.wp P a w K Q:=by
 unfold Oper.wp execOp
 simp only[ho,resolve,invoke,builtin,Sem.run_bind,Sem.run_pure,Result.andThen_ok,List.map_toArray,List.map_cons,List.map_nil,hs,hx,hr]
 exact hK
theorem ls_of_own {w:World} {base n cap:Nat} {a:Option Addr} {T:TypeId} {ys:List Nat} (h:w.ownsRow base T 4 (.slice a n cap) n (flat4 ys)) (hn:n=ys.length) (hl:n<=100000):LsAt w (.slice a n cap) ys (fun k=>base<=k/\k<w.heap.size):=by
 refine⟨a,cap,by rw[hn],by omega,fun hp=>?_⟩
 obtain⟨m,rfl⟩:∃ m,n=m+1:=⟨n-1,by omega⟩
 obtain⟨g,c,e⟩:=ownsRow_succ h
 simp at e
 obtain⟨rfl,rfl⟩:=e
 have hc:=h.cells (g:=g) rfl
 refine⟨g,0,rfl,h.lt g rfl,fun j x hx=>?_⟩
 obtain⟨h0,h1,h2,h3⟩:=flat4_get ys j x hx
 have k0:=hc _ _ h0
 have k1:=hc _ _ h1
 have k2:=hc _ _ h2
 have k3:=hc _ _ h3
 rw[Addr.add_lit]at k0 k1 k2 k3
 exact⟨k0,by rw[Nat.add_assoc];exact k1,by rw[Nat.add_assoc];exact k2,by rw[Nat.add_assoc];exact k3⟩
theorem words4_one (z:Nat):∀ u∈words4 z,u.oneCell'=true:=by
 intro u hu
 simp only[words4,List.mem_cons,List.not_mem_nil,or_false]at hu
 rcases hu with rfl | rfl | rfl | rfl <;> rfl
theorem own_off {w w':World} {base size n:Nat} {T:TypeId} {v:Value} {xs:List Value} (h:w.ownsRow base T size v n xs) (ho:Off (fun _=>False) w w'):w'.ownsRow base T size v n xs :=
 h.kept ho.to_grown (by by_cases e:v.ownBlock=none;exact .inl e;exact .inr e)
end
section
open Go.RowKit
def rowE (i m:Nat):List Ev:=(List.range m).map (fun y:Nat=>((3:Int),(i:Int),(y:Int)))
theorem rowE_next (i k:Nat):rowE i (k+1)=rowE i k++[((3:Int),(i:Int),(k:Int))]:=by simp[rowE,List.range_succ]
def prE (m:Nat):Nat->List Ev
 | 0=>[]
 | i+1=>prE m i++rowE i m
theorem prE_length (m:Nat):∀ i,(prE m i).length=i*m
 | 0=>by simp[prE]
 | i+1=>by simp[prE,prE_length m i,rowE,Nat.add_mul]
end
end Go.Proofs.YtbkgghhngeibhaaGreatDoor
