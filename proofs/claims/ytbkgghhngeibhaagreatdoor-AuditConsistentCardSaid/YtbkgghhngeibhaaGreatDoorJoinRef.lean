/-
  The reference of layer 17 over this seat's translation: Polynomials, Values, Combine. Conditions: the shares are accepted, or their list is short; the payloads have at most 1000 elements.
-/
import Derived.Test.YtbkgghhngeibhaaGreatDoorIntAll
import Derived.Deep.DeepCutAuto
import Derived.Deep.DrawnRows
import Derived.Deep.OwnRows
import Derived.Deep.RegionHeld3
import Derived.Deep.Strs
import Derived.Laws.AppendOwnNone
import Derived.Lib.AppendZeros
import Derived.Lib.LaidTab
import Derived.LoopIn
import Derived.LoopNIn
import Derived.MakeChecks
import Derived.OwnWalkIn
import Derived.ProofKit
import Derived.RangeFuncBound
import Derived.Shelf.Bits.Mul64
import Derived.Shelf.Bytes.SlEqualAll
import Derived.Shelf.RegionOpen
import Derived.Shelf.Spec.BitsCarry
import Derived.StillTailTactics
import Derived.Test.YtbkgghhngeibhaaGreatDoorProg
namespace Go.Proofs.YtbkgghhngeibhaaGreatDoor
open Go.RowKit
attribute [local go_sem ↓] Go.wp_at_zero Go.wp_at_succ
set_option maxRecDepth 100000
set_option maxHeartbeats 4000000
def ivJ (x:Int):Value:=.int .i64 x
def RowJ (B:Nat) (W:World) (v:Value) (xs:List Int):Prop:=W.ownsRow B 3 1 v xs.length (xs.map ivJ)
theorem int_info:(Tryz.prog.info? 3).map (fun i=>(i.zero,i.size,i.bytes))=some (some (.int .i64 0),1,8):=by kernel_rfl
theorem app_intJ {B bz:Nat} {W:World} {v:Value} {xs:List Int} {x:Int} {T:TypeId} (h1:RowJ B W v xs) (hB:B<=W.heap.size) (hb:W.heap[bz]?=some (.cells #[.int .i64 x] T (0,0))) (hk:xs.length+1<=100000) :
  ∃ v' w',(Builtin.append_ #[34,34] 34 #[v,.slice (some ⟨bz,0,none⟩) 1 1]).run Tryz.prog W=.ok v' w'/\RowJ B w' v' (xs++[x])/\W.grownBy w' v.ownBlock:=by
 obtain⟨i0,hi,hz0,hz1,hz2⟩:=info_parts int_info
 obtain⟨v',w',hr,ho,hg,_,_⟩:=run_append_own_at (P:=Tryz.prog) W B 34 34 3 i0 _ 1 8 Tryz.underlying34 hi hz0 hz1 hz2 rfl (by decide) v xs.length _ h1 ⟨bz,0,none⟩ 1 1 [ivJ x] rfl (fun j u hj=>by
  rw[Addr.add_lit,Nat.zero_add,cell_of_heap hb]
  match j,hj with
  | 0,hj=>simpa[ivJ]using hj
  | n+1,hj=>simp at hj) (fun u hu=>by rw[List.mem_singleton.1 hu];rfl) (by unfold maxLen;omega) (by omega) hB
 refine⟨v',w',hr,?_,hg⟩
 unfold RowJ
 rw[List.map_append,List.length_append]
 exact ho
theorem RowJ.iv {B:Nat} {W:World} {v:Value} {xs:List Int} (h:RowJ B W v xs) (hl:xs.length<=100000) (hw:∀ x∈xs,(Lit.int .i64 x).wf=true):Iv W v xs:=by
 rcases h.2 with ⟨rfl,hn⟩ | ⟨g,cap,cur,rfl,hB,hg,hnc,hcm,hcs,ht⟩
 ·exact⟨none,0,by rw[hn],by omega,hw,fun hp=>by omega⟩
 refine⟨some ⟨g,0,none⟩,cap,rfl,by unfold maxLen at *;omega,hw,fun hp=>⟨g,0,rfl,trivial,fun j x hj=>?_⟩⟩
 have hc:=World.ownsRow.cells h (g:=g) rfl
 have:=hc j (ivJ x) (by rw[List.getElem?_map,hj];rfl)
 rw[Addr.add_lit]at this
 exact this
end Go.Proofs.YtbkgghhngeibhaaGreatDoor
