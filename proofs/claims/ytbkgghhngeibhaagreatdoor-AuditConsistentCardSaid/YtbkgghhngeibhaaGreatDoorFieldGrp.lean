/-
  What the walks of the laws of layer 4 share: the table of fields and numbers in memory are kept by calls that change nothing that lay there before. No condition.
  Contracts of the methods Contains and Subtract of a field (package sharecore/field) over this seat's translation. Conditions: the numbers lie below 2^256; the word is a word.
  Contracts of field.Get and field.All over this seat's translation. Condition: the table of fields lies in memory as it was laid.
-/
import Derived.Test.YtbkgghhngeibhaaGreatDoorPlainAll
import Derived.Test.YtbkgghhngeibhaaGreatDoorFrame
import Derived.BigQuiet
import Derived.Deep.DrawnRows
import Derived.Deep.RegionHeld3
import Derived.Laws.AppendOwnNone
import Derived.Lib.LaidTab
import Derived.MakeChecks
import Derived.ProofKit
import Derived.Shelf.Spec.BitsCarry
import Derived.StillTailTactics
import Derived.Test.YtbkgghhngeibhaaGreatDoorModGet
import Derived.Test.YtbkgghhngeibhaaGreatDoorModAll
import Derived.Test.YtbkgghhngeibhaaGreatDoorLays
namespace Go.Proofs.YtbkgghhngeibhaaGreatDoor
open Lib (hid)
section
open Go.RowKit

theorem wd_zero (i:Nat):wd 0 i=0:=by unfold wd dg;simp
theorem fv_cells {w:World} {b:Nat} {T:TypeId} {c0 c1 c2 c3 c4 c5 c6 c7 c8 c9 c10 c11 c12 c13:Value} (h:w.heap[b]?=some (.cells #[c0,c1,c2,c3,c4,c5,c6,c7,c8,c9,c10,c11,c12,c13] T (0,0))) :
  w.cell? ⟨b,0,none⟩=some c0/\w.cell? ⟨b,1,none⟩=some c1/\w.cell? ⟨b,2,none⟩=some c2/\w.cell? ⟨b,3,none⟩=some c3/\w.cell? ⟨b,4,none⟩=some c4/\w.cell? ⟨b,5,none⟩=some c5/\w.cell? ⟨b,6,none⟩=some c6/\w.cell? ⟨b,7,none⟩=some c7/\w.cell? ⟨b,8,none⟩=some c8/\w.cell? ⟨b,9,none⟩=some c9/\w.cell? ⟨b,10,none⟩=some c10/\w.cell? ⟨b,11,none⟩=some c11/\w.cell? ⟨b,12,none⟩=some c12/\w.cell? ⟨b,13,none⟩=some c13:=by
 refine⟨?_,?_,?_,?_,?_,?_,?_,?_,?_,?_,?_,?_,?_,?_⟩ <;> rw[cell_of_heap h] <;> rfl
end
section
open Go.RowKit

attribute [local go_sem ↓] Go.wp_at_zero Go.wp_at_succ
set_option maxRecDepth 100000 in
set_option maxHeartbeats 1000000 in
theorem contains_any (id:Int) (p i r s a:Nat) (hp:p<R256) (ha:a<R256) (w:World) :
  Calls Tryz.prog 102 #[FV id p i r s,V a] w fun e w'=>e=.returned (.int .u64 (mk (lessN a p)))/\Off (fun _=>False) w w':=by
 have HL:=hid (fun W=>limb_less a p ha hp W)
 obtain⟨c,hc⟩:∃ c,c=lessN a p:=⟨_,rfl⟩
 rw[<-hc]at HL ⊢
 clear ha hp hc
 go_enter Tryz.func102,Tryz.ntmps102
 go_wp2_with fail
 refine(HL.out _).mono ?_
 rintro e w1 ⟨rfl,hO⟩
 have HO:=hid hO
 clear hO
 go_wp2
 go_ret
 exact⟨rfl,(((Off.refl _ w).alloc _).alloc _).trans HO.out (fun _ _ c=>c)⟩
theorem andnot_facts (a p:Nat) (c:Int) (hc:Word c):Word (bits .andNot .u64 (ltN a p:Int) c)/\oddB (bits .andNot .u64 (ltN a p:Int) c)=decide (c%2=0/\a<p):=by
 have hc':0<=c/\c<18446744073709551616:=⟨hc.1,by have:=hc.2;omega⟩
 have h1:ltN a p=0\/ltN a p=1:=by unfold ltN;split <;> simp
 rw[u64_andNot (ltN a p:Int) c (by omega) (by omega) hc'.1 hc'.2]
 obtain⟨k,rfl⟩:=Int.eq_ofNat_of_zero_le hc'.1
 have hk:k<18446744073709551616:=by omega
 by_cases h:a<p
 ·have e:ltN a p=1:=by unfold ltN;rw[if_pos h]
  rw[e]
  have e2:((1:Nat):Int).toNat &&& (18446744073709551615-(k:Int).toNat)=(18446744073709551615-k)%2:=by
   simp[Nat.one_and_eq_mod_two]
  rw[e2]
  refine⟨⟨by omega,by omega⟩,?_⟩
  unfold oddB
  rw[Bool.eq_iff_iff]
  simp only[decide_eq_true_eq]
  omega
 have e:ltN a p=0:=by unfold ltN;rw[if_neg h]
 rw[e]
 simp[oddB,h,Word]
set_option maxRecDepth 100000 in
set_option maxHeartbeats 1000000 in
theorem subtract_any (id:Int) (p i r s a:Nat) (c:Int) (hp:p<R256) (ha:a<R256) (hc:Word c) (w:World) :
  Calls Tryz.prog 122 #[FV id p i r s,V a,.int .u64 c] w fun e w'=>e=.returned (V (redV p a c))/\Off (fun _=>False) w w':=by
 obtain⟨hb,ho⟩:=andnot_facts a p c hc
 have HS:=hid (fun W=>sub_any a p ha hp W)
 have HC:=fun W=>limb_choose (bits .andNot .u64 (ltN a p:Int) c) hb a (subV a p) W
 have e:selN (bits .andNot .u64 (ltN a p:Int) c) a (subV a p)=redV p a c:=by
  unfold selN redV;rw[ho];by_cases h:c%2=0/\a<p <;> simp[h]
 rw[e]at HC
 have HC:=hid HC
 obtain⟨l,hl⟩:∃ l,l=ltN a p:=⟨_,rfl⟩
 obtain⟨d,hd⟩:∃ d,d=subV a p:=⟨_,rfl⟩
 obtain⟨x,hx⟩:∃ x,x=redV p a c:=⟨_,rfl⟩
 rw[<-hl,<-hd,<-hx]at HC
 rw[<-hl,<-hd]at HS
 rw[<-hx]
 clear hb ho e hl hd hx ha hp hc
 go_enter Tryz.func122,Tryz.ntmps122
 go_wp2_with fail
 refine(HS.out _).mono ?_
 rintro e w1 ⟨rfl,hO⟩
 have hA:NumAt w1 (w.heap.size+1) a:=hO.heap (heap_old' (heap_new' (by simp) _) _) (fun c=>c)
 have hR:PartAt w1 (w.heap.size+1+1) 0 0:=hO.heap (heap_new' (by simp) _) (fun c=>c)
 have la:=heap_lt hR.old
 have lp:=hA.lt
 obtain⟨a0,a1,a2,a3⟩:=hA.four
 have HR:=hid hR
 have HO:=hid ((((((Off.refl _ w).alloc _).alloc _).alloc _)).trans hO (fun _ _ c=>c))
 clear hO hA hR
 go_wp2_with fail
 refine(HC.out _).mono ?_
 rintro e w2 ⟨rfl,hO2⟩
 have hR2:PartAt w2 (w.heap.size+1+1) 0 0:=hO2.heap (heap_old' HR.out _) (fun c=>c)
 obtain⟨⟨r0,r1,r2,r3⟩,fz⟩:=hR2.four
 have HO2:=hid ((HO.out.alloc _).trans hO2 (fun _ _ c=>c))
 clear hR2 hO2 HR
 go_wp2
 refine bodyPost_ret (v:=V x) (by simp[results,Tryz.results122,go_sem,r0,r1,r2,r3]) rfl ⟨rfl,?_⟩
 exact off4 HO2.out (by omega) _ _ _ _
end
section
open Go.RowKit

def f1Cells:Array Value:=#[.int .i64 1,.int .u64 18446744073709551597,.int .u64 18446744073709551615,.int .u64 18446744073709551615,.int .u64 9223372036854775807,.int .u64 9708812670373448219,.int .u64 38,.int .u64 0,.int .u64 0,.int .u64 0,.int .u64 1444,.int .u64 0,.int .u64 0,.int .u64 0]
def f2Cells:Array Value:=#[.int .i64 2,.int .u64 17562291160714782033,.int .u64 13611842547513532036,.int .u64 18446744073709551615,.int .u64 18446744069414584320,.int .u64 14758798090332847183,.int .u64 884452912994769583,.int .u64 4834901526196019579,.int .u64 0,.int .u64 4294967295,.int .u64 9449762124159643298,.int .u64 5087230966250696614,.int .u64 2901921493521525849,.int .u64 7413256579398063648]
def f0Cells:Array Value:=#[.int .i64 0,.int .u64 0,.int .u64 0,.int .u64 0,.int .u64 0,.int .u64 0,.int .u64 0,.int .u64 0,.int .u64 0,.int .u64 0,.int .u64 0,.int .u64 0,.int .u64 0,.int .u64 0]
theorem f1_eq:Value.agg f1Cells=FV 1 P1 (negInv (wd P1 0)) (radV P1 256) (radV P1 256*radV P1 256%P1):=by kernel_rfl
theorem f2_eq:Value.agg f2Cells=FV 2 P2 (negInv (wd P2 0)) (radV P2 256) (radV P2 256*radV P2 256%P2):=by kernel_rfl
def getV (id:Int):Array Value:=if id=1 then #[.agg f1Cells,.int .i64 0] else if id=2 then #[.agg f2Cells,.int .i64 0] else #[.agg f0Cells,.int .i64 3]

def tabCells:Array Value:=f1Cells++f2Cells
theorem tab_flat:(flatD (H:=Unit) Rows.laid_sharecore_field_fields)=tabCells.toList:=by kernel_rfl
theorem load_tab {w:World} (h:TabAt w):(loadVar 135 ⟨0,0,none⟩).run Tryz.prog w=.ok (.agg tabCells) w:=by
 have hl:(loadCells ⟨0,0,none⟩ tabCells.toList.length).run Tryz.prog w=.ok tabCells.toList.toArray w :=
  run_loadCells_list w _ _ (fun j v hv=>by
   have hadd:(⟨0,0,none⟩:Addr).add j=⟨0,j,none⟩:=by unfold Addr.add;split <;> simp_all
   rw[hadd];exact h j v (by rw[tab_flat];exact hv))
 have hs:(Tryz.prog.info? 135).map (·.size)=some tabCells.toList.length:=by kernel_rfl
 cases hq:Tryz.prog.info? 135 with
 | none=>simp[hq]at hs
 | some i =>
  have hs:i.size=tabCells.toList.length:=by simpa[hq]using hs
  have hagg:(isAgg 135).run Tryz.prog w=.ok true w:=by
   unfold isAgg
   rw[Sem.run_bind,run_underlying Tryz.underlying135 w]
   rfl
  simp only[Array.length_toList,Array.toArray_toList]at hl hs
  simp[loadVar,Sem.run_bind,hagg,sizeOf,typeInfo,hq,hs,hl]
theorem wpList_load_tab {ops:Array Oper} {rest:List Oper} {o:Oper} {a:Act} {w:World} {Q:Exit->Act->World->Prop} (hgd:o.guard=none) (x:Operand) (ho:o.op=.load 135 x)
  (hx:a.eval x=.pointer (some ⟨0,0,none⟩)) (hT:TabAt w) (h:wpList Tryz.prog ops Q rest (a.put o.dst (.agg tabCells)) w):wpList Tryz.prog ops Q (o::rest) a w:=by
 refine wpList_plain hgd fun _ hK=>?_
 unfold Oper.wp execOp
 simp only[ho,hx,Instr.loadAt,Instr.sureAddr,Sem.run_bind,Sem.run_pure,Result.andThen_ok,load_tab hT]
 exact hK _ _ h
theorem index_tab1 (w:World):(Instr.index 135 (.agg tabCells) (.int .i64 0)).run Tryz.prog w=.ok (.agg #[.int .i64 1,.int .u64 18446744073709551597,.int .u64 18446744073709551615,.int .u64 18446744073709551615,.int .u64 9223372036854775807,.int .u64 9708812670373448219,.int .u64 38,.int .u64 0,.int .u64 0,.int .u64 0,.int .u64 1444,.int .u64 0,.int .u64 0,.int .u64 0]) w:=by kernel_rfl
theorem index_tab2 (w:World):(Instr.index 135 (.agg tabCells) (.int .i64 1)).run Tryz.prog w=.ok (.agg #[.int .i64 2,.int .u64 17562291160714782033,.int .u64 13611842547513532036,.int .u64 18446744073709551615,.int .u64 18446744069414584320,.int .u64 14758798090332847183,.int .u64 884452912994769583,.int .u64 4834901526196019579,.int .u64 0,.int .u64 4294967295,.int .u64 9449762124159643298,.int .u64 5087230966250696614,.int .u64 2901921493521525849,.int .u64 7413256579398063648]) w:=by kernel_rfl

attribute [local go_sem ↓] Go.wp_at_zero Go.wp_at_succ
set_option maxRecDepth 100000 in
set_option maxHeartbeats 4000000 in
theorem fget_raw (id:Int) (w:World) (hT:TabAt w) :
  Calls Tryz.prog 65 #[.int .i64 id] w fun e w'=>e=.returned (.tuple (getV id))/\Off (fun _=>False) w w':=by
 have HT:=hid hT
 have x1:=index_tab1
 have x2:=index_tab2
 clear hT
 obtain⟨g,hg⟩:∃ g,g=getV id:=⟨_,rfl⟩
 have HG:=hid hg
 rw[<-hg]
 clear hg
 go_enter Tryz.func65,Tryz.ntmps65
 go_wp2_with (refine wpList_load_tab rfl _ rfl rfl (HT.out.off ((Off.refl _ w).alloc _)) ?_)
 clear HT
 go_loopw [7] (fun i wr=>∃ k:Nat,k<=2/\i=.int .i64 k/\(∀ j:Nat,j<k->id≠(j:Int)+1)/\wr.heap[w.heap.size]?=some (.cells #[.int .i64 0,.int .u64 0,.int .u64 0,.int .u64 0,.int .u64 0,.int .u64 0,.int .u64 0,.int .u64 0,.int .u64 0,.int .u64 0,.int .u64 0,.int .u64 0,.int .u64 0,.int .u64 0] 104 (0,0))/\Off (fun _=>False) w wr) (fun i _=>2-(intOf i).toNat)
 case atStart=>exact⟨0,by omega,rfl,fun j hj=>absurd hj (Nat.not_lt_zero _),heap_new' rfl _,(Off.refl _ w).alloc _⟩
 case round =>
  obtain⟨k,hk,rfl,hne,hB,hO⟩:=hrel
  by_cases h0:k=0
  ·subst h0
   clear hk
   by_cases h1:id=1
   ·subst h1
    obtain⟨b0,b1,b2,b3,b4,b5,b6,b7,b8,b9,b10,b11,b12,b13⟩:=fv_cells hB
    have hlt:=heap_lt hB
    have fz:=fun j=>frozen_of_heap hB j
    have HO:=hid hO
    clear hne x2 hB hO
    go_wp2
    refine bodyPost_ret (v:=.tuple #[.agg #[.int .i64 1,.int .u64 18446744073709551597,.int .u64 18446744073709551615,.int .u64 18446744073709551615,.int .u64 9223372036854775807,.int .u64 9708812670373448219,.int .u64 38,.int .u64 0,.int .u64 0,.int .u64 0,.int .u64 1444,.int .u64 0,.int .u64 0,.int .u64 0],.int .i64 0]) (by simp[results,Tryz.results65,go_sem,b0,b1,b2,b3,b4,b5,b6,b7,b8,b9,b10,b11,b12,b13,hlt]) rfl ⟨by rw[HG.out];rfl,?_⟩
    have h:=HO.out.trans (setCells_off w.heap.size [.int .i64 1,.int .u64 18446744073709551597,.int .u64 18446744073709551615,.int .u64 18446744073709551615,.int .u64 9223372036854775807,.int .u64 9708812670373448219,.int .u64 38,.int .u64 0,.int .u64 0,.int .u64 0,.int .u64 1444,.int .u64 0,.int .u64 0,.int .u64 0] 0 wr) (fun j hj e=>by omega)
    simp only[World.setCells,Nat.reduceAdd]at h
    exact h.alloc _
   have t1:(1==id)=false:=by simp;omega
   have HN:=hid (show ∀ j:Nat,j<1->id≠(j:Int)+1 from fun j hj=>by omega)
   have HO:=hid hO
   have HB:=hid hB
   clear hne x2 h1 hB hO
   go_wp2
   go_roundw
   case rel=>exact⟨1,by omega,by rfl,HN.out,heap_old' HB.out _,HO.out.alloc _⟩
   case measure=>simp[intOf]
  by_cases h1:k=1
  ·subst h1
   clear hk h0
   have hn1:id≠1:=hne 0 (by omega)
   by_cases h2:id=2
   ·subst h2
    obtain⟨b0,b1,b2,b3,b4,b5,b6,b7,b8,b9,b10,b11,b12,b13⟩:=fv_cells hB
    have hlt:=heap_lt hB
    have fz:=fun j=>frozen_of_heap hB j
    have HO:=hid hO
    clear hne x1 hB hO hn1
    go_wp2
    refine bodyPost_ret (v:=.tuple #[.agg #[.int .i64 2,.int .u64 17562291160714782033,.int .u64 13611842547513532036,.int .u64 18446744073709551615,.int .u64 18446744069414584320,.int .u64 14758798090332847183,.int .u64 884452912994769583,.int .u64 4834901526196019579,.int .u64 0,.int .u64 4294967295,.int .u64 9449762124159643298,.int .u64 5087230966250696614,.int .u64 2901921493521525849,.int .u64 7413256579398063648],.int .i64 0]) (by simp[results,Tryz.results65,go_sem,b0,b1,b2,b3,b4,b5,b6,b7,b8,b9,b10,b11,b12,b13,hlt]) rfl ⟨by rw[HG.out];rfl,?_⟩
    have h:=HO.out.trans (setCells_off w.heap.size [.int .i64 2,.int .u64 17562291160714782033,.int .u64 13611842547513532036,.int .u64 18446744073709551615,.int .u64 18446744069414584320,.int .u64 14758798090332847183,.int .u64 884452912994769583,.int .u64 4834901526196019579,.int .u64 0,.int .u64 4294967295,.int .u64 9449762124159643298,.int .u64 5087230966250696614,.int .u64 2901921493521525849,.int .u64 7413256579398063648] 0 wr) (fun j hj e=>by omega)
    simp only[World.setCells,Nat.reduceAdd]at h
    exact h.alloc _
   have t1:(2==id)=false:=by simp;omega
   have HN:=hid (show ∀ j:Nat,j<2->id≠(j:Int)+1 from fun j hj=>by omega)
   have HO:=hid hO
   have HB:=hid hB
   clear hne x1 h2 hn1 hB hO
   go_wp2
   go_roundw
   case rel=>exact⟨2,by omega,by rfl,HN.out,heap_old' HB.out _,HO.out.alloc _⟩
   case measure=>simp[intOf]
  obtain rfl:k=2:=by omega
  have hn1:id≠1:=hne 0 (by omega)
  have hn2:id≠2:=hne 1 (by omega)
  have HN:=hid (And.intro hn1 hn2)
  obtain⟨b0,b1,b2,b3,b4,b5,b6,b7,b8,b9,b10,b11,b12,b13⟩:=fv_cells hB
  have hlt:=heap_lt hB
  have fz:=fun j=>frozen_of_heap hB j
  have HO:=hid hO
  clear hne x1 x2 hB hO hn1 hn2 h0 h1 hk
  go_wp2
  refine bodyPost_ret (v:=.tuple #[.agg #[.int .i64 0,.int .u64 0,.int .u64 0,.int .u64 0,.int .u64 0,.int .u64 0,.int .u64 0,.int .u64 0,.int .u64 0,.int .u64 0,.int .u64 0,.int .u64 0,.int .u64 0,.int .u64 0],.int .i64 3]) (by simp[results,Tryz.results65,go_sem,b0,b1,b2,b3,b4,b5,b6,b7,b8,b9,b10,b11,b12,b13]) rfl ⟨by rw[HG.out];unfold getV;rw[if_neg HN.out.1,if_neg HN.out.2];rfl,?_⟩
  have h:=HO.out.trans (setCells_off w.heap.size [.int .i64 0,.int .u64 0,.int .u64 0,.int .u64 0,.int .u64 0,.int .u64 0,.int .u64 0,.int .u64 0,.int .u64 0,.int .u64 0,.int .u64 0,.int .u64 0,.int .u64 0,.int .u64 0] 0 wr) (fun j hj e=>by omega)
  simp only[World.setCells,Nat.reduceAdd]at h
  exact h
theorem modN_of {id:Int} {p:Nat} (h1:1<p) (hm:modN id=p):(id=1/\p=P1)\/(id=2/\p=P2):=by
 unfold modN at hm
 by_cases h:id=1
 ·rw[if_pos h]at hm;exact .inl ⟨h,hm.symm⟩
 rw[if_neg h]at hm
 by_cases h2:id=2
 ·rw[if_pos h2]at hm;exact .inr ⟨h2,hm.symm⟩
 rw[if_neg h2]at hm;omega
theorem f0_eq:Value.agg f0Cells=FV 0 0 0 0 0:=by kernel_rfl
theorem fget_in (id:Int) (p:Nat) (_hp:p<R256) (h1:1<p) (hm:modN id=p) (w:World) (hT:TabAt w) :
  Calls Tryz.prog 65 #[.int .i64 id] w fun e w'=>e=.returned (.tuple #[FV id p (negInv (wd p 0)) (radV p 256) (radV p 256*radV p 256%p),.int .i64 0])/\Off (fun _=>False) w w':=by
 have h:=fget_raw id w hT
 rcases modN_of h1 hm with ⟨rfl,rfl⟩ | ⟨rfl,rfl⟩
 ·rw[<-f1_eq];exact h
 rw[<-f2_eq];exact h
theorem fget_none (id:Int) (hm:modN id=0) (w:World) (hT:TabAt w) :
  Calls Tryz.prog 65 #[.int .i64 id] w fun e w'=>e=.returned (.tuple #[FV 0 0 0 0 0,.int .i64 3])/\Off (fun _=>False) w w':=by
 have h:=fget_raw id w hT
 have h1:id≠1:=fun e=>by subst e;exact absurd hm (by decide +kernel)
 have h2:id≠2:=fun e=>by subst e;exact absurd hm (by decide +kernel)
 rw[<-f0_eq]
 unfold getV at h
 rw[if_neg h1,if_neg h2]at h
 exact h
end
end Go.Proofs.YtbkgghhngeibhaaGreatDoor
