/-
  Contracts of limb.Add and limb.Sub over this seat's translation: the words of the sum and of the difference, and the carry. Conditions: the arguments are numbers of four words.
-/
import Derived.Test.YtbkgghhngeibhaaGreatDoorPlainAll
import Derived.Test.YtbkgghhngeibhaaGreatDoorFrame
import Derived.Deep.DrawnRows
import Derived.Deep.RegionHeld3
import Derived.Shelf.Spec.BitsCarry
namespace Go.Proofs.YtbkgghhngeibhaaGreatDoor
open Lib (hid)
open Go.RowKit

def NumAt (w:World) (b:Nat) (n:Nat):Prop:=w.heap[b]?=some (.cells #[.int .u64 (wd n 0),.int .u64 (wd n 1),.int .u64 (wd n 2),.int .u64 (wd n 3)] 63 (0,0))
def PartAt (w:World) (b:Nat) (n k:Nat):Prop:=w.heap[b]?=some (.cells #[.int .u64 (if 0<k then(wd n 0:Int) else 0),.int .u64 (if 1<k then(wd n 1:Int) else 0),.int .u64 (if 2<k then(wd n 2:Int) else 0),.int .u64 (if 3<k then(wd n 3:Int) else 0)] 63 (0,0))
theorem NumAt.cell {w:World} {b n:Nat} (h:NumAt w b n) (k:Nat) (hk:k<4):w.cell? ⟨b,k,none⟩=some (.int .u64 (wd n k:Int)):=by
 rw[cell_of_heap h]
 have:k=0\/k=1\/k=2\/k=3:=by omega
 rcases this with rfl | rfl | rfl | rfl <;> rfl
theorem PartAt.full {w:World} {b n:Nat} (h:PartAt w b n 4):NumAt w b n:=by simpa[PartAt,NumAt]using h
theorem PartAt.old {w:World} {b n k:Nat} (h:PartAt w b n k):w.heap[b]?=some (.cells #[.int .u64 (if 0<k then(wd n 0:Int) else 0),.int .u64 (if 1<k then(wd n 1:Int) else 0),.int .u64 (if 2<k then(wd n 2:Int) else 0),.int .u64 (if 3<k then(wd n 3:Int) else 0)] 63 (0,0)):=h
theorem PartAt.cell {w:World} {b n k:Nat} (h:PartAt w b n k) (hk:k<4):w.cell? ⟨b,k,none⟩=some (.int .u64 0):=by
 rw[cell_of_heap h.old]
 have:k=0\/k=1\/k=2\/k=3:=by omega
 rcases this with rfl | rfl | rfl | rfl <;> rfl
theorem PartAt.cell0 {w:World} {b n:Nat} (h:PartAt w b n 0) (k:Nat) (hk:k<4):w.cell? ⟨b,k,none⟩=some (.int .u64 0):=by
 rw[cell_of_heap h.old]
 have:k=0\/k=1\/k=2\/k=3:=by omega
 rcases this with rfl | rfl | rfl | rfl <;> rfl
theorem PartAt.step {w:World} {b n k:Nat} (h:PartAt w b n k) (hk:k<4):PartAt (w.setCell ⟨b,k,none⟩ (.int .u64 (wd n k:Int))) b n (k+1):=by
 have:=heap_set h.old k (.int .u64 (wd n k:Int))
 unfold PartAt
 rw[this]
 have:k=0\/k=1\/k=2\/k=3:=by omega
 rcases this with rfl | rfl | rfl | rfl <;> simp
theorem NumAt.lt {w:World} {b n:Nat} (h:NumAt w b n):b<w.heap.size:=heap_lt h

theorem NumAt.four {w:World} {b n:Nat} (h:NumAt w b n):w.cell? ⟨b,0,none⟩=some (.int .u64 (wd n 0))/\w.cell? ⟨b,1,none⟩=some (.int .u64 (wd n 1))/\w.cell? ⟨b,2,none⟩=some (.int .u64 (wd n 2))/\w.cell? ⟨b,3,none⟩=some (.int .u64 (wd n 3)) :=
 ⟨h.cell 0 (by omega),h.cell 1 (by omega),h.cell 2 (by omega),h.cell 3 (by omega)⟩
theorem PartAt.four {w:World} {b n:Nat} (h:PartAt w b n 0):(w.cell? ⟨b,0,none⟩=some (.int .u64 0)/\w.cell? ⟨b,1,none⟩=some (.int .u64 0)/\w.cell? ⟨b,2,none⟩=some (.int .u64 0)/\w.cell? ⟨b,3,none⟩=some (.int .u64 0))/\∀ j,w.frozen? ⟨b,j,none⟩=false :=
 ⟨⟨h.cell0 0 (by omega),h.cell0 1 (by omega),h.cell0 2 (by omega),h.cell0 3 (by omega)⟩,fun j=>frozen_of_heap h.old j⟩

theorem Off.drewN {S:Nat->Prop} {a w:World} (h:Off S a w) (m:Nat):Off S a (w.drewN m):=⟨h.os,h.tape,h.output,h.size,h.block,h.others⟩

theorem copy_head (w:World) (d s o dl dc m cap:Nat) (t:TypeId) (cur:Array Value) (cs:List Value) (hd:w.heap[d]?=some (.cells cur t (0,0)))
  (hs:∀ j v,cs[j]?=some v->w.cell? ⟨s,o+j,none⟩=some v) (hn:cs.length=Nat.min m dl) (hfit:cs.length<=cur.size) (h1:∀ v∈cs,v.oneCell'=true) :
  ∃ w1,(Builtin.copy_ #[175,175] 3 #[.slice (some ⟨d,0,none⟩) dl dc,.slice (some ⟨s,o,none⟩) m cap]).run Tryz.prog w=.ok (.int .i64 (cs.length:Int)) w1 /\
   w1.heap[d]?=some (.cells (cs++cur.toList.drop cs.length).toArray t (0,0))/\Off (fun k=>k=d) w w1:=by
 refine⟨_,run_copy_row (P:=Tryz.prog) w 175 175 3 62 d 0 dl dc ⟨s,o,none⟩ m cap cur t cs Tryz.underlying175 (by kernel_rfl) hd hn (fun j v hj=>by rw[Addr.add_lit];exact hs j v hj) (by omega) h1,?_,?_⟩
 ·have:=setRow_heap w d cur (cs++cur.toList.drop cs.length).toArray t (0,0) hd
  simpa using this
 exact(Off.refl (fun k=>k=d) w).grown (row:=some d) ⟨rfl,rfl,rfl,by simp,fun k _ hk=>setRow_other w d k _ (fun e=>hk (by rw[e]))⟩ (fun k hk=>⟨fun _=>(Option.some.inj hk).symm,fun o' ho=>by
  have:k=d:=(Option.some.inj hk).symm
  subst this;rw[hd]at ho;cases ho;rfl⟩)
theorem heap_new' {w:World} {n:Nat} (h:w.heap.size=n) (o:Obj):(w.alloc o).heap[n]?=some o:=by subst h;exact World.alloc_heap_new w o
theorem heap_old' {w:World} {n:Nat} {x:Obj} (h:w.heap[n]?=some x) (o:Obj):(w.alloc o).heap[n]?=some x:=(Below.heap_alloc w o n (heap_lt h)).trans h

structure ApplyAt (w wr:World) (g:FuncId) (a b s k:Nat):Prop where
 fn:wr.heap[w.heap.size]?=some (.cells #[.func (.func g) #[] #[]] 191 (0,0))
 a:NumAt wr (w.heap.size+1) a
 b:NumAt wr (w.heap.size+1+1) b
 ret:PartAt wr (w.heap.size+1+1+1) 0 0
 res:PartAt wr (w.heap.size+1+1+1+1) s k
 off:Off (fun _=>False) w wr

theorem ApplyAt.start (w:World) (g:FuncId) (a b s:Nat):ApplyAt w (((((w.alloc (.cells #[.func (.func g) #[] #[]] 191)).alloc (.cells #[.int .u64 (wd a 0),.int .u64 (wd a 1),.int .u64 (wd a 2),.int .u64 (wd a 3)] 63)).alloc (.cells #[.int .u64 (wd b 0),.int .u64 (wd b 1),.int .u64 (wd b 2),.int .u64 (wd b 3)] 63)).alloc (.cells #[.int .u64 0,.int .u64 0,.int .u64 0,.int .u64 0] 63)).alloc (.cells #[.int .u64 0,.int .u64 0,.int .u64 0,.int .u64 0] 63)) g a b s 0 :=
 ⟨heap_old' (heap_old' (heap_old' (heap_old' (heap_new' rfl _) _) _) _) _,
 heap_old' (heap_old' (heap_old' (heap_new' (by simp) _) _) _) _,
 heap_old' (heap_old' (heap_new' (by simp) _) _) _,
 heap_old' (heap_new' (by simp) _) _,
 heap_new' (by simp) _,
 (((((Off.refl _ w).alloc _).alloc _).alloc _).alloc _).alloc _⟩
theorem ApplyAt.step {w wr:World} {g:FuncId} {a b s k:Nat} (h:ApplyAt w wr g a b s k) (hk:k<4):ApplyAt w (wr.setCell ⟨w.heap.size+1+1+1+1,k,none⟩ (.int .u64 (wd s k:Int))).drew g a b s (k+1):=by
 have far:∀ j,j≠w.heap.size+1+1+1+1->(wr.setCell ⟨w.heap.size+1+1+1+1,k,none⟩ (.int .u64 (wd s k:Int))).drew.heap[j]?=wr.heap[j]?:=fun j hj=>Below.heap_setCell _ _ _ _ hj
 exact⟨(far _ (by omega)).trans h.fn,(far _ (by omega)).trans h.a,(far _ (by omega)).trans h.b,(far _ (by omega)).trans h.ret,h.res.step hk,(h.off.setCell (fun c=>by simp at c;omega) _).drew⟩
theorem cell_far {w:World} {p q:Addr} {u v:Value} (h:w.cell? q=some v) (hne:q.block≠p.block):(w.setCell p u).drew.cell? q=some v :=
 (((Off.refl (fun k=>k=p.block) w).setCell (p:=p) (fun _=>rfl) u).drew).cell h hne
attribute [local go_sem ↓] Go.wp_at_zero Go.wp_at_succ
set_option maxHeartbeats 2000000 in
theorem apply_any (g:FuncId) (a b s:Nat) (C:Nat->Nat) (h0:C 0=0) (hop:∀ k,k<4->∀ w:World,(callFunc g #[.int .u64 (wd a k:Int),.int .u64 (wd b k:Int),.int .u64 (C k:Int)]).run Tryz.prog w=.ok (.value (.tuple #[.int .u64 (wd s k:Int),.int .u64 (C (k+1):Int)])) w) (w:World) :
  Calls Tryz.prog 146 #[.agg #[.func (.func g) #[] #[]],V a,V b] w fun e w'=>e=.returned (.tuple #[V s,.int .u64 (C 4:Int)])/\Off (fun _=>False) w w':=by
 have HC:=hid h0
 have HOP:=hid hop
 clear h0 hop
 go_enter Tryz.func146,Tryz.ntmps146
 go_wp2
 go_loopw [9,11] (fun c i wr=>∃ k:Nat,k<=4/\i=.int .i64 k/\c=.int .u64 (C k:Int)/\ApplyAt w wr g a b s k) (fun _ i _=>4-(intOf i).toNat)
 case atStart=>exact⟨0,by omega,rfl,by rw[HC.out];rfl,ApplyAt.start w g a b s⟩
 case round =>
  obtain⟨k,hk,rfl,rfl,hA⟩:=hrel
  by_cases hlt:k<4
  ·have ca:=hA.a.cell k hlt
   have cb:=hA.b.cell k hlt
   have cf:wr.cell? ⟨w.heap.size,0,none⟩=some (.func (.func g) #[] #[]):=cell_of_heap hA.fn 0
   have cr:=hA.res.cell hlt
   have hop:=HOP.out k hlt
   have i0:(0:Int)<=(k:Int):=by omega
   have i1:(k:Int)<4:=by omega
   have n0:w.heap.size≠w.heap.size+1+1+1+1:=by omega
   have n1:w.heap.size+1≠w.heap.size+1+1+1+1:=by omega
   have n2:w.heap.size+1+1≠w.heap.size+1+1+1+1:=by omega
   have q0:=cell_far (u:=.int .u64 (wd s k:Int)) (p:=⟨w.heap.size+1+1+1+1,k,none⟩) cf n0
   have q1:=cell_far (u:=.int .u64 (wd s k:Int)) (p:=⟨w.heap.size+1+1+1+1,k,none⟩) ca n1
   have q2:=cell_far (u:=.int .u64 (wd s k:Int)) (p:=⟨w.heap.size+1+1+1+1,k,none⟩) cb n2
   clear n0 n1 n2
   have fz:=frozen_of_heap hA.res.old k
   have HA:=hid hA
   clear hA
   go_wp2
   go_region_held3 (fun w'=>w'.cell? ⟨w.heap.size,0,none⟩=some (.func (.func g) #[] #[])/\w'.cell? ⟨w.heap.size+1,k,none⟩=some (.int .u64 (wd a k:Int))/\w'.cell? ⟨w.heap.size+1+1,k,none⟩=some (.int .u64 (wd b k:Int))) (go_keep) (fail)
   go_wp2
   go_roundw
   case rel=>exact⟨k+1,by omega,by go_num,rfl,HA.out.step hlt⟩
   case measure=>simp[intOf];omega
  obtain rfl:k=4:=by omega
  have hR:=hA.res.full
  have c0:=hR.cell 0 (by omega)
  have c1:=hR.cell 1 (by omega)
  have c2:=hR.cell 2 (by omega)
  have c3:=hR.cell 3 (by omega)
  have fz:=fun k=>frozen_of_heap hA.ret.old k
  have r0:=hA.ret.cell0 0 (by omega)
  have r1:=hA.ret.cell0 1 (by omega)
  have r2:=hA.ret.cell0 2 (by omega)
  have r3:=hA.ret.cell0 3 (by omega)
  have HA:=hid hA
  clear hA hR
  go_wp2
  refine bodyPost_ret (v:=.tuple #[V s,.int .u64 (C 4:Int)]) (by simp[results,Tryz.results146,go_sem,r0,r1,r2,r3]) rfl ⟨rfl,?_⟩
  have hn:∀ j,(⟨w.heap.size+1+1+1,j,none⟩:Addr).block<w.heap.size->False:=fun j c=>by simp at c;omega
  exact(((HA.out.off.setCell (hn 0) _).setCell (hn 1) _).setCell (hn 2) _).setCell (hn 3) _
theorem wd_add (a b k:Nat):(wd (a+b) k:Int)=((wd a k:Int)+(wd b k:Int)+(carryA W64 a b k:Int))%18446744073709551616:=by
 have h:=dg_add w64_pos a b k
 unfold wd
 rw[h]
 unfold W64
 omega
theorem carry_add (a b k:Nat):(carryA W64 a b (k+1):Int)=((wd a k:Int)+(wd b k:Int)+(carryA W64 a b k:Int)) / 18446744073709551616:=by
 have h:=carryA_succ w64_pos a b k
 unfold wd
 rw[h]
 unfold W64
 omega

theorem run_add64_at (x y c:Int) (hx:Word x) (hy:Word y) (hc0:0<=c) (hc:c<=1) (w:World) :
  (callFunc 139 #[.int .u64 x,.int .u64 y,.int .u64 c]).run Tryz.prog w =
   .ok (.value (.tuple #[.int .u64 ((x+y+c)%18446744073709551616),.int .u64 ((x+y+c) / 18446744073709551616)])) w:=by
 rw[run_callFunc_extern Tryz.func139 (by kernel_rfl) (by kernel_rfl) (by kernel_rfl) (e:=add64Entry) (by kernel_rfl),run_add64 x y c hx.1 hy.1 hc0 hc]
 rfl
theorem add_op (a b k:Nat) (w:World):(callFunc 139 #[.int .u64 (wd a k:Int),.int .u64 (wd b k:Int),.int .u64 (carryA W64 a b k:Int)]).run Tryz.prog w=.ok (.value (.tuple #[.int .u64 (wd (a+b) k:Int),.int .u64 (carryA W64 a b (k+1):Int)])) w:=by
 have h:=carryA_le w64_pos a b k
 rw[run_add64_at _ _ _ (wd_word a k) (wd_word b k) (by omega) (by omega),wd_add,carry_add]
def subV (a b:Nat):Nat:=a+R256-b
theorem wd_sub (a b k:Nat) (hk:k<4) (hb:b<R256):(wd (subV a b) k:Int)=(((wd a k+18446744073709551616-wd b k-borrowA W64 a b k)%18446744073709551616:Nat):Int):=by
 have h:=dg_sub w64_pos a b k 4 hk (Nat.le_of_lt hb)
 unfold subV wd
 rw[R256,h]
 rfl
theorem borrow_sub (a b k:Nat):(borrowA W64 a b (k+1):Int)=((if wd a k<wd b k+borrowA W64 a b k then 1 else 0:Nat):Int):=by
 rw[borrowA_succ w64_pos a b k];rfl
theorem run_sub64_at (x y c:Nat) (hc:c<=1) (w:World) :
  (callFunc 145 #[.int .u64 x,.int .u64 y,.int .u64 c]).run Tryz.prog w =
   .ok (.value (.tuple #[.int .u64 (((x+18446744073709551616-y-c)%18446744073709551616:Nat):Int),.int .u64 ((if x<y+c then 1 else 0:Nat):Int)])) w:=by
 rw[run_callFunc_extern Tryz.func145 (by kernel_rfl) (by kernel_rfl) (by kernel_rfl) (e:=sub64Entry) (by kernel_rfl),run_sub64 x y c hc]
 rfl
theorem sub_op (a b k:Nat) (hk:k<4) (hb:b<R256) (w:World):(callFunc 145 #[.int .u64 (wd a k:Int),.int .u64 (wd b k:Int),.int .u64 (borrowA W64 a b k:Int)]).run Tryz.prog w=.ok (.value (.tuple #[.int .u64 (wd (subV a b) k:Int),.int .u64 (borrowA W64 a b (k+1):Int)])) w:=by
 rw[run_sub64_at _ _ _ (borrowA_le W64 a b k),wd_sub a b k hk hb,borrow_sub]
theorem carry_top {a b:Nat} (ha:a<R256) (hb:b<R256):carryA W64 a b 4=(a+b) / R256:=carryA_top ha hb
def ltN (a b:Nat):Nat:=if a<b then 1 else 0
theorem borrow_top {a b:Nat} (ha:a<R256) (hb:b<R256):borrowA W64 a b 4=ltN a b:=by
 unfold borrowA ltN
 rw[show W64^4=R256 from rfl,Nat.mod_eq_of_lt ha,Nat.mod_eq_of_lt hb]

set_option maxHeartbeats 1000000 in
theorem add_any (a b:Nat) (ha:a<R256) (hb:b<R256) (w:World) :
  Calls Tryz.prog 136 #[V a,V b] w fun e w'=>e=.returned (.tuple #[V (a+b),.int .u64 (((a+b) / R256:Nat):Int)])/\Off (fun _=>False) w w':=by
 have H:=fun W=>apply_any 139 a b (a+b) (carryA W64 a b) (carryA_zero _ _ _) (fun k _ w=>add_op a b k w) W
 rw[carry_top ha hb]at H
 obtain⟨c,hc⟩:∃ c,c=(a+b) / R256:=⟨_,rfl⟩
 rw[<-hc]at H ⊢
 clear hc ha hb
 go_enter Tryz.func136,Tryz.ntmps136
 go_wp2_with fail
 refine(H _).mono ?_
 rintro e w1 ⟨rfl,hO⟩
 have hR:PartAt w1 (w.heap.size+1+1) 0 0:=hO.heap (heap_new' (by simp) _) (fun c=>c)
 have fz:=fun k=>frozen_of_heap hR.old k
 have r0:=hR.cell0 0 (by omega)
 have r1:=hR.cell0 1 (by omega)
 have r2:=hR.cell0 2 (by omega)
 have r3:=hR.cell0 3 (by omega)
 have HO:=hid hO
 clear hR hO H
 go_wp2
 refine bodyPost_ret (v:=.tuple #[V (a+b),.int .u64 c]) (by simp[results,Tryz.results136,go_sem,r0,r1,r2,r3]) rfl ⟨rfl,?_⟩
 have hn:∀ j,(⟨w.heap.size+1+1,j,none⟩:Addr).block<w.heap.size->False:=fun j c=>by simp at c;omega
 have hw:Off (fun _=>False) w w1:=((((Off.refl _ w).alloc _).alloc _).alloc _).trans HO.out (fun _ _ c=>c)
 exact(((hw.setCell (hn 0) _).setCell (hn 1) _).setCell (hn 2) _).setCell (hn 3) _
set_option maxHeartbeats 1000000 in
theorem sub_any (a b:Nat) (ha:a<R256) (hb:b<R256) (w:World) :
  Calls Tryz.prog 130 #[V a,V b] w fun e w'=>e=.returned (.tuple #[V (subV a b),.int .u64 (ltN a b:Int)])/\Off (fun _=>False) w w':=by
 have H:=fun W=>apply_any 145 a b (subV a b) (borrowA W64 a b) (borrowA_zero _ _ _) (fun k hk w=>sub_op a b k hk hb w) W
 rw[borrow_top ha hb]at H
 obtain⟨c,hc⟩:∃ c:Nat,c=ltN a b:=⟨_,rfl⟩
 rw[<-hc]at H ⊢
 clear hc ha hb
 go_enter Tryz.func130,Tryz.ntmps130
 go_wp2_with fail
 refine(H _).mono ?_
 rintro e w1 ⟨rfl,hO⟩
 have hR:PartAt w1 (w.heap.size+1+1) 0 0:=hO.heap (heap_new' (by simp) _) (fun c=>c)
 have fz:=fun k=>frozen_of_heap hR.old k
 have r0:=hR.cell0 0 (by omega)
 have r1:=hR.cell0 1 (by omega)
 have r2:=hR.cell0 2 (by omega)
 have r3:=hR.cell0 3 (by omega)
 have HO:=hid hO
 clear hR hO H
 go_wp2
 refine bodyPost_ret (v:=.tuple #[V (subV a b),.int .u64 c]) (by simp[results,Tryz.results130,go_sem,r0,r1,r2,r3]) rfl ⟨rfl,?_⟩
 have hn:∀ j,(⟨w.heap.size+1+1,j,none⟩:Addr).block<w.heap.size->False:=fun j c=>by simp at c;omega
 have hw:Off (fun _=>False) w w1:=((((Off.refl _ w).alloc _).alloc _).alloc _).trans HO.out (fun _ _ c=>c)
 exact(((hw.setCell (hn 0) _).setCell (hn 1) _).setCell (hn 2) _).setCell (hn 3) _
end Go.Proofs.YtbkgghhngeibhaaGreatDoor
