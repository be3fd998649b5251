/-
  What loops over points keep: blocks that stay as they are, one list that is stored into, a list that is read, a tape. Plain facts on worlds; conditions as written.
  The positions but one, as lagrange's iterator yields them. Conditions: the number of positions is small.
  The contracts of lagrange's Check and of the reference's: the same number for every short list of ints. Conditions: the list is short.
  A list of a call's own, and Batch as one contract for every length: the inverses by Fermat's little theorem. Conditions: the field's constants are those of its modulus, the values lie below it, the list's block is no part of the tape.
  The contract of lagrange's pointsOf: the list of the points' elements, newly made. Conditions: the field's constants are those of its modulus, the ints lie from 1 to 255.
  The contract of lagrange's weights: the inverses of the products of the differences, newly made; the tape notes the pairs of different positions and Batch's events. Conditions: the field's constants are those of its modulus, the points are forms of values below it and lie outside the tape; there are at most 90.
-/
import Derived.Test.YtbkgghhngeibhaaGreatDoorNumsT
import Derived.Test.YtbkgghhngeibhaaGreatDoorLagMath
import Derived.Test.YtbkgghhngeibhaaGreatDoorPolCore
import Derived.Test.YtbkgghhngeibhaaGreatDoorTapeCore
import Derived.Test.YtbkgghhngeibhaaGreatDoorIntAll
import Derived.BigQuiet
import Derived.Test.YtbkgghhngeibhaaGreatDoorFieldGrp
import Derived.Test.YtbkgghhngeibhaaGreatDoorPowAll
import Derived.Test.YtbkgghhngeibhaaGreatDoorMontAll
namespace Go.Proofs.YtbkgghhngeibhaaGreatDoor
open Lib (hid)
section
open Go.RowKit

def Steady (o:Obj):Prop:=∃ c T,o=.cells c T (0,0)/\T≠83/\T≠113/\T≠115
theorem Steady.not {w:World} {k:Nat} {o:Obj} (h:Steady o) (hk:w.heap[k]?=some o):¬Typed w k:=by
 obtain⟨c,T,rfl,h1,h2,h3⟩:=h
 exact not_typed' hk h1 h2 h3
theorem Steady.kept {A B:World} {row:Option Nat} {o:Obj} (h:Steady o) {k:Nat} (hk:A.heap[k]?=some o) (hg:A.grownBy B row) (hr:∀ r,row=some r->∃ o:Obj,A.heap[r]?=some o/\o.isCells=false):B.heap[k]?=some o:=by
 obtain⟨c,T,rfl,_⟩:=h
 exact(grownBy_keeps_cells hg hr hk rfl).trans hk
structure Env (w W:World) (fx:List (Nat × Obj)) (arr:Nat) (L:List Nat) (v:Value) (xs:List Nat) (Sl:Nat->Prop) (q:Option Addr) (es:List Ev) (S:Nat->Prop):Prop where
 blk:∀ p∈fx,W.heap[p.1]?=some p.2
 st:∀ p∈fx,Steady p.2/\w.heap.size<=p.1/\p.1≠arr
 ars:NumsAt W arr 66 L
 new:w.heap.size<=arr
 src:LsAt W v xs Sl
 lst:∀ b,Sl b->b<w.heap.size/\¬S b
 tp:∃ S',Tp W q es S'/\∀ b,S' b->S b\/w.heap.size<=b
 old:∀ b,S b->b<w.heap.size
 off:Off S w W
section
variable {w W W':World} {fx:List (Nat × Obj)} {arr:Nat} {L L2:List Nat} {v:Value} {xs:List Nat} {Sl:Nat->Prop} {q:Option Addr} {es ls:List Ev} {S S':Nat->Prop}
theorem Env.get (h:Env w W fx arr L v xs Sl q es S) {b:Nat} {o:Obj} (hm:(b,o)∈fx):W.heap[b]?=some o:=h.blk _ hm
theorem Env.keep (h:Env w W fx arr L v xs Sl q es S) (ho:Off (fun _=>False) W W'):Env w W' fx arr L v xs Sl q es S:=by
 obtain⟨S',t1,t2⟩:=h.tp
 exact⟨fun p hp=>ho.heap (h.blk p hp) (fun c=>c),h.st,h.ars.off ho (fun c=>c),h.new,h.src.off ho (fun _ _ _ c=>c),h.lst,⟨S',t1.off0 ho,t2⟩,h.old,h.off.trans ho (fun _ _ c=>c.elim)⟩
theorem Env.kept {row:Option Nat} (h:Env w W fx arr L v xs Sl q es S) (hg:W.grownBy W' row) (hr:∀ r,row=some r->w.heap.size<=r/\∃ o:Obj,W.heap[r]?=some o/\o.isCells=false):Env w W' fx arr L v xs Sl q es S:=by
 have hr':∀ r,row=some r->∃ o:Obj,W.heap[r]?=some o/\o.isCells=false:=fun r e=>(hr r e).2
 obtain⟨S',t1,t2⟩:=h.tp
 exact⟨fun p hp=>(h.st p hp).1.kept (h.blk p hp) hg hr',h.st,(grownBy_keeps_cells hg hr' h.ars rfl).trans h.ars,h.new,h.src.kept hg hr',h.lst,⟨S',⟨t1.1.kept hg hr',fun b c=>Nat.lt_of_lt_of_le (t1.2 b c) hg.size⟩,t2⟩,h.old,h.off.later hg (fun r e=>(hr r e).1)⟩
theorem Env.tape (h:Env w W fx arr L v xs Sl q es S):∃ S',Tp W q es S'/\(∀ b,S' b->S b\/w.heap.size<=b)/\∀ b,S' b->Typed W b:=by
 obtain⟨S',t1,t2⟩:=h.tp
 exact⟨_,t1.typed,fun b c=>t2 b c.1,fun b c=>c.2⟩
theorem Env.noted (h:Env w W fx arr L v xs Sl q es S) (hn:∀ b,S' b->S b\/w.heap.size<=b) (ht:∀ b,S' b->Typed W b) (ho:Off S' W W') {B:Nat} (hB:w.heap.size<=B) (hN:Noted B q es ls S' W'):Env w W' fx arr L v xs Sl q (ext q es ls) S:=by
 obtain⟨S2,t1,t2⟩:=hN
 exact⟨fun p hp=>ho.heap (h.blk p hp) (fun c=>(h.st p hp).1.not (h.blk p hp) (ht _ c)),h.st,h.ars.off ho (fun c=>not_typed h.ars (ht _ c)),h.new,
  h.src.off ho (fun k _ hk c=>(hn k c).elim (h.lst k hk).2 (fun d=>by have:=(h.lst k hk).1;omega)),h.lst,⟨S2,t1,fun b c=>(t2 b c).elim (hn b) (fun d=>.inr (by omega))⟩,h.old,
  h.off.trans ho (fun k hk c=>(hn k c).elim (fun c=>c) (fun d=>by omega))⟩
theorem Env.put (h:Env w W fx arr L v xs Sl q es S) (ho:Off (fun k=>k=arr) W W') (hz:NumsAt W' arr 66 L2):Env w W' fx arr L2 v xs Sl q es S:=by
 obtain⟨S',t1,t2,t3⟩:=h.tape
 exact⟨fun p hp=>ho.heap (h.blk p hp) (h.st p hp).2.2,h.st,hz,h.new,h.src.off ho (fun k _ hk e=>by have:=(h.lst k hk).1;have:=h.new;omega),h.lst,
  ⟨S',t1.off ho (fun k e c=>by subst e;exact not_typed h.ars (t3 _ c)),t2⟩,h.old,h.off.trans ho (fun k hk e=>by have:=h.new;omega)⟩
theorem Env.more (h:Env w W fx arr L v xs Sl q es S) {b:Nat} {o:Obj} (hb:W.heap[b]?=some o) (hs:Steady o) (hn:w.heap.size<=b) (ha:b≠arr):Env w W ((b,o)::fx) arr L v xs Sl q es S :=
 ⟨fun p hp=>(List.mem_cons.1 hp).elim (fun e=>by subst e;exact hb) (h.blk p),fun p hp=>(List.mem_cons.1 hp).elim (fun e=>by subst e;exact⟨hs,hn,ha⟩) (h.st p),h.ars,h.new,h.src,h.lst,h.tp,h.old,h.off⟩
theorem Env.less {x:Nat × Obj} (h:Env w W (x::fx) arr L v xs Sl q es S):Env w W fx arr L v xs Sl q es S :=
 ⟨fun p hp=>h.blk p (List.mem_cons_of_mem _ hp),fun p hp=>h.st p (List.mem_cons_of_mem _ hp),h.ars,h.new,h.src,h.lst,h.tp,h.old,h.off⟩
theorem Env.sub {fx1:List (Nat × Obj)} (h:Env w W fx1 arr L v xs Sl q es S) (hs:∀ y∈fx,y∈fx1):Env w W fx arr L v xs Sl q es S :=
 ⟨fun p hp=>h.blk p (hs p hp),fun p hp=>h.st p (hs p hp),h.ars,h.new,h.src,h.lst,h.tp,h.old,h.off⟩
theorem Env.ne (h:Env w W fx arr L v xs Sl q es S) {b:Nat} {o:Obj} (hm:(b,o)∈fx):b≠arr:=(h.st _ hm).2.2
theorem Env.notedAll (h:Env w W fx arr L v xs Sl q (ext q es ls) S):Noted w.heap.size q es ls S W:=h.tp
end
theorem Noted.mono {B B':Nat} {q:Option Addr} {es ls:List Ev} {S:Nat->Prop} {w:World} (h:Noted B q es ls S w) (hB:B'<=B):Noted B' q es ls S w:=by
 obtain⟨S',h1,h2⟩:=h
 exact⟨S',h1,fun k c=>(h2 k c).imp (fun c=>c) (fun d=>by omega)⟩
structure Marks (W:World) (lo hi:Nat) (ds:List Nat):Prop where
 nodup:ds.Nodup
 at':∀ D∈ds,lo<=D/\D<hi/\W.heap[D]?=some (.deferred (some []))
theorem Marks.nil (W:World) (lo hi:Nat):Marks W lo hi []:=⟨List.nodup_nil,fun _ h=>by cases h⟩
theorem Marks.off {W W':World} {lo hi:Nat} {ds:List Nat} {S:Nat->Prop} (h:Marks W lo hi ds) (ho:Off S W W'):Marks W' lo hi ds :=
 ⟨h.nodup,fun D hD=>⟨(h.at' D hD).1,(h.at' D hD).2.1,ho.others _ _ (h.at' D hD).2.2 rfl⟩⟩
theorem Marks.kept {W W':World} {lo hi:Nat} {ds:List Nat} {row:Option Nat} (h:Marks W lo hi ds) (hg:W.grownBy W' row) (hr:∀ r,row=some r->hi<=r):Marks W' lo hi ds :=
 ⟨h.nodup,fun D hD=>⟨(h.at' D hD).1,(h.at' D hD).2.1,(hg.block D (heap_lt (h.at' D hD).2.2) (fun e=>by have:=hr D e.symm;have:=(h.at' D hD).2.1;omega)).trans (h.at' D hD).2.2⟩⟩
theorem Marks.mono {W:World} {lo hi hi':Nat} {ds:List Nat} (h:Marks W lo hi ds) (hh:hi<=hi'):Marks W lo hi' ds:=⟨h.nodup,fun D hD=>⟨(h.at' D hD).1,Nat.lt_of_lt_of_le (h.at' D hD).2.1 hh,(h.at' D hD).2.2⟩⟩
theorem Marks.cons {W:World} {lo hi hi' D:Nat} {ds:List Nat} (h:Marks W lo hi ds) (h1:hi<=D) (h2:D<hi') (h3:lo<=D) (hD:W.heap[D]?=some (.deferred (some []))):Marks W lo hi' (D::ds) :=
 ⟨List.nodup_cons.2 ⟨fun c=>by have:=(h.at' D c).2.1;omega,h.nodup⟩,fun E hE=>(List.mem_cons.1 hE).elim (fun e=>by subst e;exact⟨h3,h2,hD⟩) (fun hE=>⟨(h.at' E hE).1,by have:=(h.at' E hE).2.1;omega,(h.at' E hE).2.2⟩)⟩
def marks (ds:List Nat):List Deferred:=ds.map (fun D=>{ target:=.collected D,args:=#[] })
def shut (ds:List Nat) (W:World):World:=ds.foldl (fun W D=>W.putObj D (.deferred none)) W
theorem leaves_marks {F:Fence} {n:Nat} {P:Program} {fn:Func} {tmps:Array Value} {R:Ending->World->Prop}:∀ (ds:List Nat) (W:World) (lo hi:Nat),Marks W lo hi ds->LeavesIn F n P fn tmps R [] .returning (shut ds W)->LeavesInM F n P fn tmps R (marks ds) .returning W
 | [],_,_,_,_,h=>h
 | D::ds,W,lo,hi,hm,h=>by
  have hD:=(hm.at' D (List.mem_cons_self ..)).2.2
  have hn:=List.nodup_cons.1 hm.nodup
  refine⟨by simp,.inl ⟨_,_,rfl,run_takeDeferred hD,?_⟩⟩
  exact leaves_marks ds _ lo hi ⟨hn.2,fun E hE=>⟨(hm.at' E (List.mem_cons_of_mem _ hE)).1,(hm.at' E (List.mem_cons_of_mem _ hE)).2.1,(World.putObj_heap_other (fun e=>hn.1 (by rw[<-e];exact hE))).trans (hm.at' E (List.mem_cons_of_mem _ hE)).2.2⟩⟩ h
theorem shut_cells:∀ (ds:List Nat) (W:World) (lo hi:Nat),Marks W lo hi ds->CellsKept W (shut ds W)/\Quiet lo (fun _=>False) W (shut ds W)
 | [],W,lo,hi,_=>⟨fun _ _ _ _ h=>h,⟨rfl,rfl,rfl,Nat.le_refl _,fun _ _ _ _ h=>h,fun _ _ _ h _=>h⟩⟩
 | D::ds,W,lo,hi,hm=>by
  have hD:=(hm.at' D (List.mem_cons_self ..)).2.2
  have hn:=List.nodup_cons.1 hm.nodup
  obtain⟨h1,h2⟩:=shut_cells ds (W.putObj D (.deferred none)) lo hi ⟨hn.2,fun E hE=>⟨(hm.at' E (List.mem_cons_of_mem _ hE)).1,(hm.at' E (List.mem_cons_of_mem _ hE)).2.1,(World.putObj_heap_other (fun e=>hn.1 (by rw[<-e];exact hE))).trans (hm.at' E (List.mem_cons_of_mem _ hE)).2.2⟩⟩
  refine⟨fun k c t f hc=>h1 k c t f ((World.putObj_heap_other (fun e=>by subst e;rw[hD]at hc;cases hc)).trans hc),Quiet.trans (Quiet.putObj _ _ (hm.at' D (List.mem_cons_self ..)).1) h2⟩
def opE (n i:Nat) (l:List Nat):List Ev:=l.map (fun x=>((3:Int),(i:Int),((x%n:Nat):Int)))
def wpE (n:Nat):Nat->List Ev
 | 0=>[]
 | i+1=>wpE n i++opE n i (oth n i)
theorem opE_snoc (n i:Nat) (l:List Nat) (x:Nat):opE n i (l++[x])=opE n i l++[((3:Int),(i:Int),((x%n:Nat):Int))]:=by simp[opE]
theorem opE_length (n i:Nat) (l:List Nat):(opE n i l).length=l.length:=by simp[opE]
theorem oth_le (n i:Nat):(oth n i).length<=n:=by rw[oth_length];split <;> omega
theorem wpE_length (n:Nat):∀ i,(wpE n i).length<=i*n
 | 0=>by simp[wpE]
 | i+1=>by
  have:=wpE_length n i;have:=oth_le n i
  simp only[wpE,List.length_append,opE_length,Nat.add_mul,Nat.one_mul];omega
def upL (f:Nat->Nat) (n k:Nat):List Nat:=(List.range n).map (fun j=>if j<k then f j else 0)
theorem upL_length (f:Nat->Nat) (n k:Nat):(upL f n k).length=n:=by simp[upL]
theorem upL_zero (f:Nat->Nat) (n:Nat):upL f n 0=List.replicate n 0:=by simp[upL,List.map_const']
theorem upL_next (f:Nat->Nat) {n k:Nat} (hk:k<n):(upL f n k).set k (f k)=upL f n (k+1):=by
 apply ext_getD (by simp[upL])
 intro i hi
 rw[List.length_set,upL_length]at hi
 rw[getD_set _ _ _ _ (by rw[upL_length];exact hk),upL,upL,getD_range,getD_range,if_pos hi,if_pos hi]
 by_cases e:i=k
 ·subst e;rw[if_pos rfl,if_pos (by omega)]
 rw[if_neg e]
 by_cases h:i<k
 ·rw[if_pos h,if_pos (by omega)]
 rw[if_neg h,if_neg (by omega)]
theorem upL_full (f:Nat->Nat) (n:Nat):upL f n n=(List.range n).map f:=by
 unfold upL
 exact List.map_congr_left (fun j hj=>if_pos (List.mem_range.1 hj))
theorem upL_at (f:Nat->Nat) {n k:Nat} (hk:k<n):∃ u,(upL f n k)[k]?=some u:=⟨_,List.getElem?_eq_getElem (by rw[upL_length];exact hk)⟩
theorem map_getD_range (l:List Nat) (g:Nat->Nat):(List.range l.length).map (fun j=>g (l.getD j 0))=l.map g:=by
 apply List.ext_getElem (by simp)
 intro i h1 h2
 simp at h1
 simp[List.getD_eq_getElem?_getD,List.getElem?_eq_getElem h1]
theorem dfF_mod (p:Nat) (xs:List Nat) (i d:Nat) {n:Nat} (l:List Nat) (hl:∀ k∈l,k<n):dfF p xs i d (l.map (·%n))=dfF p xs i d l:=by
 rw[show l.map (·%n)=l from by
  rw[List.map_congr_left (f:=(·%n)) (g:=id) (fun k hk=>Nat.mod_eq_of_lt (hl k hk)),List.map_id]]
end
section
open Go.RowKit
attribute [local go_sem] Oper.semAt_some wide_fn
def Ro (nb ib n i:Nat) (W:World):Prop:=W.heap[nb]?=some (.cells #[.int .i64 n] 3 (0,0))/\W.heap[ib]?=some (.cells #[.int .i64 i] 3 (0,0))
theorem Ro.kept {nb ib n i:Nat} {A B:World} {row:Option Nat} (h:Ro nb ib n i A) (hg:A.grownBy B row) (hr:∀ r,row=some r->∃ o:Obj,A.heap[r]?=some o/\o.isCells=false):Ro nb ib n i B :=
 ⟨(grownBy_keeps_cells hg hr h.1 rfl).trans h.1,(grownBy_keeps_cells hg hr h.2 rfl).trans h.2⟩
set_option maxHeartbeats 1000000 in
theorem others_in (m:Nat) (n i:Nat) (w:World) :
  CallsIn Fence.wide m Tryz.prog 124 #[.int .i64 n,.int .i64 i] w fun e w'=>e=.returned (.func (.func 140) #[] #[.pointer (some ⟨w.heap.size,0,none⟩),.pointer (some ⟨w.heap.size+1,0,none⟩)])/\w'=(w.alloc (.cells #[.int .i64 n] 3)).alloc (.cells #[.int .i64 i] 3):=by
 refine callsIn_of_wp Tryz.func124 rfl trivial ?_ rfl
 simp only[Tryz.ntmps124,List.size_toArray,List.length_cons,List.length_nil,Nat.reduceAdd,Nat.reduceSub,Array.replicate_succ,Array.replicate_zero,List.push_toArray,List.append_toArray,List.nil_append,List.cons_append]
 gi_wp2
 go_ret
 exact⟨rfl,rfl⟩
set_option maxRecDepth 100000 in
set_option maxHeartbeats 2000000 in
theorem oth1_in (m:Nat) (hm:1<=m) (l nb ib n i:Nat) (hn2:n<=10000) (J Jx:List Nat->World->Prop) (W:World)
  (_hJ:∀ s A B,J s A->A.grownBy B none->J s B)
  (hY:∀ (pre:List Nat) (x:Nat) W,J pre W->pre.length<n->YieldAt Fence.wide (m-1) Tryz.prog l #[.int .i64 (((x%n:Nat):Int))] W fun e W' =>
   (e=.returned (.bool true)/\J (pre++[x]) W'/\(Ro nb ib n i W->Ro nb ib n i W'))\/(e=.returned (.bool false)/\Jx (pre++[x]) W'))
  (hR:Ro nb ib n i W) (h0:J [] W) :
  CallsIn Fence.wide m Tryz.prog 140 #[.func (.yield l) #[] #[],.pointer (some ⟨nb,0,none⟩),.pointer (some ⟨ib,0,none⟩)] W fun e W'=>(∃ v,e=.returned v) /\
   ((∃ ys,ys=oth n i/\J ys W')\/(∃ pre,(∃ k,k<=n/\pre=oth k i)/\Jx pre W')):=by
 refine callsIn_of_wp Tryz.func140 rfl trivial ?_ rfl
 simp only[Tryz.ntmps140,List.size_toArray,List.length_cons,List.length_nil,Nat.reduceAdd,Nat.reduceSub,Array.replicate_succ,Array.replicate_zero,List.push_toArray,List.append_toArray,List.nil_append,List.cons_append]
 have c0:W.cell? ⟨nb,0,none⟩=some (.int .i64 n):=cell_of_heap hR.1 0
 have HR:=hid hR
 have HY:=hid hY
 clear hR hY
 gi_wp2
 gi_loopw [6] (fun u wr=>∃ k:Nat,k<=n/\u=.int .i64 k/\J (oth k i) wr/\Ro nb ib n i wr) (fun u _=>n-(intOf u).toNat)
 case atStart=>exact⟨0,Nat.zero_le _,rfl,h0,HR.out⟩
 case round =>
  obtain⟨k,hk,rfl,hJs,hRk⟩:=hrel
  clear c0
  by_cases hlt:k<n
  ·have hkn:(k:Int)<(n:Int):=by omega
   have c1:wr.cell? ⟨ib,0,none⟩=some (.int .i64 i):=cell_of_heap hRk.2 0
   by_cases hki:k=i
   ·have HJs:=hid (show J (oth (k+1) i) wr by rw[oth_next,if_pos hki];exact hJs)
    have HRk:=hid hRk
    clear hJs hRk
    subst hki
    gi_wp2
    go_roundw
    case rel=>exact⟨k+1,by omega,by simp,HJs.out,HRk.out⟩
    case measure=>simp[intOf];omega
   have hne:((k:Int) != (i:Int))=true:=by simp;omega
   have hkm:k%n=k:=Nat.mod_eq_of_lt hlt
   have hol:(oth k i).length<n:=by rw[oth_length];split <;> omega
   obtain⟨fn,tmps,assign,body,hy,hround⟩:=HY.out _ k _ hJs hol
   rw[hkm]at hy
   have HRk:=hid hRk
   clear hJs hRk hkm hol
   gi_wp2
   refine hround.mono ?_
   rintro e W3 (⟨rfl,hJ3,hk3⟩ | ⟨rfl,hJx3⟩)
   ·have HJ3:=hid (show J (oth (k+1) i) W3 by rw[oth_next,if_neg hki];exact hJ3)
    have hR3:=hid (hk3 HRk.out)
    clear hround hk3 hy c1 hJ3
    gi_wp2
    go_roundw
    case rel=>exact⟨k+1,by omega,by simp,HJ3.out,hR3.out⟩
    case measure=>simp[intOf];omega
   clear hround hy c1
   gi_wp2
   refine bodyPost_ret (results_none rfl _ _ _) rfl ?_
   exact⟨⟨_,rfl⟩,.inr ⟨_,⟨k+1,by omega,by rw[oth_next,if_neg hki]⟩,hJx3⟩⟩
  obtain rfl:n=k:=by omega
  gi_wp2
  go_end0
  exact⟨⟨_,rfl⟩,.inl ⟨_,rfl,hJs⟩⟩
theorem oth_stops (m:Nat) (hm:1<=m) (nb ib n i:Nat) (hn2:n<=10000) (w:World) (hR:Ro nb ib n i w) :
  SeqStopsK Fence.wide m Tryz.prog 140 #[.pointer (some ⟨nb,0,none⟩),.pointer (some ⟨ib,0,none⟩)] (fun x:Nat=>#[.int .i64 (((x%n:Nat):Int))]) (fun A B=>Ro nb ib n i A->Ro nb ib n i B)
   (fun ys=>ys=oth n i) (fun pre=>∃ k,k<=n/\pre=oth k i) n w:=fun l J Jx W hW hJ _ hY h0=>by
 have hg:=below_grown hW
 exact oth1_in m hm l nb ib n i hn2 J Jx W (fun x A B hx hg=>hJ x A B none hx hg (fun r e=>by cases e)) (fun pre x W1 hj hlen=>hY pre x W1 hj hlen) (hR.kept hg (fun r e=>by cases e)) h0
end
section
open Go.RowKit Go.Maps

def chkV (xs:List Int):Int:=if ∃ x∈xs,x<1\/255<x then 12 else if xs.Nodup then 0 else 15
theorem chkV_range {xs:List Int} {x:Int} (hx:x∈xs) (h:x<1\/255<x):chkV xs=12:=if_pos ⟨x,hx,h⟩
theorem chkV_dup {xs:List Int} (h:∀ x∈xs,1<=x/\x<=255) (hd:¬xs.Nodup):chkV xs=15:=by
 unfold chkV
 rw[if_neg (fun⟨x,hx,hc⟩=>by have:=h x hx;omega),if_neg hd]
theorem chkV_ok {xs:List Int} (h:∀ x∈xs,1<=x/\x<=255) (hd:xs.Nodup):chkV xs=0:=by
 unfold chkV
 rw[if_neg (fun⟨x,hx,hc⟩=>by have:=h x hx;omega),if_pos hd]
theorem chkV_zero {xs:List Int} (h:chkV xs=0):(∀ x∈xs,1<=x/\x<=255)/\xs.Nodup:=by
 unfold chkV at h
 split at h
 ·cases h
 next hn =>
 split at h
 ·next hd=>exact⟨fun x hx=>by have:¬(x<1\/255<x):=fun c=>hn ⟨x,hx,c⟩;omega,hd⟩
 cases h
theorem nodup_take_succ {xs:List Int} {k:Nat} {x:Int} (hx:xs[k]?=some x) (h:(xs.take k).Nodup) (hn:x∉xs.take k):(xs.take (k+1)).Nodup:=by
 obtain⟨hk,hxk⟩:=List.getElem?_eq_some_iff.1 hx
 rw[List.take_succ_eq_append_getElem hk,hxk]
 refine List.nodup_append.2 ⟨h,by simp,fun a ha b hb e=>?_⟩
 simp only[List.mem_singleton]at hb
 subst hb e
 exact hn ha
theorem not_nodup_of {xs:List Int} {k:Nat} {x:Int} (hx:xs[k]?=some x) (hn:x∈xs.take k):¬xs.Nodup:=by
 obtain⟨hk,hxk⟩:=List.getElem?_eq_some_iff.1 hx
 intro h
 rw[<-List.take_append_drop k xs,List.nodup_append]at h
 refine h.2.2 x hn x ?_ rfl
 rw[List.drop_eq_getElem_cons hk,hxk]
 exact List.mem_cons_self ..
theorem mem_take_succ {xs:List Int} {k:Nat} {x y:Int} (hx:xs[k]?=some x):y∈xs.take (k+1)↔y∈xs.take k\/y=x:=by
 obtain⟨hk,hxk⟩:=List.getElem?_eq_some_iff.1 hx
 rw[List.take_succ_eq_append_getElem hk,hxk];simp
theorem Off.grown_new {S:Nat->Prop} {a w w':World} {B:Nat} (h:Off S a w) (hg:w.grownBy w' (some B)) (hB:a.heap.size<=B):Off S a w' :=
 ⟨hg.os.trans h.os,hg.tape.trans h.tape,hg.output.trans h.output,Nat.le_trans h.size hg.size,
  fun k hk hn=>(hg.block k (Nat.lt_of_lt_of_le hk h.size) (fun e=>by cases e;omega)).trans (h.block k hk hn),
  fun k o ho hc=>(hg.block k (Nat.lt_of_lt_of_le (heap_lt ho) h.size) (fun e=>by cases e;have:=heap_lt ho;omega)).trans (h.others k o ho hc)⟩
theorem plainElem_bool_inv {H:Type} {P:Program} {e:TypeId} (he:P.underlying e=some .bool) {v:Value} {z:DataW H × List MemPlace} (h:plainElem P e v=some z):∃ x,v=.bool x/\z=(.lit (.bool x),[]):=by
 unfold plainElem at h
 rw[he]at h
 cases v <;> simp at h
 exact⟨_,rfl,h.symm⟩
theorem seen_law:Keyed Tryz.prog 3:=int_keyed Tryz.underlying3
theorem seen_zero (w:World):(zeroValue 4).run Tryz.prog w=.ok (.bool false) w:=by kernel_rfl
def Seen (w:World) (B k:Nat) (xs:List Int):Prop:=∃ D:DataW Unit,w.ownsMap Tryz.prog 3 (plainElem Tryz.prog 4) B k D/\∀ y:Int,D.atKey (.int .i64 y) (.lit (.bool false))=.lit (.bool (decide (y∈xs.take k)))
theorem Seen.look {w:World} {B k:Nat} {xs:List Int} (h:Seen w B k xs) {y:Int} (hy:(Lit.int .i64 y).wf=true):(Instr.lookup 160 (.map (some B)) (.int .i64 y) false).run Tryz.prog w=.ok (.bool (decide (y∈xs.take k))) w:=by
 obtain⟨D,hD,hat⟩:=h
 obtain⟨v,ps,hrun,hv⟩:=hD.lookup seen_law Tryz.underlying160 (seen_zero w) (plainElem_bool Tryz.underlying4 false) (keyOf_int_mk Tryz.underlying3 hy)
 obtain⟨x,rfl,e⟩:=plainElem_bool_inv Tryz.underlying4 hv
 rw[hat y]at e
 simp at e
 rw[hrun,<-e.1]
theorem Seen.put {w:World} {B k:Nat} {xs:List Int} (h:Seen w B k xs) {x:Int} (hx:xs[k]?=some x) (hw:(Lit.int .i64 x).wf=true) (hk:k<maxLen) :
  ∃ w',(Instr.mapUpdate 160 (.map (some B)) (.int .i64 x) (.bool true)).run Tryz.prog w=.ok () w'/\Seen w' B (k+1) xs/\w.grownBy w' (some B):=by
 obtain⟨D,hD,hat⟩:=h
 obtain⟨w',hrun,hD',hg⟩:=hD.update seen_law Tryz.underlying160 hk (keyOf_int_mk Tryz.underlying3 hw) (plainElem_bool Tryz.underlying4 true)
 refine⟨w',hrun,⟨_,hD',fun y=>?_⟩,hg⟩
 by_cases e:y=x
 ·subst e
  rw[atKey_put_same hD.isMap (show WideAt.IsKeyLit (.int .i64 y) from trivial)]
  simp[mem_take_succ hx]
 rw[atKey_put_other (fun c=>e (by injection c))]
 rw[hat y]
 simp[mem_take_succ hx,e]
set_option maxRecDepth 100000 in
set_option maxHeartbeats 4000000 in
theorem check_any (xs:List Int) (hl:xs.length<=100000) (v:Value) (w:World) (hV:Iv w v xs) :
  Calls Tryz.prog 103 #[v] w fun e w'=>e=.returned (.int .i64 (chkV xs))/\Off (fun _=>False) w w':=by
 obtain⟨a,cap,rfl,hL⟩:=hV.open
 obtain⟨_,_,hwf⟩:=hL.len
 obtain⟨n,hn⟩:∃ n,n=xs.length:=⟨_,rfl⟩
 obtain⟨c,hc⟩:∃ c,c=chkV xs:=⟨_,rfl⟩
 rw[<-hn]at hL hl ⊢
 rw[<-hc]
 have HN:=hid hn
 have HC:=hid hc
 have HL:=hid hL
 have HW:=hid hwf
 have hmm:=@run_makeMap Tryz.prog
 clear hV hn hc hL hwf
 go_enter Tryz.func103,Tryz.ntmps103
 go_wp2_with fail
 go_loopw [10] (fun i wr=>∃ k:Nat,k<=n/\i=.int .i64 k/\(∀ x∈xs.take k,1<=x/\x<=255)/\Off (fun _=>False) w wr) (fun i _=>n-(intOf i).toNat)
 case atStart=>exact⟨0,Nat.zero_le _,rfl,fun _ h=>by simp at h,Off.refl _ _⟩
 case round =>
  obtain⟨k,hk,rfl,hr,hO⟩:=hrel
  by_cases hlt:k<n
  ·obtain⟨x,b,off,hx,rfl,c0,hwx,_⟩:=(HL.out.off hO (fun _ _ _ c=>c)).at hlt
   have HX:=hid hx
   have HR:=hid hr
   have HO:=hid hO
   have hkn:(k:Int)<(n:Int):=by omega
   clear hx hr hO
   by_cases h1:x<1
   ·have HB:=hid (show c=12 by rw[HC.out];exact chkV_range (List.mem_of_getElem? HX.out) (.inl h1))
    go_wp2
    refine bodyPost_ret (results_tmp rfl _ _ _) rfl ?_
    exact⟨by rw[HB.out];rfl,HO.out⟩
   by_cases h2:255<x
   ·have HB:=hid (show c=12 by rw[HC.out];exact chkV_range (List.mem_of_getElem? HX.out) (.inr h2))
    go_wp2
    refine bodyPost_ret (results_tmp rfl _ _ _) rfl ?_
    exact⟨by rw[HB.out];rfl,HO.out⟩
   go_wp2
   go_roundw
   case rel =>
    refine⟨k+1,by omega,by simp,fun y hy=>?_,HO.out⟩
    rcases(mem_take_succ HX.out).1 hy with h | rfl
    ·exact HR.out y h
    omega
   case measure=>simp[intOf] <;> omega
  obtain rfl:n=k:=by omega
  rw[List.take_of_length_le (by rw[<-HN.out];exact Nat.le_refl _)]at hr
  have HR:=hid hr
  obtain⟨W1,hW1⟩:∃ W1,W1=wr.alloc (.map #[] 0):=⟨_,rfl⟩
  obtain⟨B,hB⟩:∃ B,B=wr.heap.size:=⟨_,rfl⟩
  have hO1:Off (fun _=>False) w W1:=by rw[hW1];exact hO.alloc _
  have hS1:Seen W1 B 0 xs:=by
   rw[hW1,hB]
   exact⟨_,World.ownsMap_made _ _ _ _,fun y=>by simp[DataW.atKey]⟩
  have hwB:w.heap.size<=B:=by rw[hB];exact hO.size
  have HW1:=hid hW1
  have HB1:=hid hB
  have HO1:=hid hO1
  have HS1:=hid hS1
  clear hr hO hO1 hS1 hW1 hB
  go_wp2
  rw[<-HW1.out,<-HB1.out]
  go_loopw [24] (fun i wr=>∃ k:Nat,k<=n/\i=.int .i64 k/\(xs.take k).Nodup/\Seen wr B k xs/\Off (fun _=>False) w wr) (fun i _=>n-(intOf i).toNat)
  case atStart=>exact⟨0,Nat.zero_le _,rfl,by simp,HS1.out,HO1.out⟩
  case round =>
   obtain⟨k,hk,rfl,hr,hS,hO⟩:=hrel
   by_cases hlt:k<n
   ·obtain⟨x,b,off,hx,rfl,c0,hwx,_⟩:=(HL.out.off hO (fun _ _ _ c=>c)).at hlt
    have hlook:=hS.look hwx
    have HX:=hid hx
    have HRd:=hid hr
    have HO:=hid hO
    have hkn:(k:Int)<(n:Int):=by omega
    by_cases h1:x∈xs.take k
    ·rw[decide_eq_true h1]at hlook
     have HBc:=hid (show c=15 by rw[HC.out];exact chkV_dup HR.out (not_nodup_of hx h1))
     clear hx hr hO hS
     go_wp2
     refine bodyPost_ret (results_tmp rfl _ _ _) rfl ?_
     exact⟨by rw[HBc.out];rfl,HO.out⟩
    rw[decide_eq_false h1]at hlook
    obtain⟨W2,hput,hS2,hg2⟩:=hS.put hx hwx (by unfold maxLen;omega)
    have HS2:=hid hS2
    have HO2:=hid (hO.grown_new hg2 hwB)
    clear hx hr hO hS hS2 hg2
    go_wp2
    go_roundw
    case rel=>exact⟨k+1,by omega,by simp,nodup_take_succ HX.out HRd.out h1,HS2.out,HO2.out⟩
    case measure=>simp[intOf] <;> omega
   obtain rfl:n=k:=by omega
   rw[List.take_of_length_le (by rw[<-HN.out];exact Nat.le_refl _)]at hr
   have HBc:=hid (show c=0 by rw[HC.out];exact chkV_ok HR.out hr)
   have HO:=hid hO
   clear hr hO hS
   go_wp2
   refine bodyPost_ret (results_tmp rfl _ _ _) rfl ?_
   exact⟨by rw[HBc.out];rfl,HO.out⟩
end
section
open Go.RowKit
def OwnL (B:Nat) (w:World) (v:Value) (ys:List Nat):Prop:=(ys=[]/\v=.slice none 0 0)\/∃ b,v=.slice (some ⟨b,0,none⟩) ys.length ys.length/\B<=b/\NumsAt w b 66 ys
theorem OwnL.mono {B B':Nat} {w:World} {v:Value} {ys:List Nat} (h:OwnL B w v ys) (hB:B'<=B):OwnL B' w v ys :=
 h.imp id (fun⟨b,h1,h2,h3⟩=>⟨b,h1,Nat.le_trans hB h2,h3⟩)
theorem OwnL.off {B:Nat} {w w':World} {v:Value} {ys:List Nat} {S:Nat->Prop} (h:OwnL B w v ys) (ho:Off S w w') (hs:∀ b c,w.heap[b]?=some (.cells c 66 (0,0))->B<=b->¬S b):OwnL B w' v ys :=
 h.imp id (fun⟨b,h1,h2,h3⟩=>⟨b,h1,h2,h3.off ho (hs b _ h3 h2)⟩)
theorem OwnL.ls {B:Nat} {w:World} {v:Value} {ys:List Nat} (h:OwnL B w v ys) (hl:ys.length<=100000):LsAt w v ys (fun b=>B<=b):=by
 rcases h with ⟨rfl,rfl⟩ | ⟨b,rfl,h2,h3⟩
 ·exact⟨none,0,rfl,Nat.zero_le _,fun h=>by simp at h⟩
 exact⟨some ⟨b,0,none⟩,_,rfl,hl,fun _=>⟨b,0,rfl,h2,fun j x hx=>by have:=NumsAt.cell h3 hx;rw[Nat.zero_add];exact this⟩⟩
theorem fld_full {id:Int} {p i r s:Nat} (hF:Fld id p i r s):p%2=1/\Fer p/\2<p/\256<=p:=by
 rcases modN_of hF.mp.one hF.mod with ⟨_,rfl⟩ | ⟨_,rfl⟩
 ·exact⟨by decide +kernel,fermat_p1,by decide +kernel,by decide +kernel⟩
 exact⟨by decide +kernel,fermat_p2,by decide +kernel,by decide +kernel⟩
theorem bat_eq {p:Nat} (h2:2<p) (hf:Fer p) (vs:List Nat) (hv:∀ v∈vs,v<p):batL p vs=vs.map (fun v=>v^(p-2)%p):=by
 apply List.ext_getElem (by simp[batL])
 intro i h1 h3
 simp only[batL,List.length_map,List.length_range]at h1
 simp only[batL,List.getElem_map,List.getElem_range]
 have hg:vs.getD i 0=vs[i]:=by rw[List.getD_eq_getElem?_getD,List.getElem?_eq_getElem h1];rfl
 by_cases h0:vs.getD i 0=0
 ·rw[batV_zero p vs h0,<-hg,h0,inv_zero h2]
 have hlt:vs[i]<p:=hv _ (List.getElem_mem h1)
 have hne:vs[i]%p≠0:=by rw[Nat.mod_eq_of_lt hlt,<-hg];exact h0
 have e1:=batV_inv (by omega) hf hv h1 h0
 have e2:=inv_mul (by omega) hf hne
 rw[hg]at e1
 have e3:=inv_mul (by omega) hf hne
 have key:vs[i]^(p-2)%p*(vs[i]*batV p vs i)%p=vs[i]^(p-2)%p*(vs[i]*(vs[i]^(p-2)%p))%p:=by
  rw[<-Nat.mul_mod_mod,e1,<-Nat.mul_mod_mod _ (vs[i]*_),e2]
 rw[<-Nat.mul_assoc,<-Nat.mul_assoc,Nat.mul_comm (vs[i]^(p-2)%p) vs[i],<-Nat.mod_mul_mod,e3,Nat.one_mul,<-Nat.mod_mul_mod (vs[i]*_),e3,Nat.one_mul]at key
 rw[Nat.mod_eq_of_lt (batV_lt (by omega) vs i),Nat.mod_mod]at key
 exact key
theorem batE_le (n:Nat):(batE n).length<=2*n+1088:=by
 unfold batE
 split
 ·simp
 rw[List.length_append,List.length_append,coefU_length,coefD_length,powE_length,List.length_range];omega
theorem bat_any {id:Int} {p i0 r s:Nat} (hF:Fld id p i0 r s) (vs:List Nat) (hv:∀ v∈vs,v<p) (n b:Nat) (hn:n=vs.length) (hn2:n<=10000) (q:Option Addr) (es:List Ev) (S:Nat->Prop) (w:World)
  (hN:NumsAt w b 66 (vs.map (fm p))) (hb:¬S b) (hS:Tp w q es S) (hl:es.length<=60000) :
  Calls Tryz.prog 126 #[.pointer q,FV id p i0 r s,.slice (some ⟨b,0,none⟩) n n] w fun e w'=>∃ v,e=.returned v/\OwnL w.heap.size w' v ((vs.map (fun v=>v^(p-2)%p)).map (fm p))/\Noted w.heap.size q es (batE n) S w'/\Off S w w':=by
 by_cases h0:n=0
 ·subst h0
  have hvs:vs=[]:=List.eq_nil_of_length_eq_zero hn.symm
  subst hvs
  refine(batch_nil 0 (some ⟨b,0,none⟩) q w).mono ?_
  rintro e w' ⟨rfl,hO⟩
  exact⟨_,rfl,.inl ⟨rfl,rfl⟩,(hS.off0 hO).noted _,hO.mono (fun _ _ c=>c.elim)⟩
 have hL:LsAt w (.slice (some ⟨b,0,none⟩) n n) (vs.map (fm p)) (fun k=>k=b) :=
  ⟨some ⟨b,0,none⟩,n,by rw[List.length_map,hn],by rw[List.length_map];omega,fun _=>⟨b,0,rfl,rfl,fun j x hx=>by have:=NumsAt.cell hN hx;rw[Nat.zero_add];exact this⟩⟩
 refine(batch_some hF vs hv n n _ hn (by omega) hn2 q es S (fun k=>k=b) w hL (fun k e=>by subst e;exact⟨NumsAt.lt hN,hb⟩) hS hl).mono ?_
 rintro e w' ⟨b',rfl,hb',hN',hT,hO⟩
 obtain⟨_,hf,h2,_⟩:=fld_full hF
 rw[bat_eq h2 hf vs hv]at hN'
 exact⟨_,rfl,.inr ⟨b',by simp[hn],hb',hN'⟩,hT,hO⟩
end
section
open Go.RowKit
attribute [local go_sem ↓] Go.wp_at_zero Go.wp_at_succ
def ptV (xs:List Int):List Nat:=xs.map Int.toNat
theorem ptV_length (xs:List Int):(ptV xs).length=xs.length:=by simp[ptV]
theorem ptV_at {xs:List Int} {k:Nat} {x:Int} (h:xs[k]?=some x):(ptV xs).getD k 0=x.toNat:=by
 unfold ptV
 rw[List.getD_eq_getElem?_getD,List.getElem?_map,h];rfl
theorem ptV_lt {p:Nat} (hp:256<=p) {xs:List Int} (h:∀ x∈xs,1<=x/\x<=255):∀ v∈ptV xs,v<p:=by
 intro v hv
 obtain⟨x,hx,rfl⟩:=List.mem_map.1 hv
 have:=h x hx
 omega
theorem fld_big {id:Int} {p i r s:Nat} (hF:Fld id p i r s):256<=p:=by
 rcases modN_of hF.mp.one hF.mod with ⟨_,h⟩ | ⟨_,h⟩ <;> rw[h] <;> decide +kernel
set_option maxRecDepth 100000 in
set_option maxHeartbeats 4000000 in
theorem pts_any {id:Int} {p i0 r s:Nat} (hF:Fld id p i0 r s) (xs:List Int) (hx:∀ x∈xs,1<=x/\x<=255) (hl:xs.length<=10000) (v:Value) (w:World) (hV:Iv w v xs) :
  Calls Tryz.prog 104 #[FV id p i0 r s,v] w fun e w'=>∃ b,e=.returned (.slice (some ⟨b,0,none⟩) xs.length xs.length)/\w.heap.size<=b/\NumsAt w' b 66 ((ptV xs).map (fm p))/\Off (fun _=>False) w w':=by
 obtain⟨a,cap,rfl,hL⟩:=hV.open
 obtain⟨n,hn⟩:∃ n,n=xs.length:=⟨_,rfl⟩
 rw[<-hn]at hL hl ⊢
 have hmk:=run_make_el n (by omega)
 have hbig:=fld_big hF
 have HTo:=hid (fun m (hm:m<256) W=>by have h:=mto_any hF m (Nat.lt_trans hm (by decide +kernel)) W;rw[fm_mod]at h;exact h:∀ m,m<256->∀ W,Calls Tryz.prog 115 #[FV id p i0 r s,V m] W fun e w'=>e=.returned (V (fm p m))/\Off (fun _=>False) W w')
 obtain⟨fL,hfL⟩:∃ f:Nat->Nat,f=fun j=>fm p ((ptV xs).getD j 0):=⟨_,rfl⟩
 have hfull:upL fL n n=(ptV xs).map (fm p):=by
  rw[upL_full,hfL,hn,<-ptV_length xs]
  exact map_getD_range _ _
 have HN:=hid hn
 have HL:=hid hL
 have HFu:=hid hfull
 have HfL:=hid hfL
 have HR:=hid hx
 clear hV hn hL hfull hfL hx hF
 go_enter Tryz.func104,Tryz.ntmps104
 go_wp2_with fail
 obtain⟨W2,hW2⟩:∃ W2,W2=(w.alloc (.cells #[.int .i64 id,.int .u64 (wd p 0),.int .u64 (wd p 1),.int .u64 (wd p 2),.int .u64 (wd p 3),.int .u64 i0,.int .u64 (wd r 0),.int .u64 (wd r 1),.int .u64 (wd r 2),.int .u64 (wd r 3),.int .u64 (wd s 0),.int .u64 (wd s 1),.int .u64 (wd s 2),.int .u64 (wd s 3)] 104)).alloc (.cells (flat4 (List.replicate n 0)).toArray 66):=⟨_,rfl⟩
 have hOW2:Off (fun _=>False) w W2:=by rw[hW2];exact((Off.refl _ w).alloc _).alloc _
 have g_bf:W2.heap[w.heap.size]?=some (.cells #[.int .i64 id,.int .u64 (wd p 0),.int .u64 (wd p 1),.int .u64 (wd p 2),.int .u64 (wd p 3),.int .u64 i0,.int .u64 (wd r 0),.int .u64 (wd r 1),.int .u64 (wd r 2),.int .u64 (wd r 3),.int .u64 (wd s 0),.int .u64 (wd s 1),.int .u64 (wd s 2),.int .u64 (wd s 3)] 104 (0,0)):=by rw[hW2];exact heap_old' (heap_new' rfl _) _
 have g_arr:W2.heap[w.heap.size+1]?=some (.cells (flat4 (List.replicate n 0)).toArray 66 (0,0)):=by rw[hW2];exact heap_new' (by simp) _
 have hsW2:W2.heap.size=w.heap.size+1+1:=by rw[hW2];simp
 rw[<-hW2]
 obtain⟨arr,e_arr⟩:∃ arr,arr=w.heap.size+1:=⟨_,rfl⟩
 rw[<-e_arr]at g_arr ⊢
 obtain⟨bf,e_bf⟩:∃ bf,bf=w.heap.size:=⟨_,rfl⟩
 rw[<-e_bf]at g_bf ⊢
 have HBk:=hid (show bf=w.heap.size/\arr=w.heap.size+1/\W2.heap.size=w.heap.size+1+1 from⟨e_bf,e_arr,hsW2⟩)
 clear hW2 hsW2 e_bf e_arr
 have HO2:=hid hOW2
 have HbF:=hid g_bf
 have Har:=hid (show NumsAt W2 arr 66 (upL fL n 0) by rw[upL_zero];exact g_arr)
 have hb:=HBk.out
 have hfa:bf≠arr:=by omega
 have hwa:w.heap.size<=arr:=by omega
 clear hOW2 g_bf g_arr hb hmk
 go_loopw [13] (fun i wr=>∃ k:Nat,k<=n/\i=.int .i64 k/\NumsAt wr arr 66 (upL fL n k)/\wr.heap[bf]?=some (.cells #[.int .i64 id,.int .u64 (wd p 0),.int .u64 (wd p 1),.int .u64 (wd p 2),.int .u64 (wd p 3),.int .u64 i0,.int .u64 (wd r 0),.int .u64 (wd r 1),.int .u64 (wd r 2),.int .u64 (wd r 3),.int .u64 (wd s 0),.int .u64 (wd s 1),.int .u64 (wd s 2),.int .u64 (wd s 3)] 104 (0,0))/\Off (fun _=>False) w wr) (fun i _=>n-(intOf i).toNat)
 case atStart=>exact⟨0,Nat.zero_le _,rfl,Har.out,HbF.out,HO2.out⟩
 case round =>
  obtain⟨k,hk,rfl,har,hbf,hO⟩:=hrel
  by_cases hlt:k<n
  ·obtain⟨x,b,off,hxk,rfl,c0,hwx,_⟩:=(HL.out.off hO (fun _ _ _ c=>c)).at hlt
   obtain⟨m,hm⟩:∃ m,m=x.toNat:=⟨_,rfl⟩
   have hx:=HR.out x (List.mem_of_getElem? hxk)
   have hxm:x=(m:Int):=by omega
   have hm2:m<256:=by omega
   have hfk:fL k=fm p m:=by rw[HfL.out];show fm p ((ptV xs).getD k 0)=_;rw[ptV_at hxk,<-hm]
   subst hxm
   obtain⟨z,hz⟩:∃ z,z=fm p m:=⟨_,rfl⟩
   have HT2:=hid (show ∀ W,Calls Tryz.prog 115 #[FV id p i0 r s,.agg #[.int .u64 m,.int .u64 0,.int .u64 0,.int .u64 0]] W fun e w'=>e=.returned (V z)/\Off (fun _=>False) W w' from fun W=>by rw[<-lit_small m (by omega),hz];exact HTo.out m hm2 W)
   have hwm:IntKind.u64.wrap (m:Int)=(m:Int):=by rw[IntKind.wrap_u64];omega
   obtain⟨f0,f1,f2,f3,f4,f5,f6,f7,f8,f9,f10,f11,f12,f13⟩:=fv_cells hbf
   have hkn:(k:Int)<(n:Int):=by omega
   have Hnx:=hid (show(upL fL n k).set k z=upL fL n (k+1) by rw[hz,<-hfk];exact upL_next fL hlt)
   have HA:=hid har
   have HB:=hid hbf
   have HO:=hid hO
   clear har hbf hO hxk hwx hm hx hfk hz
   go_wp2_with fail
   refine(HT2.out _).mono ?_
   rintro e u ⟨rfl,hOu⟩
   clear f0 f1 f2 f3 f4 f5 f6 f7 f8 f9 f10 f11 f12 f13 c0
   have ha:=HA.out.off hOu (fun c=>c)
   obtain⟨e0,he0⟩:=upL_at fL hlt
   obtain⟨m0,m1,m2,m3⟩:=NumsAt.cell ha he0
   have fz:=fun j=>NumsAt.frozen ha j
   have lt:=NumsAt.lt ha
   have HA2:=hid ha
   have HB2:=hid (hOu.heap HB.out (fun c=>c))
   have HO2:=hid (HO.out.trans hOu (fun _ _ c=>c))
   clear ha hOu he0
   go_wp2_with fail
   go_roundw
   case rel =>
    refine⟨k+1,by omega,by simp,?_,?_,?_⟩
    ·rw[<-Hnx.out];exact HA2.out.store (by rw[upL_length];exact hlt) z
    ·exact(setCells_off arr (words4 z) (k*4) u).heap HB2.out hfa
    exact setCells_in_at HO2.out (fun c=>by omega) (words4 z)
   case measure=>simp[intOf] <;> omega
  obtain rfl:n=k:=by omega
  rw[HFu.out]at har
  have HA:=hid har
  have HO:=hid hO
  clear har hbf hO
  go_wp2_with fail
  refine bodyPost_ret (results_tmp rfl _ _ _) rfl ?_
  exact⟨arr,rfl,hwa,HA.out,HO.out⟩
end
section
open Go.RowKit
attribute [local go_sem] Oper.semAt_some wide_fn
set_option maxRecDepth 100000 in
set_option maxHeartbeats 4000000 in
theorem wts_any {id:Int} {p i0 r s:Nat} (hF:Fld id p i0 r s) (xs:List Nat) (hx:∀ x∈xs,x<p) (n cap:Nat) (a:Option Addr) (hn:n=xs.length) (hn2:n<=90) (q:Option Addr) (es:List Ev) (S Sl:Nat->Prop) (w:World)
  (hL:LsAt w (.slice a n cap) (xs.map (fm p)) Sl) (hSl:∀ b,Sl b->b<w.heap.size/\¬S b) (hS:Tp w q es S) (hl:es.length<=50000) :
  Calls Tryz.prog 110 #[.pointer q,FV id p i0 r s,.slice a n cap] w fun e w'=>∃ v,e=.returned v/\OwnL w.heap.size w' v ((wgtL p xs).map (fm p))/\Noted w.heap.size q es (wpE n n++batE n) S w'/\Off S w w':=by
 refine(callsIn_wide (n:=6)).1 ?_
 refine callsIn_of_wp_marks Tryz.func110 rfl trivial ?_ rfl
 simp only[Tryz.ntmps110,List.size_toArray,List.length_cons,List.length_nil,Nat.reduceAdd,Nat.reduceSub,Array.replicate_succ,Array.replicate_zero,List.push_toArray,List.append_toArray,List.nil_append,List.cons_append]
 have hmx:Tryz.prog.follows .mixedOrders=true:=by kernel_rfl
 have hmk:=run_make_el n (by omega)
 obtain⟨fD,hfD⟩:∃ f:Nat->Nat,f=fun j=>dfF p xs j 1 (oth n j):=⟨_,rfl⟩
 have HN:=hid hn
 have HL:=hid hL
 have HSl:=hid hSl
 have HS:=hid hS
 have HX:=hid hx
 have HfD:=hid hfD
 have HF:=hid hF
 have HM:=hid (fun x y W=>by have h:=mmul_any hF (fm p x) (fm p y) (Nat.lt_trans (fm_lt hF.mp.pos _) hF.mp.lt) (fm_lt hF.mp.pos _) W;rw[mm_fm hF.mp]at h;exact h:∀ x y W,Calls Tryz.prog 109 #[FV id p i0 r s,V (fm p x),V (fm p y)] W fun x' w'=>x'=.returned (V (fm p (x*y%p)))/\Off (fun _=>False) W w')
 have HSb:=hid (fun x y hy W=>by have h:=msub_any hF (fm p x) (fm p y) (fm_lt hF.mp.pos _) (fm_lt hF.mp.pos _) W;rw[fm_sub hF.mp.pos hy]at h;exact h:∀ x y,y<p->∀ W,Calls Tryz.prog 125 #[FV id p i0 r s,V (fm p x),V (fm p y)] W fun x' w'=>x'=.returned (V (fm p ((x+(p-y))%p)))/\Off (fun _=>False) W w')
 clear hn hL hSl hS hx hfD hF
 gi_wp2
 obtain⟨W5,hW5⟩:∃ W5,W5=((((w.alloc (.cells #[.pointer q] 40)).alloc (.cells #[.int .i64 id,.int .u64 (wd p 0),.int .u64 (wd p 1),.int .u64 (wd p 2),.int .u64 (wd p 3),.int .u64 i0,.int .u64 (wd r 0),.int .u64 (wd r 1),.int .u64 (wd r 2),.int .u64 (wd r 3),.int .u64 (wd s 0),.int .u64 (wd s 1),.int .u64 (wd s 2),.int .u64 (wd s 3)] 104)).alloc (.cells #[.slice a n cap] 43)).alloc (.cells (flat4 (List.replicate n 0)).toArray 66)).alloc (.cells #[.slice (some ⟨w.heap.size+1+1+1,0,none⟩) n n] 43):=⟨_,rfl⟩
 have hOW5:Off (fun _=>False) w W5:=by rw[hW5];exact(((((Off.refl _ w).alloc _).alloc _).alloc _).alloc _).alloc _
 have g_bt:W5.heap[w.heap.size]?=some (.cells #[.pointer q] 40 (0,0)):=by rw[hW5];exact heap_old' (heap_old' (heap_old' (heap_old' (heap_new' rfl _) _) _) _) _
 have g_bf:W5.heap[w.heap.size+1]?=some (.cells #[.int .i64 id,.int .u64 (wd p 0),.int .u64 (wd p 1),.int .u64 (wd p 2),.int .u64 (wd p 3),.int .u64 i0,.int .u64 (wd r 0),.int .u64 (wd r 1),.int .u64 (wd r 2),.int .u64 (wd r 3),.int .u64 (wd s 0),.int .u64 (wd s 1),.int .u64 (wd s 2),.int .u64 (wd s 3)] 104 (0,0)):=by rw[hW5];exact heap_old' (heap_old' (heap_old' (heap_new' (by simp) _) _) _) _
 have g_bp:W5.heap[w.heap.size+1+1]?=some (.cells #[.slice a n cap] 43 (0,0)):=by rw[hW5];exact heap_old' (heap_old' (heap_new' (by simp) _) _) _
 have g_arr:W5.heap[w.heap.size+1+1+1]?=some (.cells (flat4 (List.replicate n 0)).toArray 66 (0,0)):=by rw[hW5];exact heap_old' (heap_new' (by simp) _) _
 have g_bs:W5.heap[w.heap.size+1+1+1+1]?=some (.cells #[.slice (some ⟨w.heap.size+1+1+1,0,none⟩) n n] 43 (0,0)):=by rw[hW5];exact heap_new' (by simp) _
 have hsW5:W5.heap.size=w.heap.size+1+1+1+1+1:=by rw[hW5];simp
 rw[<-hW5]
 obtain⟨bs,e_bs⟩:∃ bs,bs=w.heap.size+1+1+1+1:=⟨_,rfl⟩
 rw[<-e_bs]at g_bs ⊢
 obtain⟨arr,e_arr⟩:∃ arr,arr=w.heap.size+1+1+1:=⟨_,rfl⟩
 rw[<-e_arr]at g_arr g_bs ⊢
 obtain⟨bp,e_bp⟩:∃ bp,bp=w.heap.size+1+1:=⟨_,rfl⟩
 rw[<-e_bp]at g_bp ⊢
 obtain⟨bf,e_bf⟩:∃ bf,bf=w.heap.size+1:=⟨_,rfl⟩
 rw[<-e_bf]at g_bf ⊢
 obtain⟨bt,e_bt⟩:∃ bt,bt=w.heap.size:=⟨_,rfl⟩
 rw[<-e_bt]at g_bt ⊢
 have HBk:=hid (show bt=w.heap.size/\bf=w.heap.size+1/\bp=w.heap.size+1+1/\arr=w.heap.size+1+1+1/\bs=w.heap.size+1+1+1+1/\W5.heap.size=w.heap.size+1+1+1+1+1 from⟨e_bt,e_bf,e_bp,e_arr,e_bs,hsW5⟩)
 clear hW5 hsW5 e_bt e_bf e_bp e_arr e_bs
 obtain⟨fx0,hfx⟩:∃ f:List (Nat × Obj),f=[(bt,Obj.cells #[.pointer q] 40 (0,0)),(bf,Obj.cells #[.int .i64 id,.int .u64 (wd p 0),.int .u64 (wd p 1),.int .u64 (wd p 2),.int .u64 (wd p 3),.int .u64 i0,.int .u64 (wd r 0),.int .u64 (wd r 1),.int .u64 (wd r 2),.int .u64 (wd r 3),.int .u64 (wd s 0),.int .u64 (wd s 1),.int .u64 (wd s 2),.int .u64 (wd s 3)] 104 (0,0)),(bp,Obj.cells #[.slice a n cap] 43 (0,0)),(bs,Obj.cells #[.slice (some ⟨arr,0,none⟩) n n] 43 (0,0))]:=⟨_,rfl⟩
 have hE0:Env w W5 fx0 arr ((upL fD n 0).map (fm p)) (.slice a n cap) (xs.map (fm p)) Sl q (ext q es (wpE n 0)) S:=by
  have hb:=HBk.out
  refine⟨?_,?_,?_,by omega,HL.out.off hOW5 (fun _ _ _ c=>c),HSl.out,⟨S,?_,fun _ c=>.inl c⟩,HS.out.2,hOW5.mono (fun _ _ c=>c.elim)⟩
  ·rw[hfx];simp only[List.mem_cons,List.not_mem_nil,or_false,forall_eq_or_imp,forall_eq];exact⟨g_bt,g_bf,g_bp,g_bs⟩
  ·rw[hfx];simp only[List.mem_cons,List.not_mem_nil,or_false,forall_eq_or_imp,forall_eq]
   exact⟨⟨⟨_,_,rfl,by decide,by decide,by decide⟩,by omega,by omega⟩,⟨⟨_,_,rfl,by decide,by decide,by decide⟩,by omega,by omega⟩,⟨⟨_,_,rfl,by decide,by decide,by decide⟩,by omega,by omega⟩,⟨⟨_,_,rfl,by decide,by decide,by decide⟩,by omega,by omega⟩⟩
  ·rw[upL_zero,List.map_replicate,fm_zero];exact g_arr
  rw[show wpE n 0=[] from rfl,ext_nil];exact HS.out.off0 hOW5
 have Mbt:=hid (show(bt,Obj.cells #[.pointer q] 40 (0,0))∈fx0 by rw[hfx];simp)
 have Mbf:=hid (show(bf,Obj.cells #[.int .i64 id,.int .u64 (wd p 0),.int .u64 (wd p 1),.int .u64 (wd p 2),.int .u64 (wd p 3),.int .u64 i0,.int .u64 (wd r 0),.int .u64 (wd r 1),.int .u64 (wd r 2),.int .u64 (wd r 3),.int .u64 (wd s 0),.int .u64 (wd s 1),.int .u64 (wd s 2),.int .u64 (wd s 3)] 104 (0,0))∈fx0 by rw[hfx];simp)
 have Mbp:=hid (show(bp,Obj.cells #[.slice a n cap] 43 (0,0))∈fx0 by rw[hfx];simp)
 have Mbs:=hid (show(bs,Obj.cells #[.slice (some ⟨arr,0,none⟩) n n] 43 (0,0))∈fx0 by rw[hfx];simp)
 have HE0:=hid hE0
 clear hE0 hfx g_bt g_bf g_bp g_arr g_bs hOW5 hmk
 refine wpIn_loop (fun a' W=>∃ (k:Nat) (kI:Int) (ds:List Nat) (u8 u9 u10 u17 u18 u19 u20 u21 u22 u23 u24 u25 u26 u27 u28 u29 u30 u31 u32 u33 u34 u35 u36 u37 u38 u39 u40 u41 u42 u43 u44 u45 u46 u47 u48 u49 u50 u51:Value),a'={ tmps:=#[.pointer q,FV id p i0 r s,.slice a n cap,.pointer (some ⟨bt,0,none⟩),.pointer (some ⟨bf,0,none⟩),.pointer (some ⟨bp,0,none⟩),.slice none 0 0,.pointer (some ⟨bs,0,none⟩),u8,u9,u10,.slice a n cap,.int .i64 n,.slice (some ⟨arr,0,none⟩) n n,.slice a n cap,.int .i64 n,.int .i64 kI,u17,u18,u19,u20,u21,u22,u23,u24,u25,u26,u27,u28,u29,u30,u31,u32,u33,u34,u35,u36,u37,u38,u39,u40,u41,u42,u43,u44,u45,u46,u47,u48,u49,u50,u51,undef,undef,undef,undef],defers:=marks ds }/\kI=(k:Int)/\k<=n/\Marks W w.heap.size W.heap.size ds/\Env w W fx0 arr ((upL fD n k).map (fm p)) (.slice a n cap) (xs.map (fm p)) Sl q (ext q es (wpE n k)) S) (fun a' _=>n-(intOf (a'.tmps.getD 16 undef)).toNat) ?start ?round
 case start=>exact⟨0,0,[],undef,undef,undef,undef,undef,undef,undef,undef,undef,undef,undef,undef,undef,undef,undef,undef,undef,undef,undef,undef,undef,undef,undef,undef,undef,undef,undef,undef,undef,undef,undef,undef,undef,undef,undef,undef,undef,undef,rfl,rfl,Nat.zero_le _,Marks.nil _ _ _,HE0.out⟩
 case round =>
  rintro a' W ⟨k,kI,ds,u8,u9,u10,u17,u18,u19,u20,u21,u22,u23,u24,u25,u26,u27,u28,u29,u30,u31,u32,u33,u34,u35,u36,u37,u38,u39,u40,u41,u42,u43,u44,u45,u46,u47,u48,u49,u50,u51,rfl,rfl,hk,hM,hE⟩
  by_cases hlt:k<n
  ·obtain⟨x,hxk⟩:∃ x,xs[k]?=some x:=⟨_,List.getElem?_eq_getElem (by have:=HN.out;omega)⟩
   have hxp:x<p:=HX.out x (List.mem_of_getElem? hxk)
   have hfk:(xs.map (fm p))[k]?=some (fm p x):=by rw[List.getElem?_map,hxk];rfl
   obtain⟨z,hz⟩:∃ z,z=fm p x:=⟨_,rfl⟩
   rw[<-hz]at hfk
   obtain⟨b,off,rfl,hSb,c0,c1,c2,c3⟩:=hE.src.get hfk
   obtain⟨t0,ht0⟩:∃ t:Array Value,t=#[.pointer q]:=⟨_,rfl⟩
   have kp:W.cell? ⟨bp,0,none⟩=some (.slice (some ⟨b,off,none⟩) n cap):=cell_of_heap (hE.get Mbp.out) 0
   have ks:W.cell? ⟨bs,0,none⟩=some (.slice (some ⟨arr,0,none⟩) n n):=cell_of_heap (hE.get Mbs.out) 0
   obtain⟨f0,f1,f2,f3,f4,f5,f6,f7,f8,f9,f10,f11,f12,f13⟩:=fv_cells (hE.get Mbf.out)
   obtain⟨e0,he0⟩:∃ e,((upL fD n k).map (fm p))[k]?=some e:=⟨_,List.getElem?_eq_getElem (by rw[List.length_map,upL_length];exact hlt)⟩
   obtain⟨m0,m1,m2,m3⟩:=NumsAt.cell hE.ars he0
   have fz:=fun j=>NumsAt.frozen hE.ars j
   have lt:=NumsAt.lt hE.ars
   have ltp:=heap_lt (hE.get Mbp.out)
   have lts:=heap_lt (hE.get Mbs.out)
   have ltf:=heap_lt (hE.get Mbf.out)
   have ltb:=World.block_lt_of_cell? W _ c0
   have hkn:(k:Int)<(n:Int):=by omega
   have HE:=hid hE
   have HM:=hid hM
   have Hxk:=hid hxk
   have kp2:((((W.setCell ⟨arr,k*4,none⟩ (.int .u64 (wd r 0))).setCell ⟨arr,k*4+1,none⟩ (.int .u64 (wd r 1))).setCell ⟨arr,k*4+2,none⟩ (.int .u64 (wd r 2))).setCell ⟨arr,k*4+3,none⟩ (.int .u64 (wd r 3))).cell? ⟨bp,0,none⟩=some (.slice (some ⟨b,off,none⟩) n cap):=cell_of_heap ((setCells_off arr (words4 r) (k*4) W).heap (HE.out.get Mbp.out) (HE.out.ne Mbp.out)) 0
   have hOr:=fun w=>others_in (6-1) n k w
   have Hz:=hid hz
   clear hE hM hxk hfk he0 hz
   gi_wp2_with (gi_at_call 124;refine(hOr _).mono ?_;rintro e w' ⟨rfl,rfl⟩)
   obtain⟨W2,hW2⟩:∃ W2,W2=(((W.setCell ⟨arr,k*4,none⟩ (.int .u64 (wd r 0))).setCell ⟨arr,k*4+1,none⟩ (.int .u64 (wd r 1))).setCell ⟨arr,k*4+2,none⟩ (.int .u64 (wd r 2))).setCell ⟨arr,k*4+3,none⟩ (.int .u64 (wd r 3)):=⟨_,rfl⟩
   have hs2:W2.heap.size=W.heap.size:=by rw[hW2];simp
   have ho2:Off (fun k=>k=arr) W W2:=by rw[hW2];exact setCells_off arr (words4 r) (k*4) W
   have hE2:=HE.out.put ho2 (by rw[hW2];exact HE.out.ars.store (by rw[List.length_map,upL_length];exact hlt) r)
   rw[<-hW2]
   clear kp ks f0 f1 f2 f3 f4 f5 f6 f7 f8 f9 f10 f11 f12 f13 m0 m1 m2 m3 fz lt ltp lts ltf ltb c0 c1 c2 c3 kp2 hOr hW2
   obtain⟨W6,hW6⟩:∃ W6,W6=(((W2.alloc (.cells #[.int .i64 k] 3)).alloc (.cells #[.int .u64 (wd z 0),.int .u64 (wd z 1),.int .u64 (wd z 2),.int .u64 (wd z 3)] 66)).alloc (.cells #[.int .i64 n] 3)).alloc (.cells #[.int .i64 k] 3):=⟨_,rfl⟩
   have hOW6:Off (fun _=>False) W2 W6:=by rw[hW6];exact((((Off.refl _ W2).alloc _).alloc _).alloc _).alloc _
   have g_jb:W6.heap[W.heap.size]?=some (.cells #[.int .i64 k] 3 (0,0)):=by rw[hW6];exact heap_old' (heap_old' (heap_old' (heap_new' (by simp[hs2]) _) _) _) _
   have g_vb:W6.heap[W.heap.size+1]?=some (.cells #[.int .u64 (wd z 0),.int .u64 (wd z 1),.int .u64 (wd z 2),.int .u64 (wd z 3)] 66 (0,0)):=by rw[hW6];exact heap_old' (heap_old' (heap_new' (by simp[hs2]) _) _) _
   have g_nb:W6.heap[W.heap.size+1+1]?=some (.cells #[.int .i64 n] 3 (0,0)):=by rw[hW6];exact heap_old' (heap_new' (by simp[hs2]) _) _
   have g_ib:W6.heap[W.heap.size+1+1+1]?=some (.cells #[.int .i64 k] 3 (0,0)):=by rw[hW6];exact heap_new' (by simp[hs2]) _
   have hsW6:W6.heap.size=W.heap.size+1+1+1+1:=by rw[hW6];simp[hs2]
   rw[<-hW6]
   obtain⟨ib,e_ib⟩:∃ ib,ib=W.heap.size+1+1+1:=⟨_,rfl⟩
   rw[<-e_ib]at g_ib ⊢
   obtain⟨nb,e_nb⟩:∃ nb,nb=W.heap.size+1+1:=⟨_,rfl⟩
   rw[<-e_nb]at g_nb ⊢
   obtain⟨vb,e_vb⟩:∃ vb,vb=W.heap.size+1:=⟨_,rfl⟩
   rw[<-e_vb]at g_vb ⊢
   obtain⟨jb,e_jb⟩:∃ jb,jb=W.heap.size:=⟨_,rfl⟩
   rw[<-e_jb]at g_jb ⊢
   have HBk:=hid (show jb=W.heap.size/\vb=W.heap.size+1/\nb=W.heap.size+1+1/\ib=W.heap.size+1+1+1/\W6.heap.size=W.heap.size+1+1+1+1 from⟨e_jb,e_vb,e_nb,e_ib,hsW6⟩)
   clear hW6 hsW6 e_jb e_vb e_nb e_ib
   have hb:=HBk.out
   have hwW:=HE.out.off.size
   have hnewA:=HE.out.new
   have hla:arr<W2.heap.size:=NumsAt.lt hE2.ars
   have hE6:=((((hE2.keep hOW6).more g_jb ⟨_,_,rfl,by decide,by decide,by decide⟩ (by omega) (by omega)).more g_vb ⟨_,_,rfl,by decide,by decide,by decide⟩ (by omega) (by omega)).more g_nb ⟨_,_,rfl,by decide,by decide,by decide⟩ (by omega) (by omega)).more g_ib ⟨_,_,rfl,by decide,by decide,by decide⟩ (by omega) (by omega)
   obtain⟨fx1,hfx1⟩:∃ f:List (Nat × Obj),f=((ib,Obj.cells #[.int .i64 k] 3 (0,0))::(nb,Obj.cells #[.int .i64 n] 3 (0,0))::(vb,Obj.cells #[.int .u64 (wd z 0),.int .u64 (wd z 1),.int .u64 (wd z 2),.int .u64 (wd z 3)] 66 (0,0))::(jb,Obj.cells #[.int .i64 k] 3 (0,0))::fx0):=⟨_,rfl⟩
   rw[<-hfx1]at hE6
   have Njb:=hid (show(jb,Obj.cells #[.int .i64 k] 3 (0,0))∈fx1 by rw[hfx1];simp)
   have Nvb:=hid (show(vb,Obj.cells #[.int .u64 (wd z 0),.int .u64 (wd z 1),.int .u64 (wd z 2),.int .u64 (wd z 3)] 66 (0,0))∈fx1 by rw[hfx1];simp)
   have Nnb:=hid (show(nb,Obj.cells #[.int .i64 n] 3 (0,0))∈fx1 by rw[hfx1];simp)
   have Nib:=hid (show(ib,Obj.cells #[.int .i64 k] 3 (0,0))∈fx1 by rw[hfx1];simp)
   have Nsub:Hid (∀ y∈fx0,y∈fx1):=hid (fun y hy=>by rw[hfx1];simp[hy])
   have hI0:Env w W6 fx1 arr (((upL fD n k).set k (dfF p xs k 1 (([]:List Nat).map (·%n)))).map (fm p)) (.slice (some ⟨b,off,none⟩) n cap) (xs.map (fm p)) Sl q (ext q es (wpE n k++opE n k [])) S:=by
    rw[List.map_set,show dfF p xs k 1 (([]:List Nat).map (·%n))=1 from rfl,fm_one,<-HF.out.rr,show opE n k []=[] from rfl,List.append_nil];exact hE6
   have hM6:Marks W6 w.heap.size W6.heap.size ds:=((HM.out.off ho2).off hOW6).mono (by omega)
   have HI0:=hid hI0
   have HM6:=hid hM6
   have hst:=oth_stops (6-1) (by omega) nb ib n k (by omega) W6 ⟨g_nb,g_ib⟩
   have hw6:w.heap.size<=W6.heap.size:=by omega
   have hn0:0<n:=by omega
   clear hE2 hE6 hfx1 hI0 hM6 ho2 hOW6 g_jb g_vb g_nb g_ib hs2 hb HM hnewA hla
   refine wpIn_rangeFunc_ownH (F:=Fence.wide) (n:=6) rfl (by omega) (gf:=140) (lb:=#[.pointer (some ⟨nb,0,none⟩),.pointer (some ⟨ib,0,none⟩)]) rfl trivial (enters_of Tryz.func140 (by kernel_rfl) rfl)
    hst (fun h k x=>k (h x)) (fun W l o o' hl h hc hw hr=>hr.kept (grownBy_putObj' W l o') (fun r e=>by cases e;exact⟨o,h,hc⟩)) (Below.refl _ _) (fun _=>by rfl)
    (fun pre A=>Env w A fx1 arr (((upL fD n k).set k (dfF p xs k 1 (pre.map (·%n)))).map (fm p)) (.slice (some ⟨b,off,none⟩) n cap) (xs.map (fm p)) Sl q (ext q es (wpE n k++opE n k pre)) S/\pre.length<=n/\Marks A w.heap.size W6.heap.size ds)
    (fun _ _ _=>False)
    (fun pre A B row hs hg hr=>⟨hs.1.kept hg (fun r e=>⟨by have:=(hr r e).1;omega,(hr r e).2⟩),hs.2.1,hs.2.2.kept hg (fun r e=>(hr r e).1)⟩)
    (fun _ _ _ _ _ hs _ _=>hs)
    ⟨HI0.out,Nat.zero_le _,HM6.out⟩
    (fun x a' A=>a'={ tmps:=#[.pointer q,FV id p i0 r s,.slice (some ⟨b,off,none⟩) n cap,.pointer (some ⟨bt,0,none⟩),.pointer (some ⟨bf,0,none⟩),.pointer (some ⟨bp,0,none⟩),.slice none 0 0,.pointer (some ⟨bs,0,none⟩),.pointer (some ⟨jb,0,none⟩),.pointer (some ⟨vb,0,none⟩),.int .i64 ((x%n:Nat):Int),.slice (some ⟨b,off,none⟩) n cap,.int .i64 n,.slice (some ⟨arr,0,none⟩) n n,.slice (some ⟨b,off,none⟩) n cap,.int .i64 n,.int .i64 k,.bool true,.int .i64 k,.pointer (some ⟨b,off+k*4,none⟩),V z,.slice (some ⟨arr,0,none⟩) n n,.int .i64 k,.pointer (some ⟨bf,6,none⟩),V r,.pointer (some ⟨arr,k*4,none⟩),.slice (some ⟨b,off,none⟩) n cap,.int .i64 n,.int .i64 k,.func (.func 140) #[] #[.pointer (some ⟨nb,0,none⟩),.pointer (some ⟨ib,0,none⟩)],.int .i64 ((x%n:Nat):Int),u31,u32,u33,u34,u35,u36,u37,u38,u39,u40,u41,u42,u43,u44,u45,u46,u47,u48,u49,u50,u51,undef,undef,undef,undef],defers:=[] })
    (fun x a' _ A C row hs hg hr=>hs)
    ?assign ?body ?done ?stop
   case assign =>
    rintro l pre y A K hI hK
    obtain⟨j,hj⟩:∃ j,j=y%n:=⟨_,rfl⟩
    rw[<-hj]at hK ⊢
    clear hj hst
    gi_wp2
    exact hK _ _ ((Off.refl (fun _=>False) A).keeps.from _) (fun h=>h) hI rfl
   case body =>
    rintro l pre y a' A _ _ ⟨hE,hlen2,hM⟩ rfl hlen
    obtain⟨j,hj⟩:∃ j,j=y%n:=⟨_,rfl⟩
    have hjn:j<n:=by rw[hj];exact Nat.mod_lt _ hn0
    obtain⟨P0,hP0⟩:∃ P0,P0=dfF p xs k 1 (pre.map (·%n)):=⟨_,rfl⟩
    obtain⟨v,hv⟩:∃ v,v=xs.getD j 0:=⟨_,rfl⟩
    have hvp:v<p:=by rw[hv];exact getD_lt HF.out.mp.pos HX.out _
    have hgk:xs.getD k 0=x:=by rw[List.getD_eq_getElem?_getD,Hxk.out];rfl
    have hsn:dfF p xs k 1 ((pre++[y]).map (·%n))=P0*((x+(p-v))%p)%p:=by
     rw[List.map_append,List.map_cons,List.map_nil,dfF_snoc,<-hP0,hgk,<-hj,<-hv]
    have hse:wpE n k++opE n k (pre++[y])=wpE n k++opE n k pre++[((3:Int),(k:Int),(j:Int))]:=by rw[opE_snoc,<-hj,List.append_assoc]
    rw[<-hP0,List.map_set]at hE
    obtain⟨u,hu⟩:∃ u,u=fm p P0:=⟨_,rfl⟩
    obtain⟨Y,hY⟩:∃ Y,Y=fm p v:=⟨_,rfl⟩
    obtain⟨d,hd⟩:∃ d,d=fm p ((x+(p-v))%p):=⟨_,rfl⟩
    obtain⟨g,hg⟩:∃ g,g=fm p (P0*((x+(p-v))%p)%p):=⟨_,rfl⟩
    obtain⟨L,hL⟩:∃ L,L=(upL fD n k).map (fm p):=⟨_,rfl⟩
    have hLn:L.length=n:=by rw[hL,List.length_map,upL_length]
    have hYs:(xs.map (fm p))[j]?=some Y:=by rw[List.getElem?_map,List.getElem?_eq_getElem (by have:=HN.out;omega),hY,hv,List.getD_eq_getElem?_getD,List.getElem?_eq_getElem (by have:=HN.out;omega)];rfl
    have HSu:=hid (show ∀ W,Calls Tryz.prog 125 #[FV id p i0 r s,V z,V Y] W fun x' w'=>x'=.returned (V d)/\Off (fun _=>False) W w' from fun W=>by rw[Hz.out,hY,hd];exact HSb.out _ _ hvp W)
    have HMu:=hid (show ∀ W,Calls Tryz.prog 109 #[FV id p i0 r s,V u,V d] W fun x' w'=>x'=.returned (V g)/\Off (fun _=>False) W w' from fun W=>by rw[hu,hd,hg];exact HM.out _ _ W)
    rw[<-hu,<-hL]at hE
    rw[<-hj]
    have HSn:=hid hsn
    have HSe:=hid hse
    have Hg:=hid hg
    have HLL:=hid hL
    obtain⟨S',t1,t2,t3⟩:=hE.tape
    have hnote:=CallsIn.inRound l (callsIn_wide (n:=6-1-1-1).2 (note_ext q (ext q es (wpE n k++opE n k pre)) S' A t1 (by
     have h1:=ext_le q es (wpE n k++opE n k pre);have h2:=wpE_length n k;have h3:k*n<=90*90:=Nat.mul_le_mul (by omega) hn2
     rw[List.length_append,opE_length]at h1;omega) ((3:Int),(k:Int),(j:Int))))
    have kt:A.cell? ⟨bt,0,none⟩=some (.pointer q):=cell_of_heap (hE.get (Nsub.out _ Mbt.out)) 0
    have kj:A.cell? ⟨jb,0,none⟩=some (.int .i64 k):=cell_of_heap (hE.get Njb.out) 0
    have HE:=hid hE
    have HMk:=hid hM
    have HYs:=hid hYs
    have HT2:=hid t2
    have HT3:=hid t3
    clear hE hM hsn hse hg hd hY hu hL hYs hv hP0 hgk hj hvp hst t1 t2 t3
    gi_wp2
    refine hnote.mono ?_
    rintro r1 A1 ⟨rfl,hN,hO1⟩
    clear kt kj hnote
    have hE1:=HE.out.noted HT2.out HT3.out hO1 (HE.out.off.size) hN
    rw[ext_ext,<-HSe.out]at hE1
    have hM1:=HMk.out.off hO1
    obtain⟨b',off',hbe,hSb',y0,y1,y2,y3⟩:=hE1.src.get HYs.out
    cases hbe
    have HAr:Hid (A1.heap[arr]?=some (.cells (flat4 (L.set k u)).toArray 66 (0,0))):=hid hE1.ars
    have hba:b≠arr:=by have:=(hE1.lst b hSb').1;have:=hE1.new;omega
    obtain⟨e0,he0⟩:∃ e,(L.set k u)[k]?=some u:=⟨u,by rw[List.getElem?_set_self (by omega)]⟩
    have HOk:=hid (show(L.set k u)[k]?=some u by rw[List.getElem?_set_self (by omega)])
    have HPt:=hid (fun(wr:World) (h:wr.heap[arr]?=some (.cells (flat4 (L.set k u)).toArray 66 (0,0)))=>(NumsAt.store h (show k<(L.set k u).length by rw[List.length_set];omega) g:NumsAt _ _ _ _))
    have HK:Hid (∀ B,Off (fun k=>k=arr) A1 B->(B.cell? ⟨bf,0,none⟩=some (.int .i64 id)/\B.cell? ⟨bf,1,none⟩=some (.int .u64 (wd p 0))/\B.cell? ⟨bf,2,none⟩=some (.int .u64 (wd p 1))/\B.cell? ⟨bf,3,none⟩=some (.int .u64 (wd p 2))/\B.cell? ⟨bf,4,none⟩=some (.int .u64 (wd p 3))/\B.cell? ⟨bf,5,none⟩=some (.int .u64 i0)/\B.cell? ⟨bf,6,none⟩=some (.int .u64 (wd r 0))/\B.cell? ⟨bf,7,none⟩=some (.int .u64 (wd r 1))/\B.cell? ⟨bf,8,none⟩=some (.int .u64 (wd r 2))/\B.cell? ⟨bf,9,none⟩=some (.int .u64 (wd r 3))/\B.cell? ⟨bf,10,none⟩=some (.int .u64 (wd s 0))/\B.cell? ⟨bf,11,none⟩=some (.int .u64 (wd s 1))/\B.cell? ⟨bf,12,none⟩=some (.int .u64 (wd s 2))/\B.cell? ⟨bf,13,none⟩=some (.int .u64 (wd s 3)))/\B.cell? ⟨bs,0,none⟩=some (.slice (some ⟨arr,0,none⟩) n n)/\B.cell? ⟨jb,0,none⟩=some (.int .i64 k)/\(B.cell? ⟨vb,0,none⟩=some (.int .u64 (wd z 0))/\B.cell? ⟨vb,1,none⟩=some (.int .u64 (wd z 1))/\B.cell? ⟨vb,2,none⟩=some (.int .u64 (wd z 2))/\B.cell? ⟨vb,3,none⟩=some (.int .u64 (wd z 3)))/\B.cell? ⟨bp,0,none⟩=some (.slice (some ⟨b,off,none⟩) n cap)/\elAt B b (off+j*4) Y/\Off (fun k=>k=arr) A1 B):=hid (fun B h=>⟨fv_cells (h.heap (hE1.get (Nsub.out _ Mbf.out)) (hE1.ne (Nsub.out _ Mbf.out))),cell_of_heap (h.heap (hE1.get (Nsub.out _ Mbs.out)) (hE1.ne (Nsub.out _ Mbs.out))) 0,cell_of_heap (h.heap (hE1.get Njb.out) (hE1.ne Njb.out)) 0,cells4 (h.heap (hE1.get Nvb.out) (hE1.ne Nvb.out)),cell_of_heap (h.heap (hE1.get (Nsub.out _ Mbp.out)) (hE1.ne (Nsub.out _ Mbp.out))) 0,(elAt.off ⟨y0,y1,y2,y3⟩ h hba),h⟩)
    have HE1:=hid hE1
    have HM1:=hid hM1
    have HKp:=hid (hO1.keeps)
    have hkI:(k:Int)<(n:Int):=by omega
    have hjI:(j:Int)<(n:Int):=by omega
    clear hE1 hM1 hO1 hN y0 y1 y2 y3 hSb' he0 e0
    gi_wp2
    refine wpIn_region_inv (fun a0 l a' w'=>∃ (u35:Value) (u36:Value) (u37:Value) (u38:Value) (u39:Value) (u40:Value) (u41:Value) (u42:Value) (u43:Value) (u44:Value) (u45:Value) (u46:Value) (u47:Value) (u48:Value) (u49:Value) (u50:Value),a'=(Act.put (Act.put (Act.put (Act.put (Act.put (Act.put (Act.put (Act.put (Act.put (Act.put (Act.put (Act.put (Act.put (Act.put (Act.put (Act.put a0 (some 35) u35) (some 36) u36) (some 37) u37) (some 38) u38) (some 39) u39) (some 40) u40) (some 41) u41) (some 42) u42) (some 43) u43) (some 44) u44) (some 45) u45) (some 46) u46) (some 47) u47) (some 48) u48) (some 49) u49) (some 50) u50)/\Slot l 0 u35 (.slice (some ⟨arr,0,none⟩) n n)/\Slot l 1 u36 (.int .i64 k)/\Slot l 2 u37 (FV id p i0 r s)/\Slot l 3 u38 (.slice (some ⟨arr,0,none⟩) n n)/\Slot l 4 u39 (.int .i64 k)/\Slot l 5 u40 (.pointer (some ⟨arr,k*4,none⟩))/\Slot l 6 u41 (V u)/\Slot l 7 u42 (FV id p i0 r s)/\Slot l 8 u43 (V z)/\Slot l 9 u44 (.slice (some ⟨b,off,none⟩) n cap)/\Slot l 10 u45 (.int .i64 j)/\Slot l 11 u46 (.pointer (some ⟨b,off+j*4,none⟩))/\Slot l 12 u47 (V Y)/\Slot l 13 u48 (V d)/\Slot l 14 u49 (V g)/\Slot l 15 u50 (.pointer (some ⟨arr,k*4,none⟩))/\Old l 16 arr A1 w' (.cells (flat4 (L.set k u)).toArray 66) (.cells (flat4 ((L.set k u).set k g)).toArray 66)/\Dep l 6 16/\Off (fun k=>k=arr) A1 w') (by kernel_rfl) (by kernel_rfl) (by kernel_rfl) ?_ ⟨?_,?_,?_,?_,?_,?_,?_,?_,?_,?_,?_,?_,?_,?_,?_,?_,?_,trivial⟩ ?_
    ·refine⟨?z35,?z36,?z37,?z38,?z39,?z40,?z41,?z42,?z43,?z44,?z45,?z46,?z47,?z48,?z49,?z50,?fr,Slot.start _ _ _,Slot.start _ _ _,Slot.start _ _ _,Slot.start _ _ _,Slot.start _ _ _,Slot.start _ _ _,Slot.start _ _ _,Slot.start _ _ _,Slot.start _ _ _,Slot.start _ _ _,Slot.start _ _ _,Slot.start _ _ _,Slot.start _ _ _,Slot.start _ _ _,Slot.start _ _ _,Slot.start _ _ _,Old.start HAr.out _ _,Dep.start _ _,(Off.refl _ A1).drew⟩
     case fr=>first | (simp only[XP];rfl) | simp only[XP]
    all_goals try (intro l a wr hI hl hd K' hK;obtain⟨u35,u36,u37,u38,u39,u40,u41,u42,u43,u44,u45,u46,u47,u48,u49,u50,ha,s0,s1,s2,s3,s4,s5,s6,s7,s8,s9,s10,s11,s12,s13,s14,s15,O0,P6_16,hO⟩:=hI;simp only[XP]at ha)
    ·subst ha
     have hc:=HK.out wr hO
     have p0:=hc.2.1
     clear hc
     go_simp
     refine hK.out _ _ ⟨_,_,_,_,_,_,_,_,_,_,_,_,_,_,_,_,?_,Slot.new _ _ _,s1.keep rfl,s2.keep rfl,s3.keep rfl,s4.keep rfl,s5.keep rfl,s6.keep rfl,s7.keep rfl,s8.keep rfl,s9.keep rfl,s10.keep rfl,s11.keep rfl,s12.keep rfl,s13.keep rfl,s14.keep rfl,s15.keep rfl,O0.keep (Off.refl _ wr) rfl,P6_16.keep rfl,hO⟩
     simp only[XP]
    ·subst ha
     have hc:=HK.out wr hO
     have p0:=hc.2.2.1
     clear hc
     go_simp
     refine hK.out _ _ ⟨_,_,_,_,_,_,_,_,_,_,_,_,_,_,_,_,?_,s0.keep rfl,Slot.new _ _ _,s2.keep rfl,s3.keep rfl,s4.keep rfl,s5.keep rfl,s6.keep rfl,s7.keep rfl,s8.keep rfl,s9.keep rfl,s10.keep rfl,s11.keep rfl,s12.keep rfl,s13.keep rfl,s14.keep rfl,s15.keep rfl,O0.keep (Off.refl _ wr) rfl,P6_16.keep rfl,hO⟩
     simp only[XP]
    ·subst ha
     have hc:=HK.out wr hO
     have p0:=hc.1.1
     have p1:=hc.1.2.1
     have p2:=hc.1.2.2.1
     have p3:=hc.1.2.2.2.1
     have p4:=hc.1.2.2.2.2.1
     have p5:=hc.1.2.2.2.2.2.1
     have p6:=hc.1.2.2.2.2.2.2.1
     have p7:=hc.1.2.2.2.2.2.2.2.1
     have p8:=hc.1.2.2.2.2.2.2.2.2.1
     have p9:=hc.1.2.2.2.2.2.2.2.2.2.1
     have p10:=hc.1.2.2.2.2.2.2.2.2.2.2.1
     have p11:=hc.1.2.2.2.2.2.2.2.2.2.2.2.1
     have p12:=hc.1.2.2.2.2.2.2.2.2.2.2.2.2.1
     have p13:=hc.1.2.2.2.2.2.2.2.2.2.2.2.2.2
     clear hc
     go_simp
     refine hK.out _ _ ⟨_,_,_,_,_,_,_,_,_,_,_,_,_,_,_,_,?_,s0.keep rfl,s1.keep rfl,Slot.new _ _ _,s3.keep rfl,s4.keep rfl,s5.keep rfl,s6.keep rfl,s7.keep rfl,s8.keep rfl,s9.keep rfl,s10.keep rfl,s11.keep rfl,s12.keep rfl,s13.keep rfl,s14.keep rfl,s15.keep rfl,O0.keep (Off.refl _ wr) rfl,P6_16.keep rfl,hO⟩
     simp only[XP]
    ·subst ha
     have hc:=HK.out wr hO
     have p0:=hc.2.1
     clear hc
     go_simp
     refine hK.out _ _ ⟨_,_,_,_,_,_,_,_,_,_,_,_,_,_,_,_,?_,s0.keep rfl,s1.keep rfl,s2.keep rfl,Slot.new _ _ _,s4.keep rfl,s5.keep rfl,s6.keep rfl,s7.keep rfl,s8.keep rfl,s9.keep rfl,s10.keep rfl,s11.keep rfl,s12.keep rfl,s13.keep rfl,s14.keep rfl,s15.keep rfl,O0.keep (Off.refl _ wr) rfl,P6_16.keep rfl,hO⟩
     simp only[XP]
    ·subst ha
     have hc:=HK.out wr hO
     have p0:=hc.2.2.1
     clear hc
     go_simp
     refine hK.out _ _ ⟨_,_,_,_,_,_,_,_,_,_,_,_,_,_,_,_,?_,s0.keep rfl,s1.keep rfl,s2.keep rfl,s3.keep rfl,Slot.new _ _ _,s5.keep rfl,s6.keep rfl,s7.keep rfl,s8.keep rfl,s9.keep rfl,s10.keep rfl,s11.keep rfl,s12.keep rfl,s13.keep rfl,s14.keep rfl,s15.keep rfl,O0.keep (Off.refl _ wr) rfl,P6_16.keep rfl,hO⟩
     simp only[XP]
    ·have q3:=s3 (hd 3 (by decide))
     have q4:=s4 (hd 4 (by decide))
     subst ha q3 q4
     go_simp
     refine hK.out _ _ ⟨_,_,_,_,_,_,_,_,_,_,_,_,_,_,_,_,?_,s0.keep rfl,s1.keep rfl,s2.keep rfl,s3.keep rfl,s4.keep rfl,Slot.new _ _ _,s6.keep rfl,s7.keep rfl,s8.keep rfl,s9.keep rfl,s10.keep rfl,s11.keep rfl,s12.keep rfl,s13.keep rfl,s14.keep rfl,s15.keep rfl,O0.keep (Off.refl _ wr) rfl,P6_16.keep rfl,hO⟩
     simp only[XP]
    ·have q5:=s5 (hd 5 (by decide))
     subst ha q5
     have hZ:=O0.was (P6_16 hl)
     obtain⟨p0,p1,p2,p3⟩:=NumsAt.cell hZ HOk.out
     clear hZ
     go_simp
     refine hK.out _ _ ⟨_,_,_,_,_,_,_,_,_,_,_,_,_,_,_,_,?_,s0.keep rfl,s1.keep rfl,s2.keep rfl,s3.keep rfl,s4.keep rfl,s5.keep rfl,Slot.new _ _ _,s7.keep rfl,s8.keep rfl,s9.keep rfl,s10.keep rfl,s11.keep rfl,s12.keep rfl,s13.keep rfl,s14.keep rfl,s15.keep rfl,O0.keep (Off.refl _ wr) rfl,P6_16.keep rfl,hO⟩
     simp only[XP]
    ·subst ha
     have hc:=HK.out wr hO
     have p0:=hc.1.1
     have p1:=hc.1.2.1
     have p2:=hc.1.2.2.1
     have p3:=hc.1.2.2.2.1
     have p4:=hc.1.2.2.2.2.1
     have p5:=hc.1.2.2.2.2.2.1
     have p6:=hc.1.2.2.2.2.2.2.1
     have p7:=hc.1.2.2.2.2.2.2.2.1
     have p8:=hc.1.2.2.2.2.2.2.2.2.1
     have p9:=hc.1.2.2.2.2.2.2.2.2.2.1
     have p10:=hc.1.2.2.2.2.2.2.2.2.2.2.1
     have p11:=hc.1.2.2.2.2.2.2.2.2.2.2.2.1
     have p12:=hc.1.2.2.2.2.2.2.2.2.2.2.2.2.1
     have p13:=hc.1.2.2.2.2.2.2.2.2.2.2.2.2.2
     clear hc
     go_simp
     refine hK.out _ _ ⟨_,_,_,_,_,_,_,_,_,_,_,_,_,_,_,_,?_,s0.keep rfl,s1.keep rfl,s2.keep rfl,s3.keep rfl,s4.keep rfl,s5.keep rfl,s6.keep rfl,Slot.new _ _ _,s8.keep rfl,s9.keep rfl,s10.keep rfl,s11.keep rfl,s12.keep rfl,s13.keep rfl,s14.keep rfl,s15.keep rfl,O0.keep (Off.refl _ wr) rfl,P6_16.keep rfl,hO⟩
     simp only[XP]
    ·subst ha
     have hc:=HK.out wr hO
     have p0:=hc.2.2.2.1.1
     have p1:=hc.2.2.2.1.2.1
     have p2:=hc.2.2.2.1.2.2.1
     have p3:=hc.2.2.2.1.2.2.2
     clear hc
     go_simp
     refine hK.out _ _ ⟨_,_,_,_,_,_,_,_,_,_,_,_,_,_,_,_,?_,s0.keep rfl,s1.keep rfl,s2.keep rfl,s3.keep rfl,s4.keep rfl,s5.keep rfl,s6.keep rfl,s7.keep rfl,Slot.new _ _ _,s9.keep rfl,s10.keep rfl,s11.keep rfl,s12.keep rfl,s13.keep rfl,s14.keep rfl,s15.keep rfl,O0.keep (Off.refl _ wr) rfl,P6_16.keep rfl,hO⟩
     simp only[XP]
    ·subst ha
     have hc:=HK.out wr hO
     have p0:=hc.2.2.2.2.1
     clear hc
     go_simp
     refine hK.out _ _ ⟨_,_,_,_,_,_,_,_,_,_,_,_,_,_,_,_,?_,s0.keep rfl,s1.keep rfl,s2.keep rfl,s3.keep rfl,s4.keep rfl,s5.keep rfl,s6.keep rfl,s7.keep rfl,s8.keep rfl,Slot.new _ _ _,s10.keep rfl,s11.keep rfl,s12.keep rfl,s13.keep rfl,s14.keep rfl,s15.keep rfl,O0.keep (Off.refl _ wr) rfl,P6_16.keep rfl,hO⟩
     simp only[XP]
    ·subst ha
     go_simp
     refine hK.out _ _ ⟨_,_,_,_,_,_,_,_,_,_,_,_,_,_,_,_,?_,s0.keep rfl,s1.keep rfl,s2.keep rfl,s3.keep rfl,s4.keep rfl,s5.keep rfl,s6.keep rfl,s7.keep rfl,s8.keep rfl,s9.keep rfl,Slot.new _ _ _,s11.keep rfl,s12.keep rfl,s13.keep rfl,s14.keep rfl,s15.keep rfl,O0.keep (Off.refl _ wr) rfl,P6_16.keep rfl,hO⟩
     simp only[XP]
    ·have q9:=s9 (hd 9 (by decide))
     have q10:=s10 (hd 10 (by decide))
     subst ha q9 q10
     go_simp
     refine hK.out _ _ ⟨_,_,_,_,_,_,_,_,_,_,_,_,_,_,_,_,?_,s0.keep rfl,s1.keep rfl,s2.keep rfl,s3.keep rfl,s4.keep rfl,s5.keep rfl,s6.keep rfl,s7.keep rfl,s8.keep rfl,s9.keep rfl,s10.keep rfl,Slot.new _ _ _,s12.keep rfl,s13.keep rfl,s14.keep rfl,s15.keep rfl,O0.keep (Off.refl _ wr) rfl,P6_16.keep rfl,hO⟩
     simp only[XP]
    ·have q11:=s11 (hd 11 (by decide))
     subst ha q11
     have hc:=HK.out wr hO
     have p0:=hc.2.2.2.2.2.1.1
     have p1:=hc.2.2.2.2.2.1.2.1
     have p2:=hc.2.2.2.2.2.1.2.2.1
     have p3:=hc.2.2.2.2.2.1.2.2.2
     clear hc
     go_simp
     refine hK.out _ _ ⟨_,_,_,_,_,_,_,_,_,_,_,_,_,_,_,_,?_,s0.keep rfl,s1.keep rfl,s2.keep rfl,s3.keep rfl,s4.keep rfl,s5.keep rfl,s6.keep rfl,s7.keep rfl,s8.keep rfl,s9.keep rfl,s10.keep rfl,s11.keep rfl,Slot.new _ _ _,s13.keep rfl,s14.keep rfl,s15.keep rfl,O0.keep (Off.refl _ wr) rfl,P6_16.keep rfl,hO⟩
     simp only[XP]
    ·have q7:=s7 (hd 7 (by decide))
     have q8:=s8 (hd 8 (by decide))
     have q12:=s12 (hd 12 (by decide))
     subst ha q7 q8 q12
     go_simp
     refine(held_inv (HSu.out wr) hO).mono ?_
     rintro e w1 ⟨rfl,hO1,hOW⟩
     go_wp2_with fail
     refine hK.out _ _ ⟨_,_,_,_,_,_,_,_,_,_,_,_,_,_,_,_,?_,s0.keep rfl,s1.keep rfl,s2.keep rfl,s3.keep rfl,s4.keep rfl,s5.keep rfl,s6.keep rfl,s7.keep rfl,s8.keep rfl,s9.keep rfl,s10.keep rfl,s11.keep rfl,s12.keep rfl,Slot.new _ _ _,s14.keep rfl,s15.keep rfl,O0.keep hOW rfl,P6_16.keep rfl,hO1⟩
     simp only[XP]
    ·have q2:=s2 (hd 2 (by decide))
     have q6:=s6 (hd 6 (by decide))
     have q13:=s13 (hd 13 (by decide))
     subst ha q2 q6 q13
     go_simp
     refine(held_inv (HMu.out wr) hO).mono ?_
     rintro e w1 ⟨rfl,hO1,hOW⟩
     go_wp2_with fail
     refine hK.out _ _ ⟨_,_,_,_,_,_,_,_,_,_,_,_,_,_,_,_,?_,s0.keep rfl,s1.keep rfl,s2.keep rfl,s3.keep rfl,s4.keep rfl,s5.keep rfl,s6.keep rfl,s7.keep rfl,s8.keep rfl,s9.keep rfl,s10.keep rfl,s11.keep rfl,s12.keep rfl,s13.keep rfl,Slot.new _ _ _,s15.keep rfl,O0.keep hOW rfl,P6_16.keep rfl,hO1⟩
     simp only[XP]
    ·have q0:=s0 (hd 0 (by decide))
     have q1:=s1 (hd 1 (by decide))
     subst ha q0 q1
     go_simp
     refine hK.out _ _ ⟨_,_,_,_,_,_,_,_,_,_,_,_,_,_,_,_,?_,s0.keep rfl,s1.keep rfl,s2.keep rfl,s3.keep rfl,s4.keep rfl,s5.keep rfl,s6.keep rfl,s7.keep rfl,s8.keep rfl,s9.keep rfl,s10.keep rfl,s11.keep rfl,s12.keep rfl,s13.keep rfl,s14.keep rfl,Slot.new _ _ _,O0.keep (Off.refl _ wr) rfl,P6_16.keep rfl,hO⟩
     simp only[XP]
    ·have q15:=s15 (hd 15 (by decide))
     have q14:=s14 (hd 14 (by decide))
     subst ha q15 q14
     have hZ:=(O0.was hl)
     obtain⟨m0,m1,m2,m3⟩:=NumsAt.cell hZ HOk.out
     have fz:=fun j=>NumsAt.frozen hZ j
     have lt:=heap_lt hZ
     clear hZ
     go_simp
     refine hK.out _ _ ⟨_,_,_,_,_,_,_,_,_,_,_,_,_,_,_,_,?_,s0.keep rfl,s1.keep rfl,s2.keep rfl,s3.keep rfl,s4.keep rfl,s5.keep rfl,s6.keep rfl,s7.keep rfl,s8.keep rfl,s9.keep rfl,s10.keep rfl,s11.keep rfl,s12.keep rfl,s13.keep rfl,s14.keep rfl,s15.keep rfl,O0.putAt (HPt.out wr) hl,Dep.at (hd 6 (by decide)),setCells_in_at hO (fun _=>rfl) (words4 g)⟩
     simp only[XP]
    intro l a wc hI hd
    obtain⟨u35,u36,u37,u38,u39,u40,u41,u42,u43,u44,u45,u46,u47,u48,u49,u50,ha,s0,s1,s2,s3,s4,s5,s6,s7,s8,s9,s10,s11,s12,s13,s14,s15,O0,P6_16,hO⟩:=hI
    simp only[XP]at ha
    have q0:=s0 (hd 0 (by decide))
    have q1:=s1 (hd 1 (by decide))
    have q2:=s2 (hd 2 (by decide))
    have q3:=s3 (hd 3 (by decide))
    have q4:=s4 (hd 4 (by decide))
    have q5:=s5 (hd 5 (by decide))
    have q6:=s6 (hd 6 (by decide))
    have q7:=s7 (hd 7 (by decide))
    have q8:=s8 (hd 8 (by decide))
    have q9:=s9 (hd 9 (by decide))
    have q10:=s10 (hd 10 (by decide))
    have q11:=s11 (hd 11 (by decide))
    have q12:=s12 (hd 12 (by decide))
    have q13:=s13 (hd 13 (by decide))
    have q14:=s14 (hd 14 (by decide))
    have q15:=s15 (hd 15 (by decide))
    have r0:wc.heap[arr]?=some (.cells (flat4 ((L.set k u).set k g)).toArray 66):=O0.now (hd 16 (by decide))
    subst ha q0 q1 q2 q3 q4 q5 q6 q7 q8 q9 q10 q11 q12 q13 q14 q15
    clear hd s0 s1 s2 s3 s4 s5 s6 s7 s8 s9 s10 s11 s12 s13 s14 s15 O0 P6_16
    have hE2:=HE1.out.put hO r0
    have hM2:=HM1.out.off hO
    have hk:=(HKp.out.trans hO.keeps).from W6.heap.size
    clear r0 hO
    gi_wp2
    refine⟨hk,fun _=>⟨hE2.get Nnb.out,hE2.get Nib.out⟩,?_,by simp;omega,hM2⟩
    rw[HSn.out,List.map_set,<-Hg.out,<-HLL.out]
    rw[List.set_set]at hE2
    exact hE2
   case done =>
    rintro D ys A hD rfl ⟨hE,_,hM⟩ hK
    rw[dfF_mod p xs k 1 (oth n k) (fun q hq=>(oth_mem.1 hq).1),show dfF p xs k 1 (oth n k)=fD k by rw[HfD.out],upL_next fD hlt]at hE
    have hDl:=heap_lt hK
    have HE:=hid (show Env w A fx0 arr ((upL fD n (k+1)).map (fm p)) (.slice (some ⟨b,off,none⟩) n cap) (xs.map (fm p)) Sl q (ext q es (wpE n (k+1))) S from hE.sub Nsub.out)
    have HMk:=hid (hM.cons hD hDl (by omega) hK)
    clear hE hM hK hst
    gi_wp2
    refine⟨⟨k+1,_,D::ds,_,_,_,_,_,_,_,_,_,_,_,_,_,_,_,_,_,_,_,_,_,_,_,_,_,_,_,_,_,_,_,_,_,_,_,_,_,_,rfl,by simp,by omega,HMk.out,HE.out⟩,by simp[intOf];omega⟩
   case stop =>
    rintro D c pre A _ _ h _
    exact h.elim
  obtain rfl:n=k:=by omega
  obtain⟨PL,hPL⟩:∃ PL,PL=(List.range n).map fD:=⟨_,rfl⟩
  have hPn:n=PL.length:=by rw[hPL];simp
  have hp0:=HF.out.mp.pos
  have hPp:∀ v∈PL,v<p:=by
   rw[hPL];intro v hv
   obtain⟨j,_,rfl⟩:=List.mem_map.1 hv
   rw[HfD.out];exact dfF_lt hp0 xs j HF.out.mp.one _
  have hWL:PL.map (fun v=>v^(p-2)%p)=wgtL p xs:=by
   rw[hPL,HfD.out,List.map_map,wgtL,<-HN.out]
   exact List.map_congr_left (fun j _=>by show dfF p xs j 1 (oth n j)^(p-2)%p=_;unfold wgt;rw[<-HN.out])
  rw[upL_full,<-hPL]at hE
  obtain⟨S',t1,t2,t3⟩:=hE.tape
  have hbat:=callsIn_wide (n:=6-1).2 (bat_any HF.out PL hPp n arr hPn (by omega) q (ext q es (wpE n n)) S' W hE.ars (fun c=>not_typed hE.ars (t3 _ c)) t1 (by
   have h1:=ext_le q es (wpE n n);have h2:=wpE_length n n;have h3:n*n<=90*90:=Nat.mul_le_mul hn2 hn2;omega))
  have kt:W.cell? ⟨bt,0,none⟩=some (.pointer q):=cell_of_heap (hE.get Mbt.out) 0
  have ks:W.cell? ⟨bs,0,none⟩=some (.slice (some ⟨arr,0,none⟩) n n):=cell_of_heap (hE.get Mbs.out) 0
  obtain⟨f0,f1,f2,f3,f4,f5,f6,f7,f8,f9,f10,f11,f12,f13⟩:=fv_cells (hE.get Mbf.out)
  have HE:=hid hE
  have HMk:=hid hM
  have HT2:=hid t2
  have HT3:=hid t3
  have HWL:=hid hWL
  clear hE hM hPL hPn hPp hWL t1 t2 t3
  gi_wp2_with (gi_at_call 126;refine hbat.mono ?_;rintro e W1 ⟨v,rfl,hv,hN1,hO1⟩)
  clear kt ks f0 f1 f2 f3 f4 f5 f6 f7 f8 f9 f10 f11 f12 f13 hbat
  have hE1:=HE.out.noted HT2.out HT3.out hO1 HE.out.off.size hN1
  rw[ext_ext]at hE1
  have hM1:=(HMk.out.off hO1).mono hO1.size
  have hsW:=HE.out.off.size
  rw[HWL.out]at hv
  refine leaves_marks ds W1 w.heap.size W1.heap.size hM1 ?_
  obtain⟨hc,hq⟩:=shut_cells ds W1 w.heap.size W1.heap.size hM1
  refine⟨_,results_tmp rfl _ _ _,v,rfl,?_,?_,?_⟩
  ·exact hv.imp (fun h=>h) (fun⟨b,h1,h2,h3⟩=>⟨b,h1,by omega,hc _ _ _ _ h3⟩)
  ·exact noted_cells (hE1.notedAll) hq hc
  exact hE1.off.later' hq (Nat.le_refl _) (fun _ _ c=>c.elim)
end
end Go.Proofs.YtbkgghhngeibhaaGreatDoor
