/-
  How tapes and lists of events lie in memory, and what each of a tape's steps leaves as it was. Plain facts on worlds; no condition.
  Contracts of (*Tape).Note, Len and at over this seat's translation: Note appends the event, Len returns the number of events, at the event at a position. Conditions: the tape lies in memory as TapeAt says and has fewer than 100000 events.
  The contract of the iterator that (*Tape).after returns, over this seat's translation: it yields the events after the first n ones that the tape had at the beginning, as long as the loop's rounds keep these events readable. Conditions: the tape lies in memory as TapeV says and has at most 100000 events.
-/
import Derived.Test.YtbkgghhngeibhaaGreatDoorFrame
import Derived.LoopIn
import Derived.LoopNIn
import Derived.OwnWalkIn
import Derived.RangeFuncBound
import Derived.Shelf.RegionOpen
namespace Go.Proofs.YtbkgghhngeibhaaGreatDoor
open Lib (hid)
section
open Go.RowKit

abbrev Ev:Type:=Int × Int × Int
def evAt (w:World) (b o:Nat) (e:Ev):Prop :=
 w.cell? ⟨b,o,none⟩=some (.int .i64 e.1)/\w.cell? ⟨b,o+1,none⟩=some (.int .i64 e.2.1)/\w.cell? ⟨b,o+2,none⟩=some (.int .i64 e.2.2)

theorem Off.ev {S:Nat->Prop} {w w':World} (h:Off S w w') {b o:Nat} {e:Ev} (he:evAt w b o e) (hs:¬S b):evAt w' b o e :=
 ⟨h.cell he.1 hs,h.cell he.2.1 hs,h.cell he.2.2 hs⟩

theorem ev_block {w w':World} {b o:Nat} {e:Ev} (h:w'.heap[b]?=w.heap[b]?) (he:evAt w b o e):evAt w' b o e :=
 ⟨(World.cell?_of_block (a:=⟨b,o,none⟩) h).trans he.1,(World.cell?_of_block (a:=⟨b,o+1,none⟩) h).trans he.2.1,(World.cell?_of_block (a:=⟨b,o+2,none⟩) h).trans he.2.2⟩

def ptr (b:Nat):Value:=.pointer (some ⟨b,0,none⟩)

def TapeG (w:World) (b:Nat) (es:List Ev) (S:Nat->Prop) (nb:Nat):Prop :=
 ∃ (sv:Value) (ebs:List Nat),
  w.heap[b]?=some (.cells #[sv,.int .i64 (es.length:Int)] 83 (0,0))/\S b /\
  w.ownsRow 0 113 1 sv nb (ebs.map ptr)/\(∀ k,sv.ownBlock=some k->S k) /\
  ebs.length=nb/\ebs.Nodup /\
  (∀ eb,eb∈ebs->S eb/\∃ c,w.heap[eb]?=some (.cells c 115 (0,0))/\c.size=192) /\
  (∀ i e,es[i]?=some e->∃ eb,ebs[i / 64]?=some eb/\evAt w eb (i%64*3) e)

def need (n:Nat):Nat:=(n+63) / 64
def TapeAt (w:World) (b:Nat) (es:List Ev) (S:Nat->Prop):Prop:=TapeG w b es S (need es.length)

theorem ownBlock_row {w:World} {n:Nat} {T:TypeId} {v:Value} {xs:List Value} {k:Nat} (h:w.ownsRow 0 T 1 v n xs) (hk:v.ownBlock=some k):∃ cur,w.heap[k]?=some (.cells cur T (0,0)):=by
 rcases h.2 with ⟨rfl,_⟩ | ⟨g,cap,cur,rfl,_,hg,_⟩
 ·simp[Value.ownBlock]at hk
 simp[Value.ownBlock]at hk;subst hk;exact⟨cur,hg⟩

theorem TapeG.off {w w':World} {b:Nat} {es:List Ev} {S S':Nat->Prop} {nb:Nat} (h:TapeG w b es S nb) (ho:Off S' w w') (hd:∀ k,k<w.heap.size->S k->¬S' k):TapeG w' b es S nb:=by
 obtain⟨sv,ebs,h1,h2,h3,h4,h5,h6,h7,h8⟩:=h
 refine⟨sv,ebs,ho.heap h1 (hd _ (heap_lt h1) h2),h2,?_,h4,h5,h6,?_,?_⟩
 ·refine⟨h3.1,?_⟩
  rcases h3.2 with hn | ⟨g,cap,cur,rfl,hb,hg,r⟩
  ·exact .inl hn
  exact .inr ⟨g,cap,cur,rfl,hb,ho.heap hg (hd _ (heap_lt hg) (h4 g (by simp[Value.ownBlock]))),r⟩
 ·intro eb he
  obtain⟨hs,c,hc,hz⟩:=h7 eb he
  exact⟨hs,c,ho.heap hc (hd _ (heap_lt hc) hs),hz⟩
 intro i e hi
 obtain⟨eb,he,hv⟩:=h8 i e hi
 obtain⟨hs,c,hc,_⟩:=h7 eb (List.mem_of_getElem? he)
 exact⟨eb,he,ho.ev hv (hd _ (heap_lt hc) hs)⟩
theorem TapeG.mono {w:World} {b:Nat} {es:List Ev} {S S':Nat->Prop} {nb:Nat} (h:TapeG w b es S nb) (hs:∀ k,k<w.heap.size->S k->S' k):TapeG w b es S' nb:=by
 obtain⟨sv,ebs,h1,h2,h3,h4,h5,h6,h7,h8⟩:=h
 refine⟨sv,ebs,h1,hs _ (heap_lt h1) h2,h3,fun k hk=>?_,h5,h6,fun eb he=>?_,h8⟩
 ·obtain⟨cur,hc⟩:=ownBlock_row h3 hk
  exact hs _ (heap_lt hc) (h4 k hk)
 obtain⟨h,c,hc,hz⟩:=h7 eb he
 exact⟨hs _ (heap_lt hc) h,c,hc,hz⟩
def noted (w:World) (b eb off:Nat) (e:Ev) (n:Int):World :=
 ((((w.setCell ⟨eb,off,none⟩ (.int .i64 e.1)).setCell ⟨eb,off+1,none⟩ (.int .i64 e.2.1)).setCell ⟨eb,off+2,none⟩ (.int .i64 e.2.2)).setCell ⟨b,1,none⟩ (.int .i64 n)).drew

theorem noted_heap (w:World) (b eb off:Nat) (e:Ev) (n:Int) (k:Nat) (h1:k≠b) (h2:k≠eb):(noted w b eb off e n).heap[k]?=w.heap[k]?:=by
 show((((w.setCell _ _).setCell _ _).setCell _ _).setCell _ _).heap[k]?=_
 rw[Below.heap_setCell _ _ _ _ h1,Below.heap_setCell _ _ _ _ h2,Below.heap_setCell _ _ _ _ h2,Below.heap_setCell _ _ _ _ h2]
theorem noted_b {w:World} {b eb off:Nat} {e:Ev} {n:Int} {sv u:Value} {T:TypeId} (h:w.heap[b]?=some (.cells #[sv,u] T (0,0))) (hne:b≠eb) :
  (noted w b eb off e n).heap[b]?=some (.cells #[sv,.int .i64 n] T (0,0)):=by
 have h':(((w.setCell ⟨eb,off,none⟩ (.int .i64 e.1)).setCell ⟨eb,off+1,none⟩ (.int .i64 e.2.1)).setCell ⟨eb,off+2,none⟩ (.int .i64 e.2.2)).heap[b]?=some (.cells #[sv,u] T (0,0)):=by
  rw[Below.heap_setCell _ _ _ _ hne,Below.heap_setCell _ _ _ _ hne,Below.heap_setCell _ _ _ _ hne,h]
 have:=heap_set h' 1 (.int .i64 n)
 show((((w.setCell _ _).setCell _ _).setCell _ _).setCell _ _).heap[b]?=_
 simpa using this
theorem noted_eb {w:World} {b eb off:Nat} {e:Ev} {n:Int} {c:Array Value} {T:TypeId} (h:w.heap[eb]?=some (.cells c T (0,0))) (hne:b≠eb) :
  (noted w b eb off e n).heap[eb]?=some (.cells (((c.setIfInBounds off (.int .i64 e.1)).setIfInBounds (off+1) (.int .i64 e.2.1)).setIfInBounds (off+2) (.int .i64 e.2.2)) T (0,0)):=by
 have:=heap_set (heap_set (heap_set h off (.int .i64 e.1)) (off+1) (.int .i64 e.2.1)) (off+2) (.int .i64 e.2.2)
 show((((w.setCell _ _).setCell _ _).setCell _ _).setCell _ _).heap[eb]?=_
 rw[Below.heap_setCell _ _ _ _ (Ne.symm hne)]
 exact this
theorem noted_off {w:World} {S:Nat->Prop} {b eb off:Nat} {e:Ev} {n:Int} (h1:S b) (h2:S eb):Off S w (noted w b eb off e n) :=
 (((((Off.refl S w).setCell (p:=⟨eb,off,none⟩) (fun _=>h2) _).setCell (p:=⟨eb,off+1,none⟩) (fun _=>h2) _).setCell (p:=⟨eb,off+2,none⟩) (fun _=>h2) _).setCell (p:=⟨b,1,none⟩) (fun _=>h1) _).drew

theorem ev_other {w w':World} {x off o:Nat} {e v:Ev} {c:Array Value} {T:TypeId} (hc:w.heap[x]?=some (.cells c T (0,0)))
  (hN:w'.heap[x]?=some (.cells (((c.setIfInBounds off (.int .i64 e.1)).setIfInBounds (off+1) (.int .i64 e.2.1)).setIfInBounds (off+2) (.int .i64 e.2.2)) T (0,0)))
  (hd:o+2<off\/off+2<o) (hv:evAt w x o v):evAt w' x o v:=by
 obtain⟨a1,a2,a3⟩:=hv
 have s:∀ j,j≠off->j≠off+1->j≠off+2->w'.cell? ⟨x,j,none⟩=w.cell? ⟨x,j,none⟩:=by
  intro j h1 h2 h3
  refine(cell_of_heap hN j).trans (Eq.trans ?_ (cell_of_heap hc j).symm)
  rw[Array.getElem?_setIfInBounds_ne (Ne.symm h3),Array.getElem?_setIfInBounds_ne (Ne.symm h2),Array.getElem?_setIfInBounds_ne (Ne.symm h1)]
 exact⟨(s _ (by omega) (by omega) (by omega)).trans a1,(s _ (by omega) (by omega) (by omega)).trans a2,(s _ (by omega) (by omega) (by omega)).trans a3⟩
theorem ev_self {w':World} {x off:Nat} {e:Ev} {c:Array Value} {T:TypeId} (hz:c.size=192)
  (hN:w'.heap[x]?=some (.cells (((c.setIfInBounds off (.int .i64 e.1)).setIfInBounds (off+1) (.int .i64 e.2.1)).setIfInBounds (off+2) (.int .i64 e.2.2)) T (0,0)))
  (hd:off+2<192):evAt w' x off e:=by
 refine⟨(cell_of_heap hN _).trans ?_,(cell_of_heap hN _).trans ?_,(cell_of_heap hN _).trans ?_⟩
 ·rw[Array.getElem?_setIfInBounds_ne (by omega),Array.getElem?_setIfInBounds_ne (by omega),Array.getElem?_setIfInBounds_self_of_lt (by omega)]
 ·rw[Array.getElem?_setIfInBounds_ne (by omega),Array.getElem?_setIfInBounds_self_of_lt (by simp;omega)]
 rw[Array.getElem?_setIfInBounds_self_of_lt (by simp;omega)]

theorem TapeG.room {w:World} {b:Nat} {es:List Ev} {S:Nat->Prop} (h:TapeG w b es S (es.length / 64+1)) :
  ∃ (g cap eb:Nat) (c:Array Value),
   w.heap[b]?=some (.cells #[.slice (some ⟨g,0,none⟩) (es.length / 64+1) cap,.int .i64 (es.length:Int)] 83 (0,0)) /\
   w.cell? ⟨g,es.length / 64,none⟩=some (.pointer (some ⟨eb,0,none⟩))/\w.heap[eb]?=some (.cells c 115 (0,0))/\c.size=192/\b≠eb /\
   ∀ (e:Ev) (n:Int),n=(es.length:Int)+1->TapeAt (noted w b eb (es.length%64*3) e n) b (es++[e]) S/\Off S w (noted w b eb (es.length%64*3) e n):=by
 obtain⟨sv,ebs,h1,h2,h3,h4,h5,h6,h7,h8⟩:=h
 have h3':=h3
 obtain⟨hl,⟨rfl,h0⟩ | ⟨g,cap,cur,rfl,_,hg,hn,hm,hs,ht⟩⟩:=h3
 ·omega
 obtain⟨eb,heb⟩:∃ eb,ebs[es.length / 64]?=some eb:=⟨ebs[es.length / 64]'(by omega),List.getElem?_eq_getElem _⟩
 obtain⟨hSe,c,hc,hz⟩:=h7 eb (List.mem_of_getElem? heb)
 have hbe:b≠eb:=fun e=>by subst e;rw[h1]at hc;simp at hc
 have hge:g≠eb:=fun e=>by subst e;rw[hg]at hc;simp at hc
 have hgb:g≠b:=fun e=>by subst e;rw[hg]at h1;simp at h1
 refine⟨g,cap,eb,c,h1,?_,hc,hz,hbe,fun e n hn'=>⟨?_,noted_off h2 hSe⟩⟩
 ·have hx:(ebs.map ptr)[es.length / 64]?=some (ptr eb):=by rw[List.getElem?_map,heb];rfl
  have:=h3'.cells (g:=g) (by simp[Value.ownBlock]) _ _ hx
  rw[Addr.add_lit]at this
  simpa[ptr]using this
 subst hn'
 have hw:need (es++[e]).length=es.length / 64+1:=by unfold need;simp;omega
 unfold TapeAt
 rw[hw]
 refine⟨_,ebs,by simpa using noted_b (n:=(es.length:Int)+1) h1 hbe,h2,⟨hl,.inr ⟨g,cap,cur,rfl,Nat.zero_le _,?_,hn,hm,hs,ht⟩⟩,h4,h5,h6,?_,?_⟩
 ·rw[noted_heap _ _ _ _ _ _ _ hgb hge];exact hg
 ·intro x hx
  obtain⟨hS,d,hd,hdz⟩:=h7 x hx
  refine⟨hS,?_⟩
  by_cases hxe:x=eb
  ·subst hxe
   exact⟨_,noted_eb hc hbe,by simp[hz]⟩
  have hxb:x≠b:=fun e=>by subst e;rw[h1]at hd;simp at hd
  exact⟨d,by rw[noted_heap _ _ _ _ _ _ _ hxb hxe];exact hd,hdz⟩
 intro i v hi
 by_cases hlt:i<es.length
 ·rw[List.getElem?_append_left hlt]at hi
  obtain⟨x,hx,hv⟩:=h8 i v hi
  refine⟨x,hx,?_⟩
  by_cases hxe:x=eb
  ·subst hxe
   have hii:i / 64=es.length / 64:=by
    have l1:=(List.getElem?_eq_some_iff.1 hx).1
    have l2:=(List.getElem?_eq_some_iff.1 heb).1
    exact(List.getElem_inj h6).1 ((List.getElem?_eq_some_iff.1 hx).2.trans (List.getElem?_eq_some_iff.1 heb).2.symm)
   have hne:i%64≠es.length%64:=by omega
   exact ev_other hc (noted_eb (off:=es.length%64*3) (e:=e) (n:=(es.length:Int)+1) hc hbe) (by omega) hv
  obtain⟨_,d,hd,_⟩:=h7 x (List.mem_of_getElem? hx)
  have hxb:x≠b:=fun e=>by subst e;rw[h1]at hd;simp at hd
  have hk:=noted_heap w b eb (es.length%64*3) e ((es.length:Int)+1) x hxb hxe
  exact ev_block hk hv
 have:i=es.length:=by
  have:=(List.getElem?_eq_some_iff.1 hi).1
  simp at this;omega
 subst this
 simp at hi
 subst hi
 refine⟨eb,heb,?_⟩
 exact ev_self hz (noted_eb (off:=es.length%64*3) (e:=e) (n:=(es.length:Int)+1) hc hbe) (by omega)



theorem run_append_mine {P:Program} (w:World) (t ty e:TypeId) (i:TypeInfo) (z:Value) (bytes:Nat) (ht:P.underlying t=some (.slice e)) (hi:P.info? e=some i) (hz:i.zero=some z)
  (hsize:i.size=1) (hby:i.bytes=bytes) (hzs:z.cells.size=1) (v:Value) (n:Nat) (xs:List Value) (hown:w.ownsRow 0 e 1 v n xs)
  (a:Addr) (c:Nat) (new:Value) (hnew:w.cell? a=some new) (h1:new.oneCell'=true) (hn:n+1<=1000000) (hb:bytes<=1000) :
  ∃ v' w',(Builtin.append_ #[t,t] ty #[v,.slice (some a) 1 c]).run P w=.ok v' w'/\w'.ownsRow 0 e 1 v' (n+1) (xs++[new])/\w.grownBy w' v.ownBlock /\
   (v'.ownBlock=v.ownBlock\/v'.ownBlock=some w.heap.size):=by
 have hbb:(n+1)*bytes<=140737488355328:=Nat.le_trans (Nat.mul_le_mul hn hb) (by decide)
 have hm:n+1<=maxLen:=by unfold maxLen;omega
 have hnews:∀ j u,[new][j]?=some u->w.cell? (a.add j)=some u:=by
  intro j u hj
  cases j with
  | zero=>simp at hj;subst hj;simpa[Addr.add]using hnew
  | succ j=>simp at hj
 have h1':∀ u∈[new],u.oneCell'=true:=by simpa using h1
 obtain⟨v',w',hr,ho,hg,_⟩:=run_append_own (P:=P) w 0 t ty e i z 1 bytes ht hi hz hsize hby hzs (by decide) v n xs hown a 1 c [new] (by simp) hnews h1' hm hbb (Nat.zero_le _)
 refine⟨v',w',hr,ho,hg,?_⟩
 rcases hown.2 with ⟨rfl,rfl⟩ | ⟨g,cap,cur,rfl,_,hgc,hnc,hcm,hcs,htake⟩
 ·have hr2:=run_append_nil (P:=P) w t ty e i z ht hi hz a 1 c [new] (by simp[hsize]) hnews (by omega) (by omega) (by rw[hby];omega)
  rw[hr]at hr2
  obtain⟨rfl,_⟩:=by simpa using hr2
  exact .inr rfl
 by_cases hroom:n+1<=cap
 ·have hr2:=run_append_room (P:=P) w t ty e i ht hi g n cap cur hgc a 1 c [new] (by simp[hsize]) hnews h1' hroom (by rw[hsize,hcs];simp;omega)
  rw[hr]at hr2
  obtain⟨rfl,_⟩:=by simpa using hr2
  exact .inl rfl
 have holds:∀ j u,xs[j]?=some u->w.cell? ((⟨g,0,none⟩:Addr).add j)=some u:=hown.cells (g:=g) rfl
 have hr2:=run_append_grow (P:=P) w t ty e i z ht hi hz ⟨g,0,none⟩ n cap xs (by rw[hown.1,hsize]) holds a 1 c [new] (by simp[hsize]) hnews (by omega) (by omega) (by rw[hby];exact growslice_fits (by omega) hbb)
 rw[hr]at hr2
 obtain⟨rfl,_⟩:=by simpa using hr2
 exact .inr rfl

theorem wpList_append_mine {P:Program} (w:World) {ops:Array Oper} {rest:List Oper} {o:Oper} {a:Act} {Q:Exit->Act->World->Prop} (hgd:o.guard=none) (s x:Operand) (t:TypeId)
  (ho:o.op=.call { callee:=.builtin .append,args:=#[s,x],argTypes:=#[t,t] })
  (e:TypeId) (i:TypeInfo) (z:Value) (bytes:Nat) (ht:P.underlying t=some (.slice e)) (hi:P.info? e=some i) (hz:i.zero=some z)
  (hsize:i.size=1) (hby:i.bytes=bytes) (hzs:z.cells.size=1) (v:Value) (n:Nat) (xs:List Value) (hs:a.eval s=v) (hown:w.ownsRow 0 e 1 v n xs)
  (ad:Addr) (c:Nat) (new:Value) (hx:a.eval x=.slice (some ad) 1 c) (hnew:w.cell? ad=some new) (h1:new.oneCell'=true) (hn:n+1<=1000000) (hb:bytes<=1000)
  (h:∀ v' w',w'.ownsRow 0 e 1 v' (n+1) (xs++[new])->w.grownBy w' v.ownBlock->(v'.ownBlock=v.ownBlock\/v'.ownBlock=some w.heap.size)->wpList P ops Q rest (a.put o.dst v') w'):wpList P ops Q (o::rest) a w :=
 wpList_plain hgd fun K hK=>by
  obtain⟨v',w',hr,h2,h3,h4⟩:=run_append_mine (P:=P) w t o.type e i z bytes ht hi hz hsize hby hzs v n xs hown ad c new hnew h1 hn hb
  unfold Oper.wp execOp
  simp only[ho,resolve,invoke,builtin,Sem.run_bind,Sem.run_pure,Result.andThen_ok,List.map_toArray,List.map_cons,List.map_nil,hs,hx,hr]
  exact hK _ _ (h v' w' h2 h3 h4)

theorem more_step {w w1:World} {b nb:Nat} {es:List Ev} {S:Nat->Prop} {sv v':Value} {ebs:List Nat} {Z:Array Value} {o:Obj} (hZ:Z.size=192)
  (h1:w.heap[b]?=some (.cells #[sv,.int .i64 (es.length:Int)] 83 (0,0))) (h2:S b)
  (h3:w.ownsRow 0 113 1 sv nb (ebs.map ptr)) (h4:∀ k,sv.ownBlock=some k->S k) (h5:ebs.length=nb) (h6:ebs.Nodup)
  (h7:∀ eb,eb∈ebs->S eb/\∃ c,w.heap[eb]?=some (.cells c 115 (0,0))/\c.size=192)
  (h8:∀ i e,es[i]?=some e->∃ eb,ebs[i / 64]?=some eb/\evAt w eb (i%64*3) e)
  (hown:w1.ownsRow 0 113 1 v' (nb+1) (ebs.map ptr++[ptr w.heap.size]))
  (hg:((w.alloc (.cells Z 115)).alloc o).grownBy w1 sv.ownBlock)
  (hv:v'.ownBlock=sv.ownBlock\/v'.ownBlock=some ((w.alloc (.cells Z 115)).alloc o).heap.size) :
  w1.heap[b]?=some (.cells #[sv,.int .i64 (es.length:Int)] 83 (0,0))/\(∃ g cap,v'=.slice (some ⟨g,0,none⟩) (nb+1) cap/\g≠b) /\
  TapeG (w1.setCell ⟨b,0,none⟩ v') b es (fun k=>S k\/w.heap.size<=k) (nb+1)/\Off S w (w1.setCell ⟨b,0,none⟩ v'):=by
 obtain⟨wA,hA⟩:∃ wA,wA=(w.alloc (.cells Z 115)).alloc o:=⟨_,rfl⟩
 rw[<-hA]at hg hv
 have hwA:Off (fun _=>False) w wA:=by rw[hA];exact((Off.refl (fun _=>False) w).alloc _).alloc _
 have hrow:∀ k,sv.ownBlock=some k->∃ cur,w.heap[k]?=some (.cells cur 113 (0,0)):=fun k hk=>ownBlock_row h3 hk
 have keepA:∀ (k:Nat) (c:Array Value) (T:TypeId),wA.heap[k]?=some (.cells c T (0,0))->T≠113->w1.heap[k]?=some (.cells c T (0,0)):=by
  intro k c T hk hT
  refine(hg.block k (heap_lt hk) (fun e=>?_)).trans hk
  obtain⟨cur,hc⟩:=hrow k e.symm
  have:=hwA.heap hc (fun c=>c)
  rw[hk]at this;simp at this;exact hT this.2
 have keep:∀ (k:Nat) (c:Array Value) (T:TypeId),w.heap[k]?=some (.cells c T (0,0))->T≠113->w1.heap[k]?=some (.cells c T (0,0)):=fun k c T hk hT=>keepA k c T (hwA.heap hk (fun c=>c)) hT
 have hb:=keep _ _ _ h1 (by decide)
 have hEA:wA.heap[w.heap.size]?=some (.cells Z 115 (0,0)):=by
  rw[hA];exact(Below.heap_alloc _ _ _ (by simp)).trans (World.alloc_heap_new w _)
 have hE:=keepA _ _ _ hEA (by decide)
 have hbw:b≠w.heap.size:=Nat.ne_of_lt (heap_lt h1)
 have hown':=hown
 obtain⟨hl',⟨rfl,h0⟩ | ⟨g,cap,cur,rfl,hgb0,hgc,hn,hm,hs,ht⟩⟩:=hown
 ·omega
 have hgb:g≠b:=fun e=>by subst e;rw[hgc]at hb;simp at hb
 have hgS:S g\/w.heap.size<=g:=by
  rcases hv with hv | hv
  ·exact .inl (h4 g (by rw[<-hv];rfl))
  have:g=wA.heap.size:=by simpa[Value.ownBlock]using hv
  exact .inr (by rw[this];exact hwA.size)
 have hoff1:Off S w w1:=(hwA.mono (fun _ _ c=>c.elim)).grown hg (fun k hk=>⟨fun _=>h4 k hk,fun o' ho'=>by
  obtain⟨cur',hc'⟩:=hrow k hk
  have:=hwA.heap hc' (fun c=>c)
  rw[this]at ho';cases ho';rfl⟩)
 refine⟨hb,⟨g,cap,rfl,hgb⟩,?_,hoff1.setCell (fun _=>h2) _⟩
 have same:∀ k,k≠b->(w1.setCell ⟨b,0,none⟩ (.slice (some ⟨g,0,none⟩) (nb+1) cap)).heap[k]?=w1.heap[k]?:=fun k hk=>Below.heap_setCell _ _ _ _ hk
 refine⟨.slice (some ⟨g,0,none⟩) (nb+1) cap,ebs++[w.heap.size],?_,.inl h2,?_,?_,by simp[h5],?_,?_,?_⟩
 ·simpa using heap_set hb 0 (.slice (some ⟨g,0,none⟩) (nb+1) cap)
 ·refine⟨by simpa using hown'.1,.inr ⟨g,cap,cur,rfl,Nat.zero_le _,by rw[same g hgb];exact hgc,hn,hm,hs,by simpa using ht⟩⟩
 ·intro k hk
  have:k=g:=by simpa[Value.ownBlock]using hk.symm
  subst this;exact hgS
 ·rw[List.nodup_append]
  refine⟨h6,by simp,fun x hx y hy e=>?_⟩
  obtain⟨_,c,hc,_⟩:=h7 x hx
  have:=heap_lt hc
  simp at hy;omega
 ·intro eb he
  rcases List.mem_append.1 he with he | he
  ·obtain⟨hS,c,hc,hz⟩:=h7 eb he
   have hne:eb≠b:=fun e=>by subst e;rw[h1]at hc;simp at hc
   exact⟨.inl hS,c,by rw[same eb hne];exact keep _ _ _ hc (by decide),hz⟩
  have:eb=w.heap.size:=by simpa using he
  subst this
  exact⟨.inr (Nat.le_refl _),Z,by rw[same _ (Ne.symm hbw)];exact hE,hZ⟩
 intro i e hi
 obtain⟨eb,he,hv⟩:=h8 i e hi
 obtain⟨_,c,hc,_⟩:=h7 eb (List.mem_of_getElem? he)
 have hne:eb≠b:=fun e=>by subst e;rw[h1]at hc;simp at hc
 have hk:=(same eb hne).trans ((keep _ _ _ hc (by decide)).trans hc.symm)
 exact⟨eb,by rw[List.getElem?_append_left (List.getElem?_eq_some_iff.1 he).1];exact he,ev_block hk hv⟩
end
section
open Go.RowKit

theorem blk_info:(Tryz.prog.info? 115).map (fun i=>i.zero)=some (some (.agg (Array.replicate 192 (.int .i64 0)))):=by kernel_rfl
theorem zero_blk:∃ Z:Array Value,Z.size=192/\(∀ w,(zeroValue 115).run Tryz.prog w=.ok (.agg Z) w):=by
 obtain⟨i,hi,hz⟩:=Option.map_eq_some_iff.1 blk_info
 exact⟨Array.replicate 192 (.int .i64 0),Array.size_replicate,fun w=>by simp[zeroValue,typeInfo,hi,hz]⟩
theorem pblk_info:(Tryz.prog.info? 113).map (fun i=>(i.zero,i.size,i.bytes))=some (some (.pointer none),1,8):=by kernel_rfl

theorem blk_cells {w:World} {eb o:Nat} {c:Array Value} {T:TypeId} (h:w.heap[eb]?=some (.cells c T (0,0))) (ho:o+2<c.size) :
  ∃ v0 v1 v2:Value,w.cell? ⟨eb,o,none⟩=some v0/\w.cell? ⟨eb,o+1,none⟩=some v1/\w.cell? ⟨eb,o+2,none⟩=some v2 :=
 ⟨c[o]'(by omega),c[o+1]'(by omega),c[o+2]'(by omega),(cell_of_heap h _).trans (Array.getElem?_eq_getElem _),(cell_of_heap h _).trans (Array.getElem?_eq_getElem _),(cell_of_heap h _).trans (Array.getElem?_eq_getElem _)⟩

set_option maxHeartbeats 1000000 in
theorem note_room (b:Nat) (es:List Ev) (S:Nat->Prop) (w:World) (h:TapeAt w b es S) (hl:es.length<100000) (hr:es.length%64≠0) (e:Ev) :
  Calls Tryz.prog 44 #[.pointer (some ⟨b,0,none⟩),.int .i64 e.1,.int .i64 e.2.1,.int .i64 e.2.2] w fun r w'=>r=.returned (.tuple #[])/\TapeAt w' b (es++[e]) S/\Off S w w':=by
 have hn:need es.length=es.length / 64+1:=by unfold need;omega
 unfold TapeAt at h
 rw[hn]at h
 obtain⟨g,cap,eb,c,hb,c2,hc,hz,hbe,hfin⟩:=h.room
 obtain⟨m,hm⟩:∃ m,m=es.length:=⟨_,rfl⟩
 rw[<-hm]at hfin hb c2 hl hr
 have HF:=hid (hfin e ((m:Int)+1) rfl)
 have hr':((m:Int)%64==0)=false:=by simp;omega
 have c0:w.cell? ⟨b,0,none⟩=some (.slice (some ⟨g,0,none⟩) (m / 64+1) cap):=cell_of_heap hb 0
 have c1:w.cell? ⟨b,1,none⟩=some (.int .i64 m):=cell_of_heap hb 1
 have f1:w.frozen? ⟨b,1,none⟩=false:=frozen_of_heap hb 1
 obtain⟨v0,v1,v2,e0,e1,e2⟩:=blk_cells (o:=m%64*3) hc (by omega)
 have g0:=frozen_of_heap hc (m%64*3)
 have g1:=frozen_of_heap hc (m%64*3+1)
 have g2:=frozen_of_heap hc (m%64*3+2)
 obtain⟨nb,hnb⟩:∃ nb,nb=m / 64+1:=⟨_,rfl⟩
 rw[<-hnb]at c0
 have hqn:m / 64<nb:=by omega
 have hnl:nb<=100000:=by omega
 obtain⟨ek,ea,eo⟩:=e
 clear hfin hc hz hb h hm hn hnb
 go_enter Tryz.func44,Tryz.ntmps44
 go_wp2
 go_region
 go_wp2
 go_end0
 exact⟨rfl,HF.out⟩

set_option maxHeartbeats 2000000 in
theorem note_full (b:Nat) (es:List Ev) (S:Nat->Prop) (w:World) (h:TapeAt w b es S) (hl:es.length<100000) (hr:es.length%64=0) (e:Ev) :
  Calls Tryz.prog 44 #[.pointer (some ⟨b,0,none⟩),.int .i64 e.1,.int .i64 e.2.1,.int .i64 e.2.2] w fun r w'=>r=.returned (.tuple #[])/\TapeAt w' b (es++[e]) (fun k=>S k\/w.heap.size<=k)/\Off S w w':=by
 have hn:need es.length=es.length / 64:=by unfold need;omega
 unfold TapeAt at h
 rw[hn]at h
 obtain⟨sv,ebs,h1,h2,h3,h4,h5,h6,h7,h8⟩:=h
 obtain⟨a0,n0,cap0,rfl⟩:∃ (a0:Option Addr) (n0 cap0:Nat),sv=.slice a0 n0 cap0:=by
  rcases h3.2 with ⟨rfl,_⟩ | ⟨g,cap,cur,rfl,_⟩ <;> exact⟨_,_,_,rfl⟩
 obtain⟨Z,hZ,hzero⟩:=zero_blk
 have hZn:¬Z=#[]:=by rintro rfl;simp at hZ
 obtain⟨i0,hi,hz0,hz1,hz2⟩:=info_parts pblk_info
 have hstep:=fun(w1:World) (v':Value) (o:Obj) hown hg hv=>more_step (w:=w) (w1:=w1) (v':=v') (o:=o) hZ h1 h2 h3 h4 h5 h6 h7 h8 hown hg hv
 have hm:((es.length:Int)%64==0)=true:=by simp;omega
 have HS:=hid hstep
 have hnb:=hid (show es.length / 64+1<=1000000 by omega)
 have c0:w.cell? ⟨b,0,none⟩=some (.slice a0 n0 cap0):=cell_of_heap h1 0
 have c1:w.cell? ⟨b,1,none⟩=some (.int .i64 es.length):=cell_of_heap h1 1
 have hlt:=heap_lt h1
 have H3:=hid h3
 clear hstep h1 h4 h5 h6 h7 h8 hn h3
 obtain⟨m,hm'⟩:∃ m,m=es.length:=⟨_,rfl⟩
 rw[<-hm']at hm c1 hl hr hnb HS H3
 have HM:=hid hm'
 clear hm'
 obtain⟨ek,ea,eo⟩:=e
 go_enter Tryz.func44,Tryz.ntmps44
 go_wp2_with (at_builtin;refine wpList_append_mine _ rfl _ _ 81 rfl 113 i0 (.pointer none) 8 Tryz.underlying81 hi hz0 hz1 hz2 rfl _ _ _ rfl ((H3.out.alloc _).alloc _) ⟨w.heap.size+1,0,none⟩ 1 (.pointer (some ⟨w.heap.size,0,none⟩)) rfl ?q2 rfl hnb.out (by decide) ?_)
 case q2=>simp[go_sem]
 intro v' w1 hown hgrow hv
 obtain⟨hb1,⟨g,cap,rfl,hgb⟩,hT,hO⟩:=HS.out w1 v' _ hown hgrow (by simpa using hv)
 have hlen:es.length=m:=HM.out.symm
 have hnb2:m / 64+1=es.length / 64+1:=by rw[hlen]
 rw[hnb2]at hT
 obtain⟨g',cap',eb,c,hb,c2,hc,hz,hbe,hfin⟩:=hT.room
 rw[hlen]at hb c2 hfin
 have HF:=hid (hfin (ek,ea,eo) ((m:Int)+1) rfl)
 have HO:=hid hO
 have hset:=heap_set hb1 0 (.slice (some ⟨g,0,none⟩) (m / 64+1) cap)
 rw[hb]at hset
 obtain⟨rfl,rfl⟩:g'=g/\cap'=cap:=by simpa using hset
 have s:∀ k o,k≠b->(w1.setCell ⟨b,0,none⟩ (.slice (some ⟨g',0,none⟩) (m / 64+1) cap')).cell? ⟨k,o,none⟩=w1.cell? ⟨k,o,none⟩:=fun k o hk=>World.cell?_of_block (a:=⟨k,o,none⟩) (Below.heap_setCell _ _ _ _ hk)
 have c0:w1.cell? ⟨b,0,none⟩=some (.slice a0 n0 cap0):=cell_of_heap hb1 0
 have c1:w1.cell? ⟨b,1,none⟩=some (.int .i64 m):=cell_of_heap hb1 1
 have f0:w1.frozen? ⟨b,0,none⟩=false:=frozen_of_heap hb1 0
 have f1:w1.frozen? ⟨b,1,none⟩=false:=frozen_of_heap hb1 1
 rw[s _ _ hgb]at c2
 have hc1:w1.heap[eb]?=some (.cells c 115 (0,0)):=by rw[<-hc];exact(Below.heap_setCell _ _ _ _ (Ne.symm hbe)).symm
 obtain⟨v0,v1,v2,e0,e1,e2⟩:=blk_cells (o:=m%64*3) hc1 (by omega)
 have g0:=frozen_of_heap hc1 (m%64*3)
 have g1:=frozen_of_heap hc1 (m%64*3+1)
 have g2:=frozen_of_heap hc1 (m%64*3+2)
 obtain⟨nb,hnb'⟩:∃ nb,nb=m / 64+1:=⟨_,rfl⟩
 rw[<-hnb']at HF HO ⊢
 have hqn:m / 64<nb:=by omega
 have hnl:nb<=100000:=by omega
 have hgb2:=Ne.symm hgb
 have hbe2:=Ne.symm hbe
 clear hb1 hT hO hb hc hz hfin hset s hc1 hnb' hnb2 hlen hown hgrow hv HS H3 hi hz0 hz1 hz2 hr hm
 go_wp2
 go_region
 go_wp2
 go_end0
 exact⟨rfl,HF.out.1,HO.out.trans HF.out.2 (fun k hk c=>c.elim id (fun h=>absurd hk (by omega)))⟩

theorem note_any (b:Nat) (es:List Ev) (S:Nat->Prop) (w:World) (h:TapeAt w b es S) (hl:es.length<100000) (e:Ev) :
  Calls Tryz.prog 44 #[.pointer (some ⟨b,0,none⟩),.int .i64 e.1,.int .i64 e.2.1,.int .i64 e.2.2] w fun r w'=>r=.returned (.tuple #[])/\TapeAt w' b (es++[e]) (fun k=>S k\/w.heap.size<=k)/\Off S w w':=by
 by_cases hr:es.length%64=0
 ·exact note_full b es S w h hl hr e
 exact(note_room b es S w h hl hr e).mono fun r w' ⟨h1,h2,h3⟩=>⟨h1,TapeG.mono h2 (fun _ _=>.inl),h3⟩

set_option maxHeartbeats 400000 in
theorem note_nil (x y z:Int) (w:World) :
  Calls Tryz.prog 44 #[.pointer none,.int .i64 x,.int .i64 y,.int .i64 z] w fun r w'=>r=.returned (.tuple #[])/\w=w':=by
 go_enter Tryz.func44,Tryz.ntmps44
 go_wp2
 first | (go_end0;exact⟨rfl,rfl⟩) | (refine bodyPost_ret (results_none rfl _ _ _) rfl ?_;exact⟨rfl,rfl⟩)

def TapeV (w:World) (v:Value) (es:List Ev) (S:Nat->Prop):Prop:=(v=.pointer none/\es=[])\/∃ b,v=.pointer (some ⟨b,0,none⟩)/\TapeAt w b es S
theorem TapeV.off {w w':World} {v:Value} {es:List Ev} {S S':Nat->Prop} (h:TapeV w v es S) (ho:Off S' w w') (hd:∀ k,k<w.heap.size->S k->¬S' k):TapeV w' v es S:=by
 rcases h with h | ⟨b,hv,ht⟩
 ·exact .inl h
 exact .inr ⟨b,hv,ht.off ho hd⟩
end
section
open Go.RowKit Go.Shelf
theorem wide_fn (f:Nat):Fence.wide.fn f=True:=rfl
attribute [local go_sem] Oper.semAt_some wide_fn

theorem TapeG.cells {w:World} {b nb:Nat} {es:List Ev} {S:Nat->Prop} (h:TapeG w b es S nb):TapeG w b es (fun k=>S k/\∃ o:Obj,w.heap[k]?=some o/\o.isCells=true) nb:=by
 obtain⟨sv,ebs,h1,h2,h3,h4,h5,h6,h7,h8⟩:=h
 refine⟨sv,ebs,h1,⟨h2,_,h1,rfl⟩,h3,fun k hk=>?_,h5,h6,fun eb he=>?_,h8⟩
 ·obtain⟨cur,hc⟩:=ownBlock_row h3 hk
  exact⟨h4 k hk,_,hc,rfl⟩
 obtain⟨hs,c,hc,hz⟩:=h7 eb he
 exact⟨⟨hs,_,hc,rfl⟩,c,hc,hz⟩
theorem TapeG.kept {w w':World} {row:Option Nat} {b nb:Nat} {es:List Ev} {S:Nat->Prop} (h:TapeG w b es S nb) (hg:w.grownBy w' row) (hr:∀ r,row=some r->∃ o:Obj,w.heap[r]?=some o/\o.isCells=false):TapeG w' b es S nb:=by
 have h2:=h.cells
 obtain⟨sv,ebs,h1,h2,h3,h4,h5,h6,h7,h8⟩:=h2
 have K:∀ k:Nat,(∃ o:Obj,w.heap[k]?=some o/\o.isCells=true)->w'.heap[k]?=w.heap[k]?:=by
  rintro k ⟨o,ho,hc⟩
  exact grownBy_keeps_cells hg hr ho hc
 refine⟨sv,ebs,(K b h2.2).trans h1,h2.1,?_,fun k hk=>(h4 k hk).1,h5,h6,?_,?_⟩
 ·refine⟨h3.1,?_⟩
  rcases h3.2 with hn | ⟨g,cap,cur,rfl,hb,hg',r⟩
  ·exact .inl hn
  exact .inr ⟨g,cap,cur,rfl,hb,(K g (h4 g rfl).2).trans hg',r⟩
 ·intro eb he
  obtain⟨hs,c,hc,hz⟩:=h7 eb he
  exact⟨hs.1,c,(K eb hs.2).trans hc,hz⟩
 intro i e hi
 obtain⟨eb,he,hv⟩:=h8 i e hi
 exact⟨eb,he,ev_block (K eb (h7 eb (List.mem_of_getElem? he)).1.2) hv⟩
theorem below_grown {w W:World} (h:Below w.heap.size w W):w.grownBy W none:=⟨h.os,h.tape,h.output,h.size,fun k hk _=>h.block k hk⟩
theorem TapeV.kept {w w':World} {row:Option Nat} {v:Value} {es:List Ev} {S:Nat->Prop} (h:TapeV w v es S) (hg:w.grownBy w' row) (hr:∀ r,row=some r->∃ o:Obj,w.heap[r]?=some o/\o.isCells=false):TapeV w' v es S:=by
 rcases h with h | ⟨b,hv,ht⟩
 ·exact .inl h
 exact .inr ⟨b,hv,TapeG.kept ht hg hr⟩

theorem Boxed.kept_own {W W':World} {row:Option Nat} {B:Nat} {t:TypeId} {v:Value} (h:Boxed W B t v) (hg:W.grownBy W' row) (hr:∀ r,row=some r->∃ o:Obj,W.heap[r]?=some o/\o.isCells=false):Boxed W' B t v :=
 (grownBy_keeps_cells hg hr h rfl).trans h
theorem Off.later {S:Nat->Prop} {w W W':World} {row:Option Nat} (h:Off S w W) (hg:W.grownBy W' row) (hr:∀ r,row=some r->w.heap.size<=r):Off S w W' :=
 ⟨hg.os.trans h.os,hg.tape.trans h.tape,hg.output.trans h.output,Nat.le_trans h.size hg.size,
  fun k hk hn=>(hg.block k (Nat.lt_of_lt_of_le hk h.size) (fun e=>by have:=hr k e.symm;omega)).trans (h.block k hk hn),
  fun k o hk ho=>by
   have h1:=h.others k o hk ho
   exact(hg.block k (heap_lt h1) (fun e=>by have:=hr k e.symm;have:=heap_lt hk;omega)).trans h1⟩
end
end Go.Proofs.YtbkgghhngeibhaaGreatDoor
