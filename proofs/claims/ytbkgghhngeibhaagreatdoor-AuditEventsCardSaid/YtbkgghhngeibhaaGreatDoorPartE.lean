/-
  Facts and contracts that some statements of layer 17 need.
-/
import Derived.Test.YtbkgghhngeibhaaGreatDoorAudTwo
import Derived.Test.YtbkgghhngeibhaaGreatDoorTapeMore
namespace Go.Proofs.YtbkgghhngeibhaaGreatDoor
open Lib (hid)
section
open Go.RowKit

def Ev.v (e:Ev):Value:=.agg #[.int .i64 e.1,.int .i64 e.2.1,.int .i64 e.2.2]

theorem TapeG.grown {w w':World} {b:Nat} {es:List Ev} {S:Nat->Prop} {nb:Nat} (h:TapeG w b es S nb) (hg:w.grownBy w' none):TapeG w' b es S nb :=
 h.off (S':=fun _=>False) (Off.of_grown hg) (fun _ _ _ c=>c)
theorem TapeG.bh {w:World} {b:Nat} {es:List Ev} {S:Nat->Prop} {nb:Nat} (h:TapeG w b es S nb):∃ sv,w.cell? ⟨b,0,none⟩=some sv/\w.cell? ⟨b,1,none⟩=some (.int .i64 (es.length:Int))/\b<w.heap.size/\S b:=by
 obtain⟨sv,ebs,h1,h2,_⟩:=h
 exact⟨sv,by simp[World.cell?,h1],by simp[World.cell?,h1],heap_lt h1,h2⟩


end
section
open Go.RowKit

theorem TapeV.mono {w:World} {v:Value} {es:List Ev} {S S':Nat->Prop} (h:TapeV w v es S) (hs:∀ k,k<w.heap.size->S k->S' k):TapeV w v es S':=by
 rcases h with h | ⟨b,hv,ht⟩
 ·exact .inl h
 exact .inr ⟨b,hv,ht.mono hs⟩

set_option maxHeartbeats 400000 in
theorem len_some (b:Nat) (n:Int) (w:World) (h:w.cell? ⟨b,1,none⟩=some (.int .i64 n)) :
  Calls Tryz.prog 21 #[.pointer (some ⟨b,0,none⟩)] w fun r w'=>r=.returned (.int .i64 n)/\w=w':=by
 go_enter Tryz.func21,Tryz.ntmps21
 go_wp2
 go_ret
 exact⟨rfl,rfl⟩
set_option maxHeartbeats 400000 in
theorem len_nil (w:World) :
  Calls Tryz.prog 21 #[.pointer none] w fun r w'=>r=.returned (.int .i64 0)/\w=w':=by
 go_enter Tryz.func21,Tryz.ntmps21
 go_wp2
 go_ret
 exact⟨rfl,rfl⟩
theorem len_any (v:Value) (es:List Ev) (S:Nat->Prop) (w:World) (h:TapeV w v es S) :
  Calls Tryz.prog 21 #[v] w fun r w'=>r=.returned (.int .i64 (es.length:Int))/\w=w':=by
 rcases h with ⟨rfl,rfl⟩ | ⟨b,rfl,ht⟩
 ·exact len_nil w
 obtain⟨sv,_,h1,_⟩:=ht.bh
 exact len_some b _ w h1

theorem TapeG.look {w:World} {b nb:Nat} {es:List Ev} {S:Nat->Prop} (h:TapeG w b es S nb) {i:Nat} {e:Ev} (hi:es[i]?=some e) :
  ∃ g cap eb:Nat,w.cell? ⟨b,0,none⟩=some (.slice (some ⟨g,0,none⟩) nb cap)/\w.cell? ⟨g,i / 64,none⟩=some (.pointer (some ⟨eb,0,none⟩))/\i / 64<nb/\evAt w eb (i%64*3) e:=by
 obtain⟨sv,ebs,h1,h2,h3,h4,h5,h6,h7,h8⟩:=h
 obtain⟨eb,he,hv⟩:=h8 i e hi
 have hlt:=(List.getElem?_eq_some_iff.1 he).1
 have h3':=h3
 obtain⟨hl,⟨rfl,h0⟩ | ⟨g,cap,cur,rfl,_,hg,hn,hm,hs,ht⟩⟩:=h3
 ·omega
 refine⟨g,cap,eb,cell_of_heap h1 0,?_,by omega,hv⟩
 have hx:(ebs.map ptr)[i / 64]?=some (ptr eb):=by rw[List.getElem?_map,he];rfl
 have:=h3'.cells (g:=g) (by simp[Value.ownBlock]) _ _ hx
 rw[Addr.add_lit]at this
 simpa[ptr]using this

theorem ev_info:(Tryz.prog.info? 85).map (fun i=>(i.zero,i.size,i.bytes))=some (some (.agg #[.int .i64 0,.int .i64 0,.int .i64 0]),3,24):=by kernel_rfl

set_option maxHeartbeats 1000000 in
theorem at_cells (b:Nat) (i:Nat) (e:Ev) (g cap nb eb:Nat) (w:World) (hi:i<200000) (c0:w.cell? ⟨b,0,none⟩=some (.slice (some ⟨g,0,none⟩) nb cap)) (c1:w.cell? ⟨g,i / 64,none⟩=some (.pointer (some ⟨eb,0,none⟩))) (hn:i / 64<nb) (hnb:nb<200000) (hv:evAt w eb (i%64*3) e) :
  Calls Tryz.prog 97 #[.pointer (some ⟨b,0,none⟩),.int .i64 i] w fun r w'=>r=.returned e.v/\Off (fun _=>False) w w':=by
 obtain⟨e0,e1,e2⟩:=hv
 obtain⟨ek,ea,eo⟩:=e
 have b0:b<w.heap.size:=World.block_lt_of_cell? w _ c0
 have b1:g<w.heap.size:=World.block_lt_of_cell? w _ c1
 have b2:eb<w.heap.size:=World.block_lt_of_cell? w _ e0
 go_enter Tryz.func97,Tryz.ntmps97
 go_wp2
 exact bodyPost_ret (v:=.agg #[.int .i64 ek,.int .i64 ea,.int .i64 eo]) (by simp[results,Tryz.results97,go_sem]) rfl ⟨rfl,(Off.refl _ w).alloc _⟩

theorem at_any (b:Nat) (es:List Ev) (S:Nat->Prop) (w:World) (h:TapeAt w b es S) (hl:es.length<=100000) (i:Nat) (e:Ev) (hi:es[i]?=some e) :
  Calls Tryz.prog 97 #[.pointer (some ⟨b,0,none⟩),.int .i64 i] w fun r w'=>r=.returned e.v/\Off (fun _=>False) w w':=by
 obtain⟨g,cap,eb,c0,c1,hn,hv⟩:=TapeG.look h hi
 have hlt:=(List.getElem?_eq_some_iff.1 hi).1
 exact at_cells b i e g cap _ eb w (by omega) c0 c1 hn (by unfold need;omega) hv
end
section
open Go.RowKit

def EvsAt (w:World) (v:Value) (es:List Ev) (S:Nat->Prop):Prop :=
 ∃ a cap,v=.slice a es.length cap/\es.length<=cap/\cap<=maxLen/\(a=none->cap=0) /\
  (0<es.length->∃ b off,a=some ⟨b,off,none⟩/\S b/\∀ j e,es[j]?=some e->evAt w b (off+j*3) e)
theorem EvsAt.off {w w':World} {v:Value} {es:List Ev} {S S':Nat->Prop} (h:EvsAt w v es S) (ho:Off S' w w') (hd:∀ k,k<w.heap.size->S k->¬S' k):EvsAt w' v es S:=by
 obtain⟨a,cap,hv,h1,h2,h3,h4⟩:=h
 refine⟨a,cap,hv,h1,h2,h3,fun hp=>?_⟩
 obtain⟨b,off,ha,hS,hc⟩:=h4 hp
 refine⟨b,off,ha,hS,fun j e hj=>?_⟩
 have he:=hc j e hj
 have hlt:b<w.heap.size:=World.block_lt_of_cell? w _ he.1
 exact ho.ev he (hd b hlt hS)
theorem EvsAt.mono {w:World} {v:Value} {es:List Ev} {S S':Nat->Prop} (h:EvsAt w v es S) (hs:∀ k,k<w.heap.size->S k->S' k):EvsAt w v es S':=by
 obtain⟨a,cap,hv,h1,h2,h3,h4⟩:=h
 refine⟨a,cap,hv,h1,h2,h3,fun hp=>?_⟩
 obtain⟨b,off,ha,hS,hc⟩:=h4 hp
 refine⟨b,off,ha,hs b ?_ hS,hc⟩
 obtain⟨e,he⟩:∃ e,es[0]?=some e:=⟨es[0],List.getElem?_eq_getElem hp⟩
 exact World.block_lt_of_cell? w _ (hc 0 e he).1

theorem take_push {es:List Ev} {k:Nat} {e:Ev} (h:es[k]?=some e):es.take (k+1)=es.take k++[e]:=by
 obtain⟨hlt,rfl⟩:=List.getElem?_eq_some_iff.1 h
 rw[List.take_succ_eq_append_getElem hlt]

theorem tape_new (w:World):TapeAt (w.alloc (.cells #[.slice none 0 0,.int .i64 0] 83)) w.heap.size [] (fun k=>w.heap.size<=k):=by
 refine⟨.slice none 0 0,[],World.alloc_heap_new w _,Nat.le_refl _,World.ownsRow_nil _ _ _ _,fun k hk=>by simp[Value.ownBlock]at hk,rfl,List.nodup_nil,fun _ h=>by simp at h,fun i e h=>by simp at h⟩

set_option maxHeartbeats 2000000 in
theorem new_any (sv:Value) (es:List Ev) (S:Nat->Prop) (w:World) (hI:EvsAt w sv es S) (hl:es.length<=90000) :
  Calls Tryz.prog 20 #[sv] w fun r w'=>r=.returned (.pointer (some ⟨w.heap.size,0,none⟩))/\TapeAt w' w.heap.size es (fun k=>w.heap.size<=k)/\Off (fun _=>False) w w':=by
 obtain⟨a,cap,rfl,h1,h2,h3,h4⟩:=hI
 have HT:=hid (tape_new w)
 clear h1 h2 h3
 obtain⟨n,hn⟩:∃ n,n=es.length:=⟨_,rfl⟩
 rw[<-hn]at h4 hl ⊢
 have HN:=hid hn
 clear hn
 go_enter Tryz.func20,Tryz.ntmps20
 go_wp2
 go_loopw [10] (fun i wr=>∃ k:Nat,k<=n/\i=.int .i64 k/\TapeAt wr w.heap.size (es.take k) (fun k=>w.heap.size<=k)/\Off (fun _=>False) w wr) (fun i _=>n-(intOf i).toNat)
 case atStart=>exact⟨0,Nat.zero_le _,rfl,HT.out,(Off.refl _ w).alloc _⟩
 case round =>
  obtain⟨k,hk,rfl,hT,hO⟩:=hrel
  by_cases hlt:k<n
  ·obtain⟨b,off,rfl,_,hcell⟩:=h4 (by omega)
   obtain⟨e,he⟩:∃ e,es[k]?=some e:=⟨es[k]'(by have:=HN.out;omega),List.getElem?_eq_getElem _⟩
   obtain⟨c0,c1,c2⟩:=hO.ev (hcell k e he) (fun c=>c)
   have hlen:(es.take k).length<100000:=by rw[List.length_take];omega
   have HE:=hid he
   clear h4 hcell he
   obtain⟨ek,ea,eo⟩:=e
   go_wp2_with fail
   refine(note_any _ (es.take k) _ _ (TapeG.grown hT (World.grownBy_alloc wr _ none)) hlen (ek,ea,eo)).mono ?_
   rintro r w1 ⟨rfl,hT1,hO1⟩
   rw[<-take_push HE.out]at hT1
   have hO2:Off (fun _=>False) w w1:=(hO.alloc _).trans hO1 (fun j hj h=>by omega)
   have hT2:TapeAt w1 w.heap.size (es.take (k+1)) (fun j=>w.heap.size<=j):=TapeG.mono hT1 (fun j _ h=>h.elim id (fun h=>by have:=hO.size;simp at h;omega))
   clear hT hT1 hO hO1
   go_wp2
   go_roundw
   case rel=>exact⟨k+1,by omega,by go_num,hT2,hO2⟩
   case measure=>simp[intOf];omega
  obtain rfl:k=n:=by omega
  clear h4
  go_wp2
  go_ret
  have:=HN.out
  subst this
  rw[List.take_length]at hT
  exact⟨rfl,hT,hO⟩

set_option maxRecDepth 100000 in
theorem equal_ev (x y:Ev) (w:World):(Op.equalIn 10000 85 x.v y.v).run Tryz.prog w=.ok (decide (x=y)) w:=by
 obtain⟨a,b,c⟩:=x
 obtain⟨d,e,f⟩:=y
 simp only[Ev.v]
 rw[run_equalIn_struct w 9999 _ _ _ Tryz.underlying85 Tryz.stoodInHeld85]
 simp[Op.eqFields,go_sem,part]
 by_cases h1:a=d <;> by_cases h2:b=e <;> by_cases h3:c=f <;> simp[h1,h2,h3]
set_option maxRecDepth 100000 in
theorem neq_ev (x y:Ev) (w:World):(binOp .neq 85 x.v y.v).run Tryz.prog w=.ok (.bool (!decide (x=y))) w:=by
 have h:=equal_ev x y w
 simp only[Ev.v]at h ⊢
 rw[run_neq_struct,h]
 rfl
end
section
open Go.RowKit Go.Shelf
attribute [local go_sem] Oper.semAt_some wide_fn

def Reads (W:World) (v:Value) (es:List Ev):Prop :=
 (v=.pointer none/\es=[])\/∃ b es' S,v=.pointer (some ⟨b,0,none⟩)/\TapeAt W b es' S/\es <+: es'/\es'.length<=100000
def Rd (Bi Bt s:Nat) (v:Value) (es:List Ev) (W:World):Prop :=
 W.cell? ⟨Bi,0,none⟩=some (.int .i64 s)/\W.cell? ⟨Bt,0,none⟩=some v/\Reads W v es

theorem TapeV.reads {W:World} {v:Value} {es:List Ev} {S:Nat->Prop} (h:TapeV W v es S) (hl:es.length<=100000):Reads W v es:=by
 rcases h with h | ⟨b,hv,ht⟩
 ·exact .inl h
 exact .inr ⟨b,es,S,hv,ht,List.prefix_refl _,hl⟩

theorem Reads.kept {w w':World} {row:Option Nat} {v:Value} {es:List Ev} (h:Reads w v es) (hg:w.grownBy w' row) (hr:∀ r,row=some r->∃ o:Obj,w.heap[r]?=some o/\o.isCells=false):Reads w' v es:=by
 rcases h with h | ⟨b,es',S,hv,ht,hp,hl⟩
 ·exact .inl h
 exact .inr ⟨b,es',S,hv,TapeG.kept ht hg hr,hp,hl⟩
theorem Rd.kept {w w':World} {row:Option Nat} {Bi Bt s:Nat} {v:Value} {es:List Ev} (h:Rd Bi Bt s v es w) (hg:w.grownBy w' row) (hr:∀ r,row=some r->∃ o:Obj,w.heap[r]?=some o/\o.isCells=false):Rd Bi Bt s v es w' :=
 ⟨cell_kept h.1 hg hr,cell_kept h.2.1 hg hr,h.2.2.kept hg hr⟩
theorem rdK_b {Bi Bt s:Nat} {v:Value} {es:List Ev} {n:Nat} (W:World) (l:Nat) (o o':Obj) (_:n<=l) (h:W.heap[l]?=some o) (hc:o.isCells=false) (_:o.isWalk=false):Rd Bi Bt s v es W->Rd Bi Bt s v es (W.putObj l o') :=
 fun hr=>hr.kept (grownBy_putObj' W l o') (fun r e=>by cases e;exact⟨o,h,hc⟩)

theorem drop_get {es:List Ev} {s k:Nat} (hk:k<(es.drop s).length):∃ e,es[s+k]?=some e/\(es.drop s).take (k+1)=(es.drop s).take k++[e]:=by
 obtain⟨e,he⟩:∃ e,(es.drop s)[k]?=some e:=⟨_,List.getElem?_eq_getElem hk⟩
 exact⟨e,by rw[<-he,List.getElem?_drop],take_push he⟩

set_option maxRecDepth 100000 in
set_option maxHeartbeats 2000000 in
theorem after1_in (n:Nat) (hn:1<=n) (l Bi Bt s:Nat) (p:Option Addr) (es:List Ev) (hs:s<=es.length) (hl:es.length<=100000) (S:Nat->Prop) (J Jx:List Ev->World->Prop) (W:World)
  (hJ:∀ s A B,J s A->A.grownBy B none->J s B)
  (hY:∀ (pre:List Ev) (x:Ev) W,J pre W->pre.length<(es.drop s).length->YieldAt Fence.wide (n-1) Tryz.prog l #[x.v] W fun e W' =>
   (e=.returned (.bool true)/\J (pre++[x]) W'/\(Rd Bi Bt s (.pointer p) es W->Rd Bi Bt s (.pointer p) es W'))\/(e=.returned (.bool false)/\Jx (pre++[x]) W'))
  (hR:Rd Bi Bt s (.pointer p) es W) (hT:TapeV W (.pointer p) es S) (h0:J [] W) :
  CallsIn Fence.wide n Tryz.prog 96 #[.func (.yield l) #[] #[],.pointer (some ⟨Bi,0,none⟩),.pointer (some ⟨Bt,0,none⟩)] W fun e W'=>(∃ v,e=.returned v) /\
   ((∃ ys,ys=es.drop s/\J ys W')\/(∃ pre,(∃ k,k<=(es.drop s).length/\pre=(es.drop s).take k)/\Jx pre W')):=by
 refine callsIn_of_wp Tryz.func96 rfl trivial ?_ rfl
 simp only[Tryz.ntmps96,List.size_toArray,List.length_cons,List.length_nil,Nat.reduceAdd,Nat.reduceSub,Array.replicate_succ,Array.replicate_zero,List.push_toArray,List.append_toArray,List.nil_append,List.cons_append]
 have hmx:Tryz.prog.follows .mixedOrders=true:=by kernel_rfl
 have hlen:=fun w' (hw:TapeV w' (.pointer p) es S)=>callsIn_wide (n:=n-1).2 (len_any (.pointer p) es S w' hw)
 have r0:=hR.1
 have r1:=hR.2.1
 have HH:=hid hT
 have HR:=hid hR
 obtain⟨m,hm⟩:∃ m,m=(es.drop s).length:=⟨_,rfl⟩
 have hm2:es.length=s+m:=by rw[hm,List.length_drop];omega
 rw[hm2]at hl
 have HM:=hid hm
 have HL:=hid hm2
 have hlen2:∀ w':World,TapeV w' (.pointer p) es S->CallsIn Fence.wide (n-1) Tryz.prog 21 #[.pointer p] w' fun r w''=>r=.returned (.int .i64 ((s:Int)+m))/\w'=w'':=by
  intro w' hw
  have:=hlen w' hw
  rw[hm2]at this
  simpa using this
 clear hlen hm hm2 hR hT
 gi_wp2
 gi_big_quiet_th_o ((go_loud (refine(hlen2 _ ?_).mono ?_);(exact HH.out);rintro e w' ⟨rfl,rfl⟩;exact⟨rfl,_,rfl⟩))
 all_goals
  gi_wp2
  gi_loopw [4] (fun i wr=>∃ k:Nat,k<=m/\i=.int .i64 ((s:Int)+k)/\J ((es.drop s).take k) wr/\Rd Bi Bt s (.pointer p) es wr) (fun i _=>s+m-(intOf i).toNat)
  case atStart=>exact⟨0,Nat.zero_le _,by simp,hJ _ _ _ h0 ⟨rfl,rfl,rfl,Nat.le_refl _,fun _ _ _=>rfl⟩,HR.out⟩
  case round =>
   obtain⟨k,hk,rfl,hJs,hRd⟩:=hrel
   have t1:=hRd.2.1
   by_cases hlt:k<m
   ·obtain⟨e,he,htk⟩:=drop_get (es:=es) (s:=s) (k:=k) (by have:=HM.out;omega)
    obtain⟨_,hnil⟩ | ⟨b,es',S',hp,hT',hpre,hl'⟩:=hRd.2.2
    ·subst hnil;simp at he
    obtain rfl:p=some ⟨b,0,none⟩:=by simpa using hp
    have he':es'[s+k]?=some e:=by
     have hb:=(List.getElem?_eq_some_iff.1 he).1
     rw[<-he];exact(List.prefix_iff_getElem?.1 hpre (s+k) hb).trans (List.getElem?_eq_getElem hb).symm
    have hat:=callsIn_wide (n:=n-1).2 (at_any b es' S' wr hT' hl' (s+k) e he')
    have HE:=hid htk
    have HRd:=hid hRd
    clear he he' htk hp hRd hT' hpre
    have hcast:((s+k:Nat):Int)=(s:Int)+k:=by omega
    rw[hcast]at hat
    have hlk:((es.drop s).take k).length<(es.drop s).length:=by have:=HM.out;rw[List.length_take];omega
    have HY:=hid hY
    clear hY
    gi_wp2
    refine hat.mono ?_
    rintro r w1 ⟨rfl,hO1⟩
    have hRd1:=HRd.out.kept hO1.to_grown (fun r h=>by cases h)
    obtain⟨fn,tmps,assign,body,hy,hround⟩:=HY.out _ e w1 (hJ _ _ _ hJs hO1.to_grown) hlk
    have HRd1:=hid hRd1
    rw[<-HE.out]at hround
    clear hat HY hRd1 HRd hO1 t1 r0 r1 hlen2 hlk
    gi_wp2
    refine hround.mono ?_
    rintro r W3 (⟨rfl,hJ3,hk3⟩ | ⟨rfl,hJx3⟩)
    ·have hRd3:=hk3 HRd1.out
     clear hk3 hround hy
     gi_wp2
     go_roundw
     case rel=>exact⟨k+1,by omega,by go_num,hJ3,hRd3⟩
     case measure=>simp[intOf];omega
    clear hround hy
    gi_wp2
    refine bodyPost_ret (results_none rfl _ _ _) rfl ?_
    exact⟨⟨_,rfl⟩,.inr ⟨_,⟨k+1,by have:=HM.out;omega,rfl⟩,hJx3⟩⟩
   obtain rfl:k=m:=by omega
   clear hY
   gi_wp2
   go_end0
   have:=HM.out
   subst this
   rw[List.take_length]at hJs
   exact⟨⟨_,rfl⟩,.inl ⟨_,rfl,hJs⟩⟩

set_option maxHeartbeats 400000 in
theorem after_any (p:Option Addr) (s:Int) (w:World) :
  Calls Tryz.prog 76 #[.pointer p,.int .i64 s] w fun e w'=>e=.returned (.func (.func 96) #[] #[.pointer (some ⟨w.heap.size+1,0,none⟩),.pointer (some ⟨w.heap.size,0,none⟩)]) /\
   w'=(w.alloc (.cells #[.pointer p] 40)).alloc (.cells #[.int .i64 s] 3):=by
 go_enter Tryz.func76,Tryz.ntmps76
 go_wp2
 go_ret
 exact⟨rfl,rfl⟩

theorem TapeV.grown {w w':World} {v:Value} {es:List Ev} {S:Nat->Prop} (h:TapeV w v es S) (hg:w.grownBy w' none):TapeV w' v es S :=
 h.off (S':=fun _=>False) (Off.of_grown hg) (fun _ _ _ c=>c)
def Src (Bi Bt s:Nat) (p:Option Addr) (es:List Ev) (S:Nat->Prop) (W:World):Prop :=
 TapeV W (.pointer p) es S/\Boxed W Bi 3 (.int .i64 s)/\Boxed W Bt 40 (.pointer p)
theorem Src.rd {Bi Bt s:Nat} {p:Option Addr} {es:List Ev} {S:Nat->Prop} {W:World} (h:Src Bi Bt s p es S W) (hl:es.length<=100000):Rd Bi Bt s (.pointer p) es W :=
 ⟨h.2.1.cell,h.2.2.cell,h.1.reads hl⟩
theorem Src.off {Bi Bt s:Nat} {p:Option Addr} {es:List Ev} {S S':Nat->Prop} {W W':World} (h:Src Bi Bt s p es S W) (ho:Off S' W W') (hd:∀ k,k<W.heap.size->S k->¬S' k) (hi:¬S' Bi) (ht:¬S' Bt):Src Bi Bt s p es S W' :=
 ⟨h.1.off ho hd,ho.heap h.2.1 hi,ho.heap h.2.2 ht⟩
theorem Src.kept {Bi Bt s:Nat} {p:Option Addr} {es:List Ev} {S:Nat->Prop} {W W':World} {row:Option Nat} (h:Src Bi Bt s p es S W) (hg:W.grownBy W' row) (hr:∀ r,row=some r->∃ o:Obj,W.heap[r]?=some o/\o.isCells=false):Src Bi Bt s p es S W' :=
 ⟨h.1.kept hg hr,Boxed.kept_own h.2.1 hg hr,Boxed.kept_own h.2.2 hg hr⟩
theorem after_stops (n:Nat) (hn:1<=n) (Bi Bt s:Nat) (p:Option Addr) (es:List Ev) (hs:s<=es.length) (hl:es.length<=100000) (S:Nat->Prop) (w:World)
  (hi:w.cell? ⟨Bi,0,none⟩=some (.int .i64 s)) (ht:w.cell? ⟨Bt,0,none⟩=some (.pointer p)) (hT:TapeV w (.pointer p) es S) :
  SeqStopsK Fence.wide n Tryz.prog 96 #[.pointer (some ⟨Bi,0,none⟩),.pointer (some ⟨Bt,0,none⟩)] (fun x:Ev=>#[x.v]) (fun A B=>Rd Bi Bt s (.pointer p) es A->Rd Bi Bt s (.pointer p) es B)
   (fun ys=>ys=es.drop s) (fun pre=>∃ k,k<=(es.drop s).length/\pre=(es.drop s).take k) (es.drop s).length w:=fun l J Jx W hW hJ _ hY h0=>by
 have hT':=hT.grown (below_grown hW)
 have hg:=below_grown hW
 exact after1_in n hn l Bi Bt s p es hs hl S J Jx W (fun x A B hx hg=>hJ x A B none hx hg (fun r e=>by cases e)) (fun pre x W1 hj hlen=>hY pre x W1 hj hlen)
  ⟨hg.cell hi (by simp),hg.cell ht (by simp),hT'.reads hl⟩ hT' h0
end
section
open Go.RowKit Go.Shelf
attribute [local go_sem] Oper.semAt_some wide_fn

def lcp:List Ev->List Ev->Nat
 | x::l,y::m=>if x=y then lcp l m+1 else 0
 | _,_=>0
def firstV (l m:List Ev):Int:=if l=m then -1 else(lcp l m:Int)

theorem lcp_at:∀ (l m:List Ev) (k:Nat),(∀ j,j<k->l[j]?=m[j]?)->k<=l.length->k<=m.length->(l[k]?=none\/m[k]?=none\/l[k]?≠m[k]?)->lcp l m=k:=by
 intro l
 induction l with
 | nil=>intro m k _ h1 _ _;simp at h1;subst h1;cases m <;> rfl
 | cons x l ih =>
  intro m k h h1 h2 h3
  cases m with
  | nil=>simp at h2;subst h2;rfl
  | cons y m =>
   cases k with
   | zero =>
    have hne:x≠y:=by rintro rfl;simp at h3
    simp[lcp,hne]
   | succ k =>
    have h0:=h 0 (by omega)
    simp at h0
    subst h0
    have:=ih m k (fun j hj=>by have:=h (j+1) (by omega);simpa using this) (by simp at h1;omega) (by simp at h2;omega) (by simpa using h3)
    simp[lcp,this]

end
section
open Go.RowKit

theorem firstV_at {ls ms:List Ev} {k:Nat} (hA:∀ j,j<k->ls[j]?=ms[j]?) (h1:k<=ls.length) (h2:k<=ms.length) (hne:ls[k]?≠ms[k]?):firstV ls ms=k:=by
 have h:ls≠ms:=by rintro rfl;exact hne rfl
 simp[firstV,h,lcp_at ls ms k hA h1 h2 (.inr (.inr hne))]
theorem firstV_same {ls ms:List Ev} (hA:∀ j,j<ls.length->ls[j]?=ms[j]?) (hl:ls.length=ms.length):firstV ls ms=-1:=by
 have:ls=ms:=List.ext_getElem? fun j=>by
  by_cases h:j<ls.length
  ·exact hA j h
  rw[List.getElem?_eq_none (by omega),List.getElem?_eq_none (by omega)]
 simp[firstV,this]

set_option maxHeartbeats 4000000 in
set_option maxRecDepth 100000 in
theorem reffirst_any (sx sy:Value) (ls ms:List Ev) (Sx Sy:Nat->Prop) (w:World) (hx:EvsAt w sx ls Sx) (hy:EvsAt w sy ms Sy) (hl:ls.length<=100000) (hm:ms.length<=100000) :
  Calls Tryz.prog 48 #[sx,sy] w fun e w'=>e=.returned (.int .i64 (firstV ls ms))/\∃ q,w'=w.drewN q:=by
 obtain⟨a,cap,rfl,_,_,_,hc⟩:=hx
 obtain⟨b,cap2,rfl,_,_,_,hc2⟩:=hy
 obtain⟨m,hm'⟩:∃ m,m=ls.length:=⟨_,rfl⟩
 obtain⟨n,hn'⟩:∃ n,n=ms.length:=⟨_,rfl⟩
 rw[<-hm']at hc hl ⊢
 rw[<-hn']at hc2 hm ⊢
 have HM:=hid hm'
 have HN:=hid hn'
 clear hm' hn'
 go_enter Tryz.func48,Tryz.ntmps48
 go_wp2
 go_loopg [5] m (fun g s5 wr=>∃ k q:Nat,k<=m/\k<=n/\m-k<=g/\s5=.int .i64 k/\wr=w.drewN q/\Aside (∀ j,j<k->ls[j]?=ms[j]?))
 case atStart=>exact⟨0,0,Nat.zero_le _,Nat.zero_le _,by omega,rfl,rfl,fun j hj=>absurd hj (Nat.not_lt_zero _)⟩
 case round =>
  obtain⟨k,q,hk,hk2,hg,rfl,rfl,A⟩:=hrel
  by_cases h1:k<m
  ·by_cases h2:k<n
   ·obtain⟨b1,o1,rfl,_,hd1⟩:=hc (by omega)
    obtain⟨b2,o2,rfl,_,hd2⟩:=hc2 (by omega)
    obtain⟨x,hx⟩:∃ x,ls[k]?=some x:=⟨ls[k]'(by have:=HM.out;omega),List.getElem?_eq_getElem _⟩
    obtain⟨y,hy⟩:∃ y,ms[k]?=some y:=⟨ms[k]'(by have:=HN.out;omega),List.getElem?_eq_getElem _⟩
    obtain⟨c0,c1,c2⟩:=hd1 k x hx
    obtain⟨d0,d1,d2⟩:=hd2 k y hy
    have HX:=hid hx
    have HY:=hid hy
    clear hc hc2 hd1 hd2 hx hy
    by_cases hxy:x=y
    ·have hne:∀ X:World,(binOp .neq 85 (.agg #[.int .i64 x.1,.int .i64 x.2.1,.int .i64 x.2.2]) (.agg #[.int .i64 y.1,.int .i64 y.2.1,.int .i64 y.2.2])).run Tryz.prog X=.ok (.bool false) X:=fun X=>by
      have:=neq_ev x y X
      rw[decide_eq_true hxy]at this;exact this
     have HXY:=hid hxy
     clear hxy
     go_wp2_with fail
     go_region
     go_wp2
     go_roundg (m-(k+1))
     case measure=>omega
     case rel =>
      refine⟨k+1,q+1,by omega,by omega,by omega,by go_num,rfl,(show Aside _ from fun j hj=>?_)⟩
      by_cases e:j=k
      ·subst e
       rw[HX.out,HY.out,HXY.out]
      exact A.out j (by omega)
    have hne:∀ X:World,(binOp .neq 85 (.agg #[.int .i64 x.1,.int .i64 x.2.1,.int .i64 x.2.2]) (.agg #[.int .i64 y.1,.int .i64 y.2.1,.int .i64 y.2.2])).run Tryz.prog X=.ok (.bool true) X:=fun X=>by
     have:=neq_ev x y X
     rw[decide_eq_false hxy]at this;exact this
    have HXY:=hid hxy
    clear hxy
    go_wp2_with fail
    go_region
    go_wp2
    go_ret
    refine⟨?_,q+1,rfl⟩
    rw[firstV_at A.out (by have:=HM.out;omega) (by have:=HN.out;omega) (by rw[HX.out,HY.out];intro e;exact HXY.out (Option.some.inj e))]
    rfl
   obtain rfl:k=n:=by omega
   have hmn:((k:Int)==m)=false:=by simp;omega
   have hv:firstV ls ms=k:=firstV_at A.out (by have:=HM.out;omega) (by have:=HN.out;omega) (by
    rw[List.getElem?_eq_none (l:=ms) (by have:=HN.out;omega),List.getElem?_eq_getElem (by have:=HM.out;omega)];simp)
   have HV:=hid hv
   clear hc hc2 hv
   go_wp2
   go_ret
   refine⟨?_,q,rfl⟩
   rw[HV.out]
   rfl
  obtain rfl:k=m:=by omega
  by_cases hkn:k=n
  ·have hmn:((k:Int)==n)=true:=by simp[hkn]
   have hv:firstV ls ms=-1:=firstV_same (fun j hj=>A.out j (by have:=HM.out;omega)) (by have:=HM.out;have:=HN.out;omega)
   have HV:=hid hv
   clear hc hc2 hv hkn
   go_wp2
   go_ret
   refine⟨?_,q,rfl⟩
   rw[HV.out]
   rfl
  have hmn:((k:Int)==n)=false:=by simp;omega
  have hv:firstV ls ms=k:=firstV_at A.out (by have:=HM.out;omega) (by have:=HN.out;omega) (by
   rw[List.getElem?_eq_none (l:=ls) (by have:=HM.out;omega),List.getElem?_eq_getElem (by have:=HN.out;omega)];simp)
  have HV:=hid hv
  clear hc hc2 hv hkn
  go_wp2
  go_ret
  refine⟨?_,q,rfl⟩
  rw[HV.out]
  rfl

theorem off_drewN (S:Nat->Prop) (w:World) (q:Nat):Off S w (w.drewN q):=⟨rfl,rfl,rfl,Nat.le_refl _,fun _ _ _=>rfl,fun _ _ h _=>h⟩

set_option maxHeartbeats 400000 in
theorem same_any (sx sy:Value) (ls ms:List Ev) (Sx Sy:Nat->Prop) (w:World) (hx:EvsAt w sx ls Sx) (hy:EvsAt w sy ms Sy) (hl:ls.length<=100000) (hm:ms.length<=100000) :
  Calls Tryz.prog 24 #[sx,sy] w fun e w'=>e=.returned (.bool (decide (ls=ms)))/\Off (fun _=>False) w w':=by
 have HF:=reffirst_any sx sy ls ms Sx Sy w hx hy hl hm
 obtain⟨a,cap,rfl,_⟩:=hx
 obtain⟨b,cap2,rfl,_⟩:=hy
 by_cases h:ls=ms
 ·have hv:firstV ls ms=-1:=by simp[firstV,h]
  rw[hv]at HF
  rw[decide_eq_true h]
  clear h hv
  go_enter Tryz.func24,Tryz.ntmps24
  go_wp2_with fail
  refine HF.mono ?_
  rintro e w1 ⟨rfl,q,rfl⟩
  go_wp2
  go_ret
  exact⟨rfl,off_drewN _ _ _⟩
 obtain⟨n,hv⟩:∃ n:Nat,firstV ls ms=n:=⟨lcp ls ms,by simp[firstV,h]⟩
 rw[hv]at HF
 rw[decide_eq_false h]
 have hn:((n:Int)==-1)=false:=by simp
 clear h hv
 go_enter Tryz.func24,Tryz.ntmps24
 go_wp2_with fail
 refine HF.mono ?_
 rintro e w1 ⟨rfl,q,rfl⟩
 go_wp2
 go_ret
 exact⟨rfl,off_drewN _ _ _⟩

def afterV (es:List Ev) (n:Int):List Ev:=es.drop n.toNat

end
section
open Go.RowKit Go.Shelf
attribute [local go_sem] Oper.semAt_some wide_fn

def flat:List Ev->List Value
 | []=>[]
 | e::l=>.int .i64 e.1::.int .i64 e.2.1::.int .i64 e.2.2::flat l
theorem flat_length:∀ l:List Ev,(flat l).length=l.length*3
 | []=>rfl
 | e::l=>by simp[flat,flat_length l];omega
theorem flat_append:∀ l m:List Ev,flat (l++m)=flat l++flat m
 | [],m=>rfl
 | e::l,m=>by simp[flat,flat_append l m]
theorem flat_one (l:List Ev):∀ u∈flat l,u.oneCell'=true:=by
 induction l with
 | nil=>intro u hu;simp[flat]at hu
 | cons e l ih =>
  intro u hu
  simp only[flat,List.mem_cons]at hu
  rcases hu with rfl | rfl | rfl | hu
  ·rfl
  ·rfl
  ·rfl
  exact ih u hu
theorem flat_get:∀ (l:List Ev) (j:Nat) (e:Ev),l[j]?=some e->(flat l)[j*3]?=some (.int .i64 e.1)/\(flat l)[j*3+1]?=some (.int .i64 e.2.1)/\(flat l)[j*3+2]?=some (.int .i64 e.2.2)
 | [],j,e,h=>by simp at h
 | x::l,0,e,h=>by simp at h;subst h;simp[flat]
 | x::l,j+1,e,h=>by
  have:=flat_get l j e (by simpa using h)
  rw[show(j+1)*3=j*3+3 by omega]
  simpa[flat]using this
theorem evs_of_own {w:World} {base n:Nat} {v:Value} {l:List Ev} (h:w.ownsRow base 85 3 v n (flat l)):EvsAt w v l (fun k=>base<=k):=by
 have hl:=h.1
 rw[flat_length]at hl
 obtain rfl:l.length=n:=by omega
 rcases h.2 with ⟨rfl,h0⟩ | ⟨g,cap,cur,rfl,hb,hg,hn,hm,hs,ht⟩
 ·have:l=[]:=List.eq_nil_of_length_eq_zero h0
  subst this
  exact⟨none,0,rfl,Nat.le_refl _,by unfold maxLen;omega,fun _=>rfl,fun h=>by simp at h⟩
 refine⟨_,_,rfl,hn,hm,by simp,fun _=>⟨g,0,rfl,hb,fun j e he=>?_⟩⟩
 have c:=fun k u (hu:(flat l)[k]?=some u)=>h.cells (g:=g) rfl k u hu
 obtain⟨f0,f1,f2⟩:=flat_get l j e he
 have a0:=c _ _ f0
 have a1:=c _ _ f1
 have a2:=c _ _ f2
 rw[Addr.add_lit,Nat.zero_add]at a0 a1 a2
 exact⟨by rw[Nat.zero_add];exact a0,by rw[Nat.zero_add];exact a1,by rw[Nat.zero_add];exact a2⟩
theorem off_of_below {n₀:Nat} {W W':World} (hb:Below n₀ W W') (hk:KeepsOthers W W'):Off (fun k=>n₀<=k) W W' :=
 ⟨hb.os,hb.tape,hb.output,hb.size,fun k _ hn=>hb.block k (by omega),hk.same⟩

def SeqI (w:World) (n₀ N Bi Bt s:Nat) (p:Option Addr) (es:List Ev) (pre:List Ev) (W:World):Prop :=
 Src Bi Bt s p es (fun k=>k<n₀) W/\(∃ v,Boxed W N 46 v/\W.ownsRow n₀ 85 3 v pre.length (flat pre))/\Off (fun k=>n₀<=k) w W/\pre.length<=es.length

theorem seq_next {w W w1:World} {n₀ N Bi Bt s:Nat} {p:Option Addr} {es pre:List Ev} {x:Ev} {v v':Value} {tmp:Obj} (hw:n₀<=w.heap.size) (hN:n₀<=N) (hNi:N≠Bi) (hNt:N≠Bt)
  (hs:Src Bi Bt s p es (fun k=>k<n₀) W) (hv:Boxed W N 46 v) (hr:W.ownsRow n₀ 85 3 v pre.length (flat pre)) (hO:Off (fun k=>n₀<=k) w W) (hlen:pre.length<es.length) (hl:es.length<=100000)
  (hown:w1.ownsRow n₀ 85 3 v' (pre.length+1) (flat pre++flat [x])) (hg:(W.alloc tmp).grownBy w1 v.ownBlock) (B:Nat) :
  Boxed w1 N 46 v/\KeepsFrom B W (w1.setCell ⟨N,0,none⟩ v')/\(Rd Bi Bt s (.pointer p) es W->Rd Bi Bt s (.pointer p) es (w1.setCell ⟨N,0,none⟩ v'))/\SeqI w n₀ N Bi Bt s p es (pre++[x]) (w1.setCell ⟨N,0,none⟩ v'):=by
 obtain⟨h1,h2,h3,h4,h5⟩:=Boxed.appended hv (by decide) hr (Nat.le_trans hw hO.size) hN hown hg
 have hW:=off_of_below h5 h4
 have hbi:Boxed (w1.setCell ⟨N,0,none⟩ v') Bi 3 (.int .i64 s) :=
  ((hs.2.1.alloc tmp).kept hg (hs.2.1.not_row (by decide) hr)).other (Ne.symm hNi) v'
 have hbt:Boxed (w1.setCell ⟨N,0,none⟩ v') Bt 40 (.pointer p) :=
  ((hs.2.2.alloc tmp).kept hg (hs.2.2.not_row (by decide) hr)).other (Ne.symm hNt) v'
 have hs':Src Bi Bt s p es (fun k=>k<n₀) (w1.setCell ⟨N,0,none⟩ v'):=⟨hs.1.off hW (fun k _ h1 h2=>by omega),hbi,hbt⟩
 refine⟨h1,h4.from B,fun _=>hs'.rd hl,hs',⟨v',h2,?_⟩,hO.trans hW (fun _ _ h=>h),by simp;omega⟩
 rw[flat_append]
 simpa using h3

set_option maxRecDepth 100000 in
set_option maxHeartbeats 4000000 in
theorem appendseq_any (n₀ Bi Bt s:Nat) (p:Option Addr) (es:List Ev) (hs:s<=es.length) (hl:es.length<=90000) (g cap:Nat) (w:World) (hn:n₀<=w.heap.size)
  (hsrc:Src Bi Bt s p es (fun k=>k<n₀) w) (hown:w.ownsRow n₀ 85 3 (.slice (some ⟨g,0,none⟩) 0 cap) 0 []) :
  Calls Tryz.prog 75 #[.slice (some ⟨g,0,none⟩) 0 cap,.func (.func 96) #[] #[.pointer (some ⟨Bi,0,none⟩),.pointer (some ⟨Bt,0,none⟩)]] w fun e W' =>
   ∃ v,e=.returned v/\W'.ownsRow n₀ 85 3 v (es.drop s).length (flat (es.drop s))/\Off (fun k=>n₀<=k) w W':=by
 obtain⟨i0,hi,hz0,hz1,hz2⟩:=info_parts ev_info
 refine(callsIn_wide (n:=3)).1 ?_
 refine callsIn_of_wp_marks Tryz.func75 rfl trivial ?_ rfl
 simp only[Tryz.ntmps75,List.size_toArray,List.length_cons,List.length_nil,Nat.reduceAdd,Nat.reduceSub,Array.replicate_succ,Array.replicate_zero,List.push_toArray,List.append_toArray,List.nil_append,List.cons_append]
 gi_wp2
 have hb:=Boxed.new w 46 (.slice (some ⟨g,0,none⟩) 0 cap)
 obtain⟨W1,hW1⟩:∃ W1,W1=w.alloc (.cells #[.slice (some ⟨g,0,none⟩) 0 cap] 46):=⟨_,rfl⟩
 have ho:Off (fun _=>False) w W1:=by rw[hW1];exact(Off.refl _ w).alloc _
 have hs1:=hsrc.off ho (fun _ _ _ c=>c) (fun c=>c) (fun c=>c)
 have hown1:W1.ownsRow n₀ 85 3 (.slice (some ⟨g,0,none⟩) 0 cap) 0 []:=by rw[hW1];exact hown.alloc _
 have hsz:W1.heap.size=w.heap.size+1:=by rw[hW1];simp
 rw[<-hW1]at hb ⊢
 have hli:=hsrc.2.1.lt
 have hlt:=hsrc.2.2.lt
 clear hW1
 obtain⟨N,hN⟩:∃ N,N=w.heap.size:=⟨_,rfl⟩
 rw[<-hN]at hb hsz hn hli hlt ⊢
 have HN:=hid hN
 clear hN
 have hI0:SeqI w n₀ N Bi Bt s p es [] W1:=⟨hs1,⟨_,hb,hown1⟩,ho.mono (fun _ _ c=>c.elim),Nat.zero_le _⟩
 refine wpIn_rangeFunc_ownH (F:=Fence.wide) (n:=3) rfl (by omega) (gf:=96) (lb:=#[.pointer (some ⟨Bi,0,none⟩),.pointer (some ⟨Bt,0,none⟩)]) rfl trivial (enters_of Tryz.func96 (by kernel_rfl) rfl)
  (after_stops (3-1) (by omega) Bi Bt s p es hs (by omega) _ W1 hs1.2.1.cell hs1.2.2.cell hs1.1) (fun h k x=>k (h x)) (fun W l o o' hl h hc hw=>rdK_b W l o o' hl h hc hw) (Below.refl _ _) (fun _=>by rfl)
  (SeqI w n₀ N Bi Bt s p es)
  (fun _ _ _=>False)
  (fun pre A B row hs hg hr=>by
   obtain⟨h1,⟨v,h2,h3⟩,h4,h5⟩:=hs
   have hr':∀ r,row=some r->∃ o:Obj,A.heap[r]?=some o/\o.isCells=false:=fun r e=>(hr r e).2
   refine⟨h1.kept hg hr',⟨v,Boxed.kept_own h2 hg hr',h3.kept hg ?_⟩,h4.later hg (fun r e=>by have:=(hr r e).1;have:=HN.out;omega),h5⟩
   rcases h3.2 with ⟨rfl,_⟩ | ⟨g,cap,cur,rfl,_,hgb,_⟩
   ·exact .inl rfl
   refine .inr fun e'=>?_
   obtain⟨o,ho,hc⟩:=hr' g (by simpa[Value.ownBlock]using e'.symm)
   rw[hgb]at ho;cases ho;cases hc)
  (fun _ _ _ _ _ hs _ _=>hs)
  hI0
  (fun x a' W=>∃ B,W.heap[B]?=some (.cells #[.int .i64 x.1,.int .i64 x.2.1,.int .i64 x.2.2] 85 (0,0))/\a'={ tmps:=#[.slice (some ⟨g,0,none⟩) 0 cap,.func (.func 96) #[] #[.pointer (some ⟨Bi,0,none⟩),.pointer (some ⟨Bt,0,none⟩)],.pointer (some ⟨N,0,none⟩),undef,.slice none 0 0,.pointer (some ⟨B,0,none⟩),.func (.func 96) #[] #[.pointer (some ⟨Bi,0,none⟩),.pointer (some ⟨Bt,0,none⟩)],x.v,undef,undef,undef,undef,undef],defers:=[] })
  (fun x a' _ A C row hs hg hr=>by
   obtain⟨B,h2,h3⟩:=hs
   exact⟨B,(grownBy_keeps_cells hg (fun r e=>(hr r e).2) h2 rfl).trans h2,h3⟩)
  ?assign ?body ?done ?stop
 case assign =>
  rintro l pre ⟨ek,ea,eo⟩ W K ⟨h1,⟨v,h2,h3⟩,h4,h5⟩ hK
  simp only[Ev.v]
  gi_wp2
  have ho:=(Off.refl (fun _=>False) W).alloc (.cells #[.int .i64 ek,.int .i64 ea,.int .i64 eo] 85)
  have h1':=h1.off ho (fun _ _ _ c=>c) (fun c=>c) (fun c=>c)
  exact hK _ _ (ho.keeps.from _) (fun _=>h1'.rd (by omega)) ⟨h1',⟨v,h2.alloc _,h3.alloc _⟩,h4.alloc _,h5⟩ ⟨W.heap.size,World.alloc_heap_new W _,rfl⟩
 case body =>
  rintro l pre ⟨ek,ea,eo⟩ a' W _ _ ⟨h1,⟨v,h2,h3⟩,h4,h5⟩ ⟨B,hc,rfl⟩ hlen
  rw[List.length_drop]at hlen
  have c0:W.cell? ⟨B,0,none⟩=some (.int .i64 ek):=by simpa using cell_of_heap hc 0
  have c1:W.cell? ⟨B,1,none⟩=some (.int .i64 ea):=by simpa using cell_of_heap hc 1
  have c2:W.cell? ⟨B,2,none⟩=some (.int .i64 eo):=by simpa using cell_of_heap hc 2
  have k0:=h2.cell
  obtain⟨va,vn,vc,rfl⟩:∃ va vn vc,v=.slice va vn vc:=by
   rcases h3.2 with ⟨rfl,_⟩ | ⟨g,cap,cur,rfl,_⟩ <;> exact⟨_,_,_,rfl⟩
  have H1:=hid h1
  have H2:=hid h2
  have H3:=hid h3
  have H4:=hid h4
  have hlen':pre.length<es.length:=by omega
  have hn':n₀<=W.heap.size:=by have:=h4.size;have:=HN.out;omega
  clear h1 h2 h3 h4 h5 hc hb hs1 hown1 ho hI0 hsz hsrc hown
  gi_wp2_with (gi_at_builtin;refine wpListIn_append_own _ rfl _ _ 46 rfl n₀ 85 i0 _ 3 24 Tryz.underlying46 hi hz0 hz1 hz2 rfl (by decide) _ pre.length (flat pre) rfl (H3.out.alloc _) ⟨W.heap.size,0,none⟩ 1 1 (flat [(ek,ea,eo)]) rfl rfl ?q1 (flat_one _) ?q2 ?q3 ?q4 ?_)
  case q1 =>
   intro j u hj
   have:j=0\/j=1\/j=2:=by
    have:=(List.getElem?_eq_some_iff.1 hj).1
    simp[flat]at this;omega
   rcases this with rfl | rfl | rfl <;> simp[flat]at hj <;> subst hj <;> simp[go_sem]
  case q2=>unfold maxLen;omega
  case q3=>omega
  case q4=>simp;omega
  intro v' w1 hown' hgrow hnil
  obtain⟨g',cap',rfl⟩:=ownsRow_succ hown'
  have hnx:=seq_next (x:=(ek,ea,eo)) (by have:=HN.out;omega) (by omega) (by omega) (by omega) H1.out H2.out H3.out H4.out hlen' (by omega) hown' hgrow W1.heap.size
  have d0:=hnx.1.cell
  have d1:=hnx.1.frozen
  have HX:=hid hnx
  clear hnx hown' hgrow hnil H1 H2 H3 H4
  gi_wp2
  exact HX.out.2
 case done =>
  rintro D ys W hD rfl ⟨h1,⟨v,h2,h3⟩,h4,h5⟩ hK
  have k0:=h2.cell
  obtain⟨va,vn,vc,rfl⟩:∃ va vn vc,v=.slice va vn vc:=by
   rcases h3.2 with ⟨rfl,_⟩ | ⟨g,cap,cur,rfl,_⟩ <;> exact⟨_,_,_,rfl⟩
  have hNw:=HN.out
  have hD':w.heap.size<=D:=by omega
  have hfin:=ownsRow_putObj h3 (.deferred none) hK rfl
  have hoff:=h4.later (grownBy_putObj' W D (.deferred none)) (fun r e=>by cases e;exact hD')
  clear HN hNw
  gi_wp2
  refine⟨by simp,.inl ⟨_,_,rfl,run_takeDeferred hK,?_⟩⟩
  refine⟨_,results_tmp rfl _ _ _,?_⟩
  exact⟨.slice va vn vc,rfl,hfin,hoff⟩
 case stop =>
  rintro D c pre W _ _ h _
  exact h.elim

theorem run_make_ev (c:Nat) (hc:c<=100000):∃ Z:Array Value,Z.size=c*3/\∀ w:World,(Instr.makeSlice 46 (.int .i64 0) (.int .i64 c)).run Tryz.prog w=.ok (.slice (some ⟨w.heap.size,0,none⟩) 0 c) (w.alloc (.cells Z 85)):=by
 obtain⟨i0,hi,hz0,hz1,hz2⟩:=info_parts ev_info
 refine⟨madeCells (Value.cells (.agg #[.int .i64 0,.int .i64 0,.int .i64 0])) (c*3),size_madeCells _ _,fun w=>?_⟩
 have:=run_make (P:=Tryz.prog) w 46 85 i0 _ Tryz.underlying46 hi hz0 .i64 .i64 0 (c:Int) (Int.le_refl _) (by omega) (by rw[hz2];omega) (by omega)
 rw[hz1]at this
 simpa using this

theorem row_new (w:World) (c n₀:Nat) (Z:Array Value) (hZ:Z.size=c*3) (hc:c<=100000) (hn:n₀<=w.heap.size):(w.alloc (.cells Z 85)).ownsRow n₀ 85 3 (.slice (some ⟨w.heap.size,0,none⟩) 0 c) 0 [] :=
 World.ownsRow_made w Z c hn (by unfold maxLen;omega) hZ

set_option maxRecDepth 100000 in
set_option maxHeartbeats 4000000 in
theorem since_at (p:Option Addr) (es:List Ev) (S:Nat->Prop) (n:Int) (s:Nat) (hs:s<=es.length) (hsn:min (max n 0) (es.length:Int)=s) (w:World) (hT:TapeV w (.pointer p) es S) (hl:es.length<=90000) :
  Calls Tryz.prog 49 #[.pointer p,.int .i64 n] w fun e W'=>∃ v,e=.returned v/\W'.ownsRow w.heap.size 85 3 v (es.drop s).length (flat (es.drop s))/\Off (fun _=>False) w W':=by
 obtain⟨m,hm⟩:∃ m,m=es.length:=⟨_,rfl⟩
 obtain⟨c,hc⟩:∃ c,c=m-s:=⟨_,rfl⟩
 obtain⟨Z,hZ,hmk⟩:=run_make_ev c (by omega)
 have HL:=fun X (hX:TapeV X (.pointer p) es S)=>len_any _ _ _ X hX
 simp only[<-hm]at HL
 have HA:=fun X=>after_any p (s:Int) X
 have HT:=hid hT
 have HM:=hid hm
 have hsub:(m:Int)-(s:Int)=(c:Int):=by omega
 have hwrap:IntKind.i64.wrap (c:Int)=(c:Int):=by rw[IntKind.wrap_i64];omega
 have hcl:c<=100000:=by omega
 rw[<-hm]at hsn hs hl
 have HC:=hid hc
 clear hT hm hc
 -- AppendSeq,where the new list was made first
 have hA:=appendseq_any w.heap.size (w.heap.size+1+1) (w.heap.size+1) s p es (by have:=HM.out;omega) (by have:=HM.out;omega) w.heap.size c (((w.alloc (.cells Z 85)).alloc (.cells #[.pointer p] 40)).alloc (.cells #[.int .i64 s] 3)).drew (by simp[World.drew];omega)
  (by
   have h0:TapeV w (.pointer p) es (fun k=>k<w.heap.size):=HT.out.mono (fun k hk _=>hk)
   have h1:=((h0.grown (World.grownBy_alloc _ (.cells Z 85) none)).grown (World.grownBy_alloc _ (.cells #[.pointer p] 40) none)).grown (World.grownBy_alloc _ (.cells #[.int .i64 s] 3) none)
   have h2:=Boxed.new ((w.alloc (.cells Z 85)).alloc (.cells #[.pointer p] 40)) 3 (.int .i64 s)
   rw[World.size_alloc,World.size_alloc]at h2
   have h3:=Boxed.new (w.alloc (.cells Z 85)) 40 (.pointer p)
   rw[World.size_alloc]at h3
   have h4:=h3.alloc (.cells #[.int .i64 s] 3)
   exact⟨h1,h2,h4⟩)
  (((row_new w c w.heap.size Z hZ hcl (Nat.le_refl _)).alloc (.cells #[.pointer p] 40)).alloc (.cells #[.int .i64 s] 3))
 -- .. and where the iterator was
 have hB:=appendseq_any w.heap.size (w.heap.size+1) w.heap.size s p es (by have:=HM.out;omega) (by have:=HM.out;omega) (w.heap.size+1+1) c (((w.alloc (.cells #[.pointer p] 40)).alloc (.cells #[.int .i64 s] 3)).alloc (.cells Z 85)).drew (by simp[World.drew];omega)
  (by
   have h0:TapeV w (.pointer p) es (fun k=>k<w.heap.size):=HT.out.mono (fun k hk _=>hk)
   have h1:=((h0.grown (World.grownBy_alloc _ (.cells #[.pointer p] 40) none)).grown (World.grownBy_alloc _ (.cells #[.int .i64 s] 3) none)).grown (World.grownBy_alloc _ (.cells Z 85) none)
   have h2:=Boxed.new (w.alloc (.cells #[.pointer p] 40)) 3 (.int .i64 s)
   rw[World.size_alloc]at h2
   have h3:=h2.alloc (.cells Z 85)
   have h4:=((Boxed.new w 40 (.pointer p)).alloc (.cells #[.int .i64 s] 3)).alloc (.cells Z 85)
   exact⟨h1,h3,h4⟩)
  (by have:=row_new ((w.alloc (.cells #[.pointer p] 40)).alloc (.cells #[.int .i64 s] 3)) c w.heap.size Z hZ hcl (by simp;omega);rw[World.size_alloc,World.size_alloc]at this;exact this)
 have HcA:=hid hA
 have HcB:=hid hB
 clear hA hB
 go_enter Tryz.func49,Tryz.ntmps49
 go_wp2_with fail
 refine(HL _ HT.out).mono ?_
 rintro e w' ⟨rfl,rfl⟩
 go_wp2_with fail
 have HTd:Hid (TapeV w.drew (.pointer p) es S):=HT.out
 go_region_with (first
  | (go_at_call 21;refine(HL _ ?_).mono ?_;(first | exact HTd.out | exact(HTd.out.grown (World.grownBy_alloc _ _ none)) | exact((HTd.out.grown (World.grownBy_alloc _ _ none)).grown (World.grownBy_alloc _ _ none)));rintro e w' ⟨rfl,rfl⟩)
  | (go_at_call 76;refine(HA _).mono ?_;rintro e w' ⟨rfl,rfl⟩)
  | (go_at_call_of 75 (Value.slice (some ⟨w.heap.size,0,none⟩) 0 c);refine HcA.out.mono ?_;rintro e w2 ⟨v2,rfl,hown2,hO2⟩)
  | (go_at_call 75;refine HcB.out.mono ?_;rintro e w2 ⟨v2,rfl,hown2,hO2⟩))
 all_goals
  have hR:=hid hown2
  have hF:Off (fun _=>False) w w2:=(((((Off.refl (fun _=>False) w).alloc _).alloc _).alloc _).drew).trans hO2 (fun k hk h=>by omega)
  clear hO2 hown2 HcA HcB HA HL hmk HT HTd
  go_wp2
  go_ret
  exact⟨v2,rfl,hR.out,hF⟩

theorem since_own (p:Option Addr) (es:List Ev) (S:Nat->Prop) (n:Int) (w:World) (hT:TapeV w (.pointer p) es S) (hl:es.length<=90000) :
  Calls Tryz.prog 49 #[.pointer p,.int .i64 n] w fun e W'=>∃ v,e=.returned v/\W'.ownsRow w.heap.size 85 3 v (afterV es n).length (flat (afterV es n))/\Off (fun _=>False) w W':=by
 have h:=since_at p es S n (min n.toNat es.length) (by omega) (by omega) w hT hl
 have e:es.drop (min n.toNat es.length)=afterV es n:=by
  unfold afterV
  by_cases hh:n.toNat<=es.length
  ·rw[Nat.min_eq_left hh]
  rw[Nat.min_eq_right (by omega),List.drop_length,List.drop_eq_nil_of_le (by omega)]
 rw[e]at h
 exact h
set_option maxHeartbeats 400000 in
theorem events_own (p:Option Addr) (es:List Ev) (S:Nat->Prop) (w:World) (hT:TapeV w (.pointer p) es S) (hl:es.length<=90000) :
  Calls Tryz.prog 25 #[.pointer p] w fun e W'=>∃ v,e=.returned v/\W'.ownsRow w.heap.size 85 3 v es.length (flat es)/\Off (fun _=>False) w W':=by
 have HS:Calls Tryz.prog 49 #[.pointer p,.int .i64 0] w fun e W'=>∃ v,e=.returned v/\W'.ownsRow w.heap.size 85 3 v es.length (flat es)/\Off (fun _=>False) w W':=since_own p es S 0 w hT hl
 clear hT
 go_enter Tryz.func25,Tryz.ntmps25
 go_wp2_with fail
 refine HS.mono ?_
 rintro e w1 ⟨v,rfl,hv,hO⟩
 have HV:=hid hv
 clear hv
 go_wp2
 go_ret
 exact⟨v,rfl,HV.out,hO⟩
theorem events_any (p:Option Addr) (es:List Ev) (S:Nat->Prop) (w:World) (hT:TapeV w (.pointer p) es S) (hl:es.length<=90000) :
  Calls Tryz.prog 25 #[.pointer p] w fun e W'=>∃ v,e=.returned v/\EvsAt W' v es (fun k=>w.heap.size<=k)/\Off (fun _=>False) w W' :=
 (events_own p es S w hT hl).mono fun _ _ ⟨v,h1,h2,h3⟩=>⟨v,h1,evs_of_own h2,h3⟩
end
section
open Go.RowKit

theorem new_tp (w:World):Calls Tryz.prog 20 #[.slice none 0 0] w fun r w'=>r=.returned (.pointer (some ⟨w.heap.size,0,none⟩))/\Tp w' (some ⟨w.heap.size,0,none⟩) [] (fun k=>w.heap.size<=k/\k<w'.heap.size)/\Off (fun _=>False) w w':=by
 refine(new_any (.slice none 0 0) [] (fun _=>False) w ⟨none,0,rfl,Nat.le_refl _,by unfold maxLen;omega,fun _=>rfl,fun h=>by simp at h⟩ (by simp)).mono ?_
 rintro r w' ⟨rfl,h1,h2⟩
 exact⟨rfl,⟨.inr ⟨w.heap.size,rfl,TapeG.mono h1 (fun k hk c=>⟨c,hk⟩)⟩,fun k c=>c.2⟩,h2⟩
theorem ext_new (b:Nat) (l:List Ev):ext (some ⟨b,0,none⟩) [] l=l:=by simp[ext]
end
section
open Go.RowKit
set_option maxHeartbeats 4000000 in
set_option maxRecDepth 100000 in
theorem pairs_any (n m:Nat) (hn2:n<=100) (hm2:m<=100) (w:World) :
  Calls Tryz.prog 95 #[.int .i64 n,.int .i64 m,.bool false] w fun e w'=>∃ v,e=.returned v/\w'.ownsRow w.heap.size 85 3 v (n*m) (flat (prE m n))/\Off (fun _=>False) w w':=by
 obtain⟨i0,hi,hz0,hz1,hz2⟩:=info_parts ev_info
 go_enter Tryz.func95,Tryz.ntmps95
 go_wp2
 go_loopw [7,8] (fun v i wr=>∃ j:Nat,j<=n/\i=.int .i64 j/\(∃ a c,v=.slice a (j*m) c/\wr.ownsRow w.heap.size 85 3 v (j*m) (flat (prE m j)))/\Off (fun _=>False) w wr) (fun _ i _=>n-(intOf i).toNat)
 case atStart=>exact⟨0,Nat.zero_le _,rfl,⟨none,0,by rw[Nat.zero_mul],by rw[Nat.zero_mul];exact World.ownsRow_nil _ _ _ _⟩,Off.refl _ w⟩
 case round =>
  obtain⟨j,hj,rfl,⟨va,vc,rfl,hown⟩,hO⟩:=hrel
  by_cases hlt:j<n
  ·have hjb:(j:Int)<(n:Int):=by omega
   have hwj:IntKind.i64.wrap ((j:Int)+1)=(j:Int)+1:=by rw[IntKind.wrap_i64];omega
   obtain⟨M,hM⟩:∃ M,M=j*m:=⟨_,rfl⟩
   rw[<-hM]at hown ⊢
   have hMl:M<=10000:=by rw[hM];exact Nat.le_trans (Nat.mul_le_mul (show j<=100 by omega) hm2) (by decide)
   have HM:=hid (show M+m=(j+1)*m by rw[hM,Nat.add_mul,Nat.one_mul])
   have HPr:=hid (show prE m (j+1)=prE m j++rowE j m from rfl)
   have H3:=hid hown
   have HO:=hid hO
   clear hown hO hM
   go_wp2
   go_loopw [7,9] (fun v i wr=>∃ k:Nat,k<=m/\i=.int .i64 k/\(∃ a c,v=.slice a (M+k) c/\wr.ownsRow w.heap.size 85 3 v (M+k) (flat (prE m j++rowE j k)))/\Off (fun _=>False) w wr) (fun _ i _=>m-(intOf i).toNat)
   case atStart=>exact⟨0,Nat.zero_le _,rfl,⟨_,_,rfl,by rw[show rowE j 0=[] from rfl,List.append_nil];exact H3.out⟩,HO.out⟩
   case round =>
    obtain⟨k,hk,rfl,⟨va2,vc2,rfl,hown⟩,hO⟩:=hrel
    clear H3 HO
    by_cases hlt2:k<m
    ·obtain⟨q,hq⟩:∃ q,q=M+k:=⟨_,rfl⟩
     rw[<-hq]at hown ⊢
     have hql:q<=30000:=by omega
     have hkb:(k:Int)<(m:Int):=by omega
     have hwk:IntKind.i64.wrap ((k:Int)+1)=(k:Int)+1:=by rw[IntKind.wrap_i64];omega
     have HN:=hid (show q+1=M+(k+1) by omega)
     have HF:=hid (show flat (prE m j++rowE j k)++flat [((3:Int),(j:Int),(k:Int))]=flat (prE m j++rowE j (k+1)) by rw[<-flat_append,rowE_next,List.append_assoc])
     have H3:=hid hown
     have HO:=hid hO
     clear hown hO hq
     go_wp2_with (at_builtin;refine wpList_append_own _ rfl _ _ 46 rfl w.heap.size 85 i0 _ 3 24 Tryz.underlying46 hi hz0 hz1 hz2 rfl (by decide) _ q _ rfl (H3.out.alloc _) ⟨wr.heap.size,0,none⟩ 1 1 (flat [((3:Int),(j:Int),(k:Int))]) rfl rfl ?q1 (flat_one _) ?q2 ?q3 ?q4 ?_)
     case q1 =>
      intro j u hj
      have:j=0\/j=1\/j=2:=by
       have:=(List.getElem?_eq_some_iff.1 hj).1
       simp[flat]at this;omega
      rcases this with rfl | rfl | rfl <;> simp[flat]at hj <;> subst hj <;> simp[go_sem]
     case q2=>unfold maxLen;omega
     case q3=>omega
     case q4=>have:=HO.out.size;simp;omega
     intro v' w1 hown' hgrow hnil
     obtain⟨g',cap',rfl⟩:=ownsRow_succ hown'
     have hO1:Off (fun _=>False) w w1:=grown_off (HO.out.alloc _) (Nat.le_refl _) (H3.out.alloc _) hgrow
     have HO1:=hid hO1
     have HW1:=hid hown'
     clear hown' hgrow hnil hO1
     go_wp2
     go_roundw
     case rel=>exact⟨k+1,by omega,by simp,⟨_,_,by rw[<-HN.out],by rw[<-HN.out,<-HF.out];exact HW1.out⟩,HO1.out⟩
     case measure=>simp[intOf] <;> omega
    obtain rfl:k=m:=by omega
    have H5:=hid hown
    have HO5:=hid hO
    clear hown hO
    go_wp2
    go_roundw
    case rel=>exact⟨j+1,by omega,by simp,⟨_,_,by rw[<-HM.out],by rw[<-HM.out,HPr.out];exact H5.out⟩,HO5.out⟩
    case measure=>simp[intOf] <;> omega
  obtain rfl:j=n:=by omega
  have H5:=hid hown
  have HO5:=hid hO
  clear hown hO
  go_wp2
  go_ret
  exact⟨_,rfl,H5.out,HO5.out⟩
end
section
open Go.RowKit
theorem append_rows {w:World} {B B2 k m:Nat} {T2:TypeId} {v u:Value} {xs ys:List Value} (h:w.ownsRow B 85 3 v k xs) (h2:w.ownsRow B2 T2 3 u m ys) (h1:∀ y∈ys,y.oneCell'=true) (hk:k+m<=1000000) (hB:B<=w.heap.size) :
  ∃ v' w',(Builtin.append_ #[46,46] 46 #[v,u]).run Tryz.prog w=.ok v' w'/\w'.ownsRow B 85 3 v' (k+m) (xs++ys)/\w.grownBy w' v.ownBlock:=by
 obtain⟨i0,hi,hz0,hz1,hz2⟩:=info_parts ev_info
 rcases h2.2 with ⟨rfl,hm⟩ | ⟨g,cap,cur,rfl,_⟩
 ·have hys:ys=[]:=by
   have:=h2.1;rw[hm,Nat.zero_mul]at this
   exact List.eq_nil_of_length_eq_zero this
  subst hm hys
  exact⟨v,w,run_append_owned_none w B _ _ _ i0 3 Tryz.underlying46 hi v k xs h,by rw[List.append_nil];exact h,⟨rfl,rfl,rfl,Nat.le_refl _,fun _ _ _=>rfl⟩⟩
 obtain⟨v',w',hr,ho,hg,_⟩:=run_append_own (P:=Tryz.prog) w B 46 46 85 i0 _ 3 24 Tryz.underlying46 hi hz0 hz1 hz2 rfl (by decide) v k xs h ⟨g,0,none⟩ m cap ys h2.1 (h2.cells (g:=g) rfl) h1 (by unfold maxLen;omega) (by omega) hB
 exact⟨v',w',hr,ho,hg⟩
end
section
open Go.RowKit

set_option maxHeartbeats 4000000 in
set_option maxRecDepth 100000 in
theorem powevents_any (w:World) :
  Calls Tryz.prog 129 #[] w fun e w'=>∃ v,e=.returned v/\w'.ownsRow w.heap.size 85 3 v (powE 64).length (flat (powE 64))/\Off (fun _=>False) w w':=by
 obtain⟨i0,hi,hz0,hz1,hz2⟩:=info_parts ev_info
 go_enter Tryz.func129,Tryz.ntmps129
 go_wp2
 go_loopw [1,2] (fun v i wr=>∃ k:Nat,k<=64/\i=.int .i64 ((63:Int)-(k:Int))/\(∃ a c,v=.slice a (k*17) c/\wr.ownsRow w.heap.size 85 3 v (k*17) (flat (powE k)))/\Off (fun _=>False) w wr) (fun _ i _=>(intOf i+1).toNat)
 case atStart=>exact⟨0,Nat.zero_le _,by simp,⟨none,0,rfl,World.ownsRow_nil _ _ _ _⟩,Off.refl _ w⟩
 case round =>
  obtain⟨k,hk,rfl,⟨va,vc,rfl,hown⟩,hO⟩:=hrel
  by_cases hlt:k<64
  ·obtain⟨ea,hea⟩:∃ ea:Int,ea=(63:Int)-(k:Int):=⟨_,rfl⟩
   have hge:decide ((0:Int)<=ea)=true:=by simp;omega
   have hwr:IntKind.i64.wrap (ea-1)=ea-1:=by rw[IntKind.wrap_i64];omega
   have hnx:ea-1=(63:Int)-((k+1:Nat):Int):=by omega
   have hpe:powE (k+1)=powE k++((6:Int),ea,(0:Int))::scanE 16:=by rw[powE_next,hea]
   rw[<-hea]
   obtain⟨m,hm⟩:∃ m,m=k*17:=⟨_,rfl⟩
   rw[<-hm]at hown ⊢
   have hml:m<=2000:=by omega
   have HPE:=hid hpe
   have HNx:=hid hnx
   have HM:=hid hm
   have HE:=hid hea
   have H3:=hid hown
   have HO:=hid hO
   clear hown hO hpe hea hnx hm
   go_wp2_with (at_builtin;refine wpList_append_own _ rfl _ _ 46 rfl w.heap.size 85 i0 _ 3 24 Tryz.underlying46 hi hz0 hz1 hz2 rfl (by decide) _ m _ rfl (H3.out.alloc _) ⟨wr.heap.size,0,none⟩ 1 1 (flat [((6:Int),ea,(0:Int))]) rfl rfl ?q1 (flat_one _) ?q2 ?q3 ?q4 ?_)
   case q1 =>
    intro j u hj
    have:j=0\/j=1\/j=2:=by
     have:=(List.getElem?_eq_some_iff.1 hj).1
     simp[flat]at this;omega
    rcases this with rfl | rfl | rfl <;> simp[flat]at hj <;> subst hj <;> simp[go_sem]
   case q2=>unfold maxLen;omega
   case q3=>omega
   case q4=>have:=HO.out.size;simp;omega
   intro v' w1 hown' hgrow hnil
   obtain⟨g',cap',rfl⟩:=ownsRow_succ hown'
   have hO1:Off (fun _=>False) w w1:=grown_off (HO.out.alloc _) (Nat.le_refl _) (H3.out.alloc _) hgrow
   have HO1:=hid hO1
   have HW1:=hid hown'
   clear hown' hgrow hnil hO1
   go_wp2
   go_loopw [1,3] (fun v i wr=>∃ j:Nat,j<=16/\i=.int .i64 j/\(∃ a c,v=.slice a (m+1+j) c/\wr.ownsRow w.heap.size 85 3 v (m+1+j) (flat (powE k++((6:Int),ea,(0:Int))::scanE j)))/\Off (fun _=>False) w wr) (fun _ i _=>16-(intOf i).toNat)
   case atStart=>exact⟨0,Nat.zero_le _,rfl,⟨_,_,rfl,by rw[flat_append];exact HW1.out⟩,HO1.out⟩
   case round =>
    obtain⟨j,hj,rfl,⟨va2,vc2,rfl,hown⟩,hO⟩:=hrel
    clear HO1 HW1
    by_cases hlt2:j<16
    ·obtain⟨n,hn⟩:∃ n,n=m+1+j:=⟨_,rfl⟩
     rw[<-hn]at hown ⊢
     have hnl:n<=3000:=by omega
     have hjb:(j:Int)<16:=by omega
     have hwj:IntKind.i64.wrap ((j:Int)+1)=(j:Int)+1:=by rw[IntKind.wrap_i64];omega
     have HN:=hid (show n+1=m+1+(j+1) by omega)
     have HF:=hid (show flat (powE k++((6:Int),ea,(0:Int))::scanE j)++flat [((1:Int),(j:Int),(0:Int))]=flat (powE k++((6:Int),ea,(0:Int))::scanE (j+1)) by rw[<-flat_append,scanE_next];simp)
     have H4:=hid hown
     have HO4:=hid hO
     clear hown hO hn
     go_wp2_with (at_builtin;refine wpList_append_own _ rfl _ _ 46 rfl w.heap.size 85 i0 _ 3 24 Tryz.underlying46 hi hz0 hz1 hz2 rfl (by decide) _ n _ rfl (H4.out.alloc _) ⟨wr.heap.size,0,none⟩ 1 1 (flat [((1:Int),(j:Int),(0:Int))]) rfl rfl ?q1 (flat_one _) ?q2 ?q3 ?q4 ?_)
     case q1 =>
      intro j u hj
      have:j=0\/j=1\/j=2:=by
       have:=(List.getElem?_eq_some_iff.1 hj).1
       simp[flat]at this;omega
      rcases this with rfl | rfl | rfl <;> simp[flat]at hj <;> subst hj <;> simp[go_sem]
     case q2=>unfold maxLen;omega
     case q3=>omega
     case q4=>have:=HO4.out.size;simp;omega
     intro v' w1 hown' hgrow hnil
     obtain⟨g',cap',rfl⟩:=ownsRow_succ hown'
     have hO1:Off (fun _=>False) w w1:=grown_off (HO4.out.alloc _) (Nat.le_refl _) (H4.out.alloc _) hgrow
     have HO1:=hid hO1
     have HW1:=hid hown'
     clear hown' hgrow hnil hO1
     go_wp2
     go_roundw
     case rel=>exact⟨j+1,by omega,by simp,⟨_,_,by rw[<-HN.out],by rw[<-HN.out,<-HF.out];exact HW1.out⟩,HO1.out⟩
     case measure=>simp[intOf] <;> omega
    obtain rfl:j=16:=by omega
    have H5:=hid hown
    have HO5:=hid hO
    clear hown hO
    go_wp2
    go_roundw
    case rel=>exact⟨k+1,by omega,by rw[HNx.out],⟨_,_,by rw[show m+1+16=(k+1)*17 by have:=HM.out;omega],by rw[HPE.out,show(k+1)*17=m+1+16 by have:=HM.out;omega];exact H5.out⟩,HO5.out⟩
    case measure=>have:=HE.out;simp[intOf] <;> omega
  obtain rfl:k=64:=by omega
  have hge:decide ((0:Int)<=(63:Int)-((64:Nat):Int))=false:=by simp
  have H5:=hid hown
  have HO5:=hid hO
  clear hown hO
  go_wp2
  go_ret
  exact⟨_,rfl,by rw[powE_length];exact H5.out,HO5.out⟩
set_option maxHeartbeats 400000 in
theorem batchevents_none (w:World):Calls Tryz.prog 113 #[.int .i64 0] w fun e w'=>∃ v,e=.returned v/\w'.ownsRow w.heap.size 85 3 v (batE 0).length (flat (batE 0))/\Off (fun _=>False) w w':=by
 go_enter Tryz.func113,Tryz.ntmps113
 go_wp2
 go_ret
 exact⟨_,rfl,World.ownsRow_nil _ _ _ _,Off.refl _ _⟩
theorem coefU_range (n k:Nat) (hk:k<n):coefU n (List.range (k+1))=coefU n (List.range k)++[((2:Int),(k:Int),(0:Int))]:=by
 rw[List.range_succ,coefU_snoc,Nat.mod_eq_of_lt hk]
theorem coefD_range (n k:Nat):coefD n (List.range (k+1))=coefD n (List.range k)++[((2:Int),((n-1-k:Nat):Int),(0:Int))]:=by
 rw[List.range_succ,coefD_snoc]
set_option maxHeartbeats 4000000 in
set_option maxRecDepth 100000 in
theorem batchevents_some (n:Nat) (h0:0<n) (hn2:n<=10000) (w:World) :
  Calls Tryz.prog 113 #[.int .i64 n] w fun e w'=>∃ v,e=.returned v/\w'.ownsRow w.heap.size 85 3 v (batE n).length (flat (batE n))/\Off (fun _=>False) w w':=by
 obtain⟨i0,hi,hz0,hz1,hz2⟩:=info_parts ev_info
 have hne:((n:Int)==0)=false:=by simp;omega
 have hwn:IntKind.i64.wrap ((n:Int)-1)=(n:Int)-1:=by rw[IntKind.wrap_i64];omega
 go_enter Tryz.func113,Tryz.ntmps113
 go_wp2
 go_loopw [3,4] (fun v i wr=>∃ j:Nat,j<=n/\i=.int .i64 j/\(∃ a c,v=.slice a j c/\wr.ownsRow w.heap.size 85 3 v j (flat (coefU n (List.range j))))/\Off (fun _=>False) w wr) (fun _ i _=>n-(intOf i).toNat)
 case atStart=>exact⟨0,Nat.zero_le _,rfl,⟨none,0,rfl,World.ownsRow_nil _ _ _ _⟩,Off.refl _ w⟩
 case round =>
  obtain⟨j,hj,rfl,⟨va,vc,rfl,hown⟩,hO⟩:=hrel
  by_cases hlt:j<n
  ·have hjb:(j:Int)<(n:Int):=by omega
   have hwj:IntKind.i64.wrap ((j:Int)+1)=(j:Int)+1:=by rw[IntKind.wrap_i64];omega
   have HF:=hid (show flat (coefU n (List.range j))++flat [((2:Int),(j:Int),(0:Int))]=flat (coefU n (List.range (j+1))) by rw[<-flat_append,coefU_range n j hlt])
   have H3:=hid hown
   have HO:=hid hO
   clear hown hO
   go_wp2_with (at_builtin;refine wpList_append_own _ rfl _ _ 46 rfl w.heap.size 85 i0 _ 3 24 Tryz.underlying46 hi hz0 hz1 hz2 rfl (by decide) _ j _ rfl (H3.out.alloc _) ⟨wr.heap.size,0,none⟩ 1 1 (flat [((2:Int),(j:Int),(0:Int))]) rfl rfl ?q1 (flat_one _) ?q2 ?q3 ?q4 ?_)
   case q1 =>
    intro j u hj
    have:j=0\/j=1\/j=2:=by
     have:=(List.getElem?_eq_some_iff.1 hj).1
     simp[flat]at this;omega
    rcases this with rfl | rfl | rfl <;> simp[flat]at hj <;> subst hj <;> simp[go_sem]
   case q2=>unfold maxLen;omega
   case q3=>omega
   case q4=>have:=HO.out.size;simp;omega
   intro v' w1 hown' hgrow hnil
   obtain⟨g',cap',rfl⟩:=ownsRow_succ hown'
   have hO1:Off (fun _=>False) w w1:=grown_off (HO.out.alloc _) (Nat.le_refl _) (H3.out.alloc _) hgrow
   have HO1:=hid hO1
   have HW1:=hid hown'
   clear hown' hgrow hnil hO1
   go_wp2
   go_roundw
   case rel=>exact⟨j+1,by omega,by simp,⟨_,_,rfl,by rw[<-HF.out];exact HW1.out⟩,HO1.out⟩
   case measure=>simp[intOf] <;> omega
  obtain rfl:j=n:=by omega
  have H3:=hid hown
  have HO:=hid hO
  clear hown hO
  go_wp2_with fail
  refine(powevents_any _).mono ?_
  rintro e u1 ⟨pv,rfl,hpo,hOp⟩
  rw[powE_length]at hpo
  obtain⟨g2,c2,rfl⟩:=ownsRow_succ (k:=1087) hpo
  have hpc:=hpo.cells (g:=g2) rfl
  have H4:=hid (own_off H3.out hOp)
  have HO4:=hid (HO.out.trans hOp (fun _ _ c=>c))
  clear hOp
  go_wp2_with (at_builtin;refine wpList_append_own _ rfl _ _ 46 rfl w.heap.size 85 i0 _ 3 24 Tryz.underlying46 hi hz0 hz1 hz2 rfl (by decide) _ j _ rfl H4.out ⟨g2,0,none⟩ (64*17) c2 (flat (powE 64)) rfl (by rw[flat_length,powE_length]) hpc (flat_one _) ?q2 ?q3 ?q4 ?_)
  case q2=>unfold maxLen;omega
  case q3=>omega
  case q4=>exact HO4.out.size
  intro v' w1 hown' hgrow hnil
  have hO1:Off (fun _=>False) w w1:=grown_off HO4.out (Nat.le_refl _) H4.out hgrow
  rw[show j+64*17=(j+1087)+1 by omega,<-flat_append]at hown'
  obtain⟨g',cap',rfl⟩:=ownsRow_succ hown'
  have HO1:=hid hO1
  have HW1:=hid hown'
  clear hown' hgrow hnil hO1 hpo hpc
  go_wp2
  go_loopw [3,5] (fun v i wr=>∃ k:Nat,k<=j/\i=.int .i64 ((j:Int)-1-(k:Int))/\(∃ a c,v=.slice a (j+1088+k) c/\wr.ownsRow w.heap.size 85 3 v (j+1088+k) (flat (coefU j (List.range j)++(powE 64++coefD j (List.range k)))))/\Off (fun _=>False) w wr) (fun _ i _=>(intOf i+1).toNat)
  case atStart=>exact⟨0,Nat.zero_le _,by simp,⟨_,_,rfl,by rw[show coefD j (List.range 0)=[] from rfl,List.append_nil];exact HW1.out⟩,HO1.out⟩
  case round =>
   obtain⟨k,hk,rfl,⟨va2,vc2,rfl,hown⟩,hO⟩:=hrel
   clear HO1 HW1 H4 HO4 H3 HO
   by_cases hlt2:k<j
   ·obtain⟨d,hd⟩:∃ d,d=j-1-k:=⟨_,rfl⟩
    have hij:(j:Int)-1-(k:Int)=(d:Int):=by omega
    have hge:decide ((0:Int)<=(d:Int))=true:=by simp
    have hwd:IntKind.i64.wrap ((d:Int)-1)=(d:Int)-1:=by rw[IntKind.wrap_i64];omega
    have HNx:=hid (show(d:Int)-1=(j:Int)-1-((k+1:Nat):Int) by omega)
    have HF:=hid (show flat (coefU j (List.range j)++(powE 64++coefD j (List.range k)))++flat [((2:Int),(d:Int),(0:Int))]=flat (coefU j (List.range j)++(powE 64++coefD j (List.range (k+1)))) by rw[<-flat_append,coefD_range,hd];simp only[List.append_assoc])
    obtain⟨m,hm⟩:∃ m,m=j+1088+k:=⟨_,rfl⟩
    rw[<-hm]at hown ⊢
    rw[hij]
    have hml:m<=30000:=by omega
    have HM:=hid (show m+1=j+1088+(k+1) by omega)
    have H3:=hid hown
    have HO:=hid hO
    clear hown hO hm hij hd
    go_wp2_with (at_builtin;refine wpList_append_own _ rfl _ _ 46 rfl w.heap.size 85 i0 _ 3 24 Tryz.underlying46 hi hz0 hz1 hz2 rfl (by decide) _ m _ rfl (H3.out.alloc _) ⟨wr.heap.size,0,none⟩ 1 1 (flat [((2:Int),(d:Int),(0:Int))]) rfl rfl ?q1 (flat_one _) ?q2 ?q3 ?q4 ?_)
    case q1 =>
     intro j u hj
     have:j=0\/j=1\/j=2:=by
      have:=(List.getElem?_eq_some_iff.1 hj).1
      simp[flat]at this;omega
     rcases this with rfl | rfl | rfl <;> simp[flat]at hj <;> subst hj <;> simp[go_sem]
    case q2=>unfold maxLen;omega
    case q3=>omega
    case q4=>have:=HO.out.size;simp;omega
    intro v' w1 hown' hgrow hnil
    obtain⟨g',cap',rfl⟩:=ownsRow_succ hown'
    have hO1:Off (fun _=>False) w w1:=grown_off (HO.out.alloc _) (Nat.le_refl _) (H3.out.alloc _) hgrow
    have HO1:=hid hO1
    have HW1:=hid hown'
    clear hown' hgrow hnil hO1
    go_wp2
    go_roundw
    case rel=>exact⟨k+1,by omega,by rw[HNx.out],⟨_,_,by rw[<-HM.out],by rw[<-HM.out,<-HF.out];exact HW1.out⟩,HO1.out⟩
    case measure=>have:=HNx.out;simp[intOf] <;> omega
   obtain rfl:k=j:=by omega
   have hge:decide ((0:Int)<=(k:Int)-1-(k:Int))=false:=by simp;omega
   have HE:=hid (show batE k=coefU k (List.range k)++(powE 64++coefD k (List.range k)) by unfold batE;rw[if_neg (by omega),List.append_assoc])
   have H5:=hid hown
   have HO5:=hid hO
   clear hown hO
   go_wp2
   go_ret
   refine⟨_,rfl,?_,HO5.out⟩
   rw[HE.out]
   have hl:(coefU k (List.range k)++(powE 64++coefD k (List.range k))).length=k+1088+k:=by
    rw[List.length_append,List.length_append,coefU_length,coefD_length,powE_length,List.length_range];omega
   rw[hl]
   exact H5.out
theorem batchevents_any (n:Nat) (hn2:n<=10000) (w:World) :
  Calls Tryz.prog 113 #[.int .i64 n] w fun e w'=>∃ v,e=.returned v/\w'.ownsRow w.heap.size 85 3 v (batE n).length (flat (batE n))/\Off (fun _=>False) w w':=by
 by_cases h:n=0
 ·subst h;exact batchevents_none w
 exact batchevents_some n (by omega) hn2 w
end
section
open Go.RowKit
set_option maxRecDepth 100000 in
set_option maxHeartbeats 4000000 in
theorem pairs_true (n:Nat) (hn2:n<=90) (w:World) :
  Calls Tryz.prog 95 #[.int .i64 n,.int .i64 n,.bool true] w fun e w'=>∃ a c,e=.returned (.slice a (wpE n n).length c)/\w'.ownsRow w.heap.size 85 3 (.slice a (wpE n n).length c) (wpE n n).length (flat (wpE n n))/\Off (fun _=>False) w w':=by
 obtain⟨i0,hi,hz0,hz1,hz2⟩:=info_parts ev_info
 go_enter Tryz.func95,Tryz.ntmps95
 go_wp2
 go_loopw [7,8] (fun v i wr=>∃ j q:Nat,j<=n/\i=.int .i64 j/\q=(wpE n j).length/\(∃ a c,v=.slice a q c/\wr.ownsRow w.heap.size 85 3 v q (flat (wpE n j)))/\Off (fun _=>False) w wr) (fun _ i _=>n-(intOf i).toNat)
 case atStart=>exact⟨0,0,Nat.zero_le _,rfl,rfl,⟨none,0,rfl,World.ownsRow_nil _ _ _ _⟩,Off.refl _ w⟩
 case round =>
  obtain⟨j,q0,hj,rfl,hq0,⟨va,vc,rfl,hown⟩,hO⟩:=hrel
  by_cases hlt:j<n
  ·have hjb:(j:Int)<(n:Int):=by omega
   have hwj:IntKind.i64.wrap ((j:Int)+1)=(j:Int)+1:=by rw[IntKind.wrap_i64];omega
   have hl0:q0<=8100:=by rw[hq0];exact Nat.le_trans (wpE_length n j) (Nat.mul_le_mul (show j<=90 by omega) hn2)
   obtain⟨L0,hL0⟩:∃ l,l=wpE n j:=⟨_,rfl⟩
   rw[<-hL0]at hown hq0
   have HPr:=hid (show wpE n (j+1)=L0++opE n j (oth n j) by rw[hL0];rfl)
   have H3:=hid hown
   have HO:=hid hO
   have HQ0:=hid hq0
   clear hown hO hL0 hq0
   go_wp2
   go_loopw [7,9] (fun v i wr=>∃ k q:Nat,k<=n/\i=.int .i64 k/\q=(L0++opE n j (oth k j)).length/\(∃ a c,v=.slice a q c/\wr.ownsRow w.heap.size 85 3 v q (flat (L0++opE n j (oth k j))))/\Off (fun _=>False) w wr) (fun _ i _=>n-(intOf i).toNat)
   case atStart=>exact⟨0,q0,Nat.zero_le _,rfl,by rw[show opE n j (oth 0 j)=[] from rfl,List.append_nil];exact HQ0.out,⟨_,_,rfl,by rw[show opE n j (oth 0 j)=[] from rfl,List.append_nil];exact H3.out⟩,HO.out⟩
   case round =>
    obtain⟨k,q,hk,rfl,hq,⟨va2,vc2,rfl,hown⟩,hO⟩:=hrel
    clear H3 HO
    by_cases hlt2:k<n
    ·have hql:q<=30000:=by
      have h1:=oth_le k j
      rw[hq,List.length_append,opE_length,<-HQ0.out];omega
     have hkb:(k:Int)<(n:Int):=by omega
     have hwk:IntKind.i64.wrap ((k:Int)+1)=(k:Int)+1:=by rw[IntKind.wrap_i64];omega
     by_cases hjk:k=j
     ·subst hjk
      have HN:=hid (show q=(L0++opE n k (oth (k+1) k)).length by rw[oth_next,if_pos rfl];exact hq)
      have H3:=hid (show _ from(show L0++opE n k (oth k k)=L0++opE n k (oth (k+1) k) by rw[oth_next,if_pos rfl])▸hown)
      have HO:=hid hO
      clear hown hO hq
      go_wp2
      go_roundw
      case rel=>exact⟨k+1,q,by omega,by simp,HN.out,⟨_,_,rfl,H3.out⟩,HO.out⟩
      case measure=>simp[intOf] <;> omega
     have hkj1:¬(j:Int)=(k:Int):=by omega
     have hkj2:((j:Int)==(k:Int))=false:=by simp;omega
     have HN:=hid (show q+1=(L0++opE n j (oth (k+1) j)).length by rw[oth_next,if_neg hjk,opE_snoc,<-List.append_assoc,List.length_append,<-hq];rfl)
     have HF:=hid (show flat (L0++opE n j (oth k j))++flat [((3:Int),(j:Int),(k:Int))]=flat (L0++opE n j (oth (k+1) j)) by rw[<-flat_append,oth_next,if_neg hjk,opE_snoc,List.append_assoc,Nat.mod_eq_of_lt hlt2])
     have H3:=hid hown
     have HO:=hid hO
     clear hown hO hq
     go_wp2_with (at_builtin;refine wpList_append_own _ rfl _ _ 46 rfl w.heap.size 85 i0 _ 3 24 Tryz.underlying46 hi hz0 hz1 hz2 rfl (by decide) _ q _ rfl (H3.out.alloc _) ⟨wr.heap.size,0,none⟩ 1 1 (flat [((3:Int),(j:Int),(k:Int))]) rfl rfl ?q1 (flat_one _) ?q2 ?q3 ?q4 ?_)
     case q1 =>
      intro j u hj
      have:j=0\/j=1\/j=2:=by
       have:=(List.getElem?_eq_some_iff.1 hj).1
       simp[flat]at this;omega
      rcases this with rfl | rfl | rfl <;> simp[flat]at hj <;> subst hj <;> simp[go_sem]
     case q2=>unfold maxLen;omega
     case q3=>omega
     case q4=>have:=HO.out.size;simp;omega
     intro v' w1 hown' hgrow hnil
     obtain⟨g',cap',rfl⟩:=ownsRow_succ hown'
     have hO1:Off (fun _=>False) w w1:=grown_off (HO.out.alloc _) (Nat.le_refl _) (H3.out.alloc _) hgrow
     have HO1:=hid hO1
     have HW1:=hid hown'
     clear hown' hgrow hnil hO1
     go_wp2
     go_roundw
     case rel=>exact⟨k+1,q+1,by omega,by simp,HN.out,⟨_,_,rfl,by rw[<-HF.out];exact HW1.out⟩,HO1.out⟩
     case measure=>simp[intOf] <;> omega
    obtain rfl:k=n:=by omega
    have H5:=hid hown
    have HO5:=hid hO
    have HQ5:=hid hq
    clear hown hO hq
    go_wp2
    go_roundw
    case rel=>exact⟨j+1,q,by omega,by simp,by rw[HPr.out];exact HQ5.out,⟨_,_,rfl,by rw[HPr.out];exact H5.out⟩,HO5.out⟩
    case measure=>simp[intOf] <;> omega
  obtain rfl:j=n:=by omega
  subst hq0
  have H5:=hid hown
  have HO5:=hid hO
  clear hown hO
  go_wp2
  go_ret
  exact⟨_,_,rfl,H5.out,HO5.out⟩
set_option maxRecDepth 100000 in
set_option maxHeartbeats 4000000 in
theorem wevents_some (n:Nat) (h0:0<n) (hn2:n<=90) (w:World) :
  Calls Tryz.prog 94 #[.int .i64 n] w fun e w'=>∃ a c,e=.returned (.slice a ((wpE n n)++(batE n)).length c)/\w'.ownsRow w.heap.size 85 3 (.slice a ((wpE n n)++(batE n)).length c) ((wpE n n)++(batE n)).length (flat ((wpE n n)++(batE n)))/\Off (fun _=>False) w w':=by
 obtain⟨i0,hi,hz0,hz1,hz2⟩:=info_parts ev_info
 obtain⟨L1,hL1⟩:∃ l,l=wpE n n:=⟨_,rfl⟩
 obtain⟨L2,hL2⟩:∃ l,l=batE n:=⟨_,rfl⟩
 have hl1:L1.length<=20000:=by
  rw[hL1]
  have a1:=wpE_length n n;have a2:n*n<=90*90:=Nat.mul_le_mul (by omega) (by omega);have a3:=batE_le n
  try simp only[List.length_append]
  omega
 have hl2:L2.length<=20000:=by
  rw[hL2]
  have a2:n*n<=90*90:=Nat.mul_le_mul (by omega) (by omega);have a3:=batE_le n
  try rw[upE_length]
  try rw[prE_length]
  omega
 obtain⟨m,hm⟩:∃ m,L2.length=m+1:=by
  have:0<L2.length:=by
   rw[hL2]
   unfold batE;rw[if_neg (by omega)];simp only[List.length_append,powE_length];omega
  exact⟨L2.length-1,by omega⟩
 have F1:=hid (show ∀ W,Calls Tryz.prog 95 #[.int .i64 n,.int .i64 n,.bool true] W fun e w'=>∃ a c,e=.returned (.slice a (L1).length c)/\w'.ownsRow W.heap.size 85 3 (.slice a (L1).length c) (L1).length (flat (L1))/\Off (fun _=>False) W w' from fun W=>by rw[hL1];exact pairs_true n hn2 W)
 have F2:=hid (show ∀ W,Calls Tryz.prog 113 #[.int .i64 n] W fun e w'=>∃ v,e=.returned v/\w'.ownsRow W.heap.size 85 3 v (m+1) (flat L2)/\Off (fun _=>False) W w' from fun W=>by
  rw[<-hm,hL2];exact batchevents_any n (by omega) W)
 rw[<-hL1,<-hL2,List.length_append,hm]
 have HM:=hid hm
 clear hL1 hL2 hm
 obtain⟨k,hk⟩:∃ k,k=L1.length:=⟨_,rfl⟩
 rw[<-hk]at hl1 ⊢
 rw[<-hk]at F1
 clear hk
 have hml:m<=20000:=by have:=HM.out;omega
 clear hl2
 go_enter Tryz.func94,Tryz.ntmps94
 go_wp2_with fail
 refine(F1.out _).mono ?_
 rintro e u1 ⟨a1,c1,rfl,hown,hO⟩
 have H3:=hid hown
 have HO:=hid hO
 clear hown hO
 go_wp2_with fail
 refine(F2.out _).mono ?_
 rintro e u2 ⟨pv,rfl,hpo,hOp⟩
 obtain⟨g2,c2,rfl⟩:=ownsRow_succ hpo
 have hpc:=hpo.cells (g:=g2) rfl
 have H4:=hid (own_off H3.out hOp)
 have HO4:=hid (HO.out.trans hOp (fun _ _ c=>c))
 clear hOp
 go_wp2_with (at_builtin;refine wpList_append_own _ rfl _ _ 46 rfl w.heap.size 85 i0 _ 3 24 Tryz.underlying46 hi hz0 hz1 hz2 rfl (by decide) _ k _ rfl H4.out ⟨g2,0,none⟩ (m+1) c2 (flat L2) rfl (by rw[flat_length,HM.out]) hpc (flat_one _) ?q2 ?q3 ?q4 ?_)
 case q2=>unfold maxLen;omega
 case q3=>omega
 case q4=>exact HO4.out.size
 intro v' w1 hown' hgrow hnil
 have hO1:Off (fun _=>False) w w1:=grown_off HO4.out (Nat.le_refl _) H4.out hgrow
 rw[<-flat_append,<-Nat.add_assoc]at hown'
 obtain⟨g',cap',rfl⟩:=ownsRow_succ hown'
 have HO1:=hid hO1
 have HW1:=hid hown'
 clear hown' hgrow hnil hO1 hpo hpc
 go_wp2
 go_ret
 exact⟨_,_,rfl,HW1.out,HO1.out⟩
set_option maxRecDepth 100000 in
set_option maxHeartbeats 4000000 in
theorem ievents_some (n:Nat) (h0:0<n) (hn2:n<=90) (w:World) :
  Calls Tryz.prog 73 #[.int .i64 n] w fun e w'=>∃ a c,e=.returned (.slice a ((wpE n n++batE n)++(prE n n)).length c)/\w'.ownsRow w.heap.size 85 3 (.slice a ((wpE n n++batE n)++(prE n n)).length c) ((wpE n n++batE n)++(prE n n)).length (flat ((wpE n n++batE n)++(prE n n)))/\Off (fun _=>False) w w':=by
 obtain⟨i0,hi,hz0,hz1,hz2⟩:=info_parts ev_info
 obtain⟨L1,hL1⟩:∃ l,l=wpE n n++batE n:=⟨_,rfl⟩
 obtain⟨L2,hL2⟩:∃ l,l=prE n n:=⟨_,rfl⟩
 have hl1:L1.length<=20000:=by
  rw[hL1]
  have a1:=wpE_length n n;have a2:n*n<=90*90:=Nat.mul_le_mul (by omega) (by omega);have a3:=batE_le n
  try simp only[List.length_append]
  omega
 have hl2:L2.length<=20000:=by
  rw[hL2]
  have a2:n*n<=90*90:=Nat.mul_le_mul (by omega) (by omega);have a3:=batE_le n
  try rw[upE_length]
  try rw[prE_length]
  omega
 obtain⟨m,hm⟩:∃ m,L2.length=m+1:=by
  have:0<L2.length:=by
   rw[hL2]
   rw[prE_length];exact Nat.mul_pos h0 h0
  exact⟨L2.length-1,by omega⟩
 have F1:=hid (show ∀ W,Calls Tryz.prog 94 #[.int .i64 n] W fun e w'=>∃ a c,e=.returned (.slice a (L1).length c)/\w'.ownsRow W.heap.size 85 3 (.slice a (L1).length c) (L1).length (flat (L1))/\Off (fun _=>False) W w' from fun W=>by rw[hL1];exact wevents_some n h0 hn2 W)
 have F2:=hid (show ∀ W,Calls Tryz.prog 95 #[.int .i64 n,.int .i64 n,.bool false] W fun e w'=>∃ v,e=.returned v/\w'.ownsRow W.heap.size 85 3 v (m+1) (flat L2)/\Off (fun _=>False) W w' from fun W=>by
  rw[<-hm,hL2];rw[prE_length];exact pairs_any n n (by omega) (by omega) W)
 rw[<-hL1,<-hL2,List.length_append,hm]
 have HM:=hid hm
 clear hL1 hL2 hm
 obtain⟨k,hk⟩:∃ k,k=L1.length:=⟨_,rfl⟩
 rw[<-hk]at hl1 ⊢
 rw[<-hk]at F1
 clear hk
 have hml:m<=20000:=by have:=HM.out;omega
 clear hl2
 go_enter Tryz.func73,Tryz.ntmps73
 go_wp2_with fail
 refine(F1.out _).mono ?_
 rintro e u1 ⟨a1,c1,rfl,hown,hO⟩
 have H3:=hid hown
 have HO:=hid hO
 clear hown hO
 go_wp2_with fail
 refine(F2.out _).mono ?_
 rintro e u2 ⟨pv,rfl,hpo,hOp⟩
 obtain⟨g2,c2,rfl⟩:=ownsRow_succ hpo
 have hpc:=hpo.cells (g:=g2) rfl
 have H4:=hid (own_off H3.out hOp)
 have HO4:=hid (HO.out.trans hOp (fun _ _ c=>c))
 clear hOp
 go_wp2_with (at_builtin;refine wpList_append_own _ rfl _ _ 46 rfl w.heap.size 85 i0 _ 3 24 Tryz.underlying46 hi hz0 hz1 hz2 rfl (by decide) _ k _ rfl H4.out ⟨g2,0,none⟩ (m+1) c2 (flat L2) rfl (by rw[flat_length,HM.out]) hpc (flat_one _) ?q2 ?q3 ?q4 ?_)
 case q2=>unfold maxLen;omega
 case q3=>omega
 case q4=>exact HO4.out.size
 intro v' w1 hown' hgrow hnil
 have hO1:Off (fun _=>False) w w1:=grown_off HO4.out (Nat.le_refl _) H4.out hgrow
 rw[<-flat_append,<-Nat.add_assoc]at hown'
 obtain⟨g',cap',rfl⟩:=ownsRow_succ hown'
 have HO1:=hid hO1
 have HW1:=hid hown'
 clear hown' hgrow hnil hO1 hpo hpc
 go_wp2
 go_ret
 exact⟨_,_,rfl,HW1.out,HO1.out⟩
set_option maxRecDepth 100000 in
set_option maxHeartbeats 4000000 in
theorem pairs0 (w:World):Calls Tryz.prog 95 #[.int .i64 0,.int .i64 0,.bool true] w fun e w'=>e=.returned (.slice none 0 0)/\Off (fun _=>False) w w':=by
 go_enter Tryz.func95,Tryz.ntmps95
 go_wp2
 go_loopw [7,8] (fun v i wr=>i=.int .i64 0/\v=.slice none 0 0/\Off (fun _=>False) w wr) (fun _ _ _=>0)
 case atStart=>exact⟨rfl,rfl,Off.refl _ _⟩
 obtain⟨rfl,rfl,hO⟩:=hrel
 have HO:=hid hO
 clear hO
 go_wp2
 go_ret
 exact⟨rfl,HO.out⟩
set_option maxRecDepth 100000 in
set_option maxHeartbeats 4000000 in
theorem pairs00 (w:World):Calls Tryz.prog 95 #[.int .i64 0,.int .i64 0,.bool false] w fun e w'=>e=.returned (.slice none 0 0)/\Off (fun _=>False) w w':=by
 go_enter Tryz.func95,Tryz.ntmps95
 go_wp2
 go_loopw [7,8] (fun v i wr=>i=.int .i64 0/\v=.slice none 0 0/\Off (fun _=>False) w wr) (fun _ _ _=>0)
 case atStart=>exact⟨rfl,rfl,Off.refl _ _⟩
 obtain⟨rfl,rfl,hO⟩:=hrel
 have HO:=hid hO
 clear hO
 go_wp2
 go_ret
 exact⟨rfl,HO.out⟩
set_option maxRecDepth 100000 in
set_option maxHeartbeats 4000000 in
theorem batch0 (w:World):Calls Tryz.prog 113 #[.int .i64 0] w fun e w'=>e=.returned (.slice none 0 0)/\Off (fun _=>False) w w':=by
 go_enter Tryz.func113,Tryz.ntmps113
 have HO:=hid (Off.refl (fun _=>False) w)
 go_wp2
 go_ret
 exact⟨rfl,HO.out⟩
set_option maxRecDepth 100000 in
set_option maxHeartbeats 4000000 in
theorem wevents0 (w:World):Calls Tryz.prog 94 #[.int .i64 0] w fun e w'=>e=.returned (.slice none 0 0)/\Off (fun _=>False) w w':=by
 go_enter Tryz.func94,Tryz.ntmps94
 go_wp2_with fail
 refine(pairs0 _).mono ?_
 rintro e u ⟨rfl,hO⟩
 have HO:=hid (hO)
 clear hO
 go_wp2_with fail
 refine(batch0 _).mono ?_
 rintro e u ⟨rfl,hO⟩
 have HO:=hid (HO.out.trans hO (fun _ _ c=>c))
 clear hO
 go_wp2
 go_ret
 exact⟨rfl,HO.out⟩
set_option maxRecDepth 100000 in
set_option maxHeartbeats 4000000 in
theorem ievents0 (w:World):Calls Tryz.prog 73 #[.int .i64 0] w fun e w'=>e=.returned (.slice none 0 0)/\Off (fun _=>False) w w':=by
 go_enter Tryz.func73,Tryz.ntmps73
 go_wp2_with fail
 refine(wevents0 _).mono ?_
 rintro e u ⟨rfl,hO⟩
 have HO:=hid (hO)
 clear hO
 go_wp2_with fail
 refine(pairs00 _).mono ?_
 rintro e u ⟨rfl,hO⟩
 have HO:=hid (HO.out.trans hO (fun _ _ c=>c))
 clear hO
 go_wp2
 go_ret
 exact⟨rfl,HO.out⟩
end
section
open Go.RowKit
theorem ftE_le {n:Nat} (hn:n<=90) (k:Int):(ftE n k).length<=20090:=by
 have h1:=iE_le hn;have h2:=blE_le n k
 unfold ftE;rw[List.length_append];omega
theorem alE_le {n:Nat} (hn:n<=90) (k:Int):∀ m,(alE n k m).length<=m*20091
 | 0=>by simp[alE]
 | m+1=>by
  have h1:=alE_le hn k m;have h2:=ftE_le hn k
  unfold alE;rw[List.length_append,List.length_cons,Nat.add_mul];omega
set_option maxRecDepth 100000 in
set_option maxHeartbeats 4000000 in
theorem bevents_own (n:Nat) (hn:n<=1000) (k:Int) (w:World) :
  Calls Tryz.prog 74 #[.int .i64 n,.int .i64 k] w fun e w'=>∃ a c,e=.returned (.slice a (blE n k).length c)/\w'.ownsRow w.heap.size 85 3 (.slice a (blE n k).length c) (blE n k).length (flat (blE n k))/\Off (fun _=>False) w w':=by
 obtain⟨i0,hi,hz0,hz1,hz2⟩:=info_parts ev_info
 go_enter Tryz.func74,Tryz.ntmps74
 go_wp2
 go_loopw [5,6] (fun v i wr=>∃ j q:Nat,j<=n/\i=.int .i64 j/\q=(blE j k).length/\(∃ a c,v=.slice a q c/\wr.ownsRow w.heap.size 85 3 v q (flat (blE j k)))/\Off (fun _=>False) w wr) (fun _ i _=>n-(intOf i).toNat)
 case atStart=>exact⟨0,0,Nat.zero_le _,rfl,rfl,⟨none,0,rfl,World.ownsRow_nil _ _ _ _⟩,Off.refl _ w⟩
 case round =>
  obtain⟨j,q,hj,rfl,hq,⟨va,vc,rfl,hown⟩,hO⟩:=hrel
  by_cases hlt:j<n
  ·have hjb:(j:Int)<(n:Int):=by omega
   have hwj:IntKind.i64.wrap ((j:Int)+1)=(j:Int)+1:=by rw[IntKind.wrap_i64];omega
   have hql:q<=1000:=by have:=blE_le j k;omega
   by_cases hkj:k<=(j:Int)
   ·have HN:=hid (show q+1=(blE (j+1) k).length by rw[blE_next,if_pos hkj,List.length_append,<-hq];rfl)
    have HF:=hid (show flat (blE j k)++flat [((2:Int),(j:Int),(0:Int))]=flat (blE (j+1) k) by rw[<-flat_append,blE_next,if_pos hkj])
    have H3:=hid hown
    have HO:=hid hO
    clear hown hO hq
    go_wp2_with (at_builtin;refine wpList_append_own _ rfl _ _ 46 rfl w.heap.size 85 i0 _ 3 24 Tryz.underlying46 hi hz0 hz1 hz2 rfl (by decide) _ q _ rfl (H3.out.alloc _) ⟨wr.heap.size,0,none⟩ 1 1 (flat [((2:Int),(j:Int),(0:Int))]) rfl rfl ?q1 (flat_one _) ?q2 ?q3 ?q4 ?_)
    case q1 =>
     intro j u hj
     have:j=0\/j=1\/j=2:=by
      have:=(List.getElem?_eq_some_iff.1 hj).1
      simp[flat]at this;omega
     rcases this with rfl | rfl | rfl <;> simp[flat]at hj <;> subst hj <;> simp[go_sem]
    case q2=>unfold maxLen;omega
    case q3=>omega
    case q4=>have:=HO.out.size;simp;omega
    intro v' w1 hown' hgrow hnil
    obtain⟨g',cap',rfl⟩:=ownsRow_succ hown'
    have hO1:Off (fun _=>False) w w1:=grown_off (HO.out.alloc _) (Nat.le_refl _) (H3.out.alloc _) hgrow
    have HO1:=hid hO1
    have HW1:=hid hown'
    clear hown' hgrow hnil hO1
    go_wp2
    go_roundw
    case rel=>exact⟨j+1,q+1,by omega,by simp,HN.out,⟨_,_,rfl,by rw[<-HF.out];exact HW1.out⟩,HO1.out⟩
    case measure=>simp[intOf] <;> omega
   have HN:=hid (show q=(blE (j+1) k).length by rw[blE_next,if_neg hkj];exact hq)
   have H3:=hid (show wr.ownsRow w.heap.size 85 3 (.slice va q vc) q (flat (blE (j+1) k)) by rw[blE_next,if_neg hkj];exact hown)
   have HO:=hid hO
   clear hown hO hq
   go_wp2
   go_roundw
   case rel=>exact⟨j+1,q,by omega,by simp,HN.out,⟨_,_,rfl,H3.out⟩,HO.out⟩
   case measure=>simp[intOf] <;> omega
  obtain rfl:j=n:=by omega
  subst hq
  have H5:=hid hown
  have HO5:=hid hO
  clear hown hO
  go_wp2
  go_ret
  exact⟨_,_,rfl,H5.out,HO5.out⟩
theorem ievents_own (n:Nat) (hn:n<=90) (w:World) :
  Calls Tryz.prog 73 #[.int .i64 n] w fun e w'=>∃ a c,e=.returned (.slice a (iE n).length c)/\w'.ownsRow w.heap.size 85 3 (.slice a (iE n).length c) (iE n).length (flat (iE n))/\Off (fun _=>False) w w':=by
 by_cases h:n=0
 ·subst h
  refine(ievents0 w).mono ?_
  rintro e w' ⟨rfl,hO⟩
  exact⟨none,0,rfl,World.ownsRow_nil _ _ _ _,hO⟩
 refine(ievents_some n (by omega) hn w).mono ?_
 rintro e w' ⟨a,c,rfl,hown,hO⟩
 exact⟨a,c,rfl,hown,hO⟩
set_option maxRecDepth 100000 in
set_option maxHeartbeats 4000000 in
theorem fevents_own (n:Nat) (hn:n<=90) (k:Int) (w:World) :
  Calls Tryz.prog 47 #[.int .i64 n,.int .i64 k] w fun e w'=>∃ v,e=.returned v/\w'.ownsRow w.heap.size 85 3 v (ftE n k).length (flat (ftE n k))/\Off (fun _=>False) w w':=by
 have F1:=hid (fun W=>ievents_own n hn W)
 have F2:=hid (fun W=>bevents_own n (by omega) k W)
 have hl1:=iE_le hn
 have hl2:=blE_le n k
 have HLn:=hid (show(ftE n k).length=(iE n).length+(blE n k).length from List.length_append)
 obtain⟨q1,hq1⟩:∃ q,q=(iE n).length:=⟨_,rfl⟩
 obtain⟨q2,hq2⟩:∃ q,q=(blE n k).length:=⟨_,rfl⟩
 rw[<-hq1]at F1 HLn hl1
 rw[<-hq2]at F2 HLn hl2
 clear hq1 hq2
 go_enter Tryz.func47,Tryz.ntmps47
 go_wp2_with fail
 refine(F1.out _).mono ?_
 rintro e u1 ⟨a1,c1,rfl,hown,hO⟩
 have H3:=hid hown
 have HO:=hid hO
 clear hown hO
 go_wp2_with fail
 refine(F2.out _).mono ?_
 rintro e u2 ⟨a2,c2,rfl,hp,hOp⟩
 have h3:=own_off H3.out hOp
 have hO2:=HO.out.trans hOp (fun _ _ c=>c)
 obtain⟨v',w1,hrun,hown',hgrow⟩:=append_rows h3 hp (flat_one _) (by omega) hO2.size
 have HO1:=hid (grown_off hO2 (Nat.le_refl _) h3 hgrow)
 have HW1:=hid (show w1.ownsRow w.heap.size 85 3 v' (ftE n k).length (flat (ftE n k)) by rw[HLn.out,show ftE n k=iE n++blE n k from rfl,flat_append];exact hown')
 have HR:=hid hrun
 clear hrun hown' hgrow hp hOp h3 hO2 H3 HO
 go_wp2_with (at_builtin;refine Go.Lib.wpList_append_run _ rfl _ _ _ _ rfl _ _ rfl rfl _ _ HR.out ?_)
 go_wp2
 go_ret
 exact⟨_,rfl,HW1.out,HO1.out⟩
set_option maxRecDepth 100000 in
set_option maxHeartbeats 4000000 in
theorem aevents_own (n:Nat) (hn:n<=90) (k:Int) (m:Nat) (hm:m<=20) (w:World) :
  Calls Tryz.prog 22 #[.int .i64 n,.int .i64 k,.int .i64 m] w fun e w'=>∃ v,e=.returned v/\w'.ownsRow w.heap.size 85 3 v (alE n k m).length (flat (alE n k m))/\Off (fun _=>False) w w':=by
 have F1:=hid (fun W=>fevents_own n hn k W)
 have hle:=alE_le hn k
 have HLn:=hid (fun j=>show(alE n k (j+1)).length=(alE n k j).length+1+(ftE n k).length by rw[show alE n k (j+1)=alE n k j++((4:Int),(j:Int),(0:Int))::ftE n k from rfl,List.length_append,List.length_cons];omega)
 have HFl:=hid (fun j=>show flat (alE n k (j+1))=(flat (alE n k j)++flat [((4:Int),(j:Int),(0:Int))])++flat (ftE n k) by rw[<-flat_append,<-flat_append,List.append_assoc];rfl)
 have hl2:=ftE_le hn k
 obtain⟨q2,hq2⟩:∃ q,q=(ftE n k).length:=⟨_,rfl⟩
 rw[<-hq2]at F1 HLn hl2
 clear hq2
 obtain⟨i0,hi,hz0,hz1,hz2⟩:=info_parts ev_info
 have HLe:=hid hle
 clear hle
 go_enter Tryz.func22,Tryz.ntmps22
 go_wp2
 go_loopw [7,8] (fun v i wr=>∃ j q:Nat,j<=m/\i=.int .i64 j/\q=(alE n k j).length/\(∃ a c,v=.slice a q c/\wr.ownsRow w.heap.size 85 3 v q (flat (alE n k j)))/\Off (fun _=>False) w wr) (fun _ i _=>m-(intOf i).toNat)
 case atStart=>exact⟨0,0,Nat.zero_le _,rfl,rfl,⟨none,0,rfl,World.ownsRow_nil _ _ _ _⟩,Off.refl _ w⟩
 case round =>
  obtain⟨j,q,hj,rfl,hq,⟨va,vc,rfl,hown⟩,hO⟩:=hrel
  by_cases hlt:j<m
  ·have hjb:(j:Int)<(m:Int):=by omega
   have hwj:IntKind.i64.wrap ((j:Int)+1)=(j:Int)+1:=by rw[IntKind.wrap_i64];omega
   have hql:q<=401820:=by
    have h1:=HLe.out j
    have h2:j*20091<=20*20091:=Nat.mul_le_mul (by omega) (Nat.le_refl _)
    omega
   have HQ:=hid hq
   have H3:=hid hown
   have HO:=hid hO
   clear hown hO hq
   go_wp2_with (at_builtin;refine wpList_append_own _ rfl _ _ 46 rfl w.heap.size 85 i0 _ 3 24 Tryz.underlying46 hi hz0 hz1 hz2 rfl (by decide) _ q _ rfl (H3.out.alloc _) ⟨wr.heap.size,0,none⟩ 1 1 (flat [((4:Int),(j:Int),(0:Int))]) rfl rfl ?q1 (flat_one _) ?q2 ?q3 ?q4 ?_)
   case q1 =>
    intro j u hj
    have:j=0\/j=1\/j=2:=by
     have:=(List.getElem?_eq_some_iff.1 hj).1
     simp[flat]at this;omega
    rcases this with rfl | rfl | rfl <;> simp[flat]at hj <;> subst hj <;> simp[go_sem]
   case q2=>unfold maxLen;omega
   case q3=>omega
   case q4=>have:=HO.out.size;simp;omega
   intro v' w1 hown' hgrow hnil
   obtain⟨g',cap',rfl⟩:=ownsRow_succ hown'
   have hO1:Off (fun _=>False) w w1:=grown_off (HO.out.alloc _) (Nat.le_refl _) (H3.out.alloc _) hgrow
   have HO1:=hid hO1
   have HW1:=hid hown'
   clear hown' hgrow hnil hO1
   go_wp2_with fail
   refine(F1.out _).mono ?_
   rintro e u2 ⟨v2,rfl,hp,hOp⟩
   have h3:=own_off HW1.out hOp
   have hO2:=HO1.out.trans hOp (fun _ _ c=>c)
   obtain⟨v3,w3,hrun,hown3,hgrow⟩:=append_rows h3 hp (flat_one _) (by omega) hO2.size
   have HO3:=hid (grown_off hO2 (Nat.le_refl _) h3 hgrow)
   rw[<-HFl.out,show q+1+q2=(alE n k (j+1)).length by rw[HLn.out,<-HQ.out]]at hown3
   have hv3:∃ a c,v3=.slice a (alE n k (j+1)).length c:=by
    rcases hown3.2 with ⟨rfl,h0⟩ | ⟨g,c,_,rfl,_⟩
    ·exact⟨none,0,by rw[h0]⟩
    exact⟨_,_,rfl⟩
   have HW3:=hid hown3
   have HV3:=hid hv3
   have HR:=hid hrun
   clear hrun hown3 hgrow hp hOp h3 hO2 H3 HO HW1 HO1 hv3
   go_wp2_with (at_builtin;refine Go.Lib.wpList_append_run _ rfl _ _ _ _ rfl _ _ rfl rfl _ _ HR.out ?_)
   go_wp2
   go_roundw
   case rel=>exact⟨j+1,_,by omega,by simp,rfl,(let ⟨a,c,e⟩:=HV3.out;⟨a,c,e,HW3.out⟩),HO3.out⟩
   case measure=>simp[intOf] <;> omega
  obtain rfl:j=m:=by omega
  subst hq
  have H5:=hid hown
  have HO5:=hid hO
  clear hown hO
  go_wp2
  go_ret
  exact⟨_,rfl,H5.out,HO5.out⟩
end
section
open Go.RowKit
attribute [local go_sem ↓] Go.wp_at_zero Go.wp_at_succ
set_option maxRecDepth 100000
set_option maxHeartbeats 4000000
def RowE (B:Nat) (W:World) (v:Value) (l:List Ev):Prop:=W.ownsRow B 85 3 v l.length (flat l)
theorem RowE.shape {B:Nat} {W:World} {v:Value} {l:List Ev} (h:RowE B W v l):∃ a c,v=.slice a l.length c:=by
 rcases h.2 with ⟨rfl,hn⟩ | ⟨g,cap,cur,rfl,_⟩
 ·exact⟨none,0,by rw[hn]⟩
 exact⟨_,cap,rfl⟩
theorem app_ev1 {B bz:Nat} {W:World} {v:Value} {l:List Ev} {a b c:Int} (h1:RowE B W v l) (hB:B<=W.heap.size) {T:TypeId} (hb:W.heap[bz]?=some (.cells #[.int .i64 a,.int .i64 b,.int .i64 c] T (0,0))) (hk:l.length+1<=100000) :
  ∃ v' w',(Builtin.append_ #[46,46] 46 #[v,.slice (some ⟨bz,0,none⟩) 1 1]).run Tryz.prog W=.ok v' w'/\RowE B w' v' (l++[(a,b,c)])/\W.grownBy w' v.ownBlock:=by
 obtain⟨i0,hi,hz0,hz1,hz2⟩:=info_parts ev_info
 obtain⟨v',w',hr,ho,hg,_,_⟩:=run_append_own_at (P:=Tryz.prog) W B 46 46 85 i0 _ 3 24 Tryz.underlying46 hi hz0 hz1 hz2 rfl (by decide) v l.length _ h1 ⟨bz,0,none⟩ 1 1 (flat [(a,b,c)]) rfl (fun j u hj=>by
  rw[Addr.add_lit,Nat.zero_add,cell_of_heap hb]
  match j,hj with
  | 0,hj=>simpa[flat]using hj
  | 1,hj=>simpa[flat]using hj
  | 2,hj=>simpa[flat]using hj
  | n+3,hj=>simp[flat]at hj) (flat_one _) (by unfold maxLen;omega) (by omega) hB
 refine⟨v',w',hr,?_,hg⟩
 unfold RowE
 rw[flat_append,List.length_append]
 exact ho
theorem app_evs {B B2:Nat} {W:World} {v u:Value} {l m:List Ev} (h1:RowE B W v l) (hB:B<=W.heap.size) (h2:RowE B2 W u m) (hk:l.length+m.length<=100000) :
  ∃ v' w',(Builtin.append_ #[46,46] 46 #[v,u]).run Tryz.prog W=.ok v' w'/\RowE B w' v' (l++m)/\W.grownBy w' v.ownBlock:=by
 obtain⟨i0,hi,hz0,hz1,hz2⟩:=info_parts ev_info
 rcases Nat.eq_zero_or_pos m.length with h0 | hp
 ·obtain rfl:m=[]:=List.eq_nil_of_length_eq_zero h0
  obtain⟨a,cap,rfl⟩:=h2.shape
  refine⟨v,W,?_,by rw[List.append_nil];exact h1,⟨rfl,rfl,rfl,Nat.le_refl _,fun _ _ _=>rfl⟩⟩
  have ht:=Tryz.underlying46
  rcases h1.2 with ⟨rfl,hn⟩ | ⟨g,cp,cur,rfl,_,_,hnc,_⟩
  ·cases a <;> simp[Builtin.append_,run_underlying ht,sizeOf,typeInfo,hi,Builtin.lenOf,Builtin.firstCells,loadCells,loadCellsFrom]
  cases a <;> simp[Builtin.append_,run_underlying ht,sizeOf,typeInfo,hi,Builtin.lenOf,Builtin.firstCells,hnc,storeCells,loadCells,loadCellsFrom]
 have h2':=h2
 rcases h2.2 with ⟨rfl,hn⟩ | ⟨g,cap,cur,rfl,_,_,hnc,_⟩
 ·omega
 obtain⟨v',w',hr,ho,hg,_,_⟩:=run_append_own_at (P:=Tryz.prog) W B 46 46 85 i0 _ 3 24 Tryz.underlying46 hi hz0 hz1 hz2 rfl (by decide) v l.length _ h1 ⟨g,0,none⟩ m.length cap (flat m) (by rw[flat_length]) (fun j u hj=>by
  rw[Addr.add_lit,Nat.zero_add]
  have hl:=(List.getElem?_eq_some_iff.1 hj).1
  rw[flat_length]at hl
  exact(World.ownsRow.cellAt h2' j hl).trans hj) (flat_one _) (by unfold maxLen;omega) (by omega) hB
 refine⟨v',w',hr,?_,hg⟩
 unfold RowE
 rw[flat_append,List.length_append]
 exact ho
end
section
open Go.RowKit
attribute [local go_sem ↓] Go.wp_at_zero Go.wp_at_succ
set_option maxRecDepth 100000
set_option maxHeartbeats 4000000
theorem refsusev18 (n c:Nat) (T:Int) (h0:0<n) (hn:n<=90) (hc:c<=20) (hl:(susEv n T c n).length<=50000) (w:World) :
  Calls Tryz.prog 23 #[.int .i64 n,.int .i64 T,.int .i64 c] w fun e w'=>∃ v,e=.returned v/\RowE w.heap.size w' v (susEv n T c n)/\Off (fun _=>False) w w':=by
 have FU:=hid (fun W=>show Calls Tryz.prog 22 #[.int .i64 ((n-1:Nat):Int),.int .i64 T,.int .i64 c] W fun e w'=>∃ v,e=.returned v/\RowE W.heap.size w' v (alE (n-1) T c)/\Off (fun _=>False) W w' from aevents_own (n-1) (by omega) T c hc W)
 have HL:=hid (show ∀ k,k<=n->(susEv n T c k).length<=50000 from fun k hk=>by
  rw[susEv_len]at hl ⊢
  have:=Nat.mul_le_mul_right (1+(alE (n-1) T c).length) hk
  omega)
 obtain⟨m,hm⟩:∃ m,m=n-1:=⟨_,rfl⟩
 have w4:IntKind.i64.wrap ((n:Int)-1)=(m:Int):=by rw[IntKind.wrap_i64];omega
 have HSu:=hid (fun k=>susEv_succ n T c k)
 rw[<-hm]at FU HSu
 clear hl hm
 go_enter Tryz.func23,Tryz.ntmps23
 go_wp2_with fail
 go_loopw [7,8] (fun v i wr=>∃ k:Nat,k<=n/\i=.int .i64 k/\RowE w.heap.size wr v (susEv n T c k)/\Off (fun _=>False) w wr) (fun _ i _=>n-(intOf i).toNat)
 case atStart=>exact⟨0,Nat.zero_le _,rfl,World.ownsRow_nil _ _ _ _,Off.refl _ w⟩
 case round =>
  obtain⟨k,hk,rfl,hr,hO⟩:=hrel
  by_cases hlt:k<n
  ·have hcc:(k:Int)<(n:Int):=by omega
   have w3:IntKind.i64.wrap ((k:Int)+1)=(k:Int)+1:=by rw[IntKind.wrap_i64];omega
   obtain⟨W1,hW1⟩:∃ W1,W1=wr.alloc (.cells #[.int .i64 5,.int .i64 k,.int .i64 0] 85):=⟨_,rfl⟩
   have hr1:RowE w.heap.size W1 u7 (susEv n T c k):=by rw[hW1];exact hr.alloc _
   have hb:=HL.out (k+1) hlt
   rw[HSu.out,List.length_append,List.length_append,List.length_singleton]at hb
   obtain⟨v1,w1,hrun,hr2,hgr⟩:=app_ev1 hr1 (by rw[hW1];have:=hO.size;simp;omega) (show W1.heap[wr.heap.size]?=some (.cells #[.int .i64 5,.int .i64 k,.int .i64 0] 85 (0,0)) by rw[hW1];exact heap_new' rfl _) (by omega)
   have hO2:=grown_off (by rw[hW1];exact hO.alloc _) (Nat.le_refl _) hr1 hgr
   rw[hW1]at hrun
   have HRun:=hid hrun
   have HO:=hid hO2
   have HR:=hid hr2
   have HB:=hid hb
   have HK:=hid hlt
   clear hrun hO2 hr2 hgr hr1 hW1 hb hr hO hk
   go_wp2_with first | (at_builtin;refine Go.Lib.wpList_append_run _ rfl _ _ _ _ rfl _ _ rfl rfl _ _ HRun.out ?_) | fail
   refine(FU.out _).mono ?_
   rintro e ub ⟨vd,rfl,hd,hOb⟩
   have hrb:RowE w.heap.size ub v1 _:=own_off HR.out hOb
   obtain⟨v2,w2',hrun,hr2,hgr⟩:=app_evs hrb (HO.out.trans hOb (fun _ _ c=>c)).size hd (by rw[List.length_append,List.length_singleton];have:=HB.out;omega)
   have hO2:=grown_off (HO.out.trans hOb (fun _ _ c=>c)) (Nat.le_refl _) hrb hgr
   rw[<-HSu.out]at hr2
   have HRun2:=hid hrun
   have HO2:=hid hO2
   have HR2:=hid hr2
   clear hd hOb hrb hrun hr2 hgr hO2 HRun
   go_wp2_with first | (at_builtin;refine Go.Lib.wpList_append_run _ rfl _ _ _ _ rfl _ _ rfl rfl _ _ HRun2.out ?_) | fail
   go_roundw
   case rel=>exact⟨k+1,HK.out,by simp,HR2.out,HO2.out⟩
   case measure=>simp[intOf];have:=HK.out;omega
  obtain rfl:k=n:=by omega
  have hcc:¬(k:Int)<(k:Int):=by omega
  have HR:=hid hr
  have HO:=hid hO
  clear hr hO hlt hk
  go_wp2
  exact bodyPost_ret (v:=u7) (by simp[results,Tryz.results23,go_sem]) rfl ⟨_,rfl,HR.out,HO.out⟩
end
section
open Go.RowKit
attribute [local go_sem ↓] Go.wp_at_zero Go.wp_at_succ
set_option linter.unusedSimpArgs false
set_option maxRecDepth 100000
set_option maxHeartbeats 4000000
theorem Room.of {q:Option Addr} {es:List Ev} {N:Nat} (h:es.length+N<=50000):Room q es N:=fun ls hl=>Nat.le_trans (ext_le q es ls) (by omega)
end
section
open Go.RowKit
attribute [local go_sem ↓] Go.wp_at_zero Go.wp_at_succ
set_option linter.unusedSimpArgs false
set_option maxRecDepth 100000
set_option maxHeartbeats 4000000
theorem tab_lt18 {w:World} (h:TabAt w):0<w.heap.size:=World.block_lt_of_cell? w _ (h 0 _ rfl)
end
end Go.Proofs.YtbkgghhngeibhaaGreatDoor
