/-
  Rows of bools of the call's own; a slice of shares without one of them, as two parts put together. Plain facts on worlds; conditions as written.
-/
import Derived.Test.YtbkgghhngeibhaaGreatDoorParEnd
import Derived.Test.YtbkgghhngeibhaaGreatDoorPolCore
import Derived.Deep.OwnRows
import Derived.Deep.Upon
import Derived.Shelf.Bits.Mul64
import Derived.Shelf.Bytes.SlEqualAll
import Derived.Test.YtbkgghhngeibhaaGreatDoorProg
namespace Go.Proofs.YtbkgghhngeibhaaGreatDoor
open Go.RowKit
attribute [local go_sem ↓] Go.wp_at_zero Go.wp_at_succ
set_option maxRecDepth 100000
set_option maxHeartbeats 4000000
theorem put_oneA {W:World} {b:Nat} {u u':Value} {T:TypeId} (h:W.heap[b]?=some (.cells #[u] T (0,0))):(W.setCell ⟨b,0,none⟩ u').heap[b]?=some (.cells #[u'] T (0,0)):=setCells_at (vs:=[u']) h rfl
theorem put_offA (W:World) (b:Nat) (u':Value):Off (fun k=>k=b) W (W.setCell ⟨b,0,none⟩ u'):=setCells_off b [u'] 0 W
theorem own_off18 {w w':World} {base size n:Nat} {T:TypeId} {v:Value} {xs:List Value} {S:Nat->Prop} (h:w.ownsRow base T size v n xs) (ho:Off S w w') (hd:∀ g,v.ownBlock=some g->¬S g):w'.ownsRow base T size v n xs:=by
 obtain⟨hl,h⟩:=h
 refine⟨hl,?_⟩
 rcases h with hn | ⟨g,cap,cur,rfl,hb,hg,r⟩
 ·exact .inl hn
 exact .inr ⟨g,cap,cur,rfl,hb,ho.heap hg (hd g (by simp[Value.ownBlock])),r⟩
theorem own_ntyped {w:World} {base size n:Nat} {T:TypeId} {v:Value} {xs:List Value} (h:w.ownsRow base T size v n xs) (h1:T≠83) (h2:T≠113) (h3:T≠115) (g:Nat) (hg:v.ownBlock=some g):¬Typed w g:=by
 rcases h.2 with ⟨rfl,_⟩ | ⟨g',cap,cur,rfl,_,hc,_⟩
 ·simp[Value.ownBlock]at hg
 simp[Value.ownBlock]at hg
 subst hg
 exact not_typed' hc h1 h2 h3
theorem own_offA {w w':World} {base size n:Nat} {T:TypeId} {v:Value} {xs:List Value} {S:Nat->Prop} (h:w.ownsRow base T size v n xs) (h1:T≠83) (h2:T≠113) (h3:T≠115) (ho:Off S w w') (hS:∀ b,S b->Typed w b):w'.ownsRow base T size v n xs :=
 own_off18 h ho (fun g e c=>own_ntyped h h1 h2 h3 g e (hS g c))
theorem own_shape {w:World} {base size n:Nat} {T:TypeId} {v:Value} {xs:List Value} (h:w.ownsRow base T size v n xs):∃ a c,v=.slice a n c:=by
 rcases h.2 with ⟨rfl,hn⟩ | ⟨g,cap,cur,rfl,_⟩
 ·exact⟨none,0,by rw[hn]⟩
 exact⟨_,cap,rfl⟩
def RowBo (B:Nat) (W:World) (v:Value) (xs:List Bool):Prop:=W.ownsRow B 4 1 v xs.length (xs.map Value.bool)
theorem bool_info:(Tryz.prog.info? 4).map (fun i=>(i.zero,i.size,i.bytes))=some (some (.bool false),1,1):=by kernel_rfl
theorem app_bo {B bz:Nat} {W:World} {v:Value} {xs:List Bool} {x:Bool} {T:TypeId} (h1:RowBo B W v xs) (hB:B<=W.heap.size) (hb:W.heap[bz]?=some (.cells #[.bool x] T (0,0))) (hk:xs.length+1<=100000) :
  ∃ v' w',(Builtin.append_ #[29,29] 29 #[v,.slice (some ⟨bz,0,none⟩) 1 1]).run Tryz.prog W=.ok v' w'/\RowBo B w' v' (xs++[x])/\W.grownBy w' v.ownBlock:=by
 obtain⟨i0,hi,hz0,hz1,hz2⟩:=info_parts bool_info
 obtain⟨v',w',hr,ho,hg,_,_⟩:=run_append_own_at (P:=Tryz.prog) W B 29 29 4 i0 _ 1 1 Tryz.underlying29 hi hz0 hz1 hz2 rfl (by decide) v xs.length _ h1 ⟨bz,0,none⟩ 1 1 [.bool x] rfl (fun j u hj=>by
  rw[Addr.add_lit,Nat.zero_add,cell_of_heap hb]
  match j,hj with
  | 0,hj=>simpa using hj
  | n+1,hj=>simp at hj) (fun u hu=>by rw[List.mem_singleton.1 hu];rfl) (by unfold maxLen;omega) (by omega) hB
 refine⟨v',w',hr,?_,hg⟩
 unfold RowBo
 rw[List.map_append,List.length_append]
 exact ho
def BoAt (w:World) (v:Value) (xs:List Bool):Prop:=∃ a cap,v=.slice a xs.length cap/\(0<xs.length->∃ b off,a=some ⟨b,off,none⟩/\∀ j x,xs[j]?=some x->w.cell? ⟨b,off+j,none⟩=some (.bool x))
theorem BoAt.off {w w':World} {v:Value} {xs:List Bool} (h:BoAt w v xs) (ho:Off (fun _=>False) w w'):BoAt w' v xs:=by
 obtain⟨a,cap,hv,h1⟩:=h
 refine⟨a,cap,hv,fun hp=>?_⟩
 obtain⟨b,off,ha,hc⟩:=h1 hp
 exact⟨b,off,ha,fun j x hj=>ho.cell (hc j x hj) (fun c=>c)⟩
theorem RowBo.bo {B:Nat} {w:World} {v:Value} {xs:List Bool} (h:RowBo B w v xs):BoAt w v xs:=by
 rcases h.2 with ⟨rfl,hn⟩ | ⟨g,cap,cur,rfl,_⟩
 ·exact⟨none,0,by rw[hn],fun hp=>by omega⟩
 refine⟨_,cap,rfl,fun _=>⟨g,0,rfl,fun j x hj=>?_⟩⟩
 have hc:=World.ownsRow.cells h (g:=g) rfl
 have:=hc j (.bool x) (by rw[List.getElem?_map,hj];rfl)
 rw[Addr.add_lit]at this
 exact this
theorem BoAt.at {w:World} {a:Option Addr} {n cap:Nat} {xs:List Bool} (h:BoAt w (.slice a n cap) xs) {k:Nat} (hk:k<n):∃ x b off,xs[k]?=some x/\a=some ⟨b,off,none⟩/\w.cell? ⟨b,off+k,none⟩=some (.bool x):=by
 obtain⟨a',cap',e,h1⟩:=h
 simp at e
 obtain⟨rfl,rfl,rfl⟩:=e
 obtain⟨b,off,ha,hc⟩:=h1 (by omega)
 have hx:xs[k]?=some xs[k]:=List.getElem?_eq_getElem hk
 exact⟨xs[k],b,off,hx,ha,hc k _ hx⟩
theorem shs_hm (a:Option Addr) (n cap k:Nat) (hk:k<=n) (hc:n<=cap):∃ a',(∀ W,(Instr.slice 22 (.slice a n cap) none (some (.int .i64 k)) (some (.int .i64 k))).run Tryz.prog W=.ok (.slice a' k k) W)/\∀ W S L,SvsAt W (.slice a n cap) L S->SvsAt W (.slice a' k k) (L.take k) S:=by
 refine⟨if k=0 then a else a.map (·.add (0*5)),fun W=>?_,fun W S L h=>?_⟩
 ·rw[run_slice_hm W 22 _ _ _ (by rw[share_elem];exact Tryz.underlying22) .i64 .i64 _ _ (by omega) (by omega) (by omega),share_elem,Tryz.sizeOf45]
  simp only[Result.andThen,sliced,Int.toNat_natCast,Nat.sub_zero]
 have h1:=h.upto k hk
 obtain⟨a1,c1,e,hl,hx⟩:=h1
 have hlk:(L.take k).length=k:=by
  obtain⟨a2,c2,e2,_⟩:=h
  simp at e2
  rw[List.length_take];omega
 simp only[hlk,Value.slice.injEq]at e
 obtain⟨rfl,_,rfl⟩:=e
 refine⟨_,k,by rw[hlk],by rw[hlk];exact Nat.le_refl _,fun hp=>?_⟩
 obtain⟨b,o,rfl,hS,hat⟩:=hx hp
 rw[if_neg (by omega)]
 exact⟨b,o,by simp[Addr.add_lit],hS,hat⟩
theorem app_apart {W:World} {a1 a2:Option Addr} {i m c2:Nat} {L M:List ShV} {S:Nat->Prop} (h1:SvsAt W (.slice a1 i i) L S) (h2:SvsAt W (.slice a2 m c2) M S) (hk:i+m<=100000) :
  ∃ v' w',(Builtin.append_ #[22,22] 22 #[.slice a1 i i,.slice a2 m c2]).run Tryz.prog W=.ok v' w'/\(∃ a' c',v'=.slice a' (i+m) c')/\SvsAt w' v' (L++M) (fun b=>S b\/W.heap.size<=b)/\Off (fun _=>False) W w':=by
 obtain⟨i0,hi,hz0,hz1,hz2⟩:=info_parts share_info
 have ht:=Tryz.underlying22
 have hL:i=L.length:=by obtain⟨_,_,e,_⟩:=h1;simp at e;exact e.2.1
 have hM:m=M.length:=by obtain⟨_,_,e,_⟩:=h2;simp at e;exact e.2.1
 rcases Nat.eq_zero_or_pos m with h0 | hp
 ·obtain rfl:M=[]:=List.eq_nil_of_length_eq_zero (by omega)
  subst h0
  have hs:Go.Src Tryz.prog i0.size 22 (.slice a2 0 c2) 0 [] W:=by
   cases a2 with
   | none=>exact Go.Src.ofNil W ht c2
   | some a2=>exact Go.Src.ofSlice W ht a2 0 c2 [] (by simp) (fun j u hj=>by simp at hj) (fun u hu=>by cases hu)
  refine⟨_,_,run_append_nothing W _ _ _ _ i0 ht hi a1 i i (Nat.le_refl _) _ hs,⟨_,_,rfl⟩,?_,Off.refl _ _⟩
  rw[List.append_nil]
  obtain⟨a',c',e,hc,hx⟩:=h1
  exact⟨a',c',e,hc,fun h=>by obtain⟨b,o,e1,e2,e3⟩:=hx h;exact⟨b,o,e1,.inl e2,e3⟩⟩
 have hcs:∀ {P:List ShV} {b off:Nat},(∀ j x k u,P[j]?=some x->x.cells[k]?=some u->W.cell? ⟨b,off+j*5+k,none⟩=some u)->∀ j u,(flat5 P)[j]?=some u->W.cell? ((⟨b,off,none⟩:Addr).add j)=some u:=fun {P b off} hc j u hj=>by
  have hjl:j<(flat5 P).length:=(List.getElem?_eq_some_iff.1 hj).1
  rw[flat5_length]at hjl
  obtain⟨x,hx⟩:∃ x,P[j / 5]?=some x:=⟨_,List.getElem?_eq_getElem (by omega)⟩
  have hg:=flat5_get P (j / 5) (j%5) x hx (by omega)
  rw[show j / 5*5+j%5=j by omega,hj]at hg
  have:=hc _ x _ u hx hg.symm
  rw[Addr.add_lit]
  rw[show off+j / 5*5+j%5=off+j by omega]at this
  exact this
 obtain⟨a2',cap2,e,hl,hat⟩:=h2
 simp at e
 obtain⟨rfl,_,rfl⟩:=e
 obtain⟨b,off,rfl,hSb,hc⟩:=hat (by omega)
 have hs:Go.Src Tryz.prog i0.size 22 (.slice (some ⟨b,off,none⟩) m c2) m (flat5 M) W:=Go.Src.ofSlice W ht _ m c2 (flat5 M) (by rw[flat5_length,hz1,hM]) (hcs hc) (flat5_one M)
 have hold:(Builtin.firstCells i0.size i (.slice a1 i i)).run Tryz.prog W.drew=.ok (flat5 L).toArray W.drew:=by
  obtain⟨a1',cap1,e,hl1,hat1⟩:=h1
  simp at e
  obtain⟨rfl,_,rfl⟩:=e
  rcases Nat.eq_zero_or_pos L.length with hz | hpp
  ·obtain rfl:L=[]:=List.eq_nil_of_length_eq_zero hz
   obtain rfl:i=0:=hL
   cases a1 with
   | none=>exact run_firstCells_none W.drew i0.size 0 0 0
   | some a1=>exact run_firstCells_some W.drew i0.size 0 a1 0 0 [] (by simp) (fun j u hj=>by simp at hj)
  obtain⟨b1,off1,rfl,_,hc1⟩:=hat1 hpp
  exact run_firstCells_some W.drew i0.size i ⟨b1,off1,none⟩ i i (flat5 L) (by rw[flat5_length,hz1,hL]) (by simpa using hcs hc1)
 have hrun:=run_append_grow_src (P:=Tryz.prog) W 22 22 22 45 i0 _ ht hi hz0 a1 i i (flat5 L) hold _ m (flat5 M) hs (by omega) (by omega) (growslice_fits (by omega) (by rw[hz2];omega))
 refine⟨_,_,hrun,⟨_,_,rfl⟩,?_,((Off.refl (fun _=>False) W).drew).alloc _⟩
 have hlen:(L++M).length=i+m:=by rw[List.length_append];omega
 refine⟨_,_,by rw[hlen],by rw[hlen];exact grownCap_ge _ _ _ _,fun _=>⟨W.heap.size,0,rfl,.inr (Nat.le_refl _),fun j x k u hj hu=>?_⟩⟩
 have hlt:=(List.getElem?_eq_some_iff.1 hj).1
 have hk5:k<5:=by have:=(List.getElem?_eq_some_iff.1 hu).1;simpa[ShV.cells]using this
 refine(cell_of_heap (heap_new' (w:=W.drew) (n:=W.heap.size) rfl _) _).trans ?_
 rw[<-flat5_append]
 have hfl:=flat5_length (L++M)
 rw[Array.getElem?_append_left (by rw[List.size_toArray,hfl];omega),List.getElem?_toArray,show 0+j*5+k=j*5+k by omega,flat5_get _ j k x hj hk5,hu]
end Go.Proofs.YtbkgghhngeibhaaGreatDoor
