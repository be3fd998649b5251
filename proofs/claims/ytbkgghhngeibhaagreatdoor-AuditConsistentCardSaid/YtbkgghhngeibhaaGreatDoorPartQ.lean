/-
  Facts and contracts that some statements of layer 17 need.
-/
import Derived.Test.YtbkgghhngeibhaaGreatDoorAudPlain
import Derived.Test.YtbkgghhngeibhaaGreatDoorInvAll
import Derived.Test.YtbkgghhngeibhaaGreatDoorParGrp
namespace Go.Proofs.YtbkgghhngeibhaaGreatDoor
open Lib (hid)
section
open Go.RowKit Go.ChangeShapes Go.WideShapes Go.ChangeAt Go.Deep
set_option linter.unusedSimpArgs false
theorem cells_el4:Tryz.prog.cellsOf 66=4:=by kernel_rfl
theorem cells_els1:Tryz.prog.cellsOf 43=1:=by kernel_rfl
theorem cells_shr:Tryz.prog.cellsOf 45=5:=by kernel_rfl
theorem cap_of_trod' {H:Type} {enc:TypeId × Value->H} {P:Program} {w:World} {base:Nat} {spare:Nat->Bool} {held:Bool} {t e:TypeId} {fuel:Nat} {a:Option Addr} {len cap:Nat} {x:DataW H × List MemPlace} (ht:P.underlying t=some (.slice e))
  (h:DataW.trod enc P w base spare held fuel t [.slice a len cap]=some x):len<=cap:=by
 rcases open_slice ht h with ⟨hcs,_⟩ | ⟨b,l,c,m,n,D,Pl,hcs,_,hl,_⟩
 ·simp at hcs;omega
 simp at hcs;omega
theorem trod_struct5 {H:Type} {enc:TypeId × Value->H} {P:Program} {w:World} {base:Nat} {spare:Nat->Bool} {held:Bool} {t:TypeId} {f0 f1 f2 f3 f4:Field} {fuel:Nat} {cs:List Value} {x:DataW H × List MemPlace} (ht:P.underlying t=some (.struct #[f0,f1,f2,f3,f4])) (h:DataW.trod enc P w base spare held fuel t cs=some x) :
  ∃ y0 y1 y2 y3 y4 n,cs.length=P.cellsOf t/\DataW.trod enc P w base spare held n f0.type ((cs.drop f0.offset).take (P.cellsOf f0.type))=some y0/\DataW.trod enc P w base spare held n f1.type ((cs.drop f1.offset).take (P.cellsOf f1.type))=some y1 /\
   DataW.trod enc P w base spare held n f2.type ((cs.drop f2.offset).take (P.cellsOf f2.type))=some y2/\DataW.trod enc P w base spare held n f3.type ((cs.drop f3.offset).take (P.cellsOf f3.type))=some y3/\DataW.trod enc P w base spare held n f4.type ((cs.drop f4.offset).take (P.cellsOf f4.type))=some y4:=by
 obtain⟨xs,n,_,rfl,hl,hlen,hf⟩:=DataW.trod_struct ht h
 match xs,hlen with
 | [y0,y1,y2,y3,y4],_=>exact⟨y0,y1,y2,y3,y4,n,hl,by simpa using hf 0 f0 rfl,by simpa using hf 1 f1 rfl,by simpa using hf 2 f2 rfl,by simpa using hf 3 f3 rfl,by simpa using hf 4 f4 rfl⟩
set_option maxRecDepth 100000 in
theorem els_of_trod {H:Type} {enc:TypeId × Value->H} {w:World} {spare:Nat->Bool} {held:Bool} {a:Option Addr} {len cap fuel:Nat} {x:DataW H × List MemPlace}
  (h:DataW.trod enc Tryz.prog w 0 spare held fuel 43 [.slice a len cap]=some x):∃ xs,len=xs.length/\VsAt w (.slice a len cap) xs (fun k=>k<w.heap.size):=by
 rcases open_slice Tryz.underlying43 h with ⟨hcs,_⟩ | ⟨b,l,c,m,n,D,Pl,hcs,_,hl,hm,hmm,_,hi⟩
 ·simp at hcs
  obtain⟨rfl,rfl,rfl⟩:=hcs
  exact⟨[],rfl,none,0,rfl,Nat.zero_le _,fun _ h=>(by cases h),fun h=>by simp at h⟩
 simp at hcs
 obtain⟨rfl,rfl,rfl⟩:=hcs
 have hlm:len<=m:=by rw[hmm];split <;> omega
 have H:∀ i,i<len->∃ e:Nat,e<R256/\w.cell? (b.add (i*4))=some (.int .u64 (wd e 0))/\w.cell? ((b.add (i*4)).add 1)=some (.int .u64 (wd e 1))/\w.cell? ((b.add (i*4)).add 2)=some (.int .u64 (wd e 2))/\w.cell? ((b.add (i*4)).add 3)=some (.int .u64 (wd e 3)):=by
  intro i hil
  obtain⟨cs',hc,ht⟩:=hi i (by omega)
  rw[cells_el4]at hc
  obtain⟨_,hlen,hat⟩:=World.cells?_some hc
  match cs',hlen with
  | [v0,v1,v2,v3],_ =>
   obtain⟨y0,y1,y2,y3,n',hx,t0,t1,t2,t3⟩:=trod_array4 Tryz.underlying66 cells_word ht
   obtain⟨n0,e0,_,q0⟩:=DataW.trod_int Tryz.underlying62 t0
   obtain⟨n1,e1,_,q1⟩:=DataW.trod_int Tryz.underlying62 t1
   obtain⟨n2,e2,_,q2⟩:=DataW.trod_int Tryz.underlying62 t2
   obtain⟨n3,e3,_,q3⟩:=DataW.trod_int Tryz.underlying62 t3
   simp at e0 e1 e2 e3
   subst e0 e1 e2 e3
   have word:∀ {x:Int},(Lit.int .u64 x).wf=true->Word x:=fun h=>by have:=bounds_u64 h;exact⟨by omega,by omega⟩
   obtain⟨e,he,rfl,rfl,rfl,rfl⟩:=words_num (word q0) (word q1) (word q2) (word q3)
   refine⟨e,he,?_,?_,?_,?_⟩
   ·have:=hat 0 (by omega);simpa[go_sem]using this
   ·have:=hat 1 (by omega);simpa using this
   ·have:=hat 2 (by omega);simpa using this
   have:=hat 3 (by omega);simpa using this
 obtain⟨f,hf⟩:∃ f:Nat->Nat,∀ i,i<len->f i<R256/\w.cell? (b.add (i*4))=some (.int .u64 (wd (f i) 0:Int))/\w.cell? ((b.add (i*4)).add 1)=some (.int .u64 (wd (f i) 1:Int))/\w.cell? ((b.add (i*4)).add 2)=some (.int .u64 (wd (f i) 2:Int))/\w.cell? ((b.add (i*4)).add 3)=some (.int .u64 (wd (f i) 3:Int)):=by
  refine⟨fun i=>if h:i<len then(H i h).choose else 0,fun i h=>?_⟩
  simp only[h,dif_pos]
  exact(H i h).choose_spec
 refine⟨(List.range len).map f,by simp,some b,cap,by simp,by simp;omega,fun x hx=>?_,fun hp=>?_⟩
 ·obtain⟨i,hi',rfl⟩:=List.mem_map.1 hx
  exact(hf i (List.mem_range.1 hi')).1
 have hp':0<len:=by simpa using hp
 obtain⟨bb,off,spot⟩:=b
 have hspot:spot=none:=by simpa[Addr.add]using World.cell?_spot (hf 0 hp').2.1
 subst hspot
 refine⟨bb,off,rfl,?_,fun j e hj=>?_⟩
 ·have:=(hf 0 hp').2.1
  rw[Addr.add_lit]at this
  exact World.block_lt_of_cell? w ⟨bb,off+0*4,none⟩ this
 rw[List.getElem?_map]at hj
 obtain⟨i,hi',rfl⟩:=Option.map_eq_some_iff.1 hj
 have hjl:=(List.getElem?_eq_some_iff.1 hi').1
 have:i=j:=by
  have h2:=(List.getElem?_eq_some_iff.1 hi').2
  simpa using h2.symm
 subst this
 have hil:i<len:=by simpa using hjl
 obtain⟨_,c0,c1,c2,c3⟩:=hf i hil
 rw[Addr.add_lit]at c0
 rw[Addr.add_lit,Addr.add_lit]at c1 c2 c3
 exact⟨c0,c1,c2,c3⟩
set_option maxRecDepth 100000 in
theorem share_of_trod {H:Type} {enc:TypeId × Value->H} {w:World} {spare:Nat->Bool} {held:Bool} {fuel:Nat} {cs:List Value} {x:DataW H × List MemPlace} (h:DataW.trod enc Tryz.prog w 0 spare held fuel 45 cs=some x) :
  ∃ (s:Sh) (pa:Option Addr) (pc:Nat),cs=[.int .i64 s.fd,.int .i64 s.th,.int .i64 s.ix,.int .i64 s.ln,.slice pa s.pl.length pc]/\s.ok/\s.pl.length<=pc/\VsAt w (.slice pa s.pl.length pc) s.pl (fun k=>k<w.heap.size):=by
 obtain⟨y0,y1,y2,y3,y4,n,hl,t0,t1,t2,t3,t4⟩:=trod_struct5 Tryz.underlying45 h
 rw[cells_shr]at hl
 match cs,hl with
 | [v0,v1,v2,v3,v4],_ =>
  simp only[cells_i1,cells_els1,List.drop_zero,List.drop_succ_cons,List.take_succ_cons,List.take_zero]at t0 t1 t2 t3 t4
  obtain⟨n0,e0,_,q0⟩:=DataW.trod_int Tryz.underlying3 t0
  obtain⟨n1,e1,_,q1⟩:=DataW.trod_int Tryz.underlying3 t1
  obtain⟨n2,e2,_,q2⟩:=DataW.trod_int Tryz.underlying3 t2
  obtain⟨n3,e3,_,q3⟩:=DataW.trod_int Tryz.underlying3 t3
  simp at e0 e1 e2 e3
  subst e0 e1 e2 e3
  obtain⟨pa,pn,pc,rfl⟩:=slice_of_trod' Tryz.underlying43 t4
  have hcap:=cap_of_trod' Tryz.underlying43 t4
  obtain⟨xs,rfl,hv⟩:=els_of_trod t4
  exact⟨⟨n0,n1,n2,n3,xs⟩,pa,pc,rfl,⟨q0,q1,q2,q3,hv.len.2.2⟩,hcap,hv⟩
set_option maxRecDepth 100000 in
theorem shares_of_trod {H:Type} {enc:TypeId × Value->H} {w:World} {spare:Nat->Bool} {held:Bool} {a:Option Addr} {len cap fuel:Nat} {x:DataW H × List MemPlace}
  (h:DataW.trod enc Tryz.prog w 0 spare held fuel 22 [.slice a len cap]=some x):∃ l:List Sh,len=l.length/\ShsAt w (.slice a len cap) l (fun k=>k<w.heap.size):=by
 rcases open_slice Tryz.underlying22 h with ⟨hcs,_⟩ | ⟨b,l,c,m,n,D,Pl,hcs,_,hl,hm,hmm,_,hi⟩
 ·simp at hcs
  obtain⟨rfl,rfl,rfl⟩:=hcs
  exact⟨[],rfl,none,0,rfl,Nat.le_refl _,Nat.zero_le _,fun _ h=>(by cases h),fun h=>by simp at h⟩
 simp at hcs
 obtain⟨rfl,rfl,rfl⟩:=hcs
 have hlm:len<=m:=by rw[hmm];split <;> omega
 have H:∀ i,i<len->∃ (s:Sh) (pa:Option Addr) (pc:Nat),s.ok/\w.cell? (b.add (i*5))=some (.int .i64 s.fd)/\w.cell? ((b.add (i*5)).add 1)=some (.int .i64 s.th)/\w.cell? ((b.add (i*5)).add 2)=some (.int .i64 s.ix)/\w.cell? ((b.add (i*5)).add 3)=some (.int .i64 s.ln) /\
   w.cell? ((b.add (i*5)).add 4)=some (.slice pa s.pl.length pc)/\s.pl.length<=pc/\VsAt w (.slice pa s.pl.length pc) s.pl (fun k=>k<w.heap.size):=by
  intro i hil
  obtain⟨cs',hc,ht⟩:=hi i (by omega)
  rw[cells_shr]at hc
  obtain⟨_,hlen,hat⟩:=World.cells?_some hc
  obtain⟨s,pa,pc,rfl,hok,hcap,hv⟩:=share_of_trod ht
  refine⟨s,pa,pc,hok,?_,?_,?_,?_,?_,hcap,hv⟩
  ·have:=hat 0 (by omega);simpa[go_sem]using this
  ·have:=hat 1 (by omega);simpa using this
  ·have:=hat 2 (by omega);simpa using this
  ·have:=hat 3 (by omega);simpa using this
  have:=hat 4 (by omega);simpa using this
 obtain⟨f,hf⟩:∃ f:Nat->Sh,∀ i,i<len->∃ (pa:Option Addr) (pc:Nat),(f i).ok/\w.cell? (b.add (i*5))=some (.int .i64 (f i).fd)/\w.cell? ((b.add (i*5)).add 1)=some (.int .i64 (f i).th)/\w.cell? ((b.add (i*5)).add 2)=some (.int .i64 (f i).ix)/\w.cell? ((b.add (i*5)).add 3)=some (.int .i64 (f i).ln) /\
   w.cell? ((b.add (i*5)).add 4)=some (.slice pa (f i).pl.length pc)/\(f i).pl.length<=pc/\VsAt w (.slice pa (f i).pl.length pc) (f i).pl (fun k=>k<w.heap.size):=by
  refine⟨fun i=>if h:i<len then(H i h).choose else⟨0,0,0,0,[]⟩,fun i h=>?_⟩
  simp only[h,dif_pos]
  exact(H i h).choose_spec
 refine⟨(List.range len).map f,by simp,some b,cap,by simp,by simpa using hl,by simp;omega,fun s hs=>?_,fun hp=>?_⟩
 ·obtain⟨i,hi',rfl⟩:=List.mem_map.1 hs
  obtain⟨_,_,h1,_⟩:=hf i (List.mem_range.1 hi')
  exact h1
 have hp':0<len:=by simpa using hp
 obtain⟨bb,off,spot⟩:=b
 obtain⟨_,_,_,hc0,_⟩:=hf 0 hp'
 have hspot:spot=none:=by simpa[Addr.add]using World.cell?_spot hc0
 subst hspot
 refine⟨bb,off,rfl,?_,fun j s hj=>?_⟩
 ·rw[Addr.add_lit]at hc0
  exact World.block_lt_of_cell? w ⟨bb,off+0*5,none⟩ hc0
 rw[List.getElem?_map]at hj
 obtain⟨i,hi',rfl⟩:=Option.map_eq_some_iff.1 hj
 have hjl:=(List.getElem?_eq_some_iff.1 hi').1
 have:i=j:=by
  have h2:=(List.getElem?_eq_some_iff.1 hi').2
  simpa using h2.symm
 subst this
 have hil:i<len:=by simpa using hjl
 obtain⟨pa,pc,_,c0,c1,c2,c3,c4,hcap,hv⟩:=hf i hil
 rw[Addr.add_lit]at c0
 rw[Addr.add_lit,Addr.add_lit]at c1 c2 c3 c4
 exact⟨c0,c1,c2,c3,pa,pc,c4,hcap,hv⟩
end
section
open Go.RowKit
attribute [local go_sem ↓] Go.wp_at_zero Go.wp_at_succ
set_option maxRecDepth 100000
set_option maxHeartbeats 4000000
theorem red_eqP {p x:Nat} (h0:0<p) (hx:x<R256):eqN (redV p x 0%R256) x=decide (x<p)/\redV p x 0%R256<R256:=by
 have hR:0<R256:=by decide
 refine⟨?_,Nat.mod_lt _ hR⟩
 unfold redV eqN
 by_cases h:x<p
 ·rw[if_pos ⟨by decide,h⟩,Nat.mod_eq_of_lt hx];simp[h]
 rw[if_neg (fun c=>h c.2)]
 have hs:subV x p%R256=x-p:=by
  unfold subV
  rw[show x+R256-p=(x-p)+R256 by omega,Nat.add_mod_right,Nat.mod_eq_of_lt (by omega)]
 rw[hs]
 simp[h]
 omega
theorem take_all {p m x:Nat} {l:List Nat} (h:∀ y∈l.take m,y<p) (hx:l[m]?=some x) (hp:x<p):∀ y∈l.take (m+1),y<p:=by
 intro y hy
 rw[List.take_add_one,hx]at hy
 rcases List.mem_append.1 hy with hy | hy
 ·exact h y hy
 simp at hy;omega
set_option maxHeartbeats 20000000 in
theorem refshare_any (s:Sh) (hs:s.ok) (pa:Option Addr) (pc:Nat) (S:Nat->Prop) (w:World) (hV:VsAt w (.slice pa s.pl.length pc) s.pl S):Calls Tryz.prog 38 #[s.val (.slice pa s.pl.length pc)] w fun e w'=>e=.returned (.int .i64 (shN s:Int))/\Off (fun _=>False) w w':=by
 obtain⟨fd,th,ix,ln,pl⟩:=s
 have hpx:=hs.2.2.2.2
 have FN:=hid (fun W=>refcount_any ln hs.2.2.2.1 W)
 have hcb:cntI ln<=2200:=by unfold cntI cntN;split <;> omega
 clear hs
 have FK:=hid (fun W=>refknown_any fd W)
 obtain⟨r,hr⟩:∃ r,r=shN ⟨fd,th,ix,ln,pl⟩:=⟨_,rfl⟩
 rw[<-hr]
 unfold Sh.val
 unfold shN at hr
 dsimp only at hr hV hpx ⊢
 by_cases hk:Kn fd
 ·rw[if_neg (fun h=>h hk)]at hr
  rw[show decide (Kn fd)=true from decide_eq_true hk]at FK
  by_cases hA:th<1
  ·obtain rfl:r=4:=by rw[hr,if_pos (.inl hA)]
   clear hr
   go_enter Tryz.func38,Tryz.ntmps38
   go_wp2_with fail
   refine(FK.out _).mono ?_
   rintro e u ⟨rfl,rfl⟩
   go_wp2
   go_ret
   exact⟨rfl,(Off.refl _ w).alloc _⟩
  by_cases hB:255<th
  ·obtain rfl:r=4:=by rw[hr,if_pos (.inr hB)]
   clear hr
   go_enter Tryz.func38,Tryz.ntmps38
   go_wp2_with fail
   refine(FK.out _).mono ?_
   rintro e u ⟨rfl,rfl⟩
   go_wp2
   go_ret
   exact⟨rfl,(Off.refl _ w).alloc _⟩
  rw[if_neg (fun h=>h.elim hA hB)]at hr
  have c2a:=hA
  have c2b:=hB
  clear hA hB
  by_cases hA:ix<1
  ·obtain rfl:r=12:=by rw[hr,if_pos (.inl hA)]
   clear hr
   go_enter Tryz.func38,Tryz.ntmps38
   go_wp2_with fail
   refine(FK.out _).mono ?_
   rintro e u ⟨rfl,rfl⟩
   go_wp2
   go_ret
   exact⟨rfl,(Off.refl _ w).alloc _⟩
  by_cases hB:255<ix
  ·obtain rfl:r=12:=by rw[hr,if_pos (.inr hB)]
   clear hr
   go_enter Tryz.func38,Tryz.ntmps38
   go_wp2_with fail
   refine(FK.out _).mono ?_
   rintro e u ⟨rfl,rfl⟩
   go_wp2
   go_ret
   exact⟨rfl,(Off.refl _ w).alloc _⟩
  rw[if_neg (fun h=>h.elim hA hB)]at hr
  have c1a:=hA
  have c1b:=hB
  clear hA hB
  by_cases hA:ln<0
  ·obtain rfl:r=6:=by rw[hr,if_pos (.inl hA)]
   clear hr
   go_enter Tryz.func38,Tryz.ntmps38
   go_wp2_with fail
   refine(FK.out _).mono ?_
   rintro e u ⟨rfl,rfl⟩
   go_wp2
   go_ret
   exact⟨rfl,(Off.refl _ w).alloc _⟩
  by_cases hB:65535<ln
  ·obtain rfl:r=6:=by rw[hr,if_pos (.inr hB)]
   clear hr
   go_enter Tryz.func38,Tryz.ntmps38
   go_wp2_with fail
   refine(FK.out _).mono ?_
   rintro e u ⟨rfl,rfl⟩
   go_wp2
   go_ret
   exact⟨rfl,(Off.refl _ w).alloc _⟩
  rw[if_neg (fun h=>h.elim hA hB)]at hr
  have c0a:=hA
  have c0b:=hB
  clear hA hB
  obtain⟨n,hn⟩:∃ n,n=pl.length:=⟨_,rfl⟩
  rw[<-hn]at hr hV ⊢
  obtain⟨k,hk2⟩:∃ k,k=cntI ln:=⟨_,rfl⟩
  rw[<-hk2]at hr FN hcb
  obtain⟨W0,hW0⟩:∃ W0,W0=w.alloc (.cells #[.int .i64 fd,.int .i64 th,.int .i64 ix,.int .i64 ln,.slice pa n pc] 45):=⟨_,rfl⟩
  have g0:W0.heap[w.heap.size]?=some (.cells #[.int .i64 fd,.int .i64 th,.int .i64 ix,.int .i64 ln,.slice pa n pc] 45 (0,0)):=by rw[hW0];exact heap_new' rfl _
  have HW0:=hid hW0
  have HO0:=hid (show Off (fun _=>False) w W0 by rw[hW0];exact(Off.refl _ w).alloc _)
  have HG1:=hid g0
  have HNl:=hid hn
  have HV:=hid hV
  clear hW0 g0 hk2 hn hV
  by_cases hnk:n=k
  ·subst hnk
   rw[if_neg (fun h=>h rfl)]at hr
   have hpp:=modN_pos hk
   obtain⟨p,hp⟩:∃ p,p=modN fd:=⟨_,rfl⟩
   have FM:=hid (fun W=>mod_modulus fd W)
   rw[<-hp]at FM hr hpp
   have HPp:=hid hpp
   have HRr:=hid hr
   have HPx:=hid hpx
   clear hr hp hpp hk hpx
   go_enter Tryz.func38,Tryz.ntmps38
   go_wp2_with fail
   refine(FK.out _).mono ?_
   rintro e u ⟨rfl,rfl⟩
   go_upto_region 9 with fail
   rw[<-HW0.out]
   obtain⟨x38,hx⟩:∃ x:Value,x=.pointer (some ⟨w.heap.size,4,none⟩):=⟨_,rfl⟩
   have X38:=hid hx
   clear hx
   obtain⟨x39,hx⟩:∃ x:Value,x=.slice pa n pc:=⟨_,rfl⟩
   have X39:=hid hx
   clear hx
   obtain⟨x40,hx⟩:∃ x:Value,x=.int .i64 n:=⟨_,rfl⟩
   have X40:=hid hx
   clear hx
   obtain⟨x41,hx⟩:∃ x:Value,x=.pointer (some ⟨w.heap.size,3,none⟩):=⟨_,rfl⟩
   have X41:=hid hx
   clear hx
   obtain⟨x42,hx⟩:∃ x:Value,x=.int .i64 ln:=⟨_,rfl⟩
   have X42:=hid hx
   clear hx
   obtain⟨x43,hx⟩:∃ x:Value,x=.int .i64 n:=⟨_,rfl⟩
   have X43:=hid hx
   clear hx
   obtain⟨x44,hx⟩:∃ x:Value,x=.bool false:=⟨_,rfl⟩
   have X44:=hid hx
   clear hx
   obtain⟨x37,hx⟩:∃ x:Value,x=.bool false:=⟨_,rfl⟩
   have X37:=hid hx
   clear hx
   refine wp_region_inv (fun a0 l a' w'=>a'=(Act.put (fill a0 38 [sel (l 0) x38 undef,sel (l 1) x39 undef,sel (l 2) x40 undef,sel (l 3) x41 undef,sel (l 4) x42 undef,sel (l 5) x43 undef,sel (l 6) x44 undef,undef,undef,undef,undef,undef,undef,undef,undef,undef,undef,undef,undef,undef,undef,undef,undef,undef,undef,undef,undef,undef,undef,undef]) (some 37) (sel (l 7) x37 (undef)))/\Off (fun _=>False) W0 w') (by kernel_rfl) (by kernel_rfl) ?_ ⟨?_,?_,?_,?_,?_,?_,?_,?_,trivial⟩ ?_
   ·refine⟨?_,(Off.refl _ W0).drew⟩
    simp only[XF,XP,sel_start]
   all_goals try (rintro l a wr ⟨ha,hO⟩ hl hd K' hK)
   ·as_aux_lemma =>
     have hx:=X38.out;subst hx
     simp only[XF,XP]at ha
     subst ha
     have hlq:=heap_lt (hO.heap HG1.out (fun c=>c))
     rw[if_pos (by rfl)]
     go_simp
     refine hK.out _ _ ⟨?_,hO⟩
     simp only[XF,XP,sel_new]
     rfl
   ·as_aux_lemma =>
     have d0:=hd 0 (by decide)
     have hx:=X38.out;subst hx
     have hx:=X39.out;subst hx
     simp only[XF,XP,sel_of d0]at ha
     subst ha
     have p0:=cell_of_heap (hO.heap HG1.out (fun c=>c)) 4
     rw[if_pos (by rfl)]
     go_simp
     refine hK.out _ _ ⟨?_,hO⟩
     simp only[XF,XP,sel_new,sel_dep d0]
     rfl
   ·as_aux_lemma =>
     have d1:=hd 1 (by decide)
     have hx:=X39.out;subst hx
     have hx:=X40.out;subst hx
     simp only[XF,XP,sel_of d1]at ha
     subst ha
     rw[if_pos (by rfl)]
     go_simp
     refine hK.out _ _ ⟨?_,hO⟩
     simp only[XF,XP,sel_new,sel_dep d1]
     rfl
   ·as_aux_lemma =>
     have hx:=X41.out;subst hx
     simp only[XF,XP]at ha
     subst ha
     have hlq:=heap_lt (hO.heap HG1.out (fun c=>c))
     rw[if_pos (by rfl)]
     go_simp
     refine hK.out _ _ ⟨?_,hO⟩
     simp only[XF,XP,sel_new]
     rfl
   ·as_aux_lemma =>
     have d3:=hd 3 (by decide)
     have hx:=X41.out;subst hx
     have hx:=X42.out;subst hx
     simp only[XF,XP,sel_of d3]at ha
     subst ha
     have p0:=cell_of_heap (hO.heap HG1.out (fun c=>c)) 3
     rw[if_pos (by rfl)]
     go_simp
     refine hK.out _ _ ⟨?_,hO⟩
     simp only[XF,XP,sel_new,sel_dep d3]
     rfl
   ·as_aux_lemma =>
     have d4:=hd 4 (by decide)
     have hx:=X42.out;subst hx
     have hx:=X43.out;subst hx
     simp only[XF,XP,sel_of d4]at ha
     subst ha
     rw[if_pos (by rfl)]
     go_simp
     refine(held_inv (FN.out wr) hO).mono ?_
     rintro e w1 ⟨rfl,hO1,hOW⟩
     go_wp2_with fail
     refine hK.out _ _ ⟨?_,hO1⟩
     simp only[XF,XP,sel_new,sel_dep d4]
     rfl
   ·as_aux_lemma =>
     have d2:=hd 2 (by decide)
     have d5:=hd 5 (by decide)
     have hx:=X40.out;subst hx
     have hx:=X43.out;subst hx
     have hx:=X44.out;subst hx
     simp only[XF,XP,sel_of d2,sel_of d5]at ha
     subst ha
     rw[if_pos (by rfl)]
     go_simp
     refine hK.out _ _ ⟨?_,hO⟩
     simp only[XF,XP,sel_new,sel_dep d2,sel_dep d5]
     rfl
   ·as_aux_lemma =>
     have d6:=hd 6 (by decide)
     have hx:=X44.out;subst hx
     have hx:=X37.out;subst hx
     simp only[XF,XP,sel_of d6]at ha
     subst ha
     rw[if_pos (by rfl)]
     go_simp
     refine hK.out _ _ ⟨?_,hO⟩
     simp only[XF,XP,sel_new,sel_dep d6]
     rfl
   rintro l a wc ⟨ha,hO⟩ hd
   simp only[XF,XP,sel_of (hd 0 (by decide)),sel_of (hd 1 (by decide)),sel_of (hd 2 (by decide)),sel_of (hd 3 (by decide)),sel_of (hd 4 (by decide)),sel_of (hd 5 (by decide)),sel_of (hd 6 (by decide)),sel_of (hd 7 (by decide))]at ha
   subst ha
   have hx:=X37.out;subst hx
   have HO1:=hid (HO0.out.trans hO (fun _ _ c=>c))
   obtain⟨W1,hW1⟩:∃ W1,W1=wc:=⟨_,rfl⟩
   rw[<-hW1]at hO ⊢
   have g1:=hO.heap HG1.out (fun c=>c)
   have HGA:=hid g1
   have p0:=cell_of_heap g1 0
   rw[<-hW1]at HO1
   have HOa:=hid hO
   clear hO hd hW1 g1
   go_wp2_with fail
   refine(FM.out _).mono ?_
   rintro e u ⟨rfl,hO⟩
   obtain⟨W2,hW2⟩:∃ W2,W2=u.alloc (.cells #[.int .u64 (wd p 0),.int .u64 (wd p 1),.int .u64 (wd p 2),.int .u64 (wd p 3)] 63):=⟨_,rfl⟩
   have hO2:Off (fun _=>False) W1 W2:=by rw[hW2];exact hO.alloc _
   have g2:W2.heap[u.heap.size]?=some (.cells #[.int .u64 (wd p 0),.int .u64 (wd p 1),.int .u64 (wd p 2),.int .u64 (wd p 3)] 63 (0,0)):=by rw[hW2];exact heap_new' rfl _
   have HO2:=hid (HO1.out.trans hO2 (fun _ _ c=>c))
   have HG3:=hid (hO2.heap HGA.out (fun c=>c))
   have HGp:=hid g2
   have HV2:=hid (HV.out.off HO2.out (fun _ _ _ c=>c))
   have HW2:=hid hW2
   clear hO hO2 g2 hW2 HV HGA HG1 p0
   go_wp2
   rw[<-HW2.out]
   go_loopw [4] (fun i wr=>∃ m:Nat,m<=n/\i=.int .i64 m/\(∀ x∈pl.take m,x<p)/\Off (fun _=>False) W2 wr) (fun i _=>n-(intOf i).toNat)
   case atStart=>exact⟨0,Nat.zero_le _,rfl,(fun x h=>by simp at h),Off.refl _ W2⟩
   case round =>
    obtain⟨m,hm,rfl,hall,hO⟩:=hrel
    have w2:IntKind.i64.wrap ((m:Int)+1)=(m:Int)+1:=by rw[IntKind.wrap_i64];omega
    have p0:=cell_of_heap (hO.heap HG3.out (fun c=>c)) 4
    by_cases hlt:m<n
    ·obtain⟨W3,hW3⟩:∃ W3,W3=wr:=⟨_,rfl⟩
     subst hW3
     obtain⟨xv,hx⟩:∃ xv,pl[m]?=some xv:=⟨_,List.getElem?_eq_getElem (by have:=HNl.out;omega)⟩
     have hxr:=HPx.out xv (List.mem_of_getElem? hx)
     obtain⟨eb,eo,rfl,hSb,hel⟩:=HV2.out.get hx
     have HK1:=hid (fun(W:World) (h:Off (fun _=>False) W3 W)=>(hel.off hO (fun c=>c)).off h (fun c=>c))
     have FS0:=fun W=>by have h:=mod_subtract p xv HPp.out.2 hxr 0 ⟨by omega,by omega⟩ W;rw[<-V_mod (redV p xv 0)]at h;exact h
     have hre:=red_eqP (show 0<p by have:=HPp.out.1;omega) hxr
     obtain⟨z,hz⟩:∃ z,z=redV p xv 0%R256:=⟨_,rfl⟩
     rw[<-hz]at FS0 hre
     have FS:=hid FS0
     have hq:=fun W=>equalIn_num hre.2 hxr W
     rw[hre.1]at hq
     obtain⟨bb,hbb⟩:∃ bb:Bool,bb=decide (xv<p):=⟨_,rfl⟩
     rw[<-hbb]at hq
     have HE1:=hid hq
     have HB:=hid hbb
     have HX:=hid hx
     have HAll:=hid hall
     have HO3:=hid hO
     have HG4:=hid (hO.heap HG3.out (fun c=>c))
     have HGq:=hid (hO.heap HGp.out (fun c=>c))
     have i2:(m:Int)<(n:Int):=by omega
     clear hx hxr hSb hel FS0 hre hz hq hbb hall hO hlt
     go_upto_region 15 with fail
     obtain⟨x55,hx⟩:∃ x:Value,x=V p:=⟨_,rfl⟩
     have X55:=hid hx
     clear hx
     obtain⟨x56,hx⟩:∃ x:Value,x=.pointer (some ⟨w.heap.size,4,none⟩):=⟨_,rfl⟩
     have X56:=hid hx
     clear hx
     obtain⟨x57,hx⟩:∃ x:Value,x=.slice (some ⟨eb,eo,none⟩) n pc:=⟨_,rfl⟩
     have X57:=hid hx
     clear hx
     obtain⟨x58,hx⟩:∃ x:Value,x=.int .i64 m:=⟨_,rfl⟩
     have X58:=hid hx
     clear hx
     obtain⟨x59,hx⟩:∃ x:Value,x=.pointer (some ⟨eb,eo+m*4,none⟩):=⟨_,rfl⟩
     have X59:=hid hx
     clear hx
     obtain⟨x60,hx⟩:∃ x:Value,x=V xv:=⟨_,rfl⟩
     have X60:=hid hx
     clear hx
     obtain⟨x61,hx⟩:∃ x:Value,x=V z:=⟨_,rfl⟩
     have X61:=hid hx
     clear hx
     obtain⟨x62,hx⟩:∃ x:Value,x=.pointer (some ⟨w.heap.size,4,none⟩):=⟨_,rfl⟩
     have X62:=hid hx
     clear hx
     obtain⟨x63,hx⟩:∃ x:Value,x=.slice (some ⟨eb,eo,none⟩) n pc:=⟨_,rfl⟩
     have X63:=hid hx
     clear hx
     obtain⟨x64,hx⟩:∃ x:Value,x=.int .i64 m:=⟨_,rfl⟩
     have X64:=hid hx
     clear hx
     obtain⟨x65,hx⟩:∃ x:Value,x=.pointer (some ⟨eb,eo+m*4,none⟩):=⟨_,rfl⟩
     have X65:=hid hx
     clear hx
     obtain⟨x66,hx⟩:∃ x:Value,x=V xv:=⟨_,rfl⟩
     have X66:=hid hx
     clear hx
     obtain⟨x67,hx⟩:∃ x:Value,x=.bool (!bb):=⟨_,rfl⟩
     have X67:=hid hx
     clear hx
     refine wp_region_inv (fun a0 l a' w'=>a'=(fill a0 55 [sel (l 0) x55 u55,sel (l 1) x56 u56,sel (l 2) x57 u57,sel (l 3) x58 u58,sel (l 4) x59 u59,sel (l 5) x60 u60,sel (l 6) x61 u61,sel (l 7) x62 u62,sel (l 8) x63 u63,sel (l 9) x64 u64,sel (l 10) x65 u65,sel (l 11) x66 u66,sel (l 12) x67 u67])/\Off (fun _=>False) W3 w') (by kernel_rfl) (by kernel_rfl) ?_ ⟨?_,?_,?_,?_,?_,?_,?_,?_,?_,?_,?_,?_,?_,trivial⟩ ?_
     ·refine⟨?_,(Off.refl _ W3).drew⟩
      simp only[XF,sel_start]
     all_goals try (rintro l a wr ⟨ha,hO⟩ hl hd K' hK)
     ·as_aux_lemma =>
       have hx:=X55.out;subst hx
       simp only[XF]at ha
       subst ha
       obtain⟨p0,p1,p2,p3⟩:=cells4 (hO.heap HGq.out (fun c=>c))
       have hlp:=heap_lt (hO.heap HGq.out (fun c=>c))
       rw[if_pos (by rfl)]
       go_simp
       refine hK.out _ _ ⟨?_,hO⟩
       simp only[XF,sel_new]
       rfl
     ·as_aux_lemma =>
       have hx:=X56.out;subst hx
       simp only[XF]at ha
       subst ha
       have hlq:=heap_lt (hO.heap HG4.out (fun c=>c))
       rw[if_pos (by rfl)]
       go_simp
       refine hK.out _ _ ⟨?_,hO⟩
       simp only[XF,sel_new]
       rfl
     ·as_aux_lemma =>
       have d1:=hd 1 (by decide)
       have hx:=X56.out;subst hx
       have hx:=X57.out;subst hx
       simp only[XF,sel_of d1]at ha
       subst ha
       have p0:=cell_of_heap (hO.heap HG4.out (fun c=>c)) 4
       rw[if_pos (by rfl)]
       go_simp
       refine hK.out _ _ ⟨?_,hO⟩
       simp only[XF,sel_new,sel_dep d1]
       rfl
     ·as_aux_lemma =>
       have hx:=X58.out;subst hx
       simp only[XF]at ha
       subst ha
       rw[if_pos (by rfl)]
       go_simp
       refine hK.out _ _ ⟨?_,hO⟩
       simp only[XF,sel_new]
       rfl
     ·as_aux_lemma =>
       have d2:=hd 2 (by decide)
       have d3:=hd 3 (by decide)
       have hx:=X57.out;subst hx
       have hx:=X58.out;subst hx
       have hx:=X59.out;subst hx
       simp only[XF,sel_of d2,sel_of d3]at ha
       subst ha
       rw[if_pos (by rfl)]
       go_simp
       refine hK.out _ _ ⟨?_,hO⟩
       simp only[XF,sel_new,sel_dep d2,sel_dep d3]
       rfl
     ·as_aux_lemma =>
       have d4:=hd 4 (by decide)
       have hx:=X59.out;subst hx
       have hx:=X60.out;subst hx
       simp only[XF,sel_of d4]at ha
       subst ha
       obtain⟨p0,p1,p2,p3⟩:=HK1.out wr hO
       rw[if_pos (by rfl)]
       go_simp
       refine hK.out _ _ ⟨?_,hO⟩
       simp only[XF,sel_new,sel_dep d4]
       rfl
     ·as_aux_lemma =>
       have d0:=hd 0 (by decide)
       have d5:=hd 5 (by decide)
       have hx:=X55.out;subst hx
       have hx:=X60.out;subst hx
       have hx:=X61.out;subst hx
       simp only[XF,sel_of d0,sel_of d5]at ha
       subst ha
       rw[if_pos (by rfl)]
       go_simp
       refine(held_inv (FS.out wr) hO).mono ?_
       rintro e w1 ⟨rfl,hO1,hOW⟩
       go_wp2_with fail
       refine hK.out _ _ ⟨?_,hO1⟩
       simp only[XF,sel_new,sel_dep d0,sel_dep d5]
       rfl
     ·as_aux_lemma =>
       have hx:=X62.out;subst hx
       simp only[XF]at ha
       subst ha
       have hlq:=heap_lt (hO.heap HG4.out (fun c=>c))
       rw[if_pos (by rfl)]
       go_simp
       refine hK.out _ _ ⟨?_,hO⟩
       simp only[XF,sel_new]
       rfl
     ·as_aux_lemma =>
       have d7:=hd 7 (by decide)
       have hx:=X62.out;subst hx
       have hx:=X63.out;subst hx
       simp only[XF,sel_of d7]at ha
       subst ha
       have p0:=cell_of_heap (hO.heap HG4.out (fun c=>c)) 4
       rw[if_pos (by rfl)]
       go_simp
       refine hK.out _ _ ⟨?_,hO⟩
       simp only[XF,sel_new,sel_dep d7]
       rfl
     ·as_aux_lemma =>
       have hx:=X64.out;subst hx
       simp only[XF]at ha
       subst ha
       rw[if_pos (by rfl)]
       go_simp
       refine hK.out _ _ ⟨?_,hO⟩
       simp only[XF,sel_new]
       rfl
     ·as_aux_lemma =>
       have d8:=hd 8 (by decide)
       have d9:=hd 9 (by decide)
       have hx:=X63.out;subst hx
       have hx:=X64.out;subst hx
       have hx:=X65.out;subst hx
       simp only[XF,sel_of d8,sel_of d9]at ha
       subst ha
       rw[if_pos (by rfl)]
       go_simp
       refine hK.out _ _ ⟨?_,hO⟩
       simp only[XF,sel_new,sel_dep d8,sel_dep d9]
       rfl
     ·as_aux_lemma =>
       have d10:=hd 10 (by decide)
       have hx:=X65.out;subst hx
       have hx:=X66.out;subst hx
       simp only[XF,sel_of d10]at ha
       subst ha
       obtain⟨p0,p1,p2,p3⟩:=HK1.out wr hO
       rw[if_pos (by rfl)]
       go_simp
       refine hK.out _ _ ⟨?_,hO⟩
       simp only[XF,sel_new,sel_dep d10]
       rfl
     ·as_aux_lemma =>
       have d6:=hd 6 (by decide)
       have d11:=hd 11 (by decide)
       have hx:=X61.out;subst hx
       have hx:=X66.out;subst hx
       have hx:=X67.out;subst hx
       simp only[XF,sel_of d6,sel_of d11]at ha
       subst ha
       have e1:=HE1.out
       rw[if_pos (by rfl)]
       go_simp
       refine hK.out _ _ ⟨?_,hO⟩
       simp only[XF,sel_new,sel_dep d6,sel_dep d11]
       rfl
     rintro l a wc ⟨ha,hO⟩ hd
     simp only[XF,sel_of (hd 0 (by decide)),sel_of (hd 1 (by decide)),sel_of (hd 2 (by decide)),sel_of (hd 3 (by decide)),sel_of (hd 4 (by decide)),sel_of (hd 5 (by decide)),sel_of (hd 6 (by decide)),sel_of (hd 7 (by decide)),sel_of (hd 8 (by decide)),sel_of (hd 9 (by decide)),sel_of (hd 10 (by decide)),sel_of (hd 11 (by decide)),sel_of (hd 12 (by decide))]at ha
     subst ha
     have hx:=X67.out;subst hx
     have HO4:=hid (HO3.out.trans hO (fun _ _ c=>c))
     clear hO hd
     by_cases hxp:xv<p
     ·obtain rfl:bb=true:=by rw[HB.out];exact decide_eq_true hxp
      go_wp2
      go_roundw
      case rel=>exact⟨m+1,by omega,by simp,take_all HAll.out HX.out hxp,HO4.out⟩
      case measure=>simp[intOf];omega
     obtain rfl:bb=false:=by rw[HB.out];exact decide_eq_false hxp
     have h9:r=9:=by rw[HRr.out];exact if_neg (fun h=>hxp (h xv (List.mem_of_getElem? HX.out)))
     go_wp2
     exact bodyPost_ret (v:=.int .i64 9) (by simp[results,Tryz.results38,go_sem]) rfl ⟨rfl,HO2.out.trans HO4.out (fun _ _ c=>c)⟩
    obtain rfl:m=n:=by omega
    have i2:¬(m:Int)<(m:Int):=by omega
    have h0:r=0:=by rw[HRr.out];exact if_pos (fun x h=>hall x (by rw[HNl.out,List.take_length];exact h))
    have HO3:=hid hO
    clear hO hall
    go_wp2
    exact bodyPost_ret (v:=.int .i64 0) (by simp[results,Tryz.results38,go_sem]) rfl ⟨rfl,HO2.out.trans HO3.out (fun _ _ c=>c)⟩
  have h8:r=8:=by rw[hr];exact if_pos hnk
  have hne:((n:Int) != (k:Int))=true:=by simp;omega
  have hne2:¬(n:Int)=(k:Int):=by omega
  subst h8
  clear hr hpx hk HV hnk
  go_enter Tryz.func38,Tryz.ntmps38
  go_wp2_with fail
  refine(FK.out _).mono ?_
  rintro e u ⟨rfl,rfl⟩
  go_upto_region 9 with fail
  rw[<-HW0.out]
  obtain⟨x38,hx⟩:∃ x:Value,x=.pointer (some ⟨w.heap.size,4,none⟩):=⟨_,rfl⟩
  have X38:=hid hx
  clear hx
  obtain⟨x39,hx⟩:∃ x:Value,x=.slice pa n pc:=⟨_,rfl⟩
  have X39:=hid hx
  clear hx
  obtain⟨x40,hx⟩:∃ x:Value,x=.int .i64 n:=⟨_,rfl⟩
  have X40:=hid hx
  clear hx
  obtain⟨x41,hx⟩:∃ x:Value,x=.pointer (some ⟨w.heap.size,3,none⟩):=⟨_,rfl⟩
  have X41:=hid hx
  clear hx
  obtain⟨x42,hx⟩:∃ x:Value,x=.int .i64 ln:=⟨_,rfl⟩
  have X42:=hid hx
  clear hx
  obtain⟨x43,hx⟩:∃ x:Value,x=.int .i64 k:=⟨_,rfl⟩
  have X43:=hid hx
  clear hx
  obtain⟨x44,hx⟩:∃ x:Value,x=.bool true:=⟨_,rfl⟩
  have X44:=hid hx
  clear hx
  obtain⟨x37,hx⟩:∃ x:Value,x=.bool true:=⟨_,rfl⟩
  have X37:=hid hx
  clear hx
  refine wp_region_inv (fun a0 l a' w'=>a'=(Act.put (fill a0 38 [sel (l 0) x38 undef,sel (l 1) x39 undef,sel (l 2) x40 undef,sel (l 3) x41 undef,sel (l 4) x42 undef,sel (l 5) x43 undef,sel (l 6) x44 undef,undef,undef,undef,undef,undef,undef,undef,undef,undef,undef,undef,undef,undef,undef,undef,undef,undef,undef,undef,undef,undef,undef,undef]) (some 37) (sel (l 7) x37 (undef)))/\Off (fun _=>False) W0 w') (by kernel_rfl) (by kernel_rfl) ?_ ⟨?_,?_,?_,?_,?_,?_,?_,?_,trivial⟩ ?_
  ·refine⟨?_,(Off.refl _ W0).drew⟩
   simp only[XF,XP,sel_start]
  all_goals try (rintro l a wr ⟨ha,hO⟩ hl hd K' hK)
  ·as_aux_lemma =>
    have hx:=X38.out;subst hx
    simp only[XF,XP]at ha
    subst ha
    have hlq:=heap_lt (hO.heap HG1.out (fun c=>c))
    rw[if_pos (by rfl)]
    go_simp
    refine hK.out _ _ ⟨?_,hO⟩
    simp only[XF,XP,sel_new]
    rfl
  ·as_aux_lemma =>
    have d0:=hd 0 (by decide)
    have hx:=X38.out;subst hx
    have hx:=X39.out;subst hx
    simp only[XF,XP,sel_of d0]at ha
    subst ha
    have p0:=cell_of_heap (hO.heap HG1.out (fun c=>c)) 4
    rw[if_pos (by rfl)]
    go_simp
    refine hK.out _ _ ⟨?_,hO⟩
    simp only[XF,XP,sel_new,sel_dep d0]
    rfl
  ·as_aux_lemma =>
    have d1:=hd 1 (by decide)
    have hx:=X39.out;subst hx
    have hx:=X40.out;subst hx
    simp only[XF,XP,sel_of d1]at ha
    subst ha
    rw[if_pos (by rfl)]
    go_simp
    refine hK.out _ _ ⟨?_,hO⟩
    simp only[XF,XP,sel_new,sel_dep d1]
    rfl
  ·as_aux_lemma =>
    have hx:=X41.out;subst hx
    simp only[XF,XP]at ha
    subst ha
    have hlq:=heap_lt (hO.heap HG1.out (fun c=>c))
    rw[if_pos (by rfl)]
    go_simp
    refine hK.out _ _ ⟨?_,hO⟩
    simp only[XF,XP,sel_new]
    rfl
  ·as_aux_lemma =>
    have d3:=hd 3 (by decide)
    have hx:=X41.out;subst hx
    have hx:=X42.out;subst hx
    simp only[XF,XP,sel_of d3]at ha
    subst ha
    have p0:=cell_of_heap (hO.heap HG1.out (fun c=>c)) 3
    rw[if_pos (by rfl)]
    go_simp
    refine hK.out _ _ ⟨?_,hO⟩
    simp only[XF,XP,sel_new,sel_dep d3]
    rfl
  ·as_aux_lemma =>
    have d4:=hd 4 (by decide)
    have hx:=X42.out;subst hx
    have hx:=X43.out;subst hx
    simp only[XF,XP,sel_of d4]at ha
    subst ha
    rw[if_pos (by rfl)]
    go_simp
    refine(held_inv (FN.out wr) hO).mono ?_
    rintro e w1 ⟨rfl,hO1,hOW⟩
    go_wp2_with fail
    refine hK.out _ _ ⟨?_,hO1⟩
    simp only[XF,XP,sel_new,sel_dep d4]
    rfl
  ·as_aux_lemma =>
    have d2:=hd 2 (by decide)
    have d5:=hd 5 (by decide)
    have hx:=X40.out;subst hx
    have hx:=X43.out;subst hx
    have hx:=X44.out;subst hx
    simp only[XF,XP,sel_of d2,sel_of d5]at ha
    subst ha
    rw[if_pos (by rfl)]
    go_simp
    refine hK.out _ _ ⟨?_,hO⟩
    simp only[XF,XP,sel_new,sel_dep d2,sel_dep d5]
    rfl
  ·as_aux_lemma =>
    have d6:=hd 6 (by decide)
    have hx:=X44.out;subst hx
    have hx:=X37.out;subst hx
    simp only[XF,XP,sel_of d6]at ha
    subst ha
    rw[if_pos (by rfl)]
    go_simp
    refine hK.out _ _ ⟨?_,hO⟩
    simp only[XF,XP,sel_new,sel_dep d6]
    rfl
  rintro l a wc ⟨ha,hO⟩ hd
  simp only[XF,XP,sel_of (hd 0 (by decide)),sel_of (hd 1 (by decide)),sel_of (hd 2 (by decide)),sel_of (hd 3 (by decide)),sel_of (hd 4 (by decide)),sel_of (hd 5 (by decide)),sel_of (hd 6 (by decide)),sel_of (hd 7 (by decide))]at ha
  subst ha
  have hx:=X37.out;subst hx
  have HO1:=hid (HO0.out.trans hO (fun _ _ c=>c))
  clear hO hd
  go_wp2
  go_ret
  exact⟨rfl,HO1.out⟩
 obtain rfl:r=3:=by rw[hr,if_pos hk]
 rw[show decide (Kn fd)=false from decide_eq_false hk]at FK
 clear hr hk
 go_enter Tryz.func38,Tryz.ntmps38
 go_wp2_with fail
 refine(FK.out _).mono ?_
 rintro e u ⟨rfl,rfl⟩
 go_wp2
 go_ret
 exact⟨rfl,(Off.refl _ w).alloc _⟩
end
section
open Go.RowKit
attribute [local go_sem ↓] Go.wp_at_zero Go.wp_at_succ
set_option maxRecDepth 100000
set_option maxHeartbeats 4000000
def lrg17 (l:List Sh):Nat:=if 12<l.length\/∃ s∈l,4<s.pl.length then 1 else 0
theorem lrg17_zero {l:List Sh} (h:lrg17 l=0):l.length<=12/\∀ s∈l,s.pl.length<=4:=by
 unfold lrg17 at h
 have hn:¬(12<l.length\/∃ s∈l,4<s.pl.length):=fun c=>by rw[if_pos c]at h;exact absurd h (by decide)
 refine⟨by omega,fun s hs=>?_⟩
 have:¬4<s.pl.length:=fun c=>hn (.inr ⟨s,hs,c⟩)
 omega
theorem lrg17_cases (l:List Sh):lrg17 l=0\/lrg17 l=1:=by unfold lrg17;split <;> simp
theorem large17_any (l:List Sh) (a:Option Addr) (n cap:Nat) (hn:n=l.length) (S:Nat->Prop) (w:World) (h:ShsAt w (.slice a n cap) l S) :
  Calls Tryz.prog 9 #[.slice a n cap] w fun e w'=>e=.returned (.int .i64 (lrg17 l:Int))/\Off (fun _=>False) w w':=by
 obtain⟨c,hc⟩:∃ c,c=lrg17 l:=⟨_,rfl⟩
 rw[<-hc]
 have hmax:n<=maxLen:=by
  obtain⟨_,_,e,_,h1,_⟩:=h
  simp at e;omega
 unfold maxLen at hmax
 have HN:=hid hn
 have HC:=hid hc
 have HL:=hid h
 clear hn hc h
 by_cases hmany:12<n
 ·have HB:=hid (show c=1 by rw[HC.out];unfold lrg17;exact if_pos (.inl (HN.out▸hmany)))
  have b2:decide ((12:Int)<(n:Int))=true:=decide_eq_true (by omega)
  go_enter Tryz.func9,Tryz.ntmps9
  go_wp2
  go_ret
  exact⟨by rw[HB.out];rfl,Off.refl _ _⟩
 have b2:decide ((12:Int)<(n:Int))=false:=decide_eq_false (by omega)
 go_enter Tryz.func9,Tryz.ntmps9
 go_wp2_with fail
 go_loopw [10] (fun i wr=>∃ k:Nat,k<=n/\i=.int .i64 k/\(∀ s∈l.take k,s.pl.length<=4)/\Off (fun _=>False) w wr) (fun i _=>n-(intOf i).toNat)
 case atStart=>exact⟨0,Nat.zero_le _,rfl,(fun s h=>by simp at h),Off.refl _ _⟩
 case round =>
  obtain⟨k,hk,rfl,ht,hO⟩:=hrel
  by_cases hlt:k<n
  ·obtain⟨s,b,off,hx,hok,rfl,_,c0,c1,c2,c3,pa,pc,c4,hpc,hV⟩:=(HL.out.off hO (fun _ _ _ c=>c)).at hlt
   have hlb:b<wr.heap.size:=World.block_lt_of_cell? wr _ c0
   obtain⟨m,hm⟩:∃ m,m=s.pl.length:=⟨_,rfl⟩
   rw[<-hm]at c4
   have w3:IntKind.i64.wrap ((k:Int)+1)=(k:Int)+1:=by rw[IntKind.wrap_i64];omega
   have hkn:(k:Int)<(n:Int):=by omega
   have HO:=hid hO
   have HM:=hid (show s∈l/\s.pl.length=m from⟨List.mem_of_getElem? hx,hm.symm⟩)
   have HT:=hid (show m<=4->∀ s∈l.take (k+1),s.pl.length<=4 from fun h4 t h=>by
    rw[List.take_add_one,hx]at h
    rcases List.mem_append.1 h with h | h
    ·exact ht t h
    simp at h;subst h;omega)
   obtain⟨fd,th,ix,ln,pl⟩:=s
   dsimp only at c0 c1 c2 c3 c4
   clear hx hok hV hpc hm hO ht
   by_cases hbig:4<m
   ·have HB:=hid (show c=1 by rw[HC.out];unfold lrg17;exact if_pos (.inr ⟨_,HM.out.1,by rw[HM.out.2];exact hbig⟩))
    have b1:decide ((4:Int)<(m:Int))=true:=decide_eq_true (by omega)
    clear hk
    go_wp2
    refine bodyPost_ret (results_tmp rfl _ _ _) rfl ?_
    exact⟨by rw[HB.out];rfl,HO.out.alloc _⟩
   have b1:decide ((4:Int)<(m:Int))=false:=decide_eq_false (by omega)
   have HT2:=hid (HT.out (by omega))
   have HK:=hid hlt
   clear hk hlt
   go_wp2
   go_roundw
   case rel=>exact⟨k+1,HK.out,by simp,HT2.out,HO.out.alloc _⟩
   case measure=>simp[intOf];have:=HK.out;omega
  obtain rfl:n=k:=by omega
  rw[List.take_of_length_le (by rw[<-HN.out];exact Nat.le_refl _)]at ht
  have HB:=hid (show c=0 by
   rw[HC.out];unfold lrg17
   refine if_neg (fun h=>?_)
   rcases h with h | ⟨s,hs,h⟩
   ·rw[<-HN.out]at h;omega
   have:=ht s hs;omega)
  have hnn:¬(n:Int)<(n:Int):=by omega
  have HO:=hid hO
  clear ht hO
  go_wp2
  refine bodyPost_ret (results_tmp rfl _ _ _) rfl ?_
  exact⟨by rw[HB.out];rfl,HO.out⟩
end
section
open Go.RowKit
attribute [local go_sem ↓] Go.wp_at_zero Go.wp_at_succ
set_option maxRecDepth 100000
set_option maxHeartbeats 4000000
theorem Off.drewP {S:Nat->Prop} {a w:World} (h:Off S a w) (q:Nat):Off S a (w.drewN q):=⟨h.os,h.tape,h.output,h.size,h.block,h.others⟩
theorem ne_of_idx {l:List Sh} {m k:Nat} {s t:Sh} (hk:k<m) (hs:l[m]?=some s) (ht:l[k]?=some t) (e:s.ix=t.ix):¬(ixs l).Nodup :=
 fun h=>nodup_ix.1 h m k s t hk hs ht e
theorem refshares_any (l:List Sh) (a:Option Addr) (n cap:Nat) (hn:n=l.length) (S:Nat->Prop) (w:World) (h:ShsAt w (.slice a n cap) l S) :
  Calls Tryz.prog 12 #[.slice a n cap] w fun e w'=>e=.returned (.int .i64 (shsN l:Int))/\Off (fun _=>False) w w':=by
 obtain⟨c,hc⟩:∃ c,c=shsN l:=⟨_,rfl⟩
 rw[<-hc]
 have hmax:n<=maxLen:=by
  obtain⟨_,_,e,_,h1,_⟩:=h
  simp at e;omega
 unfold maxLen at hmax
 have HN:=hid hn
 have HC:=hid hc
 have HL:=hid h
 clear hn hc h
 go_enter Tryz.func12,Tryz.ntmps12
 go_wp2_with fail
 go_loopw [3] (fun i wr=>∃ k:Nat,k<=n/\i=.int .i64 k/\firstE (l.take k)=0/\Off (fun _=>False) w wr) (fun i _=>n-(intOf i).toNat)
 case atStart=>exact⟨0,Nat.zero_le _,rfl,rfl,Off.refl _ _⟩
 case round =>
  obtain⟨k,hk,rfl,hr,hO⟩:=hrel
  by_cases hlt:k<n
  ·have w2:IntKind.i64.wrap ((k:Int)+1)=(k:Int)+1:=by rw[IntKind.wrap_i64];omega
   obtain⟨s,b,off,hx,hok,rfl,_,c0,c1,c2,c3,pa,pc,c4,hpc,hV⟩:=(HL.out.off hO (fun _ _ _ c=>c)).at hlt
   have FC:=hid (refshare_any s hok pa pc _ _ hV)
   obtain⟨r,hr2⟩:∃ r,r=shN s:=⟨_,rfl⟩
   rw[<-hr2]at FC
   unfold Sh.val at FC
   have HX:=hid hx
   have HR:=hid hr
   have HR2:=hid hr2
   have HO:=hid hO
   have hkn:(k:Int)<(n:Int):=by omega
   obtain⟨fd,th,ix,ln,pl⟩:=s
   dsimp only at FC c0 c1 c2 c3 c4
   clear hx hr hr2 hO hok hV hpc
   go_wp2_with fail
   refine FC.out.mono ?_
   rintro e u ⟨rfl,hO⟩
   have HO2:=hid (HO.out.trans hO (fun _ _ c=>c))
   clear hO FC c0 c1 c2 c3 c4
   by_cases h0:r=0
   ·have HF:=hid ((firstE_cut HR.out HX.out).1.trans (HR2.out.symm.trans h0))
    subst h0
    go_wp2
    go_roundw
    case rel=>exact⟨k+1,by omega,by simp,HF.out,HO2.out⟩
    case measure=>simp[intOf];omega
   have HF:=hid (show c=r by rw[HC.out,HR2.out];exact shsN_err ((firstE_cut HR.out HX.out).2 (by rw[<-HR2.out];exact h0)) (by rw[<-HR2.out];exact h0))
   have hr0:¬((r:Int)=0):=by omega
   go_wp2
   refine bodyPost_ret (results_tmp rfl _ _ _) rfl ?_
   exact⟨by rw[HF.out];rfl,HO2.out⟩
  obtain rfl:n=k:=by omega
  rw[List.take_of_length_le (by rw[<-HN.out];exact Nat.le_refl _)]at hr
  have HR0:=hid hr
  have HO:=hid hO
  have hnn:¬(n:Int)<(n:Int):=by omega
  clear hr hO
  go_wp2
  go_loopw [5] (fun i wr=>∃ k:Nat,1<=k/\(k<=n\/n=0)/\i=.int .i64 k/\(∀ (j:Nat) (s t:Sh),j<k->l[j]?=some s->l[0]?=some t->SameH s t)/\Off (fun _=>False) w wr) (fun i _=>n-(intOf i).toNat)
  case atStart=>exact⟨1,Nat.le_refl _,by omega,rfl,(fun j s t hj hs ht=>by obtain rfl:j=0:=(by omega);rw[hs]at ht;cases ht;exact⟨rfl,rfl,rfl⟩),HO.out⟩
  case round =>
   clear hnn
   obtain⟨k,h1k,hk,rfl,hr,hO⟩:=hrel
   by_cases hlt:k<n
   ·have w2:IntKind.i64.wrap ((k:Int)+1)=(k:Int)+1:=by rw[IntKind.wrap_i64];omega
    obtain⟨s,b,off,hx,hok,rfl,_,c0,c1,c2,c3,pa,pc,c4,hpc,hV⟩:=(HL.out.off hO (fun _ _ _ c=>c)).at hlt
    obtain⟨t,b',off',hy,_,e',_,hz⟩:=(HL.out.off hO (fun _ _ _ c=>c)).at (show 0<n by omega)
    cases e'
    obtain⟨z0,z1,z2,z3,_,_,z4,_,_⟩:=hz.zero
    have HX:=hid hx
    have HY:=hid hy
    have HR:=hid hr
    have HO:=hid hO
    have hkn:(k:Int)<(n:Int):=by omega
    have hn0:0<n:=by omega
    have hn0':(0:Int)<(n:Int):=by omega
    clear hx hy hr hO hok hV hpc hz h1k
    obtain⟨fd,th,ix,ln,pl⟩:=s
    obtain⟨fd',th',ix',ln',pl'⟩:=t
    dsimp only at c0 c1 c2 c3 c4 z0 z1 z2 z3 z4
    by_cases h1:fd=fd'
    ·have q1:(fd != fd')=false:=by simp[h1]
     by_cases h2:th=th'
     ·have q2:(th != th')=false:=by simp[h2]
      by_cases h3:ln=ln'
      ·have q3:(ln != ln')=false:=by simp[h3]
       have HS:=hid (show SameH ⟨fd,th,ix,ln,pl⟩ ⟨fd',th',ix',ln',pl'⟩ from⟨h1,h2,h3⟩)
       clear h1 h2 h3
       go_wp2
       go_quiet (fail)
       go_wp2
       go_roundw
       case rel=>exact⟨k+1,by omega,by omega,by simp,(fun j s t hj hs ht=>by
        by_cases hjk:j<k
        ·exact HR.out j s t hjk hs ht
        obtain rfl:j=k:=(by omega)
        rw[HX.out]at hs;rw[HY.out]at ht;cases hs;cases ht;exact HS.out),HO.out.drewP _⟩
       case measure=>simp[intOf];omega
      have q3:(ln != ln')=true:=by simp[h3]
      have HB:=hid (show c=14 by rw[HC.out];exact shsN_mix HR0.out (fun h=>h3 ((oneH_of HY.out).1 h _ _ HX.out).2.2))
      go_wp2
      go_quiet (fail)
      go_wp2
      refine bodyPost_ret (results_tmp rfl _ _ _) rfl ?_
      exact⟨by rw[HB.out];rfl,HO.out.drewP _⟩
     have q2:(th != th')=true:=by simp[h2]
     have HB:=hid (show c=14 by rw[HC.out];exact shsN_mix HR0.out (fun h=>h2 ((oneH_of HY.out).1 h _ _ HX.out).2.1))
     go_wp2
     go_quiet (fail)
     go_wp2
     refine bodyPost_ret (results_tmp rfl _ _ _) rfl ?_
     exact⟨by rw[HB.out];rfl,HO.out.drewP _⟩
    have q1:(fd != fd')=true:=by simp[h1]
    have HB:=hid (show c=14 by rw[HC.out];exact shsN_mix HR0.out (fun h=>h1 ((oneH_of HY.out).1 h _ _ HX.out).1))
    go_wp2
    go_quiet (fail)
    go_wp2
    refine bodyPost_ret (results_tmp rfl _ _ _) rfl ?_
    exact⟨by rw[HB.out];rfl,HO.out.drewP _⟩
   have HH:=hid (show OneH l by
    by_cases h0:n=0
    ·have:l=[]:=List.length_eq_zero_iff.1 (by rw[<-HN.out];exact h0)
     subst this
     exact fun _ h=>by simp at h
    obtain⟨t,ht⟩:∃ t,l[0]?=some t:=⟨_,List.getElem?_eq_getElem (by rw[<-HN.out];omega)⟩
    exact(oneH_of ht).2 (fun j s hj=>hr j s t (by have:=(List.getElem?_eq_some_iff.1 hj).1;rw[<-HN.out]at this;omega) hj ht))
   have HO:=hid hO
   have hkn:¬(k:Int)<(n:Int):=by omega
   clear hr hO
   go_wp2
   go_loopw [6] (fun i wr=>∃ m:Nat,m<=n/\i=.int .i64 m/\(∀ (j q:Nat) (s t:Sh),q<j->j<m->l[j]?=some s->l[q]?=some t->s.ix≠t.ix)/\Off (fun _=>False) w wr) (fun i _=>n-(intOf i).toNat)
   case atStart=>exact⟨0,Nat.zero_le _,rfl,(fun _ _ _ _ _ h=>absurd h (Nat.not_lt_zero _)),HO.out⟩
   case round =>
    clear hkn hlt hk h1k
    obtain⟨m,hm,rfl,hr,hO⟩:=hrel
    by_cases hlt:m<n
    ·obtain⟨s,b,off,hx,_,rfl,_,_⟩:=(HL.out.off hO (fun _ _ _ c=>c)).at hlt
     have HX:=hid hx
     have HR:=hid hr
     have HO:=hid hO
     have hmn:(m:Int)<(n:Int):=by omega
     have w2:IntKind.i64.wrap ((m:Int)+1)=(m:Int)+1:=by rw[IntKind.wrap_i64];omega
     clear hx hr hO
     go_wp2
     go_loopw [7] (fun i wr=>∃ q:Nat,q<=m/\i=.int .i64 q/\(∀ (j:Nat) (t:Sh),j<q->l[j]?=some t->s.ix≠t.ix)/\Off (fun _=>False) w wr) (fun i _=>m-(intOf i).toNat)
     case atStart=>exact⟨0,Nat.zero_le _,rfl,(fun _ _ h=>absurd h (Nat.not_lt_zero _)),HO.out⟩
     case round =>
      obtain⟨q,hq,rfl,hno,hO⟩:=hrel
      by_cases hlt2:q<m
      ·obtain⟨s',b',off',hx',_,e1,_,_,_,c2,_⟩:=(HL.out.off hO (fun _ _ _ c=>c)).at hlt
       obtain⟨t,b2,off2,hy,_,e2,_,_,_,d2,_⟩:=(HL.out.off hO (fun _ _ _ c=>c)).at (show q<n by omega)
       rw[HX.out]at hx'
       cases hx'
       cases e1
       cases e2
       have HY:=hid hy
       have HNt:=hid hno
       have HO:=hid hO
       have hqm:(q:Int)<(m:Int):=by omega
       have hqn:(q:Int)<(n:Int):=by omega
       have w3:IntKind.i64.wrap ((q:Int)+1)=(q:Int)+1:=by rw[IntKind.wrap_i64];omega
       obtain⟨x,hx2⟩:∃ x,x=s.ix:=⟨_,rfl⟩
       obtain⟨y,hy2⟩:∃ y,y=t.ix:=⟨_,rfl⟩
       rw[<-hx2]at c2
       rw[<-hy2]at d2
       have HX2:=hid hx2
       have HY2:=hid hy2
       clear hy hno hO hx2 hy2
       by_cases h1:x=y
       ·have HB:=hid (show c=15 by rw[HC.out];exact shsN_dup HR0.out HH.out (ne_of_idx hlt2 HX.out HY.out (by rw[<-HX2.out,<-HY2.out];exact h1)))
        have hxy:(x==y)=true:=by simp[h1]
        go_wp2
        go_quiet (fail)
        go_wp2
        refine bodyPost_ret (results_tmp rfl _ _ _) rfl ?_
        exact⟨by rw[HB.out];rfl,HO.out.drewP _⟩
       have hxy:(x==y)=false:=by simp[h1]
       have HNe:=hid h1
       clear h1
       go_wp2
       go_quiet (fail)
       go_wp2
       go_roundw
       case rel=>exact⟨q+1,by omega,by simp,(fun j t' hj ht=>by
        by_cases hjq:j<q
        ·exact HNt.out j t' hjq ht
        obtain rfl:j=q:=(by omega)
        rw[HY.out]at ht;cases ht;rw[<-HX2.out,<-HY2.out];exact HNe.out),HO.out.drewP _⟩
       case measure=>simp[intOf];omega
      obtain rfl:q=m:=by omega
      have HNt:=hid hno
      have HO:=hid hO
      have hqq:¬(q:Int)<(q:Int):=by omega
      clear hno hO hlt2
      go_wp2
      go_roundw
      case rel=>exact⟨q+1,by omega,by simp,(fun j p s' t hp hj hs ht=>by
       by_cases hjq:j<q
       ·exact HR.out j p s' t hp hjq hs ht
       obtain rfl:j=q:=(by omega)
       rw[HX.out]at hs;cases hs;exact HNt.out p t hp ht),HO.out⟩
      case measure=>simp[intOf];omega
    obtain rfl:m=n:=by omega
    have HD:=hid (show(ixs l).Nodup from nodup_ix.2 (fun j q s t hq hj ht=>hr j q s t hq (by have:=(List.getElem?_eq_some_iff.1 hj).1;rw[<-HN.out]at this;exact this) hj ht))
    have HO:=hid hO
    have hmm:¬(m:Int)<(m:Int):=by omega
    by_cases h0:m=0
    ·have HB:=hid (show c=16 by
      have:l=[]:=List.length_eq_zero_iff.1 (by rw[<-HN.out];exact h0)
      rw[HC.out,this];exact shsN_nil)
     subst h0
     have q0:decide ((0:Int)=0)=true:=rfl
     clear hr hO
     go_wp2
     refine bodyPost_ret (results_tmp rfl _ _ _) rfl ?_
     exact⟨by rw[HB.out];rfl,HO.out⟩
    obtain⟨t,b,off,hy,_,rfl,_,hz⟩:=(HL.out.off hO (fun _ _ _ c=>c)).at (show 0<m by omega)
    obtain⟨z0,z1,z2,z3,_,_,z4,_,_⟩:=hz.zero
    have HB:=hid (show c=if (m:Int)<t.th then 16 else 0 by rw[HC.out,HN.out];exact shsN_end HR0.out HH.out HD.out hy)
    obtain⟨fd,th,ix,ln,pl⟩:=t
    dsimp only at z0 z1 z2 z3 z4 HB
    have q0:decide ((m:Int)=0)=false:=decide_eq_false (by omega)
    have hp0:(0:Int)<(m:Int):=by omega
    clear hr hO hy hz h0
    by_cases hth:(m:Int)<th
    ·have q1:decide ((m:Int)<th)=true:=decide_eq_true hth
     rw[if_pos hth]at HB
     go_wp2
     refine bodyPost_ret (results_tmp rfl _ _ _) rfl ?_
     exact⟨by rw[HB.out];rfl,HO.out⟩
    have q1:decide ((m:Int)<th)=false:=decide_eq_false hth
    rw[if_neg hth]at HB
    go_wp2
    refine bodyPost_ret (results_tmp rfl _ _ _) rfl ?_
    exact⟨by rw[HB.out];rfl,HO.out⟩
end
section
open Go.RowKit
set_option maxRecDepth 100000
theorem iE_small:∀ n<13,(iE n).length<=1400:=by decide +kernel
theorem iE_less:∀ n<8,(iE n).length<=1200:=by decide +kernel
theorem al_small {n:Nat} (hn:n<13) (T:Int) {c:Nat} (hc:c<8):(alE n T c).length<=9898:=by
 rw[alE_len]
 have h1:=iE_small n hn
 have h2:=blE_le n T
 have h3:(ftE n T).length<=1412:=by unfold ftE;rw[List.length_append];omega
 have:=Nat.mul_le_mul (show c<=7 by omega) (show 1+(ftE n T).length<=1413 by omega)
 omega
theorem sus_small {n:Nat} (hn:n<9) (T:Int) {c:Nat} (hc:c<5):(susEv n T c n).length<=50000:=by
 rw[susEv_len,alE_len]
 have h1:=iE_less (n-1) (by omega)
 have h2:=blE_le (n-1) T
 have h3:(ftE (n-1) T).length<=1208:=by unfold ftE;rw[List.length_append];omega
 have h4:=Nat.mul_le_mul (show c<=4 by omega) (show 1+(ftE (n-1) T).length<=1209 by omega)
 have h5:=Nat.mul_le_mul (show n<=8 by omega) (show 1+c*(1+(ftE (n-1) T).length)<=4837 by omega)
 omega
theorem cJ_small {l:List Sh} (h:shsN l=0) (h2:∀ s∈l,s.pl.length<=4):cJ l<5:=by
 have hA:=acc_hd h
 have hm:=List.mem_of_getElem? hA.first
 have h3:=(hA.all _ hm).2.2.2.1
 have h4:=h2 _ hm
 unfold cJ
 omega
theorem aud_ev {l:List Sh} (h:shsN l=0) (h1:l.length<=12) (h2:∀ s∈l,s.pl.length<=4):(alE l.length (TJ l:Int) (cJ l)).length<=50000 :=
 Nat.le_trans (al_small (by omega) _ (Nat.lt_trans (cJ_small h h2) (by decide))) (by decide)
theorem aud_sus {l:List Sh} (h:shsN l=0) (h1:l.length<=7) (h2:∀ s∈l,s.pl.length<=4):(susEv l.length (TJ l:Int) (cJ l) l.length).length<=50000 :=
 sus_small (by omega) _ (cJ_small h h2)
end
end Go.Proofs.YtbkgghhngeibhaaGreatDoor
