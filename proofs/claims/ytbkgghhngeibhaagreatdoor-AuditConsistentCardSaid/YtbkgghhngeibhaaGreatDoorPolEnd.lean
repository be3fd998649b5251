/-
  The contract of poly's Mul over this seat's translation, with any tape. Conditions: the field's constants are those of its modulus, the lists' elements are forms of values, and lie outside the tape; the tape has room for the events.
  The contract of poly's Quotient over this seat's translation, with any tape. Conditions: the field's constants are those of its modulus, the lists' elements are forms of values, and lie outside the tape; the tape has room for the events.
  The contracts of package poly with the nil tape, for lists that lie anywhere. Conditions: the field's constants are those of its modulus, the lists are short.
-/
import Derived.Test.YtbkgghhngeibhaaGreatDoorInvAll
import Derived.Test.YtbkgghhngeibhaaGreatDoorMontAll
import Derived.Test.YtbkgghhngeibhaaGreatDoorPolCore
import Derived.Shelf.Bits.Mul64
import Derived.Test.YtbkgghhngeibhaaGreatDoorProg
namespace Go.Proofs.YtbkgghhngeibhaaGreatDoor
open Lib (hid)
section
open Go.RowKit
attribute [local go_sem] Oper.semAt_some wide_fn
def pairE (n m:Nat) (pre:List Nat):List Ev:=pre.flatMap (fun x=>(List.range m).map (fun y=>((3:Int),((x%n:Nat):Int),((y%m:Nat):Int))))
theorem pairE_snoc (n m:Nat) (pre:List Nat) (x:Nat):pairE n m (pre++[x])=pairE n m pre++(List.range m).map (fun y=>((3:Int),((x%n:Nat):Int),((y%m:Nat):Int))):=by simp[pairE,List.flatMap_append]
theorem pairE_length (n m:Nat):∀ pre,(pairE n m pre).length=pre.length*m:=by
 refine snoc_ind (by simp[pairE]) (fun pre x ih=>?_)
 rw[pairE_snoc,List.length_append,ih];simp[Nat.add_mul]
structure MulC (w W:World) (id:Int) (p i0 r s bt bf b7 arr sb lb N:Nat) (a:Option Addr) (n cap:Nat) (xs:List Nat) (Sl:Nat->Prop) (a2:Option Addr) (m cap2:Nat) (ys:List Nat) (Sl2:Nat->Prop) (q:Option Addr) (es:List Ev) (S S':Nat->Prop) (L:List Nat):Prop where
 tb:W.heap[bt]?=some (.cells #[.pointer q] 40 (0,0))
 fb:W.heap[bf]?=some (.cells #[.int .i64 id,.int .u64 (wd p 0),.int .u64 (wd p 1),.int .u64 (wd p 2),.int .u64 (wd p 3),.int .u64 i0,.int .u64 (wd r 0),.int .u64 (wd r 1),.int .u64 (wd r 2),.int .u64 (wd r 3),.int .u64 (wd s 0),.int .u64 (wd s 1),.int .u64 (wd s 2),.int .u64 (wd s 3)] 104 (0,0))
 bb:W.heap[b7]?=some (.cells #[.slice a2 m cap2] 43 (0,0))
 ars:NumsAt W arr 66 L
 sx:W.heap[sb]?=some (.cells #[.slice (some ⟨arr,0,none⟩) N N] 43 (0,0))
 src:Rl lb (.slice a n cap) xs Sl W
 oth:LsAt W (.slice a2 m cap2) ys Sl2
 tp:Tp W q es S'
 new:∀ b,S' b->S b\/lb<b
 off:Off S w W
structure MulB (w:World) (S Sl Sl2:Nat->Prop) (bt bf b7 arr sb lb:Nat):Prop where
 c0:w.heap.size<=bt
 c1:bt<bf
 c2:bf<b7
 c3:b7<arr
 c4:arr<sb
 c5:sb<lb
 old:∀ b,S b->b<w.heap.size
 lst:∀ b,Sl b->b<w.heap.size/\¬S b
 lst2:∀ b,Sl2 b->b<w.heap.size/\¬S b
theorem LsAt.quiet {A B:World} {n:Nat} {v:Value} {xs:List Nat} {Sl T:Nat->Prop} (h:LsAt A v xs Sl) (hq:Quiet n T A B) (hs:∀ k,Sl k->k<n/\¬T k):LsAt B v xs Sl:=by
 obtain⟨a,cap,hv,h1,h4⟩:=h
 refine⟨a,cap,hv,h1,fun hp=>?_⟩
 obtain⟨b,off,ha,hS,hc⟩:=h4 hp
 refine⟨b,off,ha,hS,fun j x hx=>?_⟩
 obtain⟨c0,c1,c2,c3⟩:=hc j x hx
 have:=hs b hS
 exact⟨hq.cell c0 this.1 this.2,hq.cell c1 this.1 this.2,hq.cell c2 this.1 this.2,hq.cell c3 this.1 this.2⟩
section
variable {w W W':World} {id:Int} {p i0 r s bt bf b7 arr sb lb N:Nat} {a:Option Addr} {n cap:Nat} {xs:List Nat} {Sl:Nat->Prop} {a2:Option Addr} {m cap2:Nat} {ys:List Nat} {Sl2:Nat->Prop} {q:Option Addr} {es es2:List Ev} {S S' S2:Nat->Prop} {L L2:List Nat}
theorem MulC.far (h:MulC w W id p i0 r s bt bf b7 arr sb lb N a n cap xs Sl a2 m cap2 ys Sl2 q es S S' L) (hB:MulB w S Sl Sl2 bt bf b7 arr sb lb) {b:Nat} (h1:w.heap.size<=b) (h2:b<=lb):¬S' b :=
 fun c=>(h.new b c).elim (fun c=>by have:=hB.old b c;omega) (fun c=>by omega)
theorem MulC.keep (h:MulC w W id p i0 r s bt bf b7 arr sb lb N a n cap xs Sl a2 m cap2 ys Sl2 q es S S' L) (ho:Off (fun _=>False) W W'):MulC w W' id p i0 r s bt bf b7 arr sb lb N a n cap xs Sl a2 m cap2 ys Sl2 q es S S' L :=
 ⟨ho.heap h.tb (fun c=>c),ho.heap h.fb (fun c=>c),ho.heap h.bb (fun c=>c),h.ars.off ho (fun c=>c),ho.heap h.sx (fun c=>c),h.src.off ho (fun c=>c) (fun _ _ _ c=>c),h.oth.off ho (fun _ _ _ c=>c),h.tp.off0 ho,h.new,h.off.trans ho (fun _ _ c=>c.elim)⟩
theorem MulC.kept {row:Option Nat} (h:MulC w W id p i0 r s bt bf b7 arr sb lb N a n cap xs Sl a2 m cap2 ys Sl2 q es S S' L) (hg:W.grownBy W' row) (hr:∀ r,row=some r->w.heap.size<=r/\∃ o:Obj,W.heap[r]?=some o/\o.isCells=false):MulC w W' id p i0 r s bt bf b7 arr sb lb N a n cap xs Sl a2 m cap2 ys Sl2 q es S S' L:=by
 have hr':∀ r,row=some r->∃ o:Obj,W.heap[r]?=some o/\o.isCells=false:=fun r e=>(hr r e).2
 have k:∀ {b:Nat} {c:Array Value} {T:TypeId},W.heap[b]?=some (.cells c T (0,0))->W'.heap[b]?=some (.cells c T (0,0)):=fun h=>(grownBy_keeps_cells hg hr' h rfl).trans h
 exact⟨k h.tb,k h.fb,k h.bb,k h.ars,k h.sx,h.src.kept hg hr',h.oth.kept hg hr',⟨h.tp.1.kept hg hr',fun b c=>Nat.lt_of_lt_of_le (h.tp.2 b c) hg.size⟩,h.new,h.off.later hg (fun r e=>(hr r e).1)⟩
theorem MulC.typed (h:MulC w W id p i0 r s bt bf b7 arr sb lb N a n cap xs Sl a2 m cap2 ys Sl2 q es S S' L):MulC w W id p i0 r s bt bf b7 arr sb lb N a n cap xs Sl a2 m cap2 ys Sl2 q es S (fun k=>S' k/\Typed W k) L :=
 ⟨h.tb,h.fb,h.bb,h.ars,h.sx,h.src,h.oth,h.tp.typed,fun b c=>h.new b c.1,h.off⟩
theorem MulC.round (h:MulC w W id p i0 r s bt bf b7 arr sb lb N a n cap xs Sl a2 m cap2 ys Sl2 q es S S' L) (hB:MulB w S Sl Sl2 bt bf b7 arr sb lb) (hq:Quiet W.heap.size (fun k=>S' k\/k=arr) W W') (ha:NumsAt W' arr 66 L2) (ht:Tp W' q es2 S2) (hn:∀ k,S2 k->S' k\/W.heap.size<=k) :
  MulC w W' id p i0 r s bt bf b7 arr sb lb N a n cap xs Sl a2 m cap2 ys Sl2 q es2 S S2 L2:=by
 have c0:=hB.c0;have c1:=hB.c1;have c2:=hB.c2;have c3:=hB.c3;have c4:=hB.c4;have c5:=hB.c5
 have hl:=h.src.1.lt
 have hw:=h.off.size
 have x:∀ {b},w.heap.size<=b->b<=lb->b≠arr->¬(S' b\/b=arr):=fun h1 h2 h3 c=>c.elim (h.far hB h1 h2) h3
 have y:∀ {k},k<w.heap.size->¬S k->k<W.heap.size/\¬(S' k\/k=arr):=fun h1 h2=>⟨by omega,fun c=>c.elim (fun c=>(h.new _ c).elim h2 (fun c=>by omega)) (fun c=>by omega)⟩
 exact⟨hq.block _ _ (by omega) (x (by omega) (by omega) (by omega)) h.tb,hq.block _ _ (by omega) (x (by omega) (by omega) (by omega)) h.fb,hq.block _ _ (by omega) (x (by omega) (by omega) (by omega)) h.bb,ha,hq.block _ _ (by omega) (x (by omega) (by omega) (by omega)) h.sx,
  h.src.quiet hq ⟨hl,x (by omega) (by omega) (by omega)⟩ (fun k c=>y (hB.lst k c).1 (hB.lst k c).2),h.oth.quiet hq (fun k c=>y (hB.lst2 k c).1 (hB.lst2 k c).2),ht,fun b c=>(hn b c).elim (h.new b) (fun c=>.inr (by omega)),
  h.off.later' hq hw (fun k hk c=>c.elim (fun c=>(h.new k c).elim (fun c=>c) (fun c=>by omega)) (fun c=>by omega))⟩
end
set_option maxRecDepth 100000 in
set_option maxHeartbeats 4000000 in
theorem mul_some {id:Int} {p i0 r s:Nat} (hF:Fld id p i0 r s) (vs us:List Nat) (n cap m cap2:Nat) (a a2:Option Addr) (hn:n=vs.length) (hm:m=us.length) (h0:0<n) (h02:0<m) (hnm:n*m<=20000) (hn2:n+m<=10000) (q:Option Addr) (es:List Ev) (S Sl Sl2:Nat->Prop) (w:World)
  (hL:LsAt w (.slice a n cap) (vs.map (fm p)) Sl) (hSl:∀ b,Sl b->b<w.heap.size/\¬S b) (hL2:LsAt w (.slice a2 m cap2) (us.map (fm p)) Sl2) (hSl2:∀ b,Sl2 b->b<w.heap.size/\¬S b) (hS:Tp w q es S) (hl:es.length<=70000) :
  Calls Tryz.prog 116 #[.pointer q,FV id p i0 r s,.slice a n cap,.slice a2 m cap2] w fun e w'=>∃ b,e=.returned (.slice (some ⟨b,0,none⟩) (n+m-1) (n+m-1))/\w.heap.size<=b/\NumsAt w' b 66 ((mulL p vs us).map (fm p))/\Noted w.heap.size q es (pairE n m (List.range n)) S w'/\Off S w w':=by
 refine(callsIn_wide (n:=9)).1 ?_
 refine callsIn_of_wp_marks Tryz.func116 rfl trivial ?_ rfl
 simp only[Tryz.ntmps116,List.size_toArray,List.length_cons,List.length_nil,Nat.reduceAdd,Nat.reduceSub,Array.replicate_succ,Array.replicate_zero,List.push_toArray,List.append_toArray,List.nil_append,List.cons_append]
 have hmx:Tryz.prog.follows .mixedOrders=true:=by kernel_rfl
 have HM:=hid (fun x y W=>by have h:=mmul_any hF (fm p x) (fm p y) (Nat.lt_trans (fm_lt hF.mp.pos _) hF.mp.lt) (fm_lt hF.mp.pos _) W;rw[mm_fm hF.mp]at h;exact h:∀ x y W,Calls Tryz.prog 109 #[FV id p i0 r s,V (fm p x),V (fm p y)] W fun x' w'=>x'=.returned (V (fm p (x*y%p)))/\Off (fun _=>False) W w')
 have HA:=hid (fun x y W=>by have h:=madd_any hF (fm p x) (fm p y) (fm_lt hF.mp.pos _) (fm_lt hF.mp.pos _) W;rw[fm_add]at h;exact h:∀ x y W,Calls Tryz.prog 108 #[FV id p i0 r s,V (fm p x),V (fm p y)] W fun x' w'=>x'=.returned (V (fm p ((x+y)%p)))/\Off (fun _=>False) W w')
 obtain⟨N,hN⟩:∃ N,N=n+m-1:=⟨_,rfl⟩
 obtain⟨n1,hn1⟩:∃ n1,n1=n+m:=⟨_,rfl⟩
 rw[<-hN]
 have hw1:IntKind.i64.wrap ((n:Int)+(m:Int))=(n1:Int):=by rw[IntKind.wrap_i64];omega
 have hw2:IntKind.i64.wrap ((n1:Int)-1)=(N:Int):=by rw[IntKind.wrap_i64];omega
 have hne1:((n:Int)==0)=false:=by simp;omega
 have hne2:((m:Int)==0)=false:=by simp;omega
 have hmk:=run_make_el N (by omega)
 have hOr:=fun w=>eall_in (9-1) a n cap w
 have hNm:=hid hN
 have HF:=hid hF
 have HN:=hid hn
 have HN2:=hid hm
 have HL:=hid hL
 have HL2:=hid hL2
 have HSl:=hid hSl
 have HSl2:=hid hSl2
 have HS:=hid hS
 clear hF hn hm hL hL2 hSl hSl2 hS hN hn1
 gi_wp2_with (gi_at_call 131;refine(hOr _).mono ?_;rintro e w' ⟨rfl,rfl⟩)
 clear hOr hmk hw1 hw2 hne1 hne2
 obtain⟨W6,hW6⟩:∃ W6,W6=(((((w.alloc (.cells #[.pointer q] 40)).alloc (.cells #[.int .i64 id,.int .u64 (wd p 0),.int .u64 (wd p 1),.int .u64 (wd p 2),.int .u64 (wd p 3),.int .u64 i0,.int .u64 (wd r 0),.int .u64 (wd r 1),.int .u64 (wd r 2),.int .u64 (wd r 3),.int .u64 (wd s 0),.int .u64 (wd s 1),.int .u64 (wd s 2),.int .u64 (wd s 3)] 104)).alloc (.cells #[.slice a2 m cap2] 43)).alloc (.cells (flat4 (List.replicate N 0)).toArray 66)).alloc (.cells #[.slice (some ⟨w.heap.size+1+1+1,0,none⟩) N N] 43)).alloc (.cells #[.slice a n cap] 43):=⟨_,rfl⟩
 have hOW6:Off (fun _=>False) w W6:=by rw[hW6];exact((((((Off.refl _ w).alloc _).alloc _).alloc _).alloc _).alloc _).alloc _
 have g_bt:W6.heap[w.heap.size]?=some (.cells #[.pointer q] 40 (0,0)):=by rw[hW6];exact heap_old' (heap_old' (heap_old' (heap_old' (heap_old' (heap_new' rfl _) _) _) _) _) _
 have g_bf:W6.heap[w.heap.size+1]?=some (.cells #[.int .i64 id,.int .u64 (wd p 0),.int .u64 (wd p 1),.int .u64 (wd p 2),.int .u64 (wd p 3),.int .u64 i0,.int .u64 (wd r 0),.int .u64 (wd r 1),.int .u64 (wd r 2),.int .u64 (wd r 3),.int .u64 (wd s 0),.int .u64 (wd s 1),.int .u64 (wd s 2),.int .u64 (wd s 3)] 104 (0,0)):=by rw[hW6];exact heap_old' (heap_old' (heap_old' (heap_old' (heap_new' (by simp) _) _) _) _) _
 have g_b7:W6.heap[w.heap.size+1+1]?=some (.cells #[.slice a2 m cap2] 43 (0,0)):=by rw[hW6];exact heap_old' (heap_old' (heap_old' (heap_new' (by simp) _) _) _) _
 have g_arr:W6.heap[w.heap.size+1+1+1]?=some (.cells (flat4 (List.replicate N 0)).toArray 66 (0,0)):=by rw[hW6];exact heap_old' (heap_old' (heap_new' (by simp) _) _) _
 have g_sb:W6.heap[w.heap.size+1+1+1+1]?=some (.cells #[.slice (some ⟨w.heap.size+1+1+1,0,none⟩) N N] 43 (0,0)):=by rw[hW6];exact heap_old' (heap_new' (by simp) _) _
 have g_lb:W6.heap[w.heap.size+1+1+1+1+1]?=some (.cells #[.slice a n cap] 43 (0,0)):=by rw[hW6];exact heap_new' (by simp) _
 have hsW6:W6.heap.size=w.heap.size+1+1+1+1+1+1:=by rw[hW6];simp
 rw[<-hW6]
 obtain⟨lb,e_lb⟩:∃ lb,lb=w.heap.size+1+1+1+1+1:=⟨_,rfl⟩
 rw[<-e_lb]at g_lb ⊢
 obtain⟨sb,e_sb⟩:∃ sb,sb=w.heap.size+1+1+1+1:=⟨_,rfl⟩
 rw[<-e_sb]at g_sb ⊢
 obtain⟨arr,e_arr⟩:∃ arr,arr=w.heap.size+1+1+1:=⟨_,rfl⟩
 rw[<-e_arr]at g_arr g_sb ⊢
 obtain⟨b7,e_b7⟩:∃ b7,b7=w.heap.size+1+1:=⟨_,rfl⟩
 rw[<-e_b7]at g_b7 ⊢
 obtain⟨bf,e_bf⟩:∃ bf,bf=w.heap.size+1:=⟨_,rfl⟩
 rw[<-e_bf]at g_bf ⊢
 obtain⟨bt,e_bt⟩:∃ bt,bt=w.heap.size:=⟨_,rfl⟩
 rw[<-e_bt]at g_bt ⊢
 have HBk:=hid (show bt=w.heap.size/\bf=w.heap.size+1/\b7=w.heap.size+1+1/\arr=w.heap.size+1+1+1/\sb=w.heap.size+1+1+1+1/\lb=w.heap.size+1+1+1+1+1/\W6.heap.size=w.heap.size+1+1+1+1+1+1 from⟨e_bt,e_bf,e_b7,e_arr,e_sb,e_lb,hsW6⟩)
 clear hW6 hsW6 e_bt e_bf e_b7 e_arr e_sb e_lb
 have hB:MulB w S Sl Sl2 bt bf b7 arr sb lb:=by
  have hb:=HBk.out
  exact⟨by omega,by omega,by omega,by omega,by omega,by omega,HS.out.2,HSl.out,HSl2.out⟩
 have hC0:MulC w W6 id p i0 r s bt bf b7 arr sb lb N a n cap (vs.map (fm p)) Sl a2 m cap2 (us.map (fm p)) Sl2 q (ext q es (pairE n m [])) S S ((mulAll p vs us []).map (fm p)):=by
  refine⟨g_bt,g_bf,g_b7,?_,g_sb,⟨g_lb,HL.out.off hOW6 (fun _ _ _ c=>c)⟩,HL2.out.off hOW6 (fun _ _ _ c=>c),?_,fun _ c=>.inl c,hOW6.mono (fun _ _ c=>c.elim)⟩
  ·rw[show mulAll p vs us []=List.replicate (vs.length+us.length-1) 0 from rfl,<-HN.out,<-HN2.out,<-hNm.out,List.map_replicate,fm_zero];exact g_arr
  rw[show pairE n m []=[] from rfl,ext_nil];exact HS.out.off0 hOW6
 have hbs:lb<W6.heap.size:=by have hb:=HBk.out;omega
 have HC0:=hid hC0
 have HB:=hid hB
 have hst:=eall_stops (9-1) (by omega) lb a n cap (vs.map (fm p)) Sl W6 hC0.src
 simp only[List.length_map,getD_fm,<-HN.out]at hst
 clear hC0 g_bt g_bf g_b7 g_arr g_sb g_lb hOW6 hB
 refine wpIn_rangeFunc_ownH (F:=Fence.wide) (n:=9) rfl (by omega) (gf:=147) (lb:=#[.pointer (some ⟨lb,0,none⟩)]) rfl trivial (enters_of Tryz.func147 (by kernel_rfl) rfl)
  hst (fun h k x=>k (h x)) (fun W l o o' hl h hc hw=>rlK_b W l o o' hl h hc hw) (Below.refl _ _) (fun _=>by rfl)
  (fun pre W=>∃ S',MulC w W id p i0 r s bt bf b7 arr sb lb N a n cap (vs.map (fm p)) Sl a2 m cap2 (us.map (fm p)) Sl2 q (ext q es (pairE n m pre)) S S' ((mulAll p vs us pre).map (fm p))/\pre.length<=n)
  (fun _ _ _=>False)
  (fun pre A B row hs hg hr=>by
   obtain⟨S',h1,h2⟩:=hs
   exact⟨S',h1.kept hg (fun r e=>⟨by have:=(hr r e).1;have hb:=HBk.out;omega,(hr r e).2⟩),h2⟩)
  (fun _ _ _ _ _ hs _ _=>hs)
  ⟨S,HC0.out,Nat.zero_le _⟩
  (fun x a' W=>∃ B1 B2,W.heap[B1]?=some (.cells #[.int .i64 ((x%n:Nat):Int)] 3 (0,0))/\W.heap[B2]?=some (.cells #[.int .u64 (wd (fm p (vs.getD (x%n) 0)) 0:Int),.int .u64 (wd (fm p (vs.getD (x%n) 0)) 1:Int),.int .u64 (wd (fm p (vs.getD (x%n) 0)) 2:Int),.int .u64 (wd (fm p (vs.getD (x%n) 0)) 3:Int)] 66 (0,0))/\lb<B1/\lb<B2/\a'={ tmps:=#[.pointer q,FV id p i0 r s,.slice a n cap,.slice a2 m cap2,.pointer (some ⟨bt,0,none⟩),.pointer (some ⟨bf,0,none⟩),undef,.pointer (some ⟨b7,0,none⟩),.slice none 0 0,.pointer (some ⟨sb,0,none⟩),.pointer (some ⟨B1,0,none⟩),.pointer (some ⟨B2,0,none⟩),undef,undef,.slice a n cap,.int .i64 n,.bool false,.bool false,.slice a2 m cap2,.int .i64 m,.bool false,.bool false,.slice a n cap,.int .i64 n,.slice a2 m cap2,.int .i64 m,.int .i64 n1,.int .i64 N,.slice (some ⟨arr,0,none⟩) N N,.slice a n cap,.func (.func 147) #[] #[.pointer (some ⟨lb,0,none⟩)],.int .i64 ((x%n:Nat):Int),V (fm p (vs.getD (x%n) 0)),undef,undef,undef,undef,undef,undef,undef,undef,undef,undef,undef,undef,undef,undef,undef,undef,undef,undef,undef,undef,undef,undef,undef,undef],defers:=[] })
  (fun x a' _ A C row hs hg hr=>by
   obtain⟨B1,B2,h1,h2,h3⟩:=hs
   exact⟨B1,B2,(grownBy_keeps_cells hg (fun r e=>(hr r e).2) h1 rfl).trans h1,(grownBy_keeps_cells hg (fun r e=>(hr r e).2) h2 rfl).trans h2,h3⟩)
  ?assign ?body ?done ?stop
 case assign =>
  rintro l pre x W K ⟨S',hC,hlen⟩ hK
  obtain⟨j,hj⟩:∃ j,j=x%n:=⟨_,rfl⟩
  obtain⟨y,hy⟩:∃ y,y=fm p (vs.getD (x%n) 0):=⟨_,rfl⟩
  rw[<-hy,<-hj]at hK
  rw[<-hy,<-hj]
  clear hy hj hst
  have hlt:=hC.src.1.lt
  gi_wp2
  have ho:=((Off.refl (fun _=>False) W).alloc (.cells #[.int .i64 j] 3)).alloc (.cells #[.int .u64 (wd y 0),.int .u64 (wd y 1),.int .u64 (wd y 2),.int .u64 (wd y 3)] 66)
  exact hK _ _ (ho.keeps.from _) (fun h=>h.off ho (fun c=>c) (fun _ _ _ c=>c)) ⟨S',hC.keep ho,hlen⟩ ⟨W.heap.size,W.heap.size+1,heap_old' (World.alloc_heap_new W _) _,heap_new' (by simp) _,hlt,by omega,rfl⟩
 case body =>
  rintro l pre x a' W hl0 ⟨r₀,hr₀⟩ ⟨S0,hC,hlen2⟩ ⟨ib,xb,hcI,hcX,hIt,hXt,rfl⟩ hlen
  obtain⟨i,hi⟩:∃ i,i=x%n:=⟨_,rfl⟩
  have hin:i<n:=by rw[hi];exact Nat.mod_lt _ h0
  obtain⟨v,hv⟩:∃ v,v=vs.getD (x%n) 0:=⟨_,rfl⟩
  obtain⟨L,hL⟩:∃ L,L=mulAll p vs us pre:=⟨_,rfl⟩
  have hLn:L.length=N:=by rw[hL,mulAll_length,<-HN.out,<-HN2.out,hNm.out]
  have hsn:mulAll p vs us (pre++[x])=mulRow p v us i L (List.range m):=by rw[mulAll_snoc,<-HN.out,<-HN2.out,<-hL,<-hi,hv,hi]
  have hse:pairE n m (pre++[x])=pairE n m pre++(List.range m).map (fun y=>((3:Int),(i:Int),((y%m:Nat):Int))):=by rw[pairE_snoc,<-hi]
  obtain⟨x1,hx1⟩:∃ x1,x1=fm p v:=⟨_,rfl⟩
  rw[<-hv,<-hi,<-hx1]
  rw[<-hi]at hcI
  rw[<-hv,<-hx1]at hcX
  rw[<-hL]at hC
  have hC:=hC.typed
  obtain⟨S',hS'⟩:∃ S':Nat->Prop,S'=fun k=>S0 k/\Typed W k:=⟨_,rfl⟩
  have hIS:¬S' ib:=by rw[hS'];exact fun c=>not_typed' hcI (by decide) (by decide) (by decide) c.2
  have hXS:¬S' xb:=by rw[hS'];exact fun c=>not_typed hcX c.2
  rw[<-hS']at hC
  clear hS'
  have HSn:=hid hsn
  have HSe:=hid hse
  have HX1:=hid hx1
  have HC:=hid hC
  have HcI:=hid hcI
  have HcX:=hid hcX
  have HR:=hid hr₀
  have k0:W.cell? ⟨b7,0,none⟩=some (.slice a2 m cap2):=cell_of_heap hC.bb 0
  have hmf:∀ (fn:Fn) (first cap:Array Value) (W:World),(Instr.makeFunc fn first cap).run Tryz.prog W=.ok (.func fn first cap) W:=fun _ _ _ _=>rfl
  have hOr:=fun w=>CallsIn.inRound l (eall_in (9-1-1-1) a2 m cap2 w)
  have hNo:=fun lb w=>CallsIn.inRound l (callsIn_wide (n:=9-1-1-1).2 (noted_any (.func (.func 147) #[] #[.pointer (some ⟨lb,0,none⟩)]) (.func (.func 132) #[] #[.pointer (some ⟨bt,0,none⟩),.pointer (some ⟨ib,0,none⟩)]) w ⟨_,_,rfl⟩ ⟨_,_,rfl⟩))
  clear hC hcI hcX hr₀ hi hv hL hsn hse hx1 hst
  gi_wp2_with (first | (gi_at_call 131;refine(hOr _).mono ?_;rintro e w' ⟨rfl,rfl⟩) | (gi_at_call 118;refine(hNo _ _).mono ?_;rintro e w' ⟨rfl,rfl⟩))
  clear hOr hNo hmf k0
  obtain⟨W3,hW3⟩:∃ W3,W3=((W.alloc (.cells #[.slice a2 m cap2] 43)).alloc (.cells #[.func (.func 147) #[] #[.pointer (some ⟨W.heap.size,0,none⟩)]] 165)).alloc (.cells #[.func (.func 132) #[] #[.pointer (some ⟨bt,0,none⟩),.pointer (some ⟨ib,0,none⟩)]] 168):=⟨_,rfl⟩
  have hOW3:Off (fun _=>False) W W3:=by rw[hW3];exact(((Off.refl _ W).alloc _).alloc _).alloc _
  have g_lb2:W3.heap[W.heap.size]?=some (.cells #[.slice a2 m cap2] 43 (0,0)):=by rw[hW3];exact heap_old' (heap_old' (heap_new' rfl _) _) _
  have g_ob:W3.heap[W.heap.size+1]?=some (.cells #[.func (.func 147) #[] #[.pointer (some ⟨W.heap.size,0,none⟩)]] 165 (0,0)):=by rw[hW3];exact heap_old' (heap_new' (by simp) _) _
  have g_nb:W3.heap[W.heap.size+1+1]?=some (.cells #[.func (.func 132) #[] #[.pointer (some ⟨bt,0,none⟩),.pointer (some ⟨ib,0,none⟩)]] 168 (0,0)):=by rw[hW3];exact heap_new' (by simp) _
  have hsW3:W3.heap.size=W.heap.size+1+1+1:=by rw[hW3];simp
  rw[<-hW3]
  obtain⟨nb,e_nb⟩:∃ nb,nb=W.heap.size+1+1:=⟨_,rfl⟩
  rw[<-e_nb]at g_nb ⊢
  obtain⟨ob,e_ob⟩:∃ ob,ob=W.heap.size+1:=⟨_,rfl⟩
  rw[<-e_ob]at g_ob ⊢
  obtain⟨lb2,e_lb2⟩:∃ lb2,lb2=W.heap.size:=⟨_,rfl⟩
  rw[<-e_lb2]at g_lb2 g_ob ⊢
  have HBk3:=hid (show lb2=W.heap.size/\ob=W.heap.size+1/\nb=W.heap.size+1+1/\W3.heap.size=W.heap.size+1+1+1 from⟨e_lb2,e_ob,e_nb,hsW3⟩)
  clear hW3 hsW3 e_lb2 e_ob e_nb
  have hw6:W6.heap.size<=W.heap.size:=by have:=HC.out.off.size;have hb:=HBk.out;have:=heap_lt HR.out;omega
  have hlbW:=HC.out.src.1.lt
  have hnS:∀ k,W.heap.size<=k->¬S' k:=fun k hk c=>by have:=HC.out.tp.2 k c;omega
  have hbt:¬S' bt:=HC.out.far HB.out HB.out.c0 (by have hb:=HBk.out;omega)
  have harr:¬S' arr:=HC.out.far HB.out (by have hb:=HBk.out;omega) (by have hb:=HBk.out;omega)
  have hilt:=heap_lt HcI.out
  have hseq:=mul_told (n:=9-1-1-1) (by omega) ob nb bt ib i 147 #[.pointer (some ⟨lb2,0,none⟩)] (enters_of Tryz.func147 (by kernel_rfl) rfl) (fun x=>x%m) (fun x=>fm p (us.getD (x%m) 0)) (fun W=>Rl lb2 (.slice a2 m cap2) (us.map (fm p)) Sl2 W) (fun ys=>ys=List.range m) (fun pre=>∃ k,k<=m/\pre=List.range k) m
   (fun W hW=>by have h:=eall_stops (9-1-1-1-1) (by omega) lb2 a2 m cap2 (us.map (fm p)) Sl2 W hW;simp only[List.length_map,getD_fm,<-HN2.out]at h;exact h)
   [(ob,Obj.cells #[.func (.func 147) #[] #[.pointer (some ⟨lb2,0,none⟩)]] 165 (0,0)),(nb,Obj.cells #[.func (.func 132) #[] #[.pointer (some ⟨bt,0,none⟩),.pointer (some ⟨ib,0,none⟩)]] 168 (0,0)),(bt,Obj.cells #[.pointer q] 40 (0,0)),(ib,Obj.cells #[.int .i64 i] 3 (0,0))] q (ext q es (pairE n m pre)) S' (fun k=>k=arr) W3
   (by simp) (by simp) (by simp) (by simp)
   (by
    have hb:=HBk.out
    have hb3:=HBk3.out
    simp only[List.mem_cons,List.not_mem_nil,or_false,forall_eq_or_imp,forall_eq]
    exact⟨⟨g_ob,hnS _ (by omega),by omega⟩,⟨g_nb,hnS _ (by omega),by omega⟩,⟨hOW3.heap HC.out.tb (fun c=>c),hbt,by omega⟩,⟨hOW3.heap HcI.out (fun c=>c),hIS,by omega⟩⟩)
   (fun k c=>by have c:k=arr:=c;subst c;have hb:=HBk.out;have hb3:=HBk3.out;exact⟨by omega,harr⟩) ⟨g_lb2,HC.out.oth.off hOW3 (fun _ _ _ c=>c)⟩
   (fun A B h hq=>by
    have hb:=HBk.out
    have hb3:=HBk3.out
    exact h.quiet hq ⟨by omega,fun c=>c.elim (hnS _ (by omega)) (by omega)⟩ (fun k c=>⟨by have:=(HSl2.out k c).1;omega,fun d=>d.elim (fun d=>(HC.out.new k d).elim (HSl2.out k c).2 (fun d=>by have:=(HSl2.out k c).1;omega)) (fun e=>by have:=(HSl2.out k c).1;omega)⟩))
   (HC.out.tp.off0 hOW3) (by
    have h1:=ext_le q es (pairE n m pre)
    rw[pairE_length]at h1
    have h2:pre.length*m+m<=n*m:=by
     have h3:(pre.length+1)*m<=n*m:=Nat.mul_le_mul_right m (by omega)
     rw[Nat.add_mul,Nat.one_mul]at h3;exact h3
    omega)
  have HnS:=hid hnS
  have HArr:=hid harr
  have HIS:=hid hIS
  have HXS:=hid hXS
  have HO3:=hid hOW3
  have hr3:=hOW3.others _ _ HR.out rfl
  have h30:Quiet W.heap.size (fun k=>S' k\/k=arr) W W3/\NumsAt W3 arr 66 ((mulRow p v us i L []).map (fm p)):=⟨hOW3.quiet (fun _ _ c=>c.elim),HC.out.ars.off hOW3 (fun c=>c)⟩
  have H30:=hid h30
  clear h30 g_lb2 g_ob g_nb hOW3 hnS hbt harr hIS hXS
  refine rangeFunc_toldN (n:=9-1-1) (l₀:=l) hr3 (by omega) (gf:=133) (lb:=#[.pointer (some ⟨ob,0,none⟩),.pointer (some ⟨nb,0,none⟩)]) rfl (enters_of Tryz.func133 (by kernel_rfl) rfl) hseq
   (fun xs A B h hq hc=>noted_cells h hq hc) (fun _=>by rfl)
   (fun pre2 A=>Quiet W.heap.size (fun k=>S' k\/k=arr) W A/\NumsAt A arr 66 ((mulRow p v us i L pre2).map (fm p))) ?hI ?h0
   (fun x a' A=>∃ B,A.heap[B]?=some (.cells #[.int .u64 (wd (fm p (us.getD (x%m) 0)) 0:Int),.int .u64 (wd (fm p (us.getD (x%m) 0)) 1:Int),.int .u64 (wd (fm p (us.getD (x%m) 0)) 2:Int),.int .u64 (wd (fm p (us.getD (x%m) 0)) 3:Int)] 66 (0,0))/\nb<B/\a'={ tmps:=#[.pointer q,FV id p i0 r s,.slice a n cap,.slice a2 m cap2,.pointer (some ⟨bt,0,none⟩),.pointer (some ⟨bf,0,none⟩),undef,.pointer (some ⟨b7,0,none⟩),.slice none 0 0,.pointer (some ⟨sb,0,none⟩),.pointer (some ⟨ib,0,none⟩),.pointer (some ⟨xb,0,none⟩),.int .i64 ((x%m:Nat):Int),.pointer (some ⟨B,0,none⟩),.slice a n cap,.int .i64 n,.bool false,.bool false,.slice a2 m cap2,.int .i64 m,.bool false,.bool false,.slice a n cap,.int .i64 n,.slice a2 m cap2,.int .i64 m,.int .i64 n1,.int .i64 N,.slice (some ⟨arr,0,none⟩) N N,.slice a n cap,.func (.func 147) #[] #[.pointer (some ⟨lb,0,none⟩)],.int .i64 i,V x1,.slice a2 m cap2,.func (.func 147) #[] #[.pointer (some ⟨lb2,0,none⟩)],.func (.func 132) #[] #[.pointer (some ⟨bt,0,none⟩),.pointer (some ⟨ib,0,none⟩)],.func (.func 133) #[] #[.pointer (some ⟨ob,0,none⟩),.pointer (some ⟨nb,0,none⟩)],.int .i64 ((x%m:Nat):Int),V (fm p (us.getD (x%m) 0)),undef,undef,undef,undef,undef,undef,undef,undef,undef,undef,undef,undef,undef,undef,undef,undef,undef,undef],defers:=[] })
   (fun x a' A l o' h hc=>by obtain⟨B,h1,h2,h3⟩:=h;exact⟨B,hc _ _ _ _ h1,h2,h3⟩)
   ?assign2 ?body2 ?done2
  case hI =>
   rintro pre2 A B ⟨h1,h2⟩ hq
   have hb:=HBk.out
   have hb3:=HBk3.out
   exact⟨h1.trans (hq.mono (by omega) (fun _ _ c=>.inl c)),hq.block _ _ (by omega) HArr.out h2⟩
  case h0=>exact H30.out
  case assign2 =>
   rintro l2 pre2 k A K hsz _ hK
   obtain⟨j,hj⟩:∃ j,j=k%m:=⟨_,rfl⟩
   obtain⟨y,hy⟩:∃ y,y=fm p (us.getD (k%m) 0):=⟨_,rfl⟩
   rw[<-hy,<-hj]at hK
   rw[<-hy,<-hj]
   have hlt:nb<A.heap.size:=by have hb:=HBk3.out;omega
   clear hy hj hseq
   gi_wp2
   exact hK _ _ ((Off.refl _ A).alloc _) ⟨A.heap.size,World.alloc_heap_new A _,hlt,rfl⟩
  case body2 =>
   rintro l2 pre2 k a' A _ _ ⟨h1,h2⟩ ⟨B,hcB,hBt,rfl⟩ hlen3
   obtain⟨j,hj⟩:∃ j,j=k%m:=⟨_,rfl⟩
   obtain⟨u,hu⟩:∃ u,u=us.getD (k%m) 0:=⟨_,rfl⟩
   have hjm:j<m:=by rw[hj];exact Nat.mod_lt _ h02
   rw[<-hu,<-hj]
   rw[<-hu]at hcB
   obtain⟨y,hy⟩:∃ y,y=fm p u:=⟨_,rfl⟩
   rw[<-hy]
   rw[<-hy]at hcB
   obtain⟨L2,hL2⟩:∃ L2,L2=mulRow p v us i L pre2:=⟨_,rfl⟩
   have hL2n:L2.length=N:=by rw[hL2,mulRow_length,hLn]
   obtain⟨g,hg⟩:∃ g,g=i+j:=⟨_,rfl⟩
   have hgN:g<N:=by have:=hNm.out;omega
   obtain⟨t0,ht0⟩:∃ t0,t0=L2.getD g 0:=⟨_,rfl⟩
   have hsn2:mulRow p v us i L (pre2++[k])=L2.set g ((t0+v*u%p)%p):=by rw[mulRow_snoc,<-HN2.out,<-hL2,<-hj,<-hg,<-ht0,hu,hj]
   rw[<-hL2]at h2
   obtain⟨t,ht⟩:∃ t,t=fm p (v*u%p):=⟨_,rfl⟩
   obtain⟨o,ho⟩:∃ o,o=fm p t0:=⟨_,rfl⟩
   obtain⟨z,hz⟩:∃ z,z=fm p ((t0+v*u%p)%p):=⟨_,rfl⟩
   have HMu:=hid (show ∀ W,Calls Tryz.prog 109 #[FV id p i0 r s,V x1,V y] W fun x' w'=>x'=.returned (V t)/\Off (fun _=>False) W w' from fun W=>by rw[HX1.out,hy,ht];exact HM.out _ _ W)
   have HAd:=hid (show ∀ W,Calls Tryz.prog 108 #[FV id p i0 r s,V o,V t] W fun x' w'=>x'=.returned (V z)/\Off (fun _=>False) W w' from fun W=>by rw[ho,ht,hz];exact HA.out _ _ W)
   have HLs:=hid (show(L2.set g ((t0+v*u%p)%p)).map (fm p)=(L2.map (fm p)).set g z by rw[List.map_set,hz])
   obtain⟨L1,hL1⟩:∃ L1,L1=L2.map (fm p):=⟨_,rfl⟩
   have hL1n:L1.length=N:=by rw[hL1,List.length_map,hL2n]
   have hoj:L1[g]?=some o:=by
    rw[ho,ht0,<-getD_fm,<-hL1,List.getD_eq_getElem?_getD,List.getElem?_eq_getElem (by omega)];rfl
   rw[<-hL1]at h2 HLs
   have hgI:(g:Int)<(N:Int):=by omega
   have hwg:IntKind.i64.wrap ((i:Int)+(j:Int))=(g:Int):=by rw[IntKind.wrap_i64];omega
   have HOj:=hid hoj
   have HPt:=hid (show ∀ W:World,W.heap[arr]?=some (.cells (flat4 L1).toArray 66 (0,0))->(W.setCells arr (g*4) (words4 z)).heap[arr]?=some (.cells (flat4 (L1.set g z)).toArray 66 (0,0)) from fun W h=>NumsAt.store h (by omega) z)
   have HAr:=hid (show A.heap[arr]?=some (.cells (flat4 L1).toArray 66 (0,0)) from h2)
   have HSn2:=hid hsn2
   have H1:=hid h1
   have hxlt:=heap_lt HcX.out
   have qb:∀ {b o},w.heap.size<=b->b<=lb->b≠arr->W.heap[b]?=some o->A.heap[b]?=some o:=fun hb1 hb2 hb3 hb4=>h1.block _ _ (heap_lt hb4) (fun c=>c.elim (HC.out.far HB.out hb1 hb2) hb3) hb4
   have HK:Hid (∀ W',Off (fun k=>k=arr) A W'->(W'.cell? ⟨sb,0,none⟩=some (.slice (some ⟨arr,0,none⟩) N N))/\(W'.cell? ⟨ib,0,none⟩=some (.int .i64 i))/\(W'.cell? ⟨bf,0,none⟩=some (.int .i64 id)/\W'.cell? ⟨bf,1,none⟩=some (.int .u64 (wd p 0))/\W'.cell? ⟨bf,2,none⟩=some (.int .u64 (wd p 1))/\W'.cell? ⟨bf,3,none⟩=some (.int .u64 (wd p 2))/\W'.cell? ⟨bf,4,none⟩=some (.int .u64 (wd p 3))/\W'.cell? ⟨bf,5,none⟩=some (.int .u64 i0)/\W'.cell? ⟨bf,6,none⟩=some (.int .u64 (wd r 0))/\W'.cell? ⟨bf,7,none⟩=some (.int .u64 (wd r 1))/\W'.cell? ⟨bf,8,none⟩=some (.int .u64 (wd r 2))/\W'.cell? ⟨bf,9,none⟩=some (.int .u64 (wd r 3))/\W'.cell? ⟨bf,10,none⟩=some (.int .u64 (wd s 0))/\W'.cell? ⟨bf,11,none⟩=some (.int .u64 (wd s 1))/\W'.cell? ⟨bf,12,none⟩=some (.int .u64 (wd s 2))/\W'.cell? ⟨bf,13,none⟩=some (.int .u64 (wd s 3)))/\(W'.cell? ⟨xb,0,none⟩=some (.int .u64 (wd x1 0))/\W'.cell? ⟨xb,1,none⟩=some (.int .u64 (wd x1 1))/\W'.cell? ⟨xb,2,none⟩=some (.int .u64 (wd x1 2))/\W'.cell? ⟨xb,3,none⟩=some (.int .u64 (wd x1 3)))/\(W'.cell? ⟨B,0,none⟩=some (.int .u64 (wd y 0))/\W'.cell? ⟨B,1,none⟩=some (.int .u64 (wd y 1))/\W'.cell? ⟨B,2,none⟩=some (.int .u64 (wd y 2))/\W'.cell? ⟨B,3,none⟩=some (.int .u64 (wd y 3)))/\Off (fun k=>k=arr) A W'):=hid (fun W' h=>by
    have hb:=HBk.out
    have hb3:=HBk3.out
    exact⟨cell_of_heap (h.heap (qb (by omega) (by omega) (by omega) HC.out.sx) (by omega)) 0,cell_of_heap (h.heap (h1.block _ _ hilt (fun c=>c.elim HIS.out (by omega)) HcI.out) (by omega)) 0,fv_cells (h.heap (qb (by omega) (by omega) (by omega) HC.out.fb) (by omega)),cells4 (h.heap (h1.block _ _ hxlt (fun c=>c.elim HXS.out (by omega)) HcX.out) (by omega)),cells4 (h.heap hcB (by omega)),h⟩)
   clear h1 h2 qb hcB hz hy hu hj hseq hL2 hL1 hL2n hsn2 ho ht ht0 hoj hg hr3
   gi_wp2
   refine wpIn_region_inv (fun a0 l a' w'=>∃ (u39:Value) (u40:Value) (u41:Value) (u42:Value) (u43:Value) (u44:Value) (u45:Value) (u46:Value) (u47:Value) (u48:Value) (u49:Value) (u50:Value) (u51:Value) (u52:Value) (u53:Value) (u54:Value) (u55:Value),a'=(Act.put (Act.put (Act.put (Act.put (Act.put (Act.put (Act.put (Act.put (Act.put (Act.put (Act.put (Act.put (Act.put (Act.put (Act.put (Act.put (Act.put a0 (some 39) u39) (some 40) u40) (some 41) u41) (some 42) u42) (some 43) u43) (some 44) u44) (some 45) u45) (some 46) u46) (some 47) u47) (some 48) u48) (some 49) u49) (some 50) u50) (some 51) u51) (some 52) u52) (some 53) u53) (some 54) u54) (some 55) u55)/\Slot l 0 u39 (.slice (some ⟨arr,0,none⟩) N N)/\Slot l 1 u40 (.int .i64 i)/\Slot l 2 u41 (.int .i64 j)/\Slot l 3 u42 (.int .i64 g)/\Slot l 4 u43 (FV id p i0 r s)/\Slot l 5 u44 (.slice (some ⟨arr,0,none⟩) N N)/\Slot l 6 u45 (.int .i64 i)/\Slot l 7 u46 (.int .i64 j)/\Slot l 8 u47 (.int .i64 g)/\Slot l 9 u48 (.pointer (some ⟨arr,g*4,none⟩))/\Slot l 10 u49 (V o)/\Slot l 11 u50 (FV id p i0 r s)/\Slot l 12 u51 (V x1)/\Slot l 13 u52 (V y)/\Slot l 14 u53 (V t)/\Slot l 15 u54 (V z)/\Slot l 16 u55 (.pointer (some ⟨arr,g*4,none⟩))/\Old l 17 arr A w' (.cells (flat4 L1).toArray 66) (.cells (flat4 (L1.set g z)).toArray 66)/\Dep l 10 17/\Off (fun k=>k=arr) A w') (by kernel_rfl) (by kernel_rfl) (by kernel_rfl) ?_ ⟨?_,?_,?_,?_,?_,?_,?_,?_,?_,?_,?_,?_,?_,?_,?_,?_,?_,?_,trivial⟩ ?_
   ·refine⟨?z39,?z40,?z41,?z42,?z43,?z44,?z45,?z46,?z47,?z48,?z49,?z50,?z51,?z52,?z53,?z54,?z55,?fr,Slot.start _ _ _,Slot.start _ _ _,Slot.start _ _ _,Slot.start _ _ _,Slot.start _ _ _,Slot.start _ _ _,Slot.start _ _ _,Slot.start _ _ _,Slot.start _ _ _,Slot.start _ _ _,Slot.start _ _ _,Slot.start _ _ _,Slot.start _ _ _,Slot.start _ _ _,Slot.start _ _ _,Slot.start _ _ _,Slot.start _ _ _,Old.start HAr.out _ _,Dep.start _ _,(Off.refl _ A).drew⟩
    case fr=>first | (simp only[XP];rfl) | simp only[XP]
   all_goals try (intro l a wr hI hl hd K' hK;obtain⟨u39,u40,u41,u42,u43,u44,u45,u46,u47,u48,u49,u50,u51,u52,u53,u54,u55,ha,s0,s1,s2,s3,s4,s5,s6,s7,s8,s9,s10,s11,s12,s13,s14,s15,s16,O0,P10_17,hO⟩:=hI;simp only[XP]at ha)
   ·subst ha
    have hc:=HK.out wr hO
    have p0:=hc.1
    clear hc
    go_simp
    refine hK.out _ _ ⟨_,_,_,_,_,_,_,_,_,_,_,_,_,_,_,_,_,?_,Slot.new _ _ _,s1.keep rfl,s2.keep rfl,s3.keep rfl,s4.keep rfl,s5.keep rfl,s6.keep rfl,s7.keep rfl,s8.keep rfl,s9.keep rfl,s10.keep rfl,s11.keep rfl,s12.keep rfl,s13.keep rfl,s14.keep rfl,s15.keep rfl,s16.keep rfl,O0.keep (Off.refl _ wr) rfl,P10_17.keep rfl,hO⟩
    simp only[XP]
   ·subst ha
    have hc:=HK.out wr hO
    have p0:=hc.2.1
    clear hc
    go_simp
    refine hK.out _ _ ⟨_,_,_,_,_,_,_,_,_,_,_,_,_,_,_,_,_,?_,s0.keep rfl,Slot.new _ _ _,s2.keep rfl,s3.keep rfl,s4.keep rfl,s5.keep rfl,s6.keep rfl,s7.keep rfl,s8.keep rfl,s9.keep rfl,s10.keep rfl,s11.keep rfl,s12.keep rfl,s13.keep rfl,s14.keep rfl,s15.keep rfl,s16.keep rfl,O0.keep (Off.refl _ wr) rfl,P10_17.keep rfl,hO⟩
    simp only[XP]
   ·subst ha
    go_simp
    refine hK.out _ _ ⟨_,_,_,_,_,_,_,_,_,_,_,_,_,_,_,_,_,?_,s0.keep rfl,s1.keep rfl,Slot.new _ _ _,s3.keep rfl,s4.keep rfl,s5.keep rfl,s6.keep rfl,s7.keep rfl,s8.keep rfl,s9.keep rfl,s10.keep rfl,s11.keep rfl,s12.keep rfl,s13.keep rfl,s14.keep rfl,s15.keep rfl,s16.keep rfl,O0.keep (Off.refl _ wr) rfl,P10_17.keep rfl,hO⟩
    simp only[XP]
   ·have q1:=s1 (hd 1 (by decide))
    have q2:=s2 (hd 2 (by decide))
    subst ha q1 q2
    go_simp
    refine hK.out _ _ ⟨_,_,_,_,_,_,_,_,_,_,_,_,_,_,_,_,_,?_,s0.keep rfl,s1.keep rfl,s2.keep rfl,Slot.new _ _ _,s4.keep rfl,s5.keep rfl,s6.keep rfl,s7.keep rfl,s8.keep rfl,s9.keep rfl,s10.keep rfl,s11.keep rfl,s12.keep rfl,s13.keep rfl,s14.keep rfl,s15.keep rfl,s16.keep rfl,O0.keep (Off.refl _ wr) rfl,P10_17.keep rfl,hO⟩
    simp only[XP]
   ·subst ha
    have hc:=HK.out wr hO
    have p0:=hc.2.2.1.1
    have p1:=hc.2.2.1.2.1
    have p2:=hc.2.2.1.2.2.1
    have p3:=hc.2.2.1.2.2.2.1
    have p4:=hc.2.2.1.2.2.2.2.1
    have p5:=hc.2.2.1.2.2.2.2.2.1
    have p6:=hc.2.2.1.2.2.2.2.2.2.1
    have p7:=hc.2.2.1.2.2.2.2.2.2.2.1
    have p8:=hc.2.2.1.2.2.2.2.2.2.2.2.1
    have p9:=hc.2.2.1.2.2.2.2.2.2.2.2.2.1
    have p10:=hc.2.2.1.2.2.2.2.2.2.2.2.2.2.1
    have p11:=hc.2.2.1.2.2.2.2.2.2.2.2.2.2.2.1
    have p12:=hc.2.2.1.2.2.2.2.2.2.2.2.2.2.2.2.1
    have p13:=hc.2.2.1.2.2.2.2.2.2.2.2.2.2.2.2.2
    clear hc
    go_simp
    refine hK.out _ _ ⟨_,_,_,_,_,_,_,_,_,_,_,_,_,_,_,_,_,?_,s0.keep rfl,s1.keep rfl,s2.keep rfl,s3.keep rfl,Slot.new _ _ _,s5.keep rfl,s6.keep rfl,s7.keep rfl,s8.keep rfl,s9.keep rfl,s10.keep rfl,s11.keep rfl,s12.keep rfl,s13.keep rfl,s14.keep rfl,s15.keep rfl,s16.keep rfl,O0.keep (Off.refl _ wr) rfl,P10_17.keep rfl,hO⟩
    simp only[XP]
   ·subst ha
    have hc:=HK.out wr hO
    have p0:=hc.1
    clear hc
    go_simp
    refine hK.out _ _ ⟨_,_,_,_,_,_,_,_,_,_,_,_,_,_,_,_,_,?_,s0.keep rfl,s1.keep rfl,s2.keep rfl,s3.keep rfl,s4.keep rfl,Slot.new _ _ _,s6.keep rfl,s7.keep rfl,s8.keep rfl,s9.keep rfl,s10.keep rfl,s11.keep rfl,s12.keep rfl,s13.keep rfl,s14.keep rfl,s15.keep rfl,s16.keep rfl,O0.keep (Off.refl _ wr) rfl,P10_17.keep rfl,hO⟩
    simp only[XP]
   ·subst ha
    have hc:=HK.out wr hO
    have p0:=hc.2.1
    clear hc
    go_simp
    refine hK.out _ _ ⟨_,_,_,_,_,_,_,_,_,_,_,_,_,_,_,_,_,?_,s0.keep rfl,s1.keep rfl,s2.keep rfl,s3.keep rfl,s4.keep rfl,s5.keep rfl,Slot.new _ _ _,s7.keep rfl,s8.keep rfl,s9.keep rfl,s10.keep rfl,s11.keep rfl,s12.keep rfl,s13.keep rfl,s14.keep rfl,s15.keep rfl,s16.keep rfl,O0.keep (Off.refl _ wr) rfl,P10_17.keep rfl,hO⟩
    simp only[XP]
   ·subst ha
    go_simp
    refine hK.out _ _ ⟨_,_,_,_,_,_,_,_,_,_,_,_,_,_,_,_,_,?_,s0.keep rfl,s1.keep rfl,s2.keep rfl,s3.keep rfl,s4.keep rfl,s5.keep rfl,s6.keep rfl,Slot.new _ _ _,s8.keep rfl,s9.keep rfl,s10.keep rfl,s11.keep rfl,s12.keep rfl,s13.keep rfl,s14.keep rfl,s15.keep rfl,s16.keep rfl,O0.keep (Off.refl _ wr) rfl,P10_17.keep rfl,hO⟩
    simp only[XP]
   ·have q6:=s6 (hd 6 (by decide))
    have q7:=s7 (hd 7 (by decide))
    subst ha q6 q7
    go_simp
    refine hK.out _ _ ⟨_,_,_,_,_,_,_,_,_,_,_,_,_,_,_,_,_,?_,s0.keep rfl,s1.keep rfl,s2.keep rfl,s3.keep rfl,s4.keep rfl,s5.keep rfl,s6.keep rfl,s7.keep rfl,Slot.new _ _ _,s9.keep rfl,s10.keep rfl,s11.keep rfl,s12.keep rfl,s13.keep rfl,s14.keep rfl,s15.keep rfl,s16.keep rfl,O0.keep (Off.refl _ wr) rfl,P10_17.keep rfl,hO⟩
    simp only[XP]
   ·have q5:=s5 (hd 5 (by decide))
    have q8:=s8 (hd 8 (by decide))
    subst ha q5 q8
    go_simp
    refine hK.out _ _ ⟨_,_,_,_,_,_,_,_,_,_,_,_,_,_,_,_,_,?_,s0.keep rfl,s1.keep rfl,s2.keep rfl,s3.keep rfl,s4.keep rfl,s5.keep rfl,s6.keep rfl,s7.keep rfl,s8.keep rfl,Slot.new _ _ _,s10.keep rfl,s11.keep rfl,s12.keep rfl,s13.keep rfl,s14.keep rfl,s15.keep rfl,s16.keep rfl,O0.keep (Off.refl _ wr) rfl,P10_17.keep rfl,hO⟩
    simp only[XP]
   ·have q9:=s9 (hd 9 (by decide))
    subst ha q9
    have hZ:=O0.was (P10_17 hl)
    obtain⟨p0,p1,p2,p3⟩:=NumsAt.cell hZ HOj.out
    clear hZ
    go_simp
    refine hK.out _ _ ⟨_,_,_,_,_,_,_,_,_,_,_,_,_,_,_,_,_,?_,s0.keep rfl,s1.keep rfl,s2.keep rfl,s3.keep rfl,s4.keep rfl,s5.keep rfl,s6.keep rfl,s7.keep rfl,s8.keep rfl,s9.keep rfl,Slot.new _ _ _,s11.keep rfl,s12.keep rfl,s13.keep rfl,s14.keep rfl,s15.keep rfl,s16.keep rfl,O0.keep (Off.refl _ wr) rfl,P10_17.keep rfl,hO⟩
    simp only[XP]
   ·subst ha
    have hc:=HK.out wr hO
    have p0:=hc.2.2.1.1
    have p1:=hc.2.2.1.2.1
    have p2:=hc.2.2.1.2.2.1
    have p3:=hc.2.2.1.2.2.2.1
    have p4:=hc.2.2.1.2.2.2.2.1
    have p5:=hc.2.2.1.2.2.2.2.2.1
    have p6:=hc.2.2.1.2.2.2.2.2.2.1
    have p7:=hc.2.2.1.2.2.2.2.2.2.2.1
    have p8:=hc.2.2.1.2.2.2.2.2.2.2.2.1
    have p9:=hc.2.2.1.2.2.2.2.2.2.2.2.2.1
    have p10:=hc.2.2.1.2.2.2.2.2.2.2.2.2.2.1
    have p11:=hc.2.2.1.2.2.2.2.2.2.2.2.2.2.2.1
    have p12:=hc.2.2.1.2.2.2.2.2.2.2.2.2.2.2.2.1
    have p13:=hc.2.2.1.2.2.2.2.2.2.2.2.2.2.2.2.2
    clear hc
    go_simp
    refine hK.out _ _ ⟨_,_,_,_,_,_,_,_,_,_,_,_,_,_,_,_,_,?_,s0.keep rfl,s1.keep rfl,s2.keep rfl,s3.keep rfl,s4.keep rfl,s5.keep rfl,s6.keep rfl,s7.keep rfl,s8.keep rfl,s9.keep rfl,s10.keep rfl,Slot.new _ _ _,s12.keep rfl,s13.keep rfl,s14.keep rfl,s15.keep rfl,s16.keep rfl,O0.keep (Off.refl _ wr) rfl,P10_17.keep rfl,hO⟩
    simp only[XP]
   ·subst ha
    have hc:=HK.out wr hO
    have p0:=hc.2.2.2.1.1
    have p1:=hc.2.2.2.1.2.1
    have p2:=hc.2.2.2.1.2.2.1
    have p3:=hc.2.2.2.1.2.2.2
    clear hc
    go_simp
    refine hK.out _ _ ⟨_,_,_,_,_,_,_,_,_,_,_,_,_,_,_,_,_,?_,s0.keep rfl,s1.keep rfl,s2.keep rfl,s3.keep rfl,s4.keep rfl,s5.keep rfl,s6.keep rfl,s7.keep rfl,s8.keep rfl,s9.keep rfl,s10.keep rfl,s11.keep rfl,Slot.new _ _ _,s13.keep rfl,s14.keep rfl,s15.keep rfl,s16.keep rfl,O0.keep (Off.refl _ wr) rfl,P10_17.keep rfl,hO⟩
    simp only[XP]
   ·subst ha
    have hc:=HK.out wr hO
    have p0:=hc.2.2.2.2.1.1
    have p1:=hc.2.2.2.2.1.2.1
    have p2:=hc.2.2.2.2.1.2.2.1
    have p3:=hc.2.2.2.2.1.2.2.2
    clear hc
    go_simp
    refine hK.out _ _ ⟨_,_,_,_,_,_,_,_,_,_,_,_,_,_,_,_,_,?_,s0.keep rfl,s1.keep rfl,s2.keep rfl,s3.keep rfl,s4.keep rfl,s5.keep rfl,s6.keep rfl,s7.keep rfl,s8.keep rfl,s9.keep rfl,s10.keep rfl,s11.keep rfl,s12.keep rfl,Slot.new _ _ _,s14.keep rfl,s15.keep rfl,s16.keep rfl,O0.keep (Off.refl _ wr) rfl,P10_17.keep rfl,hO⟩
    simp only[XP]
   ·have q11:=s11 (hd 11 (by decide))
    have q12:=s12 (hd 12 (by decide))
    have q13:=s13 (hd 13 (by decide))
    subst ha q11 q12 q13
    go_simp
    refine(held_inv (HMu.out wr) hO).mono ?_
    rintro e w1 ⟨rfl,hO1,hOW⟩
    go_wp2_with fail
    refine hK.out _ _ ⟨_,_,_,_,_,_,_,_,_,_,_,_,_,_,_,_,_,?_,s0.keep rfl,s1.keep rfl,s2.keep rfl,s3.keep rfl,s4.keep rfl,s5.keep rfl,s6.keep rfl,s7.keep rfl,s8.keep rfl,s9.keep rfl,s10.keep rfl,s11.keep rfl,s12.keep rfl,s13.keep rfl,Slot.new _ _ _,s15.keep rfl,s16.keep rfl,O0.keep hOW rfl,P10_17.keep rfl,hO1⟩
    simp only[XP]
   ·have q4:=s4 (hd 4 (by decide))
    have q10:=s10 (hd 10 (by decide))
    have q14:=s14 (hd 14 (by decide))
    subst ha q4 q10 q14
    go_simp
    refine(held_inv (HAd.out wr) hO).mono ?_
    rintro e w1 ⟨rfl,hO1,hOW⟩
    go_wp2_with fail
    refine hK.out _ _ ⟨_,_,_,_,_,_,_,_,_,_,_,_,_,_,_,_,_,?_,s0.keep rfl,s1.keep rfl,s2.keep rfl,s3.keep rfl,s4.keep rfl,s5.keep rfl,s6.keep rfl,s7.keep rfl,s8.keep rfl,s9.keep rfl,s10.keep rfl,s11.keep rfl,s12.keep rfl,s13.keep rfl,s14.keep rfl,Slot.new _ _ _,s16.keep rfl,O0.keep hOW rfl,P10_17.keep rfl,hO1⟩
    simp only[XP]
   ·have q0:=s0 (hd 0 (by decide))
    have q3:=s3 (hd 3 (by decide))
    subst ha q0 q3
    go_simp
    refine hK.out _ _ ⟨_,_,_,_,_,_,_,_,_,_,_,_,_,_,_,_,_,?_,s0.keep rfl,s1.keep rfl,s2.keep rfl,s3.keep rfl,s4.keep rfl,s5.keep rfl,s6.keep rfl,s7.keep rfl,s8.keep rfl,s9.keep rfl,s10.keep rfl,s11.keep rfl,s12.keep rfl,s13.keep rfl,s14.keep rfl,s15.keep rfl,Slot.new _ _ _,O0.keep (Off.refl _ wr) rfl,P10_17.keep rfl,hO⟩
    simp only[XP]
   ·have q16:=s16 (hd 16 (by decide))
    have q15:=s15 (hd 15 (by decide))
    subst ha q16 q15
    have hZ:=(O0.was hl)
    obtain⟨m0,m1,m2,m3⟩:=NumsAt.cell hZ HOj.out
    have fz:=fun j=>NumsAt.frozen hZ j
    have lt:=heap_lt hZ
    clear hZ
    go_simp
    refine hK.out _ _ ⟨_,_,_,_,_,_,_,_,_,_,_,_,_,_,_,_,_,?_,s0.keep rfl,s1.keep rfl,s2.keep rfl,s3.keep rfl,s4.keep rfl,s5.keep rfl,s6.keep rfl,s7.keep rfl,s8.keep rfl,s9.keep rfl,s10.keep rfl,s11.keep rfl,s12.keep rfl,s13.keep rfl,s14.keep rfl,s15.keep rfl,s16.keep rfl,O0.putAt (HPt.out wr) hl,Dep.at (hd 10 (by decide)),setCells_in_at hO (fun _=>rfl) (words4 z)⟩
    simp only[XP]
   intro l a wc hI hd
   obtain⟨u39,u40,u41,u42,u43,u44,u45,u46,u47,u48,u49,u50,u51,u52,u53,u54,u55,ha,s0,s1,s2,s3,s4,s5,s6,s7,s8,s9,s10,s11,s12,s13,s14,s15,s16,O0,P10_17,hO⟩:=hI
   simp only[XP]at ha
   have q0:=s0 (hd 0 (by decide))
   have q1:=s1 (hd 1 (by decide))
   have q2:=s2 (hd 2 (by decide))
   have q3:=s3 (hd 3 (by decide))
   have q4:=s4 (hd 4 (by decide))
   have q5:=s5 (hd 5 (by decide))
   have q6:=s6 (hd 6 (by decide))
   have q7:=s7 (hd 7 (by decide))
   have q8:=s8 (hd 8 (by decide))
   have q9:=s9 (hd 9 (by decide))
   have q10:=s10 (hd 10 (by decide))
   have q11:=s11 (hd 11 (by decide))
   have q12:=s12 (hd 12 (by decide))
   have q13:=s13 (hd 13 (by decide))
   have q14:=s14 (hd 14 (by decide))
   have q15:=s15 (hd 15 (by decide))
   have q16:=s16 (hd 16 (by decide))
   have r0:wc.heap[arr]?=some (.cells (flat4 (L1.set g z)).toArray 66):=O0.now (hd 17 (by decide))
   subst ha q0 q1 q2 q3 q4 q5 q6 q7 q8 q9 q10 q11 q12 q13 q14 q15 q16
   clear hd s0 s1 s2 s3 s4 s5 s6 s7 s8 s9 s10 s11 s12 s13 s14 s15 s16 O0 P10_17
   refine⟨rfl,hO,H1.out.trans (hO.quiet (fun _ _ c=>.inr c)),?_⟩
   rw[HSn2.out,HLs.out]
   exact r0
  case done2 =>
   rintro ys A rfl ⟨h1,h2⟩ hP
   rw[<-HSn.out]at h2
   obtain⟨S2,t1,t2⟩:=hP
   rw[ext_ext,<-HSe.out]at t1
   have hC2:=HC.out.round HB.out h1 h2 t1 (fun k c=>(t2 k c).imp (fun c=>c) (fun d=>by have hb3:=HBk3.out;omega))
   clear hseq t1 h2 hr3
   gi_wp2
   exact⟨⟨h1.size,fun k o hk ho hc=>h1.others k o (heap_lt ho) ho hc⟩,fun _=>hC2.src,S2,hC2,by simp;omega⟩
 case done =>
  rintro D ys A hD rfl ⟨S',hC,_⟩ hK
  have HAr:=hid hC.ars
  have m0:A.cell? ⟨sb,0,none⟩=some (.slice (some ⟨arr,0,none⟩) N N):=cell_of_heap hC.sx 0
  have HCf:=hid hC
  clear hC hst
  gi_wp2
  refine⟨by simp,.inl ⟨_,_,rfl,run_takeDeferred hK,?_⟩⟩
  have hb:=HBk.out
  have hk1:=HCf.out.kept (grownBy_putObj' A D (.deferred none)) (fun r e=>by cases e;exact⟨by omega,_,hK,rfl⟩)
  refine⟨_,results_tmp rfl _ _ _,⟨arr,rfl,by omega,?_,⟨S',hk1.tp,fun b c=>(hk1.new b c).imp (fun c=>c) (fun h=>by omega)⟩,hk1.off⟩⟩
  have h:=hk1.ars
  unfold mulL
  rw[if_neg (by have:=HN.out;have:=HN2.out;omega),<-HN.out]
  exact h
 case stop =>
  rintro D' c pre W _ _ h _
  exact h.elim
end
section
open Go.RowKit
attribute [local go_sem] Oper.semAt_some wide_fn
theorem slice_el (b n cap k:Nat) (hk:k<=cap) (W:World):(Instr.slice 43 (.slice (some ⟨b,0,none⟩) n cap) none (some (.int .i64 k)) none).run Tryz.prog W=.ok (.slice (some ⟨b,0,none⟩) k cap) W:=by
 have he:Tryz.prog.elem 43=66:=by simp[Program.elem,Tryz.underlying43]
 rw[run_slice_h W 43 _ _ _ (by rw[he];exact Tryz.underlying43) .i64 _ (by omega) (by omega),he,Tryz.sizeOf66]
 simp[Result.andThen,sliced,Addr.add_lit]
set_option maxRecDepth 100000 in
set_option maxHeartbeats 4000000 in
theorem quotient_any {id:Int} {p i0 r s:Nat} (hF:Fld id p i0 r s) (vs:List Nat) (n cap:Nat) (a:Option Addr) (hn:n=vs.length) (hn2:n<=10000) (q:Option Addr) (es:List Ev) (S Sl:Nat->Prop) (w:World)
  (hL:LsAt w (.slice a n cap) (vs.map (fm p)) Sl) (hSl:∀ b,Sl b->b<w.heap.size/\¬S b) (hS:Tp w q es S) (hl:es.length<=70000) (x:Nat) :
  Calls Tryz.prog 107 #[.pointer q,FV id p i0 r s,.slice a n cap,V (fm p x)] w fun e w'=>∃ b,e=.returned (.tuple #[.slice (some ⟨b,0,none⟩) (n-1) n,V (fm p (pv vs x%p))])/\w.heap.size<=b/\NumsAt w' b 66 ((qls p vs x (List.range n)).map (fm p))/\Noted w.heap.size q es (coefD n (List.range n)) S w'/\Off S w w':=by
 refine(callsIn_wide (n:=6)).1 ?_
 refine callsIn_of_wp_marks Tryz.func107 rfl trivial ?_ rfl
 simp only[Tryz.ntmps107,List.size_toArray,List.length_cons,List.length_nil,Nat.reduceAdd,Nat.reduceSub,Array.replicate_succ,Array.replicate_zero,List.push_toArray,List.append_toArray,List.nil_append,List.cons_append]
 have hmx:Tryz.prog.follows .mixedOrders=true:=by kernel_rfl
 have HM:=hid (fun x y W=>by have h:=mmul_any hF (fm p x) (fm p y) (Nat.lt_trans (fm_lt hF.mp.pos _) hF.mp.lt) (fm_lt hF.mp.pos _) W;rw[mm_fm hF.mp]at h;exact h:∀ x y W,Calls Tryz.prog 109 #[FV id p i0 r s,V (fm p x),V (fm p y)] W fun x' w'=>x'=.returned (V (fm p (x*y%p)))/\Off (fun _=>False) W w')
 have HA:=hid (fun x y W=>by have h:=madd_any hF (fm p x) (fm p y) (fm_lt hF.mp.pos _) (fm_lt hF.mp.pos _) W;rw[fm_add]at h;exact h:∀ x y W,Calls Tryz.prog 108 #[FV id p i0 r s,V (fm p x),V (fm p y)] W fun x' w'=>x'=.returned (V (fm p ((x+y)%p)))/\Off (fun _=>False) W w')
 have HX:=hid (fun y W=>HM.out y x W)
 obtain⟨X,hX⟩:∃ X,X=fm p x:=⟨_,rfl⟩
 rw[<-hX]at HX ⊢
 have hmk:=run_make_el n (by omega)
 have HF:=hid hF
 have HN:=hid hn
 have HL:=hid hL
 have HSl:=hid hSl
 have HS:=hid hS
 clear hF hn hL hSl hS hX
 have hOr:=fun w=>eback_in (6-1) a n cap w
 have hCo:=fun w=>callsIn_wide (n:=6-1).2 (coefs_any q w)
 have hNo:=fun lb tb w=>callsIn_wide (n:=6-1).2 (noted_any (.func (.func 134) #[] #[.pointer (some ⟨lb,0,none⟩)]) (.func (.func 135) #[] #[.pointer (some ⟨tb,0,none⟩)]) w ⟨_,_,rfl⟩ ⟨_,_,rfl⟩)
 gi_wp2_with (first | (gi_at_call 119;refine(hOr _).mono ?_;rintro e w' ⟨rfl,rfl⟩) | (gi_at_call 120;refine(hCo _).mono ?_;rintro e w' ⟨rfl,rfl⟩) | (gi_at_call 118;refine(hNo _ _ _).mono ?_;rintro e w' ⟨rfl,rfl⟩))
 clear hOr hCo hNo
 clear hmk
 obtain⟨W8,hW8⟩:∃ W8,W8=(((((((((w.alloc (.cells #[.int .i64 id,.int .u64 (wd p 0),.int .u64 (wd p 1),.int .u64 (wd p 2),.int .u64 (wd p 3),.int .u64 i0,.int .u64 (wd r 0),.int .u64 (wd r 1),.int .u64 (wd r 2),.int .u64 (wd r 3),.int .u64 (wd s 0),.int .u64 (wd s 1),.int .u64 (wd s 2),.int .u64 (wd s 3)] 104)).alloc (.cells #[.int .u64 (wd X 0),.int .u64 (wd X 1),.int .u64 (wd X 2),.int .u64 (wd X 3)] 66)).alloc (.cells #[.int .u64 0,.int .u64 0,.int .u64 0,.int .u64 0] 66)).alloc (.cells (flat4 (List.replicate n 0)).toArray 66)).alloc (.cells #[.slice (some ⟨w.heap.size+1+1+1,0,none⟩) n n] 43)).alloc (.cells #[.int .u64 0,.int .u64 0,.int .u64 0,.int .u64 0] 66)).alloc (.cells #[.slice a n cap] 43)).alloc (.cells #[.pointer q] 40)).alloc (.cells #[.func (.func 134) #[] #[.pointer (some ⟨w.heap.size+1+1+1+1+1+1,0,none⟩)]] 165)).alloc (.cells #[.func (.func 135) #[] #[.pointer (some ⟨w.heap.size+1+1+1+1+1+1+1,0,none⟩)]] 168):=⟨_,rfl⟩
 have hOW8:Off (fun _=>False) w W8:=by rw[hW8];exact((((((((((Off.refl _ w).alloc _).alloc _).alloc _).alloc _).alloc _).alloc _).alloc _).alloc _).alloc _).alloc _
 have g_bf:W8.heap[w.heap.size]?=some (.cells #[.int .i64 id,.int .u64 (wd p 0),.int .u64 (wd p 1),.int .u64 (wd p 2),.int .u64 (wd p 3),.int .u64 i0,.int .u64 (wd r 0),.int .u64 (wd r 1),.int .u64 (wd r 2),.int .u64 (wd r 3),.int .u64 (wd s 0),.int .u64 (wd s 1),.int .u64 (wd s 2),.int .u64 (wd s 3)] 104 (0,0)):=by rw[hW8];exact heap_old' (heap_old' (heap_old' (heap_old' (heap_old' (heap_old' (heap_old' (heap_old' (heap_old' (heap_new' rfl _) _) _) _) _) _) _) _) _) _
 have g_bx:W8.heap[w.heap.size+1]?=some (.cells #[.int .u64 (wd X 0),.int .u64 (wd X 1),.int .u64 (wd X 2),.int .u64 (wd X 3)] 66 (0,0)):=by rw[hW8];exact heap_old' (heap_old' (heap_old' (heap_old' (heap_old' (heap_old' (heap_old' (heap_old' (heap_new' (by simp) _) _) _) _) _) _) _) _) _
 have g_rb:W8.heap[w.heap.size+1+1]?=some (.cells #[.int .u64 0,.int .u64 0,.int .u64 0,.int .u64 0] 66 (0,0)):=by rw[hW8];exact heap_old' (heap_old' (heap_old' (heap_old' (heap_old' (heap_old' (heap_old' (heap_new' (by simp) _) _) _) _) _) _) _) _
 have g_arr:W8.heap[w.heap.size+1+1+1]?=some (.cells (flat4 (List.replicate n 0)).toArray 66 (0,0)):=by rw[hW8];exact heap_old' (heap_old' (heap_old' (heap_old' (heap_old' (heap_old' (heap_new' (by simp) _) _) _) _) _) _) _
 have g_sb:W8.heap[w.heap.size+1+1+1+1]?=some (.cells #[.slice (some ⟨w.heap.size+1+1+1,0,none⟩) n n] 43 (0,0)):=by rw[hW8];exact heap_old' (heap_old' (heap_old' (heap_old' (heap_old' (heap_new' (by simp) _) _) _) _) _) _
 have g_vb:W8.heap[w.heap.size+1+1+1+1+1]?=some (.cells #[.int .u64 0,.int .u64 0,.int .u64 0,.int .u64 0] 66 (0,0)):=by rw[hW8];exact heap_old' (heap_old' (heap_old' (heap_old' (heap_new' (by simp) _) _) _) _) _
 have g_lb:W8.heap[w.heap.size+1+1+1+1+1+1]?=some (.cells #[.slice a n cap] 43 (0,0)):=by rw[hW8];exact heap_old' (heap_old' (heap_old' (heap_new' (by simp) _) _) _) _
 have g_tb:W8.heap[w.heap.size+1+1+1+1+1+1+1]?=some (.cells #[.pointer q] 40 (0,0)):=by rw[hW8];exact heap_old' (heap_old' (heap_new' (by simp) _) _) _
 have g_ob:W8.heap[w.heap.size+1+1+1+1+1+1+1+1]?=some (.cells #[.func (.func 134) #[] #[.pointer (some ⟨w.heap.size+1+1+1+1+1+1,0,none⟩)]] 165 (0,0)):=by rw[hW8];exact heap_old' (heap_new' (by simp) _) _
 have g_nb:W8.heap[w.heap.size+1+1+1+1+1+1+1+1+1]?=some (.cells #[.func (.func 135) #[] #[.pointer (some ⟨w.heap.size+1+1+1+1+1+1+1,0,none⟩)]] 168 (0,0)):=by rw[hW8];exact heap_new' (by simp) _
 have hsW8:W8.heap.size=w.heap.size+1+1+1+1+1+1+1+1+1+1:=by rw[hW8];simp
 rw[<-hW8]
 obtain⟨nb,e_nb⟩:∃ nb,nb=w.heap.size+1+1+1+1+1+1+1+1+1:=⟨_,rfl⟩
 rw[<-e_nb]at g_nb ⊢
 obtain⟨ob,e_ob⟩:∃ ob,ob=w.heap.size+1+1+1+1+1+1+1+1:=⟨_,rfl⟩
 rw[<-e_ob]at g_ob ⊢
 obtain⟨tb,e_tb⟩:∃ tb,tb=w.heap.size+1+1+1+1+1+1+1:=⟨_,rfl⟩
 rw[<-e_tb]at g_tb g_nb ⊢
 obtain⟨lb,e_lb⟩:∃ lb,lb=w.heap.size+1+1+1+1+1+1:=⟨_,rfl⟩
 rw[<-e_lb]at g_lb g_ob ⊢
 obtain⟨vb,e_vb⟩:∃ vb,vb=w.heap.size+1+1+1+1+1:=⟨_,rfl⟩
 rw[<-e_vb]at g_vb ⊢
 obtain⟨sb,e_sb⟩:∃ sb,sb=w.heap.size+1+1+1+1:=⟨_,rfl⟩
 rw[<-e_sb]at g_sb ⊢
 obtain⟨arr,e_arr⟩:∃ arr,arr=w.heap.size+1+1+1:=⟨_,rfl⟩
 rw[<-e_arr]at g_arr g_sb ⊢
 obtain⟨rb,e_rb⟩:∃ rb,rb=w.heap.size+1+1:=⟨_,rfl⟩
 rw[<-e_rb]at g_rb ⊢
 obtain⟨bx,e_bx⟩:∃ bx,bx=w.heap.size+1:=⟨_,rfl⟩
 rw[<-e_bx]at g_bx ⊢
 obtain⟨bf,e_bf⟩:∃ bf,bf=w.heap.size:=⟨_,rfl⟩
 rw[<-e_bf]at g_bf ⊢
 have HBk:=hid (show bf=w.heap.size/\bx=w.heap.size+1/\rb=w.heap.size+1+1/\arr=w.heap.size+1+1+1/\sb=w.heap.size+1+1+1+1/\vb=w.heap.size+1+1+1+1+1/\lb=w.heap.size+1+1+1+1+1+1/\tb=w.heap.size+1+1+1+1+1+1+1/\ob=w.heap.size+1+1+1+1+1+1+1+1/\nb=w.heap.size+1+1+1+1+1+1+1+1+1/\W8.heap.size=w.heap.size+1+1+1+1+1+1+1+1+1+1 from⟨e_bf,e_bx,e_rb,e_arr,e_sb,e_vb,e_lb,e_tb,e_ob,e_nb,hsW8⟩)
 clear hW8 hsW8 e_bf e_bx e_rb e_arr e_sb e_vb e_lb e_tb e_ob e_nb
 have hSw:=(fun k c=>by have:=HS.out.2 k c;omega:∀ k,S k->k<w.heap.size)
 have hT8:=HS.out.off0 hOW8
 have hnot:∀ k,w.heap.size<=k->¬S k:=fun k h c=>by have:=hSw k c;omega
 have hseq:=coefs_told (n:=6-1) (by omega) ob nb tb 134 #[.pointer (some ⟨lb,0,none⟩)] (enters_of Tryz.func134 (by kernel_rfl) rfl) (fun x=>n-1-x) (fun x=>fm p (vs.getD (n-1-x) 0)) (fun W=>Rl lb (.slice a n cap) (vs.map (fm p)) Sl W) (fun ys=>ys=List.range n) (fun pre=>∃ k,k<=n/\pre=List.range k) n
  (fun W hW=>by have h:=eback_stops (6-1-1) (by omega) lb a n cap (vs.map (fm p)) Sl W hW;simp only[List.length_map,getD_fm,<-HN.out]at h;exact h)
  [(ob,Obj.cells #[.func (.func 134) #[] #[.pointer (some ⟨lb,0,none⟩)]] 165 (0,0)),(nb,Obj.cells #[.func (.func 135) #[] #[.pointer (some ⟨tb,0,none⟩)]] 168 (0,0)),(tb,Obj.cells #[.pointer q] 40 (0,0))] q es S (fun k=>k=arr\/k=vb) W8
  (by simp) (by simp) (by simp)
  (by
   have hb:=HBk.out
   simp only[List.mem_cons,List.not_mem_nil,or_false,forall_eq_or_imp,forall_eq]
   exact⟨⟨g_ob,hnot _ (by omega),by omega⟩,⟨g_nb,hnot _ (by omega),by omega⟩,⟨g_tb,hnot _ (by omega),by omega⟩⟩)
  (fun k c=>by have c:k=arr\/k=vb:=c;have hb:=HBk.out;exact⟨by omega,hnot _ (by omega)⟩) ⟨g_lb,HL.out.off hOW8 (fun _ _ _ c=>c)⟩
  (fun A B h hq=>by
   have hb:=HBk.out
   exact h.quiet hq ⟨by omega,fun c=>c.elim (hnot _ (by omega)) (by omega)⟩ (fun k c=>⟨by have:=(HSl.out k c).1;omega,fun d=>d.elim (HSl.out k c).2 (fun e=>by have:=(HSl.out k c).1;omega)⟩))
  hT8 (by omega)
 have HNot:=hid hnot
 have h80:W8.heap[bf]?=some (.cells #[.int .i64 id,.int .u64 (wd p 0),.int .u64 (wd p 1),.int .u64 (wd p 2),.int .u64 (wd p 3),.int .u64 i0,.int .u64 (wd r 0),.int .u64 (wd r 1),.int .u64 (wd r 2),.int .u64 (wd r 3),.int .u64 (wd s 0),.int .u64 (wd s 1),.int .u64 (wd s 2),.int .u64 (wd s 3)] 104 (0,0))/\W8.heap[bx]?=some (.cells #[.int .u64 (wd X 0),.int .u64 (wd X 1),.int .u64 (wd X 2),.int .u64 (wd X 3)] 66 (0,0))/\W8.heap[rb]?=some (.cells #[.int .u64 0,.int .u64 0,.int .u64 0,.int .u64 0] 66 (0,0))/\W8.heap[sb]?=some (.cells #[.slice (some ⟨arr,0,none⟩) n n] 43 (0,0))/\W8.heap[vb]?=some (.cells #[.int .u64 (wd (fm p (hor p vs x [])) 0:Int),.int .u64 (wd (fm p (hor p vs x [])) 1:Int),.int .u64 (wd (fm p (hor p vs x [])) 2:Int),.int .u64 (wd (fm p (hor p vs x [])) 3:Int)] 66 (0,0))/\W8.heap[arr]?=some (.cells (flat4 ((qls p vs x []).map (fm p))).toArray 66 (0,0))/\Off S w W8:=⟨g_bf,g_bx,g_rb,g_sb,by rw[show fm p (hor p vs x [])=0 from fm_zero p];simp only[wd_zero];exact g_vb,by rw[show qls p vs x []=List.replicate vs.length 0 from rfl,<-HN.out,List.map_replicate,fm_zero];exact g_arr,hOW8.mono (fun _ _ c=>c.elim)⟩
 have H80:=hid h80
 clear h80 g_bf g_bx g_rb g_arr g_sb g_vb g_lb g_tb g_ob g_nb hT8 hOW8 hnot hSw
 refine rangeFunc_told (n:=6) (by omega) (gf:=133) (lb:=#[.pointer (some ⟨ob,0,none⟩),.pointer (some ⟨nb,0,none⟩)]) rfl (enters_of Tryz.func133 (by kernel_rfl) rfl) hseq
  (fun xs A B h hq hc=>noted_cells h hq hc) (fun _=>by rfl)
  (fun pre W=>W.heap[bf]?=some (.cells #[.int .i64 id,.int .u64 (wd p 0),.int .u64 (wd p 1),.int .u64 (wd p 2),.int .u64 (wd p 3),.int .u64 i0,.int .u64 (wd r 0),.int .u64 (wd r 1),.int .u64 (wd r 2),.int .u64 (wd r 3),.int .u64 (wd s 0),.int .u64 (wd s 1),.int .u64 (wd s 2),.int .u64 (wd s 3)] 104 (0,0))/\W.heap[bx]?=some (.cells #[.int .u64 (wd X 0),.int .u64 (wd X 1),.int .u64 (wd X 2),.int .u64 (wd X 3)] 66 (0,0))/\W.heap[rb]?=some (.cells #[.int .u64 0,.int .u64 0,.int .u64 0,.int .u64 0] 66 (0,0))/\W.heap[sb]?=some (.cells #[.slice (some ⟨arr,0,none⟩) n n] 43 (0,0))/\W.heap[vb]?=some (.cells #[.int .u64 (wd (fm p (hor p vs x pre)) 0:Int),.int .u64 (wd (fm p (hor p vs x pre)) 1:Int),.int .u64 (wd (fm p (hor p vs x pre)) 2:Int),.int .u64 (wd (fm p (hor p vs x pre)) 3:Int)] 66 (0,0))/\W.heap[arr]?=some (.cells (flat4 ((qls p vs x pre).map (fm p))).toArray 66 (0,0))/\Off S w W) ?hI ?h0
  (fun x a' W=>∃ B,W.heap[B]?=some (.cells #[.int .u64 (wd (fm p (vs.getD (n-1-x) 0)) 0:Int),.int .u64 (wd (fm p (vs.getD (n-1-x) 0)) 1:Int),.int .u64 (wd (fm p (vs.getD (n-1-x) 0)) 2:Int),.int .u64 (wd (fm p (vs.getD (n-1-x) 0)) 3:Int)] 66 (0,0))/\nb<B/\a'={ tmps:=#[.pointer q,FV id p i0 r s,.slice a n cap,V X,undef,.pointer (some ⟨bf,0,none⟩),undef,.pointer (some ⟨bx,0,none⟩),.slice none 0 0,.pointer (some ⟨rb,0,none⟩),.pointer (some ⟨sb,0,none⟩),.pointer (some ⟨vb,0,none⟩),.int .i64 ((n-1-x:Nat):Int),.pointer (some ⟨B,0,none⟩),.slice a n cap,.int .i64 n,.slice (some ⟨arr,0,none⟩) n n,.slice a n cap,.func (.func 134) #[] #[.pointer (some ⟨lb,0,none⟩)],.pointer q,.func (.func 135) #[] #[.pointer (some ⟨tb,0,none⟩)],.func (.func 133) #[] #[.pointer (some ⟨ob,0,none⟩),.pointer (some ⟨nb,0,none⟩)],.int .i64 ((n-1-x:Nat):Int),V (fm p (vs.getD (n-1-x) 0)),undef,undef,undef,undef,undef,undef,undef,undef,undef,undef,undef,undef,undef,undef,undef,undef,undef,undef],defers:=[] })
  (fun x a' A l o' h hc=>by obtain⟨B,h1,h2,h3⟩:=h;exact⟨B,hc _ _ _ _ h1,h2,h3⟩)
  ?assign ?body ?done
 case hI =>
  rintro pre A B ⟨h1,h2,h3,h4,h5,h6,h7⟩ hq
  have hb:=HBk.out
  exact⟨hq.block _ _ (by omega) (HNot.out _ (by omega)) h1,hq.block _ _ (by omega) (HNot.out _ (by omega)) h2,hq.block _ _ (by omega) (HNot.out _ (by omega)) h3,hq.block _ _ (by omega) (HNot.out _ (by omega)) h4,hq.block _ _ (by omega) (HNot.out _ (by omega)) h5,hq.block _ _ (by omega) (HNot.out _ (by omega)) h6,h7.later' hq (by omega) (fun k _ c=>c)⟩
 case h0=>exact H80.out
 case assign =>
  rintro l pre k W K hsz _ hK
  obtain⟨j,hj⟩:∃ j,j=n-1-k:=⟨_,rfl⟩
  obtain⟨y,hy⟩:∃ y,y=fm p (vs.getD (n-1-k) 0):=⟨_,rfl⟩
  rw[<-hy,<-hj]at hK
  rw[<-hy,<-hj]
  have hlt:nb<W.heap.size:=by have hb:=HBk.out;omega
  clear hy hj hseq
  gi_wp2
  exact hK _ _ ((Off.refl _ W).alloc _) ⟨W.heap.size,World.alloc_heap_new W _,hlt,rfl⟩
 case body =>
  rintro l pre k a' W _ _ ⟨h1,h2,h3,h4,h5,h6,h7⟩ ⟨B,hcB,hBt,rfl⟩ hlen
  obtain⟨j,hj⟩:∃ j,j=n-1-k:=⟨_,rfl⟩
  obtain⟨v,hv⟩:∃ v,v=vs.getD (n-1-k) 0:=⟨_,rfl⟩
  have hjn:j<n:=by rw[hj];first | omega | exact Nat.mod_lt _ (by omega)
  rw[<-hv,<-hj]
  rw[<-hv]at hcB
  obtain⟨y,hy⟩:∃ y,y=fm p v:=⟨_,rfl⟩
  rw[<-hy]
  rw[<-hy]at hcB
  obtain⟨L,hL⟩:∃ L,L=qls p vs x pre:=⟨_,rfl⟩
  obtain⟨R0,hR⟩:∃ R0,R0=hor p vs x pre:=⟨_,rfl⟩
  have hLn:L.length=n:=by rw[hL,qls_length,HN.out]
  have hsn:qls p vs x (pre++[k])=L.set j R0:=by rw[qls_snoc,<-HN.out,<-hL,<-hR,<-hj]
  have hsh:hor p vs x (pre++[k])=(R0*x%p+v)%p:=by rw[hor_snoc,<-HN.out,<-hR,<-hj,hv,hj]
  rw[<-hL]at h6
  rw[<-hR]at h5
  obtain⟨u,hu⟩:∃ u,u=fm p R0:=⟨_,rfl⟩
  obtain⟨m,hm⟩:∃ m,m=fm p (R0*x%p):=⟨_,rfl⟩
  obtain⟨z,hz⟩:∃ z,z=fm p ((R0*x%p+v)%p):=⟨_,rfl⟩
  have HMu:=hid (show ∀ W,Calls Tryz.prog 109 #[FV id p i0 r s,V u,V X] W fun x' w'=>x'=.returned (V m)/\Off (fun _=>False) W w' from fun W=>by rw[hu,hm];exact HX.out _ W)
  have HAd:=hid (show ∀ W,Calls Tryz.prog 108 #[FV id p i0 r s,V m,V y] W fun x' w'=>x'=.returned (V z)/\Off (fun _=>False) W w' from fun W=>by rw[hm,hy,hz];exact HA.out _ _ W)
  rw[<-hu]at h5
  have HLs:=hid (show(L.set j R0).map (fm p)=(L.map (fm p)).set j u by rw[List.map_set,hu])
  obtain⟨L1,hL1⟩:∃ L1,L1=L.map (fm p):=⟨_,rfl⟩
  have hL1n:L1.length=n:=by rw[hL1,List.length_map,hLn]
  rw[<-hL1]at h6 HLs
  have hjI:(j:Int)<(n:Int):=by omega
  obtain⟨e0,he0⟩:∃ e0,L1[j]?=some e0:=⟨_,List.getElem?_eq_getElem (by omega)⟩
  obtain⟨m0,m1,m2,m3⟩:=NumsAt.cell h6 he0
  have fz:=fun k=>NumsAt.frozen h6 k
  have lt:=NumsAt.lt h6
  have s0:W.cell? ⟨sb,0,none⟩=some (.slice (some ⟨arr,0,none⟩) n n):=cell_of_heap h4 0
  obtain⟨u0,u1,u2,u3⟩:=cells4 h5
  have HZ:=hid hz
  have HSn:=hid hsn
  have HSh:=hid hsh
  have H1:=hid h1
  have H2:=hid h2
  have H3:=hid h3
  have H4:=hid h4
  have H5:=hid h5
  have H6:=hid h6
  have H7:=hid h7
  have HcB:=hid hcB
  clear h1 h2 h3 h4 h5 h6 h7 hcB hz hm hu hy hR hv hj hseq hL hL1 hLn hsn hsh he0
  gi_wp2
  clear u0 u1 u2 u3 m0 m1 m2 m3 fz lt s0
  obtain⟨W1,hW1⟩:∃ W1,W1=(((W.setCell ⟨arr,j*4,none⟩ (.int .u64 (wd u 0))).setCell ⟨arr,j*4+1,none⟩ (.int .u64 (wd u 1))).setCell ⟨arr,j*4+2,none⟩ (.int .u64 (wd u 2))).setCell ⟨arr,j*4+3,none⟩ (.int .u64 (wd u 3)):=⟨_,rfl⟩
  rw[<-hW1]
  have ho1:Off (fun k=>k=arr) W W1:=by rw[hW1];exact setCells_off arr (words4 u) (j*4) W
  have a1:W1.heap[arr]?=some (.cells (flat4 (L1.set j u)).toArray 66 (0,0)):=by rw[hW1];exact NumsAt.store H6.out (by omega) u
  have HO1:=hid ho1
  have HA1:=hid a1
  have HPr:=hid (ho1.heap H5.out (by have hb:=HBk.out;omega))
  have HK:Hid (∀ A,Off (fun k=>k=vb) W1 A->(A.cell? ⟨bf,0,none⟩=some (.int .i64 id)/\A.cell? ⟨bf,1,none⟩=some (.int .u64 (wd p 0))/\A.cell? ⟨bf,2,none⟩=some (.int .u64 (wd p 1))/\A.cell? ⟨bf,3,none⟩=some (.int .u64 (wd p 2))/\A.cell? ⟨bf,4,none⟩=some (.int .u64 (wd p 3))/\A.cell? ⟨bf,5,none⟩=some (.int .u64 i0)/\A.cell? ⟨bf,6,none⟩=some (.int .u64 (wd r 0))/\A.cell? ⟨bf,7,none⟩=some (.int .u64 (wd r 1))/\A.cell? ⟨bf,8,none⟩=some (.int .u64 (wd r 2))/\A.cell? ⟨bf,9,none⟩=some (.int .u64 (wd r 3))/\A.cell? ⟨bf,10,none⟩=some (.int .u64 (wd s 0))/\A.cell? ⟨bf,11,none⟩=some (.int .u64 (wd s 1))/\A.cell? ⟨bf,12,none⟩=some (.int .u64 (wd s 2))/\A.cell? ⟨bf,13,none⟩=some (.int .u64 (wd s 3)))/\(A.cell? ⟨bx,0,none⟩=some (.int .u64 (wd X 0))/\A.cell? ⟨bx,1,none⟩=some (.int .u64 (wd X 1))/\A.cell? ⟨bx,2,none⟩=some (.int .u64 (wd X 2))/\A.cell? ⟨bx,3,none⟩=some (.int .u64 (wd X 3)))/\(A.cell? ⟨B,0,none⟩=some (.int .u64 (wd y 0))/\A.cell? ⟨B,1,none⟩=some (.int .u64 (wd y 1))/\A.cell? ⟨B,2,none⟩=some (.int .u64 (wd y 2))/\A.cell? ⟨B,3,none⟩=some (.int .u64 (wd y 3)))/\Off (fun k=>k=vb) W1 A):=hid (fun A h=>⟨fv_cells (h.heap (ho1.heap H1.out (by have hb:=HBk.out;omega)) (by have hb:=HBk.out;omega)),cells4 (h.heap (ho1.heap H2.out (by have hb:=HBk.out;omega)) (by have hb:=HBk.out;omega)),cells4 (h.heap (ho1.heap HcB.out (by have hb:=HBk.out;omega)) (by have hb:=HBk.out;omega)),h⟩)
  clear hW1 ho1 a1
  gi_wp2
  refine wpIn_region_inv (fun a0 l a' w'=>∃ (u28:Value) (u29:Value) (u30:Value) (u31:Value) (u32:Value) (u33:Value) (u34:Value),a'=(Act.put (Act.put (Act.put (Act.put (Act.put (Act.put (Act.put a0 (some 28) u28) (some 29) u29) (some 30) u30) (some 31) u31) (some 32) u32) (some 33) u33) (some 34) u34)/\Slot l 0 u28 (FV id p i0 r s)/\Slot l 1 u29 (FV id p i0 r s)/\Slot l 2 u30 (V u)/\Slot l 3 u31 (V X)/\Slot l 4 u32 (V m)/\Slot l 5 u33 (V y)/\Slot l 6 u34 (V z)/\Old l 7 vb W1 w' (.cells #[.int .u64 (wd u 0),.int .u64 (wd u 1),.int .u64 (wd u 2),.int .u64 (wd u 3)] 66) (.cells #[.int .u64 (wd z 0),.int .u64 (wd z 1),.int .u64 (wd z 2),.int .u64 (wd z 3)] 66)/\Dep l 2 7/\Off (fun k=>k=vb) W1 w') (by kernel_rfl) (by kernel_rfl) (by kernel_rfl) ?_ ⟨?_,?_,?_,?_,?_,?_,?_,?_,trivial⟩ ?_
  ·refine⟨?z28,?z29,?z30,?z31,?z32,?z33,?z34,?fr,Slot.start _ _ _,Slot.start _ _ _,Slot.start _ _ _,Slot.start _ _ _,Slot.start _ _ _,Slot.start _ _ _,Slot.start _ _ _,Old.start HPr.out _ _,Dep.start _ _,(Off.refl _ W1).drew⟩
   case fr=>first | (simp only[XP];rfl) | simp only[XP]
  all_goals try (intro l a wr hI hl hd K' hK;obtain⟨u28,u29,u30,u31,u32,u33,u34,ha,s0,s1,s2,s3,s4,s5,s6,O0,P2_7,hO⟩:=hI;simp only[XP]at ha)
  ·subst ha
   have hc:=HK.out wr hO
   have p0:=hc.1.1
   have p1:=hc.1.2.1
   have p2:=hc.1.2.2.1
   have p3:=hc.1.2.2.2.1
   have p4:=hc.1.2.2.2.2.1
   have p5:=hc.1.2.2.2.2.2.1
   have p6:=hc.1.2.2.2.2.2.2.1
   have p7:=hc.1.2.2.2.2.2.2.2.1
   have p8:=hc.1.2.2.2.2.2.2.2.2.1
   have p9:=hc.1.2.2.2.2.2.2.2.2.2.1
   have p10:=hc.1.2.2.2.2.2.2.2.2.2.2.1
   have p11:=hc.1.2.2.2.2.2.2.2.2.2.2.2.1
   have p12:=hc.1.2.2.2.2.2.2.2.2.2.2.2.2.1
   have p13:=hc.1.2.2.2.2.2.2.2.2.2.2.2.2.2
   clear hc
   go_simp
   refine hK.out _ _ ⟨_,_,_,_,_,_,_,?_,Slot.new _ _ _,s1.keep rfl,s2.keep rfl,s3.keep rfl,s4.keep rfl,s5.keep rfl,s6.keep rfl,O0.keep (Off.refl _ wr) rfl,P2_7.keep rfl,hO⟩
   simp only[XP]
  ·subst ha
   have hc:=HK.out wr hO
   have p0:=hc.1.1
   have p1:=hc.1.2.1
   have p2:=hc.1.2.2.1
   have p3:=hc.1.2.2.2.1
   have p4:=hc.1.2.2.2.2.1
   have p5:=hc.1.2.2.2.2.2.1
   have p6:=hc.1.2.2.2.2.2.2.1
   have p7:=hc.1.2.2.2.2.2.2.2.1
   have p8:=hc.1.2.2.2.2.2.2.2.2.1
   have p9:=hc.1.2.2.2.2.2.2.2.2.2.1
   have p10:=hc.1.2.2.2.2.2.2.2.2.2.2.1
   have p11:=hc.1.2.2.2.2.2.2.2.2.2.2.2.1
   have p12:=hc.1.2.2.2.2.2.2.2.2.2.2.2.2.1
   have p13:=hc.1.2.2.2.2.2.2.2.2.2.2.2.2.2
   clear hc
   go_simp
   refine hK.out _ _ ⟨_,_,_,_,_,_,_,?_,s0.keep rfl,Slot.new _ _ _,s2.keep rfl,s3.keep rfl,s4.keep rfl,s5.keep rfl,s6.keep rfl,O0.keep (Off.refl _ wr) rfl,P2_7.keep rfl,hO⟩
   simp only[XP]
  ·subst ha
   have hZ:=O0.was (P2_7 hl)
   obtain⟨p0,p1,p2,p3⟩:=cells4 hZ
   clear hZ
   go_simp
   refine hK.out _ _ ⟨_,_,_,_,_,_,_,?_,s0.keep rfl,s1.keep rfl,Slot.new _ _ _,s3.keep rfl,s4.keep rfl,s5.keep rfl,s6.keep rfl,O0.keep (Off.refl _ wr) rfl,P2_7.keep rfl,hO⟩
   simp only[XP]
  ·subst ha
   have hc:=HK.out wr hO
   have p0:=hc.2.1.1
   have p1:=hc.2.1.2.1
   have p2:=hc.2.1.2.2.1
   have p3:=hc.2.1.2.2.2
   clear hc
   go_simp
   refine hK.out _ _ ⟨_,_,_,_,_,_,_,?_,s0.keep rfl,s1.keep rfl,s2.keep rfl,Slot.new _ _ _,s4.keep rfl,s5.keep rfl,s6.keep rfl,O0.keep (Off.refl _ wr) rfl,P2_7.keep rfl,hO⟩
   simp only[XP]
  ·have q1:=s1 (hd 1 (by decide))
   have q2:=s2 (hd 2 (by decide))
   have q3:=s3 (hd 3 (by decide))
   subst ha q1 q2 q3
   go_simp
   refine(held_inv (HMu.out wr) hO).mono ?_
   rintro e w1 ⟨rfl,hO1,hOW⟩
   go_wp2_with fail
   refine hK.out _ _ ⟨_,_,_,_,_,_,_,?_,s0.keep rfl,s1.keep rfl,s2.keep rfl,s3.keep rfl,Slot.new _ _ _,s5.keep rfl,s6.keep rfl,O0.keep hOW rfl,P2_7.keep rfl,hO1⟩
   simp only[XP]
  ·subst ha
   have hc:=HK.out wr hO
   have p0:=hc.2.2.1.1
   have p1:=hc.2.2.1.2.1
   have p2:=hc.2.2.1.2.2.1
   have p3:=hc.2.2.1.2.2.2
   clear hc
   go_simp
   refine hK.out _ _ ⟨_,_,_,_,_,_,_,?_,s0.keep rfl,s1.keep rfl,s2.keep rfl,s3.keep rfl,s4.keep rfl,Slot.new _ _ _,s6.keep rfl,O0.keep (Off.refl _ wr) rfl,P2_7.keep rfl,hO⟩
   simp only[XP]
  ·have q0:=s0 (hd 0 (by decide))
   have q4:=s4 (hd 4 (by decide))
   have q5:=s5 (hd 5 (by decide))
   subst ha q0 q4 q5
   go_simp
   refine(held_inv (HAd.out wr) hO).mono ?_
   rintro e w1 ⟨rfl,hO1,hOW⟩
   go_wp2_with fail
   refine hK.out _ _ ⟨_,_,_,_,_,_,_,?_,s0.keep rfl,s1.keep rfl,s2.keep rfl,s3.keep rfl,s4.keep rfl,s5.keep rfl,Slot.new _ _ _,O0.keep hOW rfl,P2_7.keep rfl,hO1⟩
   simp only[XP]
  ·have q6:=s6 (hd 6 (by decide))
   subst ha q6
   have hZ:=(O0.was hl)
   obtain⟨m0,m1,m2,m3⟩:=cells4 hZ
   have fz:=fun j=>frozen_of_heap hZ j
   have lt:=heap_lt hZ
   clear hZ
   go_simp
   refine hK.out _ _ ⟨_,_,_,_,_,_,_,?_,s0.keep rfl,s1.keep rfl,s2.keep rfl,s3.keep rfl,s4.keep rfl,s5.keep rfl,s6.keep rfl,O0.put hl rfl,Dep.at (hd 2 (by decide)),setCells_in hO (fun _=>rfl) [.int .u64 (wd z 0),.int .u64 (wd z 1),.int .u64 (wd z 2),.int .u64 (wd z 3)]⟩
   simp only[XP]
  intro l a wc hI hd
  obtain⟨u28,u29,u30,u31,u32,u33,u34,ha,s0,s1,s2,s3,s4,s5,s6,O0,P2_7,hO⟩:=hI
  simp only[XP]at ha
  have q0:=s0 (hd 0 (by decide))
  have q1:=s1 (hd 1 (by decide))
  have q2:=s2 (hd 2 (by decide))
  have q3:=s3 (hd 3 (by decide))
  have q4:=s4 (hd 4 (by decide))
  have q5:=s5 (hd 5 (by decide))
  have q6:=s6 (hd 6 (by decide))
  have r0:wc.heap[vb]?=some (.cells #[.int .u64 (wd z 0),.int .u64 (wd z 1),.int .u64 (wd z 2),.int .u64 (wd z 3)] 66):=O0.now (hd 7 (by decide))
  subst ha q0 q1 q2 q3 q4 q5 q6
  clear hd s0 s1 s2 s3 s4 s5 s6 O0 P2_7
  have hb:=HBk.out
  have hO2:Off (fun k=>k=arr\/k=vb) W wc:=(HO1.out.mono (fun _ _ c=>.inl c)).trans hO (fun _ _ c=>.inr c)
  have hO3:=hO2
  refine⟨rfl,hO2,hO3.heap H1.out (by omega),hO3.heap H2.out (by omega),hO3.heap H3.out (by omega),hO3.heap H4.out (by omega),?_,?_,H7.out.trans hO3 (fun k hk e=>by omega)⟩
  ·rw[HSh.out,<-HZ.out]
   exact r0
  rw[HSn.out,HLs.out]
  exact hO.heap HA1.out (by omega)
 case done =>
  rintro D ys A hD rfl ⟨h1,h2,h3,h4,h5,h6,h7⟩ hP hK
  rw[show hor p vs x (List.range n)=pv vs x%p by rw[HN.out];exact hor_done p vs x]at h5
  obtain⟨z,hz⟩:∃ z,z=fm p (pv vs x%p):=⟨_,rfl⟩
  rw[<-hz]at h5
  have HZ:=hid hz
  obtain⟨m,hm⟩:∃ m,m=n-1:=⟨_,rfl⟩
  have hw1:IntKind.i64.wrap ((n:Int)-1)=(n:Int)-1:=by rw[IntKind.wrap_i64];omega
  have hmx2:max ((n:Int)-1) 0=(m:Int):=by omega
  have hsl:=fun W=>slice_el arr n n m (by omega) W
  have HM2:=hid hm
  have H3:=hid h3
  have H6:=hid h6
  have HRb:=hid h3
  have HP:=hid hP
  have HO:=hid h7
  have HK8:Hid (∀ B,Off (fun k=>k=rb) A B->(B.cell? ⟨sb,0,none⟩=some (.slice (some ⟨arr,0,none⟩) n n))/\(B.cell? ⟨vb,0,none⟩=some (.int .u64 (wd z 0))/\B.cell? ⟨vb,1,none⟩=some (.int .u64 (wd z 1))/\B.cell? ⟨vb,2,none⟩=some (.int .u64 (wd z 2))/\B.cell? ⟨vb,3,none⟩=some (.int .u64 (wd z 3)))/\Off (fun k=>k=rb) A B):=hid (fun B h=>⟨cell_of_heap (h.heap h4 (by have hb:=HBk.out;omega)) 0,cells4 (h.heap h5 (by have hb:=HBk.out;omega)),h⟩)
  clear h1 h2 h3 h4 h5 h6 h7 hP hseq hz hm
  gi_wp2
  refine wpWide_region_inv (fun a0 l a' w'=>∃ (u35:Value) (u36:Value) (u37:Value) (u38:Value) (u39:Value) (u40:Value) (u41:Value) (u8:Value),a'=(Act.put (Act.put (Act.put (Act.put (Act.put (Act.put (Act.put (Act.put a0 (some 35) u35) (some 36) u36) (some 37) u37) (some 38) u38) (some 39) u39) (some 40) u40) (some 41) u41) (some 8) u8)/\Slot l 0 u35 (.slice (some ⟨arr,0,none⟩) n n)/\Slot l 1 u36 (.slice a n cap)/\Slot l 2 u37 (.int .i64 n)/\Slot l 3 u38 (.int .i64 ((n:Int)-1))/\Slot l 4 u39 (.int .i64 m)/\Slot l 5 u40 (.slice (some ⟨arr,0,none⟩) m n)/\Slot l 6 u41 (V z)/\Slot l 7 u8 (.slice (some ⟨arr,0,none⟩) m n)/\Old l 8 rb A w' (.cells #[.int .u64 0,.int .u64 0,.int .u64 0,.int .u64 0] 66) (.cells #[.int .u64 (wd z 0),.int .u64 (wd z 1),.int .u64 (wd z 2),.int .u64 (wd z 3)] 66)/\Off (fun k=>k=rb) A w') (by kernel_rfl) (by kernel_rfl) (by kernel_rfl) ?_ ⟨?_,?_,?_,?_,?_,?_,?_,?_,?_,trivial⟩ ?_
  ·refine⟨?z35,?z36,?z37,?z38,?z39,?z40,?z41,?z8,?fr,Slot.start _ _ _,Slot.start _ _ _,Slot.start _ _ _,Slot.start _ _ _,Slot.start _ _ _,Slot.start _ _ _,Slot.start _ _ _,Slot.start _ _ _,Old.start HRb.out _ _,(Off.refl _ A).drew⟩
   case fr=>first | (simp only[XP];rfl) | simp only[XP]
  all_goals try (intro l a wr hI hl hd K' hK;obtain⟨u35,u36,u37,u38,u39,u40,u41,u8,ha,s0,s1,s2,s3,s4,s5,s6,s7,O0,hO⟩:=hI;simp only[XP]at ha)
  ·subst ha
   have hc:=HK8.out wr hO
   have p0:=hc.1
   clear hc
   go_simp
   refine hK.out _ _ ⟨_,_,_,_,_,_,_,_,?_,Slot.new _ _ _,s1.keep rfl,s2.keep rfl,s3.keep rfl,s4.keep rfl,s5.keep rfl,s6.keep rfl,s7.keep rfl,O0.keep (Off.refl _ wr) rfl,hO⟩
   simp only[XP]
  ·subst ha
   go_simp
   refine hK.out _ _ ⟨_,_,_,_,_,_,_,_,?_,s0.keep rfl,Slot.new _ _ _,s2.keep rfl,s3.keep rfl,s4.keep rfl,s5.keep rfl,s6.keep rfl,s7.keep rfl,O0.keep (Off.refl _ wr) rfl,hO⟩
   simp only[XP]
  ·have q1:=s1 (hd 1 (by decide))
   subst ha q1
   go_simp
   refine hK.out _ _ ⟨_,_,_,_,_,_,_,_,?_,s0.keep rfl,s1.keep rfl,Slot.new _ _ _,s3.keep rfl,s4.keep rfl,s5.keep rfl,s6.keep rfl,s7.keep rfl,O0.keep (Off.refl _ wr) rfl,hO⟩
   simp only[XP]
  ·have q2:=s2 (hd 2 (by decide))
   subst ha q2
   go_simp
   refine hK.out _ _ ⟨_,_,_,_,_,_,_,_,?_,s0.keep rfl,s1.keep rfl,s2.keep rfl,Slot.new _ _ _,s4.keep rfl,s5.keep rfl,s6.keep rfl,s7.keep rfl,O0.keep (Off.refl _ wr) rfl,hO⟩
   simp only[XP]
  ·have q3:=s3 (hd 3 (by decide))
   subst ha q3
   go_simp
   refine hK.out _ _ ⟨_,_,_,_,_,_,_,_,?_,s0.keep rfl,s1.keep rfl,s2.keep rfl,s3.keep rfl,Slot.new _ _ _,s5.keep rfl,s6.keep rfl,s7.keep rfl,O0.keep (Off.refl _ wr) rfl,hO⟩
   simp only[XP]
  ·have q0:=s0 (hd 0 (by decide))
   have q4:=s4 (hd 4 (by decide))
   subst ha q0 q4
   go_simp
   refine hK.out _ _ ⟨_,_,_,_,_,_,_,_,?_,s0.keep rfl,s1.keep rfl,s2.keep rfl,s3.keep rfl,s4.keep rfl,Slot.new _ _ _,s6.keep rfl,s7.keep rfl,O0.keep (Off.refl _ wr) rfl,hO⟩
   simp only[XP]
  ·subst ha
   have hc:=HK8.out wr hO
   have p0:=hc.2.1.1
   have p1:=hc.2.1.2.1
   have p2:=hc.2.1.2.2.1
   have p3:=hc.2.1.2.2.2
   clear hc
   go_simp
   refine hK.out _ _ ⟨_,_,_,_,_,_,_,_,?_,s0.keep rfl,s1.keep rfl,s2.keep rfl,s3.keep rfl,s4.keep rfl,s5.keep rfl,Slot.new _ _ _,s7.keep rfl,O0.keep (Off.refl _ wr) rfl,hO⟩
   simp only[XP]
  ·have q5:=s5 (hd 5 (by decide))
   subst ha q5
   go_simp
   refine hK.out _ _ ⟨_,_,_,_,_,_,_,_,?_,s0.keep rfl,s1.keep rfl,s2.keep rfl,s3.keep rfl,s4.keep rfl,s5.keep rfl,s6.keep rfl,Slot.new _ _ _,O0.keep (Off.refl _ wr) rfl,hO⟩
   simp only[XP]
  ·have q6:=s6 (hd 6 (by decide))
   subst ha q6
   have hZ:=(O0.was hl)
   obtain⟨m0,m1,m2,m3⟩:=cells4 hZ
   have fz:=fun j=>frozen_of_heap hZ j
   have lt:=heap_lt hZ
   clear hZ
   go_simp
   refine hK.out _ _ ⟨_,_,_,_,_,_,_,_,?_,s0.keep rfl,s1.keep rfl,s2.keep rfl,s3.keep rfl,s4.keep rfl,s5.keep rfl,s6.keep rfl,s7.keep rfl,O0.put hl rfl,setCells_in hO (fun _=>rfl) [.int .u64 (wd z 0),.int .u64 (wd z 1),.int .u64 (wd z 2),.int .u64 (wd z 3)]⟩
   simp only[XP]
  intro l a wc hI hd
  obtain⟨u35,u36,u37,u38,u39,u40,u41,u8,ha,s0,s1,s2,s3,s4,s5,s6,s7,O0,hO⟩:=hI
  simp only[XP]at ha
  have q0:=s0 (hd 0 (by decide))
  have q1:=s1 (hd 1 (by decide))
  have q2:=s2 (hd 2 (by decide))
  have q3:=s3 (hd 3 (by decide))
  have q4:=s4 (hd 4 (by decide))
  have q5:=s5 (hd 5 (by decide))
  have q6:=s6 (hd 6 (by decide))
  have q7:=s7 (hd 7 (by decide))
  have r0:wc.heap[rb]?=some (.cells #[.int .u64 (wd z 0),.int .u64 (wd z 1),.int .u64 (wd z 2),.int .u64 (wd z 3)] 66):=O0.now (hd 8 (by decide))
  subst ha q0 q1 q2 q3 q4 q5 q6 q7
  clear hd s0 s1 s2 s3 s4 s5 s6 s7 O0
  gi_wp2
  have hb:=HBk.out
  have hK9:=hO.others _ _ hK rfl
  refine⟨by simp,.inl ⟨_,_,rfl,run_takeDeferred hK9,?_⟩⟩
  have hqD:Quiet w.heap.size S wc (wc.putObj D (.deferred none)):=Quiet.putObj _ _ (by omega)
  have s9:(wc.putObj D (.deferred none)).heap[rb]?=some (.cells #[.int .u64 (wd z 0),.int .u64 (wd z 1),.int .u64 (wd z 2),.int .u64 (wd z 3)] 66 (0,0)):=(World.putObj_heap_other (by omega)).trans r0
  have a9:NumsAt (wc.putObj D (.deferred none)) arr 66 ((qls p vs x (List.range n)).map (fm p)):=(World.putObj_heap_other (by omega)).trans (hO.heap H6.out (by omega))
  have hP9:=noted_put (o':=.deferred none) (HP.out.off hO (fun k e=>⟨by subst e;exact HNot.out _ (by omega),by omega⟩)) hK9
  have hO10:Off S w (wc.putObj D (.deferred none)):=(HO.out.trans hO (fun k hk e=>by omega)).later' hqD (Nat.le_refl _) (fun _ _ c=>c)
  generalize wc.putObj D (.deferred none)=W10 at s9 a9 hP9 hO10 ⊢
  obtain⟨r0,r1,r2,r3⟩:=cells4 s9
  obtain⟨S',t1,t2⟩:=hP9
  refine⟨.tuple #[.slice (some ⟨arr,0,none⟩) m n,V z],by simp[results,Tryz.results107,go_sem,r0,r1,r2,r3],⟨arr,by rw[HZ.out,HM2.out],by omega,a9,⟨S',t1,fun k c=>(t2 k c).imp (fun c=>c) (fun d=>by omega)⟩,hO10⟩⟩
end
section
open Go.RowKit
theorem none_lst {w:World}:∀ b,(fun k=>k<w.heap.size/\¬False) b->b<w.heap.size/\¬(fun _:Nat=>False) b:=fun _ h=>h
section
variable {id:Int} {p i0 r s:Nat}
theorem mulL_length (p:Nat) (vs us:List Nat) (h:0<vs.length) (h2:0<us.length):(mulL p vs us).length=vs.length+us.length-1:=by
 unfold mulL;rw[if_neg (by omega),mulAll_length]
end
end
end Go.Proofs.YtbkgghhngeibhaaGreatDoor
