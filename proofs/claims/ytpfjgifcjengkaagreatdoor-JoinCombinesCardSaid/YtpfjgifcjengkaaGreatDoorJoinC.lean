/-
  The contracts of the closures of package join over this seat's translation: what Values and At compute for a chunk. Conditions: the field's constants are those of its modulus, the lists lie in memory, outside of the tape.
  The contracts of package join over this seat's translation. Conditions: the shares lie in memory, outside of the tape, at most 90; the table of fields lies in memory as it was laid.
  The contracts of package join over this seat's translation. Conditions: the shares lie in memory, outside of the tape, at most 90; the table of fields lies in memory as it was laid.
-/
import Derived.Test.YtpfjgifcjengkaaGreatDoorJoinCh
import Derived.Test.YtpfjgifcjengkaaGreatDoorLagProg
import Derived.Test.YtpfjgifcjengkaaGreatDoorPolEval
import Derived.Test.YtpfjgifcjengkaaGreatDoorChkAll
import Derived.Test.YtpfjgifcjengkaaGreatDoorRegn
import Derived.Test.YtpfjgifcjengkaaGreatDoorJoinLow
namespace Go.Proofs.YtpfjgifcjengkaaGreatDoor
section
open Go.RowKit
attribute [local go_sem ↓] Go.wp_at_zero Go.wp_at_succ
set_option maxRecDepth 100000
set_option maxHeartbeats 4000000
def FBox (w:World) (b:Nat) (id:Int) (p i0 r s:Nat):Prop:=w.heap[b]?=some (.cells #[.int .i64 id,.int .u64 (wd p 0),.int .u64 (wd p 1),.int .u64 (wd p 2),.int .u64 (wd p 3),.int .u64 i0,.int .u64 (wd r 0),.int .u64 (wd r 1),.int .u64 (wd r 2),.int .u64 (wd r 3),.int .u64 (wd s 0),.int .u64 (wd s 1),.int .u64 (wd s 2),.int .u64 (wd s 3)] 75 (0,0))
def TBox (w:World) (b:Nat) (q:Option Addr):Prop:=w.heap[b]?=some (.cells #[.pointer q] 53 (0,0))
theorem vclo_any {id:Int} {p i0 r s:Nat} (hF:Fld id p i0 r s) (T:Nat) (hT:T<=90) (zs us:List Nat) (hz:T=zs.length) (hu:T=us.length) (bt bf bc:Nat) (a:Option Addr) (cap:Nat) (v:Value) (q:Option Addr) (es:List Ev) (S Sl Sl2:Nat->Prop) (w:World)
  (gt:TBox w bt q) (gf:FBox w bf id p i0 r s) (gc:w.heap[bc]?=some (.cells #[.slice a T cap] 25 (0,0))) (hL:LsAt w (.slice a T cap) (zs.map (fm p)) Sl) (hSl:∀ b,Sl b->b<w.heap.size/\¬S b) (hL2:LsAt w v (us.map (fm p)) Sl2) (hSl2:∀ b,Sl2 b->b<w.heap.size/\¬S b) (hS:Tp w q es S) (hl:es.length<=60000) :
  Calls Tryz.prog 40 #[v,.pointer (some ⟨bt,0,none⟩),.pointer (some ⟨bf,0,none⟩),.pointer (some ⟨bc,0,none⟩)] w fun e w'=>e=.returned (V (fm p (dotF p zs us T)))/\Noted w.heap.size q es (upE T) S w'/\Off S w w':=by
 have hz2:=hL2
 obtain⟨a2,cap2,rfl,_,_⟩:=hz2
 rw[List.length_map,<-hu]at hL2 ⊢
 obtain⟨X,hX⟩:∃ X,X=fm p (dotF p zs us T):=⟨_,rfl⟩
 have FD:=Lib.hid (fun W (hO:Off (fun _=>False) w W)=>dot_any hF zs us T cap cap2 a a2 hz hu (by omega) q es S Sl Sl2 W (hL.off hO (fun _ _ _ c=>c)) (fun b h=>⟨Nat.lt_of_lt_of_le (hSl b h).1 hO.size,(hSl b h).2⟩) (hL2.off hO (fun _ _ _ c=>c)) (fun b h=>⟨Nat.lt_of_lt_of_le (hSl2 b h).1 hO.size,(hSl2 b h).2⟩) (hS.off0 hO) (by omega))
 rw[<-hX]at FD ⊢
 have ht0:w.cell? ⟨bt,0,none⟩=some (.pointer q):=cell_of_heap gt 0
 have lt0:=heap_lt gt
 obtain⟨f0,f1,f2,f3,f4,f5,f6,f7,f8,f9,f10,f11,f12,f13⟩:=fv_cells gf
 have lf:=heap_lt gf
 have hc0:w.cell? ⟨bc,0,none⟩=some (.slice a T cap):=cell_of_heap gc 0
 have lc:=heap_lt gc
 have HS:=Lib.hid hS
 clear hL hSl hL2 hSl2 hS hl hX gt gf gc hz hu hF
 go_enter Tryz.func40,Tryz.ntmps40
 go_wp2_with fail
 refine(FD.out _ ((Off.refl _ w).alloc _)).mono ?_
 rintro e u1 ⟨rfl,hN,hO⟩
 have g0:=hO.heap (heap_new' (w:=w) rfl (.cells #[.int .u64 0,.int .u64 0,.int .u64 0,.int .u64 0] 34)) (fun c=>by have:=HS.out.2 _ c;omega)
 obtain⟨m0,m1,m2,m3⟩:=cells4 g0
 have fz:=fun k=>frozen_of_heap g0 k
 have lg:=heap_lt g0
 have HG0:=Lib.hid g0
 have HOw:=Lib.hid (((Off.refl S w).alloc (.cells #[.int .u64 0,.int .u64 0,.int .u64 0,.int .u64 0] 34)).trans hO (fun _ _ c=>c))
 have HN:=Lib.hid hN
 clear g0 hO hN ht0 lt0 f0 f1 f2 f3 f4 f5 f6 f7 f8 f9 f10 f11 f12 f13 lf hc0 lc FD
 obtain⟨W1,hW1⟩:∃ W1,W1=((u1.setCells w.heap.size 0 (words4 X)).alloc (.cells #[.int .u64 (wd X 0),.int .u64 (wd X 1),.int .u64 (wd X 2),.int .u64 (wd X 3)] 34)):=⟨_,rfl⟩
 have HEnd:=Lib.hid (show Noted w.heap.size q es (upE T) S W1/\Off S w W1 from by
  rw[hW1]
  have ho2:=setCells_off w.heap.size (words4 X) 0 u1
  obtain⟨S2,hp2,hs2⟩:=HN.out
  refine⟨⟨S2,?_,fun k c=>(hs2 k c).elim .inl (fun c=>.inr (Nat.le_trans ((Off.refl S w).alloc _).size c))⟩,(HOw.out.trans ho2 (fun k hk e=>by omega)).alloc _⟩
  exact(hp2.off ho2 (fun k e c=>by subst e;exact(hs2 _ c).elim (fun c=>by have:=HS.out.2 _ c;omega) (fun c=>by simp at c;omega))).off0 ((Off.refl _ _).alloc _))
 obtain⟨r0,r1,r2,r3⟩:=cells4 (show W1.heap[w.heap.size]?=some (.cells #[.int .u64 (wd X 0),.int .u64 (wd X 1),.int .u64 (wd X 2),.int .u64 (wd X 3)] 34 (0,0)) from by rw[hW1];exact heap_old' (setCells_at (vs:=words4 X) HG0.out rfl) _)
 have HW1:=Lib.hid hW1
 clear hW1
 go_wp2
 change bodyPost _ _ _ _ _ ((u1.setCells w.heap.size 0 (words4 X)).alloc (.cells #[.int .u64 (wd X 0),.int .u64 (wd X 1),.int .u64 (wd X 2),.int .u64 (wd X 3)] 34))
 rw[<-HW1.out]
 refine bodyPost_ret (v:=V X) (by simp[results,Tryz.results40,go_sem,r0,r1,r2,r3]) rfl ⟨rfl,HEnd.out⟩
theorem aclo_any {id:Int} {p i0 r s:Nat} (hF:Fld id p i0 r s) (T:Nat) (hT:T<=90) (h1T:0<T) (xs:List Int) (hc:chkV xs=0) (hxl:T=xs.length) (ys:List Nat) (hy:T=ys.length) (i:Nat) (bt bf bx be:Nat) (a:Option Addr) (cap:Nat) (v:Value) (q:Option Addr) (es:List Ev) (S Sl2:Nat->Prop) (w:World)
  (gt:TBox w bt q) (gf:FBox w bf id p i0 r s) (gx:w.heap[bx]?=some (.cells #[.slice a T cap] 79 (0,0))) (ge:w.heap[be]?=some (.cells #[.int .u64 (wd (fm p i) 0:Int),.int .u64 (wd (fm p i) 1:Int),.int .u64 (wd (fm p i) 2:Int),.int .u64 (wd (fm p i) 3:Int)] 34 (0,0))) (ne:¬S be) (nf:¬S bf) (nt:¬S bt)
  (hX:Iv w (.slice a T cap) xs) (hL2:LsAt w v (ys.map (fm p)) Sl2) (hSl2:∀ b,Sl2 b->b<w.heap.size/\¬S b) (hS:Tp w q es S) (hl:es.length+(wpE T T++batE T++prE T T).length<=50000) :
  Calls Tryz.prog 47 #[v,.pointer (some ⟨bt,0,none⟩),.pointer (some ⟨bf,0,none⟩),.pointer (some ⟨bx,0,none⟩),.pointer (some ⟨be,0,none⟩)] w fun e w'=>e=.returned (V (fm p (pv (itpL p (ptV xs) ys) i%p)))/\Noted w.heap.size q es (wpE T T++batE T++prE T T++coefD T (List.range T)) S w'/\Off S w w':=by
 have hz2:=hL2
 obtain⟨a2,cap2,rfl,_,_⟩:=hz2
 rw[List.length_map,<-hy]at hL2 ⊢
 obtain⟨cs,hcs⟩:∃ cs,cs=itpL p (ptV xs) ys:=⟨_,rfl⟩
 have hcl:cs.length=T:=by rw[hcs,itpL,itpF_length p _ _ _ (Nat.le_refl _),ptV_length,hxl]
 obtain⟨X,hX'⟩:∃ X,X=fm p (pv cs i%p):=⟨_,rfl⟩
 obtain⟨z,hz⟩:∃ z,z=fm p i:=⟨_,rfl⟩
 obtain⟨e1,he1⟩:∃ e,e=wpE T T++batE T++prE T T:=⟨_,rfl⟩
 have FI:=Lib.hid (fun W (hO:Off (fun _=>False) w W)=>itp_ok hF xs hc T hxl hT ys hy q es S Sl2 a a2 cap cap2 W (hX.off hO) (hL2.off hO (fun _ _ _ c=>c)) (fun b h=>⟨Nat.lt_of_lt_of_le (hSl2 b h).1 hO.size,(hSl2 b h).2⟩) (hS.off0 hO) (by omega))
 rw[<-hcs,<-he1]at FI
 rw[<-hcs,<-hX',<-he1]
 rw[<-hz]at ge
 rw[<-he1]at hl
 have ht0:w.cell? ⟨bt,0,none⟩=some (.pointer q):=cell_of_heap gt 0
 have lt0:=heap_lt gt
 obtain⟨f0,f1,f2,f3,f4,f5,f6,f7,f8,f9,f10,f11,f12,f13⟩:=fv_cells gf
 have lf:=heap_lt gf
 have hc0:w.cell? ⟨bx,0,none⟩=some (.slice a T cap):=cell_of_heap gx 0
 have lc:=heap_lt gx
 have HS:=Lib.hid hS
 have HB:=Lib.hid (And.intro gt (And.intro gf ge))
 have HN:=Lib.hid (And.intro nt (And.intro nf ne))
 have HCl:=Lib.hid hcl
 have HX:=Lib.hid hX'
 have HZ:=Lib.hid hz
 have HEs:=Lib.hid hl
 have HF:=Lib.hid hF
 have HT:=Lib.hid (And.intro hT h1T)
 clear hX hL2 hSl2 hS hl hX' gt gf gx ge hy hxl hF hz hcs hcl ne nf nt he1 hc hT h1T
 go_enter Tryz.func47,Tryz.ntmps47
 go_wp2_with fail
 refine(FI.out _ ((Off.refl _ w).alloc _)).mono ?_
 rintro e u1 ⟨u,rfl,hu,hN,hO⟩
 have g0:=hO.heap (heap_new' (w:=w) rfl (.cells #[.int .u64 0,.int .u64 0,.int .u64 0,.int .u64 0] 34)) (fun c=>by have:=HS.out.2 _ c;omega)
 have hOw:Off S w u1:=((Off.refl S w).alloc _).trans hO (fun _ _ c=>c)
 obtain⟨S1,hp,hs⟩:=hN
 have hpt:=hp.typed
 have hls:=hu.lsT17 (by rw[List.length_map,HCl.out];have:=HT.out;omega)
 obtain⟨b,rfl⟩:∃ b,u=.slice (some ⟨b,0,none⟩) T T:=by
  rcases hu with ⟨h,_⟩ | ⟨b,h,_⟩
  ·have:=congrArg List.length h
   rw[List.length_map,HCl.out]at this
   have:=HT.out
   simp at *
   omega
  rw[List.length_map,HCl.out]at h
  exact⟨b,h⟩
 have FE:=Lib.hid (eval_any HF.out cs T T (some ⟨b,0,none⟩) HCl.out.symm (by have:=HT.out;omega) q _ _ _ u1 hls (fun b h=>⟨h.1,fun c=>h.2 c.2⟩) hpt (by have:=ext_le q es e1;have:=HEs.out;omega) i)
 rw[<-HX.out,<-HZ.out]at FE
 have hgt:=hOw.heap HB.out.1 HN.out.1
 have hgf:=hOw.heap HB.out.2.1 HN.out.2.1
 have hge:=hOw.heap HB.out.2.2 HN.out.2.2
 have t0:u1.cell? ⟨bt,0,none⟩=some (.pointer q):=cell_of_heap hgt 0
 have l0:=heap_lt hgt
 obtain⟨y0,y1,y2,y3,y4,y5,y6,y7,y8,y9,y10,y11,y12,y13⟩:=fv_cells hgf
 have l1:=heap_lt hgf
 obtain⟨x0,x1,x2,x3⟩:=cells4 hge
 have l2:=heap_lt hge
 have HG0:=Lib.hid g0
 have HOw:=Lib.hid hOw
 have HSs:=Lib.hid hs
 have HSz:=Lib.hid (show w.heap.size+1<=u1.heap.size by have:=hO.size;simp at this;omega)
 have HTy:=Lib.hid (show ∀ k,(S1 k/\Typed u1 k)->S k\/w.heap.size<=k from fun k c=>(hs k c.1).imp (fun c=>c) (fun c=>by simp at c;omega))
 have HNg:=Lib.hid (show ¬(S1 w.heap.size/\Typed u1 w.heap.size) from fun c=>not_typed g0 c.2)
 clear f0 f1 f2 f3 f4 f5 f6 f7 f8 f9 f10 f11 f12 f13 lf ht0 lt0 hc0 lc hgt hgf hge g0 hOw hp hs hpt hls hu hO FI
 go_wp2_with fail
 refine FE.out.mono ?_
 rintro e u2 ⟨rfl,hN,hO⟩
 have g2:=hO.heap HG0.out HNg.out
 obtain⟨m0,m1,m2,m3⟩:=cells4 g2
 have fz:=fun k=>frozen_of_heap g2 k
 have lg:=heap_lt g2
 obtain⟨S2,hp2,hs2⟩:=hN
 have hn2:¬S2 w.heap.size:=fun c=>(hs2 _ c).elim HNg.out (fun c=>by have:=HSz.out;omega)
 obtain⟨W1,hW1⟩:∃ W1,W1=u2.setCells w.heap.size 0 (words4 X):=⟨_,rfl⟩
 have HEnd:=Lib.hid (show Noted w.heap.size q es (e1++coefD T (List.range T)) S W1/\Off S w W1 from by
  rw[hW1]
  have ho2:=setCells_off w.heap.size (words4 X) 0 u2
  refine⟨⟨S2,?_,fun k c=>(hs2 k c).elim (HTy.out k) (fun c=>.inr (by have:=HSz.out;omega))⟩,(HOw.out.trans hO (fun k hk c=>(HTy.out k c).elim (fun c=>c) (fun c=>by omega))).trans ho2 (fun k hk e=>by omega)⟩
  rw[ext_ext]at hp2
  exact hp2.off ho2 (fun k e c=>by subst e;exact hn2 c))
 have HR:=Lib.hid (show W1.heap[w.heap.size]?=some (.cells #[.int .u64 (wd X 0),.int .u64 (wd X 1),.int .u64 (wd X 2),.int .u64 (wd X 3)] 34 (0,0)) from by rw[hW1];exact setCells_at (vs:=words4 X) g2 rfl)
 have HW1:=Lib.hid hW1
 clear hW1 hp2 hs2 hn2 g2 hO t0 l0 y0 y1 y2 y3 y4 y5 y6 y7 y8 y9 y10 y11 y12 y13 l1 x0 x1 x2 x3 l2 FE
 obtain⟨r0,r1,r2,r3⟩:=cells4 HR.out
 go_wp2
 change bodyPost _ _ _ _ _ (u2.setCells w.heap.size 0 (words4 X))
 rw[<-HW1.out]
 refine bodyPost_ret (v:=V X) (by simp[results,Tryz.results47,go_sem,r0,r1,r2,r3]) rfl ⟨rfl,HEnd.out⟩
end
section
open Go.RowKit
attribute [local go_sem ↓] Go.wp_at_zero Go.wp_at_succ
set_option linter.unusedSimpArgs false
set_option maxRecDepth 100000
set_option maxHeartbeats 4000000
structure VW (q:Option Addr) (es ev:List Ev) (S:Nat->Prop) (xs:List Int) (zs:List Nat) (W0:World) (i z a s:Bool) (iv cv:Value) (cb:Nat) (w:World):Prop where
 off:Off S W0 w
 ix:i=true->z=false->Iv w iv xs
 t0:z=false->Tp w q es S
 t1:z=true->Noted W0.heap.size q es ev S w/\OwnL W0.heap.size w cv zs
 bx:a=true->W0.heap.size<=cb/\w.heap[cb]?=some (.cells #[if s then cv else .slice none 0 0] 25 (0,0))
section
variable {q:Option Addr} {es ev:List Ev} {S:Nat->Prop} {xs:List Int} {zs:List Nat} {W0 w w':World} {i z a s:Bool} {iv cv:Value} {cb:Nat}
theorem VW.cast {i' z' a' s':Bool} (h:VW q es ev S xs zs W0 i z a s iv cv cb w) (e1:i'=i) (e2:z'=z) (e3:a'=a) (e4:s'=s):VW q es ev S xs zs W0 i' z' a' s' iv cv cb w:=by subst e1 e2 e3 e4;exact h
theorem VW.start (h:Tp W0 q es S):VW q es ev S xs zs W0 false false false false undef cv 0 W0.drew:=⟨(Off.refl _ _).drew,fun h=>(by cases h),fun _=>h.drew,fun h=>(by cases h),fun h=>(by cases h)⟩
theorem VW.idx {iv':Value} (h:VW q es ev S xs zs W0 false false a s iv cv cb w) (hO:Off (fun _=>False) w w') (hi:Iv w' iv' xs):VW q es ev S xs zs W0 true false a s iv' cv cb w' :=
 ⟨h.off.trans hO (fun _ _ c=>c.elim),fun _ _=>hi,fun _=>(h.t0 rfl).off0 hO,fun h=>(by cases h),fun e=>⟨(h.bx e).1,hO.heap (h.bx e).2 (fun c=>c)⟩⟩
theorem VW.zero {cv':Value} (h:VW q es ev S xs zs W0 true false a false iv cv cb w) (hb:∀ b,S b->b<W0.heap.size) (hO:Off S w w') (hN:Noted w.heap.size q es ev S w') (hL:OwnL w.heap.size w' cv' zs):VW q es ev S xs zs W0 true true a false iv cv' cb w':=by
 have hs:=h.off.size
 refine⟨h.off.trans hO (fun _ _ c=>c),fun _ h=>(by cases h),fun h=>(by cases h),fun _=>⟨?_,hL.mono hs⟩,fun e=>⟨(h.bx e).1,hO.heap (h.bx e).2 (fun c=>by have:=hb _ c;have:=(h.bx e).1;omega)⟩⟩
 obtain⟨S',h1,h2⟩:=hN
 exact⟨S',h1,fun k c=>(h2 k c).imp id (fun c=>Nat.le_trans hs c)⟩
theorem VW.alloc (h:VW q es ev S xs zs W0 i z false false iv cv cb w):VW q es ev S xs zs W0 i z true false iv cv w.heap.size (w.alloc (.cells #[.slice none 0 0] 25)):=by
 have hO:Off (fun _=>False) w (w.alloc (.cells #[.slice none 0 0] 25)):=(Off.refl _ w).alloc _
 exact⟨h.off.alloc _,fun e f=>(h.ix e f).off hO,fun e=>(h.t0 e).off0 hO,fun e=>⟨(h.t1 e).1.off hO (fun _ c=>c.elim),(h.t1 e).2.off hO (fun _ _ _ _ c=>c)⟩,fun _=>⟨h.off.size,heap_new' rfl _⟩⟩
theorem VW.store (h:VW q es ev S xs zs W0 i true true false iv cv cb w):VW q es ev S xs zs W0 i true true true iv cv cb (w.setCell ⟨cb,0,none⟩ cv):=by
 have hb:=(h.bx rfl).2
 have hO:=put_off w cb cv
 refine⟨h.off.trans hO (fun k hk e=>by have:=(h.bx rfl).1;omega),fun _ h=>(by cases h),fun h=>(by cases h),fun _=>⟨?_,(h.t1 rfl).2.off hO (fun b c hc _ e=>by rw[e,hb]at hc;simp at hc)⟩,fun _=>⟨(h.bx rfl).1,put_one hb⟩⟩
 obtain⟨S',h1,h2⟩:=(h.t1 rfl).1
 exact⟨_,h1.typed.off hO (fun k e c=>by subst e;exact not_typed' hb (by decide) (by decide) (by decide) c.2),fun k c=>h2 k c.1⟩
end
theorem vals_join (l:List Sh) (a:Option Addr) (n cap:Nat) (hn:n=l.length) (hl:n<=90) (hpl:∀ s∈l,s.pl.length<=1000) (t:Option Addr) (es:List Ev) (S Sl:Nat->Prop) (w:World) (h:ShsAt w (.slice a n cap) l Sl) (hSl:∀ b,Sl b->b<w.heap.size/\¬S b) (hS:Tp w t es S) (hes:shsN l=0->es.length+(vlsEv (TJ l) (cJ l)).length<=50000) (hT:TabAt w) :
  Calls Tryz.prog 11 #[.pointer t,.slice a n cap] w fun e w'=>∃ v,e=.returned (.tuple #[v,.int .i64 (shsN l:Int)])/\(shsN l≠0->v=.slice none 0 0/\Noted w.heap.size t es [] S w')/\(shsN l=0->LsAt w' v ((vlJ l).map (fm (pJ l))) (fun b=>w.heap.size<=b)/\Noted w.heap.size t es (vlsEv (TJ l) (cJ l)) S w')/\Off S w w':=by
 have hnc:n<=cap:=by
  obtain⟨a',c',e,h,_⟩:=h
  simp at e
  omega
 obtain⟨c,hc⟩:∃ c,c=shsN l:=⟨_,rfl⟩
 obtain⟨W0,hW0⟩:∃ W0,W0=w.alloc (.cells #[.pointer t] 53):=⟨_,rfl⟩
 have hO0:Off (fun _=>False) w W0:=by rw[hW0];exact(Off.refl _ w).alloc _
 have hz0:W0.heap.size=w.heap.size+1:=by rw[hW0];simp
 have FU:=Lib.hid (used_any l a n cap hn hnc (by omega) hpl Sl W0 (h.off hO0 (fun _ _ _ c=>c)) (hT.off hO0))
 rw[<-hc]at FU hes ⊢
 have HG0:=Lib.hid (show TBox W0 w.heap.size t by rw[hW0];exact heap_new' rfl _)
 have HT0:=Lib.hid (hS.off0 hO0)
 have HO0:=Lib.hid hO0
 have HZ0:=Lib.hid hz0
 have HW0:=Lib.hid hW0
 have HS:=Lib.hid hS
 have HSl:=Lib.hid hSl
 have HT:=Lib.hid (hT.off hO0)
 have HC:=Lib.hid hc
 have HEs:=Lib.hid hes
 have HH:=Lib.hid h
 have HN:=Lib.hid (And.intro hn hl)
 clear hW0 hO0 hz0 hS hSl hT hc hes h hn hl
 go_enter Tryz.func11,Tryz.ntmps11
 go_wp2_with fail
 rw[<-HW0.out]
 refine FU.out.mono ?_
 rintro e u1 ⟨uv,rfl,hu0,hu1,hO⟩
 clear FU
 by_cases h0:c=0
 ·subst h0
  obtain⟨a',rfl,hus⟩:=hu1 rfl
  have hA:=acc_hd HC.out.symm
  obtain⟨us,hus'⟩:∃ us,us=usJ l:=⟨_,rfl⟩
  have hln:us.length=TJ l:=by rw[hus'];exact hA.len
  have hchk:chkV (ixs us)=0:=by rw[hus'];exact hA.chk
  have hT1:1<=TJ l:=by unfold TJ;have:=hA.th1;omega
  have hTn:TJ l<=n:=by rw[HN.out.1];exact hA.few
  have hcol:∀ k:Nat,∀ y∈colN us (k:Int),y<modN (hd0 l).fd:=fun k=>by rw[hus'];exact hA.col k
  have hpc:∀ s,us[0]?=some s->s.pl.length=cJ l:=fun s hs=>by
   rw[hus']at hs
   exact(hA.all s (hA.mem (List.mem_of_getElem? hs))).2.2.2.1
  have hc1:cJ l<=1000:=by
   have:=hA.all _ (List.mem_of_getElem? hA.first)
   have h2:=hpl _ (List.mem_of_getElem? hA.first)
   rw[this.2.2.2.1]at h2
   exact h2
  have hvl:vlJ l=jvl (pJ l) us (cJ l):=by rw[hus'];rfl
  rw[<-hus']at hus
  obtain⟨T,hTT⟩:∃ T,T=TJ l:=⟨_,rfl⟩
  obtain⟨cn,hcn⟩:∃ cn,cn=cJ l:=⟨_,rfl⟩
  have hev:=HEs.out rfl
  rw[<-hTT]at hln hT1 hTn hus
  rw[<-hcn]at hpc hc1 hvl
  rw[<-hTT,<-hcn]at hev
  rw[<-hTT]
  obtain⟨i0,r,s,hF,hgf⟩:=fget_k17 hA.kn
  obtain⟨id,hid⟩:∃ id,id=(hd0 l).fd:=⟨_,rfl⟩
  obtain⟨p,hp⟩:∃ p,p=modN id:=⟨_,rfl⟩
  have hpJ:pJ l=p:=by rw[hp,hid];rfl
  rw[<-hid]at hF hgf hcol
  rw[<-hp]at hF hgf hcol
  rw[hpJ]at hvl
  have HEq:=Lib.hid (show T=TJ l/\cn=cJ l/\pJ l=p from⟨hTT,hcn,hpJ⟩)
  obtain⟨s1,b,off,hsx,_,rfl,hSb,c0,_⟩:=hus.at (k:=0) (by omega)
  have hs1:s1.fd=id:=by
   rw[hus']at hsx
   rw[hid]
   exact(hA.all s1 (hA.mem (List.mem_of_getElem? hsx))).1.1
  rw[hs1]at c0
  simp only[Nat.zero_mul,Nat.add_zero]at c0
  have lb:=World.block_lt_of_cell? u1 _ c0
  have hTi:(0:Int)<(T:Int):=by omega
  have hTp:0<T:=by omega
  have FG:=Lib.hid (hgf u1 (HT.out.off hO))
  have HU:=Lib.hid hus
  have HO1:=Lib.hid hO
  have HF:=Lib.hid hF
  have HNum:=Lib.hid (show us.length=T/\chkV (ixs us)=0/\1<=T/\T<=90/\(∀ s,us[0]?=some s->s.pl.length=cn)/\cn<=1000/\vlJ l=jvl p us cn/\es.length+(vlsEv T cn).length<=50000 from⟨hln,hchk,hT1,by have:=HN.out.2;omega,hpc,hc1,hvl,hev⟩)
  have HCol:=Lib.hid hcol
  have hTn0:T≠0:=by omega
  clear hu0 hu1 hO hus hA hus' hln hchk hT1 hTn hcol hpc hc1 hvl hTT hcn hev hF hgf hid hp hpJ hsx hs1 hpl hnc
  go_upto_region 5 with (refine FG.out.mono ?_;rintro e u2 ⟨rfl,hO⟩)
  obtain⟨bf,hbf⟩:∃ b,b=u2.heap.size:=⟨_,rfl⟩
  obtain⟨wq,hwq⟩:∃ W,W=u2.alloc (.cells #[.int .i64 id,.int .u64 (wd p 0),.int .u64 (wd p 1),.int .u64 (wd p 2),.int .u64 (wd p 3),.int .u64 i0,.int .u64 (wd r 0),.int .u64 (wd r 1),.int .u64 (wd r 2),.int .u64 (wd r 3),.int .u64 (wd s 0),.int .u64 (wd s 1),.int .u64 (wd s 2),.int .u64 (wd s 3)] 75):=⟨_,rfl⟩
  have HGf:=Lib.hid (show FBox wq bf id p i0 r s by rw[hwq,hbf];exact heap_new' rfl _)
  have hOq:Off (fun _=>False) u1 wq:=by rw[hwq];exact hO.alloc _
  have hO0q:Off (fun _=>False) W0 wq:=HO1.out.trans hOq (fun _ _ c=>c)
  have HGt:=Lib.hid (show TBox wq w.heap.size t from hO0q.heap HG0.out (fun c=>c))
  have HTq:=Lib.hid (HT0.out.off0 hO0q)
  have HOq:=Lib.hid (HO0.out.trans hO0q (fun _ _ c=>c))
  have HUq:=Lib.hid (HU.out.off hOq (fun _ _ _ c=>c))
  have HSb:=Lib.hid (show ∀ b,S b->b<wq.heap.size from HTq.out.2)
  have HNt:=Lib.hid (show ¬S w.heap.size from fun c=>by have:=HS.out.2 _ c;omega)
  have HBf:=Lib.hid (show w.heap.size<bf by rw[hbf];have:=HZ0.out;have:=HO1.out.size;have:=hO.size;omega)
  have HNf:=Lib.hid (show ¬S bf from fun c=>by have:=HS.out.2 _ c;have:=HBf.out;omega)
  have HSq:=Lib.hid (show ∀ b,Sl b->b<wq.heap.size/\¬S b from fun b c=>⟨Nat.lt_of_lt_of_le (HSl.out b c).1 HOq.out.size,(HSl.out b c).2⟩)
  rw[<-hwq,<-hbf]
  clear hwq hbf hOq hO0q hO FG c0 lb
  obtain⟨zs,hzs⟩:∃ zs,zs=zerL p (ptV (ixs us)):=⟨_,rfl⟩
  have hixl:(ixs us).length=T:=by rw[<-HNum.out.1];simp[ixs]
  have hzl:zs.length=T:=by rw[hzs,zerL_length,ptV_length,hixl]
  have FI:=Lib.hid (fun W (hO:Off S wq W)=>(indices_par us (some ⟨b,off,none⟩) T cap HNum.out.1.symm (by have:=HNum.out.2.2.2.1;omega) Sl W (HUq.out.off hO (fun b _ c=>(HSq.out b c).2))).mono (fun e w' ⟨v,he,hi,hO⟩=>show ∃ v,e=Ending.returned v/\Iv w' v (ixs us)/\Off (fun _=>False) W w' from⟨v,he,Iv.of hi,hO⟩))
  have FZ:=Lib.hid (fun W v (hi:Iv W v (ixs us)) (hS:Tp W t es S)=>by
   have h:=zero_ok HF.out (ixs us) HNum.out.2.1 (by rw[hixl];exact HNum.out.2.2.2.1) t es S v W hi hS (by have:=HNum.out.2.2.2.2.2.2.2;omega)
   rw[hixl,<-hzs]at h
   exact h.mono (fun e w' ⟨u,he,hu,hN,hO⟩=>show ∃ zb,e=Ending.returned (.tuple #[.slice (some ⟨zb,0,none⟩) T T,.int .i64 0])/\OwnL W.heap.size w' (.slice (some ⟨zb,0,none⟩) T T) (zs.map (fm p))/\Noted W.heap.size t es (wpE T T++batE T++upE T) S w'/\Off S W w' from by
    have hTl:(zs.map (fm p)).length=T:=by rw[List.length_map,hzl]
    have hu2:=hu
    rcases hu with ⟨h,_⟩ | ⟨b,h,_⟩
    ·have:=congrArg List.length h
     rw[hTl]at this
     simp at this
     omega
    rw[hTl]at h
    subst h
    exact⟨b,he,hu2,hN,hO⟩))
  have HZs:=Lib.hid (And.intro hzs hzl)
  clear hzs hzl hixl
  obtain⟨x29,hx⟩:∃ vv:Value,vv=.pointer t:=⟨_,rfl⟩
  have X29:=Lib.hid hx
  clear hx
  obtain⟨x30,hx⟩:∃ vv:Value,vv=FV id p i0 r s:=⟨_,rfl⟩
  have X30:=Lib.hid hx
  clear hx
  obtain⟨x31,hx⟩:∃ vv:Value,vv=.slice (some ⟨b,off,none⟩) T cap:=⟨_,rfl⟩
  have X31:=Lib.hid hx
  clear hx
  obtain⟨x35,hx⟩:∃ vv:Value,vv=.int .i64 0:=⟨_,rfl⟩
  have X35:=Lib.hid hx
  clear hx
  obtain⟨x11,hx⟩:∃ vv:Value,vv=.int .i64 0:=⟨_,rfl⟩
  have X11:=Lib.hid hx
  clear hx
  refine wp_region_clo (fun a0 l a' w'=>∃ (iv:Value) (zb:Nat) (cb:Nat),a'=(Act.put (Act.put (fill a0 28 [sel (l 5) (.tuple #[.slice (some ⟨zb,0,none⟩) T T,.int .i64 0]) (undef),sel (l 0) x29 (undef),sel (l 1) x30 (undef),sel (l 2) x31 (undef),sel (l 3) (iv) (undef),sel (l 4) (.tuple #[.slice (some ⟨zb,0,none⟩) T T,.int .i64 0]) (undef),sel (l 6) (.slice (some ⟨zb,0,none⟩) T T) (undef),sel (l 7) x35 (undef),undef,undef,undef,undef]) (some 10) (sel (l 8) (.pointer (some ⟨cb,0,none⟩)) (undef))) (some 11) (sel (l 10) x11 (undef)))/\VW t es (wpE T T++batE T++upE T) S (ixs us) (zs.map (fm p)) wq (l 3) (l 4) (l 8) (l 9) iv (.slice (some ⟨zb,0,none⟩) T T) cb w') (by kernel_rfl) (by kernel_rfl) ?_ ⟨?_,?_,?_,?_,?_,?_,?_,?_,?_,?_,?_,trivial⟩ ?_
  ·refine⟨undef,0,0,?_,VW.start HTq.out⟩
   simp only[XF,XP,sel_start]
   try rfl
  all_goals try (rintro l a wr ⟨iv,zb,cb,ha,hV⟩ hc hl hd K' hK)
  ·as_aux_lemma =>
    have hx:=X29.out;subst hx
    simp only[XF,XP]at ha
    subst ha
    have HV:=Lib.hid hV
    clear hV
    have g:=HV.out.off.heap HGt.out HNt.out
    have t0:=cell_of_heap g 0
    have lt0:=heap_lt g
    clear g
    rw[if_pos (by rfl)]
    go_simp
    refine Shut.out hK _ _ ⟨iv,zb,cb,?_,HV.out.cast (upd_ne l (by decide)) (upd_ne l (by decide)) (upd_ne l (by decide)) (upd_ne l (by decide))⟩
    simp only[XF,XP,sel_new]
    try rfl
  ·as_aux_lemma =>
    have hx:=X30.out;subst hx
    simp only[XF,XP]at ha
    subst ha
    have HV:=Lib.hid hV
    clear hV
    have g:=HV.out.off.heap HGf.out HNf.out
    obtain⟨f0,f1,f2,f3,f4,f5,f6,f7,f8,f9,f10,f11,f12,f13⟩:=fv_cells g
    have lf:=heap_lt g
    clear g
    rw[if_pos (by rfl)]
    go_simp
    refine Shut.out hK _ _ ⟨iv,zb,cb,?_,HV.out.cast (upd_ne l (by decide)) (upd_ne l (by decide)) (upd_ne l (by decide)) (upd_ne l (by decide))⟩
    simp only[XF,XP,sel_new]
    try rfl
  ·as_aux_lemma =>
    have hx:=X31.out;subst hx
    simp only[XF,XP]at ha
    subst ha
    have HV:=Lib.hid hV
    clear hV
    rw[if_pos (by rfl)]
    go_simp
    refine Shut.out hK _ _ ⟨iv,zb,cb,?_,HV.out.cast (upd_ne l (by decide)) (upd_ne l (by decide)) (upd_ne l (by decide)) (upd_ne l (by decide))⟩
    simp only[XF,XP,sel_new]
    try rfl
  ·as_aux_lemma =>
    have d2:=hd 2 (by decide)
    have hx:=X31.out;subst hx
    have g4:=hc.not (i:=4) hl 11 (by kernel_rfl)
    have g5:=hc.not (i:=5) hl 11 (by kernel_rfl)
    have g6:=hc.not (i:=6) hl 11 (by kernel_rfl)
    have g7:=hc.not (i:=7) hl 11 (by kernel_rfl)
    have g9:=hc.not (i:=9) hl 11 (by kernel_rfl)
    have g10:=hc.not (i:=10) hl 11 (by kernel_rfl)
    simp only[XF,XP,sel_of d2,sel_no g4,sel_no g5,sel_no g6,sel_no g7,sel_no g9,sel_no g10,sel_no hl]at ha
    subst ha
    have G4:=Lib.hid g4
    have G5:=Lib.hid g5
    have G6:=Lib.hid g6
    have G7:=Lib.hid g7
    have G9:=Lib.hid g9
    have G10:=Lib.hid g10
    clear g4
    clear g5
    clear g6
    clear g7
    clear g9
    clear g10
    have HV:=Lib.hid hV
    clear hV
    rw[if_pos (by rfl)]
    go_simp
    refine(FI.out wr HV.out.off).mono ?_
    rintro e w1 ⟨v',rfl,hP1,hO1⟩
    go_wp2_with fail
    refine Shut.out hK _ _ ⟨v',zb,cb,?_,(VW.idx (HV.out.cast hl.symm G4.out.symm rfl rfl) hO1 hP1).cast (upd_same l 3) ((upd_ne l (by decide)).trans G4.out) (upd_ne l (by decide)) (upd_ne l (by decide))⟩
    simp only[XF,XP,sel_new,sel_dep d2,sel_no (show upd l 3 4=false by rw[upd_ne l (by decide)];exact G4.out),sel_no (show upd l 3 5=false by rw[upd_ne l (by decide)];exact G5.out),sel_no (show upd l 3 6=false by rw[upd_ne l (by decide)];exact G6.out),sel_no (show upd l 3 7=false by rw[upd_ne l (by decide)];exact G7.out),sel_no (show upd l 3 9=false by rw[upd_ne l (by decide)];exact G9.out),sel_no (show upd l 3 10=false by rw[upd_ne l (by decide)];exact G10.out)]
    try rfl
  ·as_aux_lemma =>
    have d0:=hd 0 (by decide)
    have d1:=hd 1 (by decide)
    have d3:=hd 3 (by decide)
    have hx:=X29.out;subst hx
    have hx:=X30.out;subst hx
    have g5:=hc.not (i:=5) hl 11 (by kernel_rfl)
    have g6:=hc.not (i:=6) hl 11 (by kernel_rfl)
    have g7:=hc.not (i:=7) hl 11 (by kernel_rfl)
    have g9:=hc.not (i:=9) hl 11 (by kernel_rfl)
    have g10:=hc.not (i:=10) hl 11 (by kernel_rfl)
    simp only[XF,XP,sel_of d0,sel_of d1,sel_of d3,sel_no g5,sel_no g6,sel_no g7,sel_no g9,sel_no g10,sel_no hl]at ha
    subst ha
    have G5:=Lib.hid g5
    have G6:=Lib.hid g6
    have G7:=Lib.hid g7
    have G9:=Lib.hid g9
    have G10:=Lib.hid g10
    clear g5
    clear g6
    clear g7
    clear g9
    clear g10
    have HV:=Lib.hid hV
    clear hV
    rw[if_pos (by rfl)]
    go_simp
    refine(FZ.out wr iv (HV.out.ix d3 hl) (HV.out.t0 hl)).mono ?_
    rintro e w1 ⟨c',rfl,hL1,hN1,hO1⟩
    go_wp2_with fail
    refine Shut.out hK _ _ ⟨iv,c',cb,?_,(VW.zero (HV.out.cast d3.symm hl.symm rfl G9.out.symm) HSb.out hO1 hN1 hL1).cast ((upd_ne l (by decide)).trans d3) (upd_same l 4) (upd_ne l (by decide)) ((upd_ne l (by decide)).trans G9.out)⟩
    simp only[XF,XP,sel_new,sel_dep d0,sel_dep d1,sel_dep d3,sel_no (show upd l 4 5=false by rw[upd_ne l (by decide)];exact G5.out),sel_no (show upd l 4 6=false by rw[upd_ne l (by decide)];exact G6.out),sel_no (show upd l 4 7=false by rw[upd_ne l (by decide)];exact G7.out),sel_no (show upd l 4 9=false by rw[upd_ne l (by decide)];exact G9.out),sel_no (show upd l 4 10=false by rw[upd_ne l (by decide)];exact G10.out)]
    try rfl
  ·as_aux_lemma =>
    have d4:=hd 4 (by decide)
    simp only[XF,XP,sel_of d4]at ha
    subst ha
    have HV:=Lib.hid hV
    clear hV
    rw[if_pos (by rfl)]
    go_simp
    refine Shut.out hK _ _ ⟨iv,zb,cb,?_,HV.out.cast (upd_ne l (by decide)) (upd_ne l (by decide)) (upd_ne l (by decide)) (upd_ne l (by decide))⟩
    simp only[XF,XP,sel_new,sel_dep d4]
    try rfl
  ·as_aux_lemma =>
    have d5:=hd 5 (by decide)
    simp only[XF,XP,sel_of d5]at ha
    subst ha
    have HV:=Lib.hid hV
    clear hV
    rw[if_pos (by rfl)]
    go_simp
    refine Shut.out hK _ _ ⟨iv,zb,cb,?_,HV.out.cast (upd_ne l (by decide)) (upd_ne l (by decide)) (upd_ne l (by decide)) (upd_ne l (by decide))⟩
    simp only[XF,XP,sel_new,sel_dep d5]
    try rfl
  ·as_aux_lemma =>
    have d5:=hd 5 (by decide)
    have hx:=X35.out;subst hx
    simp only[XF,XP,sel_of d5]at ha
    subst ha
    have HV:=Lib.hid hV
    clear hV
    rw[if_pos (by rfl)]
    go_simp
    refine Shut.out hK _ _ ⟨iv,zb,cb,?_,HV.out.cast (upd_ne l (by decide)) (upd_ne l (by decide)) (upd_ne l (by decide)) (upd_ne l (by decide))⟩
    simp only[XF,XP,sel_new,sel_dep d5]
    try rfl
  ·have g9:=hc.not (i:=9) hl 11 (by kernel_rfl)
   simp only[XF,XP,sel_no g9,sel_no hl]at ha
   subst ha
   have G9:=Lib.hid g9
   clear g9
   have HV:=Lib.hid hV
   clear hV
   rw[if_pos (by rfl)]
   go_simp
   refine Shut.out hK _ _ ⟨iv,zb,wr.heap.size,?_,(VW.alloc (HV.out.cast rfl rfl hl.symm G9.out.symm)).cast (upd_ne l (by decide)) (upd_ne l (by decide)) (upd_same l 8) ((upd_ne l (by decide)).trans G9.out)⟩
   simp only[XF,XP,sel_new,sel_no (show upd l 8 9=false by rw[upd_ne l (by decide)];exact G9.out)]
   try rfl
  all_goals try (rintro l a wr ⟨iv,zb,cb,ha,hV⟩ hc hl hd K' hK)
  ·as_aux_lemma =>
    have d8:=hd 8 (by decide)
    have d6:=hd 6 (by decide)
    have u4:=hc.up 11 6 4 d6 (by kernel_rfl)
    simp only[XF,XP,sel_of d8,sel_of d6]at ha
    subst ha
    have UU4:=Lib.hid u4
    clear u4
    have HV:=Lib.hid hV
    clear hV
    have hg:wr.heap[cb]?=some (.cells #[.slice none 0 0] 25 (0,0)):=by have h:=(HV.out.bx d8).2;rw[hl]at h;exact h
    have p0:=cell_of_heap hg 0
    have fz:=fun k=>frozen_of_heap hg k
    have lg:=heap_lt hg
    clear hg
    rw[if_pos (by rfl)]
    go_simp
    refine Shut.out hK _ _ ⟨iv,zb,cb,?_,(VW.store (HV.out.cast rfl UU4.out.symm d8.symm hl.symm)).cast (upd_ne l (by decide)) ((upd_ne l (by decide)).trans UU4.out) ((upd_ne l (by decide)).trans d8) (upd_same l 9)⟩
    simp only[XF,XP,sel_dep d8,sel_dep d6]
    try rfl
  ·as_aux_lemma =>
    have d7:=hd 7 (by decide)
    have hx:=X35.out;subst hx
    have hx:=X11.out;subst hx
    simp only[XF,XP,sel_of d7]at ha
    subst ha
    have HV:=Lib.hid hV
    clear hV
    rw[if_pos (by rfl)]
    go_simp
    refine Shut.out hK _ _ ⟨iv,zb,cb,?_,HV.out.cast (upd_ne l (by decide)) (upd_ne l (by decide)) (upd_ne l (by decide)) (upd_ne l (by decide))⟩
    simp only[XF,XP,sel_new,sel_dep d7]
    try rfl
  rintro lz a wc ⟨iv,zb,cb,ha,hV⟩ hd
  simp only[XF,XP,sel_of (hd 0 (by decide)),sel_of (hd 1 (by decide)),sel_of (hd 2 (by decide)),sel_of (hd 3 (by decide)),sel_of (hd 4 (by decide)),sel_of (hd 5 (by decide)),sel_of (hd 6 (by decide)),sel_of (hd 7 (by decide)),sel_of (hd 8 (by decide)),sel_of (hd 10 (by decide))]at ha
  subst ha
  have hx:=X11.out;subst hx
  have hV:=hV.cast (hd 3 (by decide)).symm (hd 4 (by decide)).symm (hd 8 (by decide)).symm (hd 9 (by decide)).symm
  have hO:=hV.off
  obtain⟨hbx1,hbx2⟩:=hV.bx rfl
  obtain⟨⟨S1,hp,hs⟩,hown⟩:=hV.t1 rfl
  rw[if_pos rfl]at hbx2
  have hTl:(zs.map (fm p)).length=T:=by rw[List.length_map];exact HZs.out.2
  have hls:=hown.lsT17 (by rw[hTl];have:=HNum.out.2.2.2.1;omega)
  have hpt:=hp.typed
  obtain⟨S2,hS2⟩:∃ S2:Nat->Prop,S2=fun k=>S1 k/\Typed wc k:=⟨_,rfl⟩
  rw[<-hS2]at hpt
  have hs2:∀ b,S2 b->(S b\/wq.heap.size<=b)/\Typed wc b:=fun b c=>by rw[hS2]at c;exact⟨hs b c.1,c.2⟩
  have gt:=hO.heap HGt.out HNt.out
  have gf:=hO.heap HGf.out HNf.out
  have t0:wc.cell? ⟨w.heap.size,0,none⟩=some (.pointer t):=cell_of_heap gt 0
  have lt0:=heap_lt gt
  have hu:=HUq.out.off hO (fun b _ c=>(HSq.out b c).2)
  have hev:(ext t es (wpE T T++batE T++upE T)).length+cn*(1+(upE T).length)<=50000:=by
   have h1:=ext_le t es (wpE T T++batE T++upE T)
   have h2:=HNum.out.2.2.2.2.2.2.2
   have h3:(vlsEv T cn).length=(wpE T T++batE T++upE T).length+(chsEv (upE T) cn).length:=by rw[<-List.length_append];rfl
   rw[chsEv_len]at h3
   omega
  have FCh:=Lib.hid (chunks_any 40 #[.pointer (some ⟨w.heap.size,0,none⟩),.pointer (some ⟨bf,0,none⟩),.pointer (some ⟨cb,0,none⟩)] (fun v W=>by kernel_rfl) (upE T) (fun k=>fm p (dotF p zs (jys p us k) T)) us cn HNum.out.2.2.2.2.1 HNum.out.2.2.2.2.2.1 (some ⟨b,off,none⟩) T cap HNum.out.1.symm hTp HNum.out.2.2.2.1 t _ S2 Sl wc hu (fun b c=>⟨Nat.lt_of_lt_of_le (HSq.out b c).1 hO.size,fun d=>(hs2 b d).1.elim (HSq.out b c).2 (fun e=>by have:=(HSq.out b c).1;omega)⟩) hpt hev (fun k hk W v esk Sk hOk hsk hSk hty hL hle=>by
   rw[show(#[v]++#[.pointer (some ⟨w.heap.size,0,none⟩),.pointer (some ⟨bf,0,none⟩),.pointer (some ⟨cb,0,none⟩)]:Array Value)=#[v,.pointer (some ⟨w.heap.size,0,none⟩),.pointer (some ⟨bf,0,none⟩),.pointer (some ⟨cb,0,none⟩)] from rfl]
   refine vclo_any HF.out T HNum.out.2.2.2.1 zs (jys p us k) HZs.out.2.symm (by rw[jys_length,HNum.out.1]) w.heap.size bf cb (some ⟨zb,0,none⟩) T v t esk Sk (fun b=>b<wc.heap.size/\¬Typed wc b) (fun b=>b<W.heap.size/\¬Sk b) W ?_ ?_ ?_ ?_ (fun b c=>⟨Nat.lt_of_lt_of_le c.1 hOk.size,fun d=>(hsk b d).elim (fun d=>c.2 (hs2 b d).2) (fun d=>by have:=c.1;omega)⟩) ?_ (fun b c=>c) hSk (by omega)
   ·exact hOk.heap gt (fun c=>not_typed' gt (by decide) (by decide) (by decide) (hs2 _ c).2)
   ·exact hOk.heap gf (fun c=>not_typed' gf (by decide) (by decide) (by decide) (hs2 _ c).2)
   ·exact hOk.heap hbx2 (fun c=>not_typed' hbx2 (by decide) (by decide) (by decide) (hs2 _ c).2)
   ·exact hls.off hOk (fun b _ c d=>c.2 (hs2 b d).2)
   rw[jys_fm HF.out.mp (HCol.out k)]
   exact hL))
  have HO5:=Lib.hid hO
  have HS2:=Lib.hid hs2
  clear hV hd hO hbx1 hbx2 hp hs hown hTl hls hpt hS2 hs2 gt gf hu hev
  go_wp2_with fail
  refine FCh.out.mono ?_
  rintro e u6 ⟨b2,rfl,hb2,hn2,hN,hO⟩
  have HEnd:=Lib.hid (show LsAt u6 (.slice (some ⟨b2,0,none⟩) cn cn) ((vlJ l).map (fm (pJ l))) (fun b=>w.heap.size<=b)/\Noted w.heap.size t es (vlsEv (TJ l) (cJ l)) S u6/\Off S w u6 from by
   obtain⟨e1,e2,e3⟩:=HEq.out
   rw[<-e1,<-e2,e3,HNum.out.2.2.2.2.2.2.1]
   have hvals:(jvl p us cn).map (fm p)=(List.range cn).map (fun k=>fm p (dotF p zs (jys p us k) T)):=by
    unfold jvl
    rw[List.map_map]
    refine List.map_congr_left fun k _=>?_
    show fm p _=fm p _
    rw[HZs.out.1,<-HNum.out.1,jdot HF.out.mp.pos]
   have hw:=HOq.out.size
   have h5:=HO5.out.size
   refine⟨?_,?_,?_⟩
   ·rw[hvals]
    have hl:((List.range cn).map (fun k=>fm p (dotF p zs (jys p us k) T))).length=cn:=by simp
    refine⟨some ⟨b2,0,none⟩,cn,by rw[hl],by rw[hl];have:=HNum.out.2.2.2.2.2.1;omega,fun _=>⟨b2,0,rfl,by omega,fun j x hx=>?_⟩⟩
    have:=NumsAt.cell hn2 hx
    rw[Nat.zero_add]
    exact this
   ·obtain⟨S3,h1,h2⟩:=hN
    rw[ext_ext]at h1
    exact⟨S3,h1,fun k c=>(h2 k c).elim (fun c=>(HS2.out k c).1.imp (fun c=>c) (fun c=>by omega)) (fun c=>.inr (by omega))⟩
   have h6:Off S w wc:=(HOq.out.mono (fun _ _ c=>c.elim)).trans HO5.out (fun _ _ c=>c)
   exact h6.trans hO (fun k hk c=>(HS2.out k c).1.elim (fun c=>c) (fun c=>by omega)))
  clear hb2 hn2 hN hO FCh t0 lt0
  go_wp2
  refine bodyPost_ret (results_tmp2 rfl _ _ _) rfl ?_
  exact⟨_,rfl,⟨HEnd.out.1,HEnd.out.2.1⟩,HEnd.out.2.2⟩
 obtain rfl:uv=.slice none 0 0:=hu0 h0
 have k1:((c:Int) != 0)=true:=by simp;omega
 have k3:¬(c:Int)=0:=by omega
 have HO1:=Lib.hid hO
 have H0:=Lib.hid h0
 clear hu0 hu1 h0 hO
 go_wp2
 refine bodyPost_ret (results_tmp2 rfl _ _ _) rfl ?_
 exact⟨_,rfl,fun _=>⟨rfl,((HT0.out.off0 HO1.out).noted _)⟩,fun h=>absurd h H0.out,(HO0.out.trans HO1.out (fun _ _ c=>c)).mono (fun _ _ c=>c.elim)⟩
end
section
open Go.RowKit
attribute [local go_sem ↓] Go.wp_at_zero Go.wp_at_succ
set_option linter.unusedSimpArgs false
set_option maxRecDepth 100000
set_option maxHeartbeats 4000000
theorem comb_join (l:List Sh) (a:Option Addr) (n cap:Nat) (hn:n=l.length) (hl:n<=90) (hpl:∀ s∈l,s.pl.length<=1000) (t:Option Addr) (es:List Ev) (S Sl:Nat->Prop) (w:World) (h:ShsAt w (.slice a n cap) l Sl) (hSl:∀ b,Sl b->b<w.heap.size/\¬S b) (hS:Tp w t es S) (hes:shsN l=0->es.length+(vlsEv (TJ l) (cJ l)).length<=50000) (hT:TabAt w) (hNT:¬S 0) :
  Calls Tryz.prog 15 #[.pointer t,.slice a n cap] w fun e w'=>∃ v,e=.returned (.tuple #[v,.int .i64 ((cmbJ l).2:Int)])/\SvAt w' v (cmbJ l).1/\(shsN l≠0->Noted w.heap.size t es [] S w')/\(shsN l=0->Noted w.heap.size t es (vlsEv (TJ l) (cJ l)) S w')/\Off S w w':=by
 have hnc:n<=cap:=by
  obtain⟨a',c',e,h,_⟩:=h
  simp at e
  omega
 obtain⟨c,hc⟩:∃ c,c=shsN l:=⟨_,rfl⟩
 have FVl:=Lib.hid (vals_join l a n cap hn hl hpl t es S Sl w h hSl hS hes hT)
 rw[<-hc]at FVl hes ⊢
 by_cases h0:c=0
 ·subst h0
  have hz:shsN l=0:=hc.symm
  have hA:=acc_hd hz
  have hn0:0<n:=by have:=(List.getElem?_eq_some_iff.1 hA.first).1;omega
  have hn0i:(0:Int)<(n:Int):=by omega
  have hcm:cmbJ l=joinV (vlJ l) (hd0 l).ln:=by unfold cmbJ;rw[if_neg (fun c=>c hz)]
  obtain⟨i0,r,s,hF,hgf⟩:=fget_k17 hA.kn
  have hvl:∀ y∈vlJ l,y<modN (hd0 l).fd:=jvl_lt hF.mp.pos (usJ l) (cJ l)
  obtain⟨s1,b,off,hsx,hok,rfl,hSb,c0,c1,c2,c3,_⟩:=h.at (k:=0) hn0
  rw[hA.first]at hsx
  cases hsx
  simp only[Nat.zero_mul,Nat.add_zero]at c0 c3
  have hlw:(Lit.int .i64 (hd0 l).ln).wf=true:=hok.2.2.2.1
  have FJ:=Lib.hid (fun W v (hV:Ls W v ((vlJ l).map (fm (modN (hd0 l).fd))))=>join_any hF (vlJ l) hvl v (hd0 l).ln hlw W hV)
  rw[<-hcm]at FJ
  obtain⟨er,her⟩:∃ er,er=(cmbJ l).2:=⟨_,rfl⟩
  obtain⟨sec,hsec⟩:∃ sec,sec=(cmbJ l).1:=⟨_,rfl⟩
  rw[<-her,<-hsec]at FJ ⊢
  obtain⟨ln,hln⟩:∃ ln,ln=(hd0 l).ln:=⟨_,rfl⟩
  rw[<-hln]at c3 FJ
  obtain⟨vs,hvs⟩:∃ vs,vs=(vlJ l).map (fm (pJ l)):=⟨_,rfl⟩
  have FJ:Hid (∀ W v,Ls W v vs->Calls Tryz.prog 44 #[FV (hd0 l).fd (modN (hd0 l).fd) i0 r s,v,.int .i64 ln] W fun e w'=>∃ sv,e=.returned (.tuple #[sv,.int .i64 er])/\SvAt w' sv sec/\Off (fun _=>False) W w'):=by rw[hvs];exact FJ
  rw[<-hvs]at FVl
  obtain⟨id,hid⟩:∃ id,id=(hd0 l).fd:=⟨_,rfl⟩
  rw[<-hid]at c0 FJ hgf
  obtain⟨p,hp⟩:∃ p,p=modN id:=⟨_,rfl⟩
  rw[<-hp]at FJ hgf
  have HC0:=Lib.hid c0
  have HC3:=Lib.hid c3
  have HSb:=Lib.hid (hSl b hSb).2
  have HT:=Lib.hid hT
  have HNT:=Lib.hid hNT
  have HG:=Lib.hid hgf
  clear hc hz hA hcm hF hgf hvl hok c0 c1 c2 c3 hlw her hsec hln hvs hid hp h hSl hS hes hT hNT hpl hn hl
  go_enter Tryz.func15,Tryz.ntmps15
  go_wp2_with fail
  refine FVl.out.mono ?_
  rintro e u1 ⟨ev0,rfl,_,hv,hO⟩
  obtain⟨hv,hN⟩:=hv (by trivial)
  have c0:=hO.cell HC0.out HSb.out
  have lb:=World.block_lt_of_cell? u1 _ c0
  have FG:=Lib.hid (HG.out u1 (HT.out.offS17 hO HNT.out))
  have HV1:=Lib.hid (Ls.of hv)
  have HN1:=Lib.hid hN
  have HO1:=Lib.hid hO
  clear hv hN hO
  go_upto_region 5 with (refine FG.out.mono ?_;rintro e u2 ⟨rfl,hO⟩)
  obtain⟨bf,hbf⟩:∃ b,b=u2.heap.size:=⟨_,rfl⟩
  obtain⟨wq,hwq⟩:∃ W,W=u2.alloc (.cells #[.int .i64 id,.int .u64 (wd p 0),.int .u64 (wd p 1),.int .u64 (wd p 2),.int .u64 (wd p 3),.int .u64 i0,.int .u64 (wd r 0),.int .u64 (wd r 1),.int .u64 (wd r 2),.int .u64 (wd r 3),.int .u64 (wd s 0),.int .u64 (wd s 1),.int .u64 (wd s 2),.int .u64 (wd s 3)] 75):=⟨_,rfl⟩
  have HGf:=Lib.hid (show FBox wq bf id p i0 r s by rw[hwq,hbf];exact heap_new' rfl _)
  have hOq:Off (fun _=>False) u1 wq:=by rw[hwq];exact hO.alloc _
  have HVq:=Lib.hid (Ls.off HV1.out hOq)
  have HNq:=Lib.hid (HN1.out.off hOq (fun _ c=>c.elim))
  have HOq:=Lib.hid (HO1.out.trans hOq (fun _ _ c=>c.elim))
  have HC3q:=Lib.hid (HOq.out.cell HC3.out HSb.out)
  rw[<-hwq,<-hbf]
  clear hwq hbf hOq hO FG c0 lb
  obtain⟨x27,hx⟩:∃ vv:Value,vv=FV id p i0 r s:=⟨_,rfl⟩
  have X27:=Lib.hid hx
  clear hx
  obtain⟨x28,hx⟩:∃ vv:Value,vv=ev0:=⟨_,rfl⟩
  have X28:=Lib.hid hx
  clear hx
  obtain⟨x29,hx⟩:∃ vv:Value,vv=.slice (some ⟨b,off,none⟩) n cap:=⟨_,rfl⟩
  have X29:=Lib.hid hx
  clear hx
  obtain⟨x30,hx⟩:∃ vv:Value,vv=.pointer (some ⟨b,off,none⟩):=⟨_,rfl⟩
  have X30:=Lib.hid hx
  clear hx
  obtain⟨x31,hx⟩:∃ vv:Value,vv=.pointer (some ⟨b,off+3,none⟩):=⟨_,rfl⟩
  have X31:=Lib.hid hx
  clear hx
  obtain⟨x32,hx⟩:∃ vv:Value,vv=.int .i64 ln:=⟨_,rfl⟩
  have X32:=Lib.hid hx
  clear hx
  obtain⟨x35,hx⟩:∃ vv:Value,vv=.int .i64 er:=⟨_,rfl⟩
  have X35:=Lib.hid hx
  clear hx
  obtain⟨x5,hx⟩:∃ vv:Value,vv=.int .i64 er:=⟨_,rfl⟩
  have X5:=Lib.hid hx
  clear hx
  refine wp_region_clo (fun a0 l a' w'=>∃ (sv:Value),a'=(Act.put (Act.put (fill a0 27 [sel (l 0) x27 (undef),sel (l 1) x28 (undef),sel (l 2) x29 (undef),sel (l 3) x30 (undef),sel (l 4) x31 (undef),sel (l 5) x32 (undef),sel (l 6) (.tuple #[sv,.int .i64 er]) (undef),sel (l 7) (sv) (undef),sel (l 8) x35 (undef)]) (some 4) (sel (l 9) (sv) (.slice none 0 0))) (some 5) (sel (l 10) x5 (.int .i64 0)))/\Off (fun _=>False) wq w'/\(l 6=true->SvAt w' sv sec)) (by kernel_rfl) (by kernel_rfl) ?_ ⟨?_,?_,?_,?_,?_,?_,?_,?_,?_,?_,?_,trivial⟩ ?_
  ·refine⟨undef,?_,(Off.refl _ wq).drew,(fun h=>by cases h)⟩
   simp only[XF,XP,sel_start]
   try rfl
  all_goals try (rintro l a wr ⟨sv,ha,hO,h6⟩ hc hl hd K' hK)
  ·as_aux_lemma =>
    have hx:=X27.out;subst hx
    simp only[XF,XP]at ha
    subst ha
    have H6:=Lib.hid h6
    clear h6
    have g:=hO.heap HGf.out (fun c=>c)
    obtain⟨f0,f1,f2,f3,f4,f5,f6,f7,f8,f9,f10,f11,f12,f13⟩:=fv_cells g
    have lf:=heap_lt g
    clear g
    rw[if_pos (by rfl)]
    go_simp
    refine Shut.out hK _ _ ⟨sv,?_,hO,(fun h=>SvAt.off (H6.out (show l 6=true by rwa [upd_ne l (by decide)]at h)) (Off.refl (fun _=>False) wr))⟩
    simp only[XF,XP,sel_new]
    try rfl
  ·as_aux_lemma =>
    have hx:=X28.out;subst hx
    simp only[XF,XP]at ha
    subst ha
    have H6:=Lib.hid h6
    clear h6
    rw[if_pos (by rfl)]
    go_simp
    refine Shut.out hK _ _ ⟨sv,?_,hO,(fun h=>SvAt.off (H6.out (show l 6=true by rwa [upd_ne l (by decide)]at h)) (Off.refl (fun _=>False) wr))⟩
    simp only[XF,XP,sel_new]
    try rfl
  ·as_aux_lemma =>
    have hx:=X29.out;subst hx
    simp only[XF,XP]at ha
    subst ha
    have H6:=Lib.hid h6
    clear h6
    rw[if_pos (by rfl)]
    go_simp
    refine Shut.out hK _ _ ⟨sv,?_,hO,(fun h=>SvAt.off (H6.out (show l 6=true by rwa [upd_ne l (by decide)]at h)) (Off.refl (fun _=>False) wr))⟩
    simp only[XF,XP,sel_new]
    try rfl
  ·as_aux_lemma =>
    have d2:=hd 2 (by decide)
    have hx:=X29.out;subst hx
    have hx:=X30.out;subst hx
    simp only[XF,XP,sel_of d2]at ha
    subst ha
    have H6:=Lib.hid h6
    clear h6
    rw[if_pos (by rfl)]
    go_simp
    refine Shut.out hK _ _ ⟨sv,?_,hO,(fun h=>SvAt.off (H6.out (show l 6=true by rwa [upd_ne l (by decide)]at h)) (Off.refl (fun _=>False) wr))⟩
    simp only[XF,XP,sel_new,sel_dep d2]
    try rfl
  ·as_aux_lemma =>
    have d3:=hd 3 (by decide)
    have hx:=X30.out;subst hx
    have hx:=X31.out;subst hx
    simp only[XF,XP,sel_of d3]at ha
    subst ha
    have H6:=Lib.hid h6
    clear h6
    rw[if_pos (by rfl)]
    go_simp
    refine Shut.out hK _ _ ⟨sv,?_,hO,(fun h=>SvAt.off (H6.out (show l 6=true by rwa [upd_ne l (by decide)]at h)) (Off.refl (fun _=>False) wr))⟩
    simp only[XF,XP,sel_new,sel_dep d3]
    try rfl
  ·as_aux_lemma =>
    have d4:=hd 4 (by decide)
    have hx:=X31.out;subst hx
    have hx:=X32.out;subst hx
    simp only[XF,XP,sel_of d4]at ha
    subst ha
    have H6:=Lib.hid h6
    clear h6
    have c3:=hO.cell HC3q.out (fun c=>c)
    have lb:=World.block_lt_of_cell? wr _ c3
    rw[if_pos (by rfl)]
    go_simp
    refine Shut.out hK _ _ ⟨sv,?_,hO,(fun h=>SvAt.off (H6.out (show l 6=true by rwa [upd_ne l (by decide)]at h)) (Off.refl (fun _=>False) wr))⟩
    simp only[XF,XP,sel_new,sel_dep d4]
    try rfl
  ·as_aux_lemma =>
    have d0:=hd 0 (by decide)
    have d1:=hd 1 (by decide)
    have d5:=hd 5 (by decide)
    have hx:=X27.out;subst hx
    have hx:=X28.out;subst hx
    have hx:=X32.out;subst hx
    have g7:=hc.not (i:=7) hl 11 (by kernel_rfl)
    have g8:=hc.not (i:=8) hl 11 (by kernel_rfl)
    have g9:=hc.not (i:=9) hl 11 (by kernel_rfl)
    have g10:=hc.not (i:=10) hl 11 (by kernel_rfl)
    simp only[XF,XP,sel_of d0,sel_of d1,sel_of d5,sel_no g7,sel_no g8,sel_no g9,sel_no g10,sel_no hl]at ha
    subst ha
    have G7:=Lib.hid g7
    clear g7
    have G8:=Lib.hid g8
    clear g8
    have G9:=Lib.hid g9
    clear g9
    have G10:=Lib.hid g10
    clear g10
    have H6:=Lib.hid h6
    clear h6
    rw[if_pos (by rfl)]
    go_simp
    refine(FJ.out wr _ (Ls.off HVq.out hO)).mono ?_
    rintro e w1 ⟨sv',rfl,hP1,hO1⟩
    go_wp2_with fail
    refine Shut.out hK _ _ ⟨sv',?_,(hO.trans hO1 (fun _ _ c=>c)),(fun _=>hP1)⟩
    simp only[XF,XP,sel_new,sel_dep d0,sel_dep d1,sel_dep d5,sel_no (show upd l 6 7=false by rw[upd_ne l (by decide)];exact G7.out),sel_no (show upd l 6 8=false by rw[upd_ne l (by decide)];exact G8.out),sel_no (show upd l 6 9=false by rw[upd_ne l (by decide)];exact G9.out),sel_no (show upd l 6 10=false by rw[upd_ne l (by decide)];exact G10.out)]
    try rfl
  ·as_aux_lemma =>
    have d6:=hd 6 (by decide)
    simp only[XF,XP,sel_of d6]at ha
    subst ha
    have q6:=h6 d6
    have Q6:=Lib.hid q6
    clear q6
    have H6:=Lib.hid h6
    clear h6
    rw[if_pos (by rfl)]
    go_simp
    refine Shut.out hK _ _ ⟨sv,?_,hO,(fun h=>SvAt.off (H6.out (show l 6=true by rwa [upd_ne l (by decide)]at h)) (Off.refl (fun _=>False) wr))⟩
    simp only[XF,XP,sel_new,sel_dep d6]
    try rfl
  ·as_aux_lemma =>
    have d6:=hd 6 (by decide)
    have hx:=X35.out;subst hx
    simp only[XF,XP,sel_of d6]at ha
    subst ha
    have q6:=h6 d6
    have Q6:=Lib.hid q6
    clear q6
    have H6:=Lib.hid h6
    clear h6
    rw[if_pos (by rfl)]
    go_simp
    refine Shut.out hK _ _ ⟨sv,?_,hO,(fun h=>SvAt.off (H6.out (show l 6=true by rwa [upd_ne l (by decide)]at h)) (Off.refl (fun _=>False) wr))⟩
    simp only[XF,XP,sel_new,sel_dep d6]
    try rfl
  ·as_aux_lemma =>
    have d7:=hd 7 (by decide)
    simp only[XF,XP,sel_of d7]at ha
    subst ha
    have q6:=h6 (hc.up 11 7 6 d7 (by kernel_rfl))
    have Q6:=Lib.hid q6
    clear q6
    have H6:=Lib.hid h6
    clear h6
    rw[if_pos (by rfl)]
    go_simp
    refine Shut.out hK _ _ ⟨sv,?_,hO,(fun h=>SvAt.off (H6.out (show l 6=true by rwa [upd_ne l (by decide)]at h)) (Off.refl (fun _=>False) wr))⟩
    simp only[XF,XP,sel_new,sel_dep d7]
    try rfl
  ·as_aux_lemma =>
    have d8:=hd 8 (by decide)
    have hx:=X35.out;subst hx
    have hx:=X5.out;subst hx
    simp only[XF,XP,sel_of d8]at ha
    subst ha
    have q6:=h6 (hc.up 11 8 6 d8 (by kernel_rfl))
    have Q6:=Lib.hid q6
    clear q6
    have H6:=Lib.hid h6
    clear h6
    rw[if_pos (by rfl)]
    go_simp
    refine Shut.out hK _ _ ⟨sv,?_,hO,(fun h=>SvAt.off (H6.out (show l 6=true by rwa [upd_ne l (by decide)]at h)) (Off.refl (fun _=>False) wr))⟩
    simp only[XF,XP,sel_new,sel_dep d8]
    try rfl
  rintro l a wc ⟨sv,ha,hO,h6⟩ hd
  simp only[XF,XP,sel_of (hd 0 (by decide)),sel_of (hd 1 (by decide)),sel_of (hd 2 (by decide)),sel_of (hd 3 (by decide)),sel_of (hd 4 (by decide)),sel_of (hd 5 (by decide)),sel_of (hd 6 (by decide)),sel_of (hd 7 (by decide)),sel_of (hd 8 (by decide)),sel_of (hd 9 (by decide)),sel_of (hd 10 (by decide))]at ha
  subst ha
  have hx:=X5.out;subst hx
  have q6:=h6 (hd 6 (by decide))
  clear h6
  have hOz:=HOq.out.trans hO (fun _ _ c=>c.elim)
  have HSv:=Lib.hid q6
  have HNz:=Lib.hid (HNq.out.off hO (fun _ c=>c.elim))
  have HOz:=Lib.hid hOz
  clear hO hOz q6 hd
  go_wp2
  refine bodyPost_ret (results_tmp2 rfl _ _ _) rfl ?_
  exact⟨_,rfl,HSv.out,HNz.out,HOz.out⟩
 have hcm:cmbJ l=([],c):=by unfold cmbJ;rw[if_pos (by rw[<-hc];exact h0),hc]
 rw[hcm]
 dsimp only
 have k1:((c:Int) != 0)=true:=by simp;omega
 have k3:¬(c:Int)=0:=by omega
 have H0:=Lib.hid h0
 clear hc hcm h hSl hS hes hT hNT hpl hn hl
 go_enter Tryz.func15,Tryz.ntmps15
 go_wp2_with fail
 refine FVl.out.mono ?_
 rintro e u1 ⟨v,rfl,hv,_,hO⟩
 obtain⟨rfl,hN⟩:=hv h0
 have HN:=Lib.hid hN
 have HO:=Lib.hid hO
 clear hv hN hO h0
 go_wp2
 refine bodyPost_ret (results_tmp2 rfl _ _ _) rfl ?_
 exact⟨_,rfl,sv_nil _,fun _=>HN.out,fun h=>absurd h H0.out,HO.out⟩
theorem at_big (l:List Sh) (a:Option Addr) (n cap:Nat) (hn:n=l.length) (hl:n<=1000) (hT9:shsN l=0->TJ l<=90) (hpl:∀ s∈l,s.pl.length<=1000) (ix:Int) (hix:(Lit.int .i64 ix).wf=true) (t:Option Addr) (es:List Ev) (S Sl:Nat->Prop) (w:World) (h:ShsAt w (.slice a n cap) l Sl) (hSl:∀ b,Sl b->b<w.heap.size/\¬S b) (hS:Tp w t es S) (hes:shsN l=0->es.length+(atEv (TJ l) (cJ l)).length<=50000) (hT:TabAt w) :
  Calls Tryz.prog 18 #[.pointer t,.slice a n cap,.int .i64 ix] w fun e w'=>∃ pa pc,e=.returned (.tuple #[(atS l ix).val (.slice pa (atS l ix).pl.length pc),.int .i64 (atE l ix:Int)])/\(atS l ix).pl.length<=pc/\VsAt w' (.slice pa (atS l ix).pl.length pc) (atS l ix).pl (fun b=>w.heap.size<=b)/\(atE l ix≠0->Noted w.heap.size t es [] S w')/\(atE l ix=0->Noted w.heap.size t es (atEv (TJ l) (cJ l)) S w')/\Off S w w':=by
 have hnc:n<=cap:=by
  obtain⟨a',c',e,h,_⟩:=h
  simp at e
  omega
 obtain⟨c,hc⟩:∃ c,c=shsN l:=⟨_,rfl⟩
 obtain⟨W0,hW0⟩:∃ W0,W0=(w.alloc (.cells #[.pointer t] 53)).alloc (.cells #[.int .i64 0,.int .i64 0,.int .i64 0,.int .i64 0,.slice none 0 0] 38):=⟨_,rfl⟩
 have hO0:Off (fun _=>False) w W0:=by rw[hW0];exact((Off.refl _ w).alloc _).alloc _
 have hz0:W0.heap.size=w.heap.size+2:=by rw[hW0];simp
 have FU:=Lib.hid (used_any l a n cap hn hnc hl hpl Sl W0 (h.off hO0 (fun _ _ _ c=>c)) (hT.off hO0))
 rw[<-hc]at FU hes
 have HG0:=Lib.hid (show TBox W0 w.heap.size t by rw[hW0];exact heap_old' (heap_new' rfl _) _)
 have HGr:=Lib.hid (show W0.heap[w.heap.size+1]?=some (.cells #[.int .i64 0,.int .i64 0,.int .i64 0,.int .i64 0,.slice none 0 0] 38 (0,0)) by rw[hW0];exact heap_new' (by simp) _)
 have HT0:=Lib.hid (hS.off0 hO0)
 have HO0:=Lib.hid hO0
 have HZ0:=Lib.hid hz0
 have HW0:=Lib.hid hW0
 have HS:=Lib.hid hS
 have HSl:=Lib.hid hSl
 have HT:=Lib.hid (hT.off hO0)
 have HC:=Lib.hid hc
 have HEs:=Lib.hid hes
 have HN:=Lib.hid (And.intro hn hl)
 clear hW0 hO0 hz0 hS hSl hT hes h hn hl
 by_cases h0:c=0
 ·subst h0
  by_cases hx:ix<1\/255<ix
  ·have hE:=atE_out (l:=l) (ix:=ix) hc.symm hx
   have hA:=atS_no (l:=l) (ix:=ix) (by rw[hE];decide)
   rw[hE,hA]
   clear hE hA hc hT9
   by_cases h1:ix<1
   ·clear hx
    go_enter Tryz.func18,Tryz.ntmps18
    go_wp2_with fail
    rw[<-HW0.out]
    refine FU.out.mono ?_
    rintro e u1 ⟨uv,rfl,hu0,hu1,hO⟩
    clear hu0 hu1
    have g:=hO.heap HGr.out (fun c=>c)
    have p0:=cell_of_heap g 0
    have p1:=cell_of_heap g 1
    have p2:=cell_of_heap g 2
    have p3:=cell_of_heap g 3
    have p4:=cell_of_heap g 4
    have fz:=fun k=>frozen_of_heap g k
    have lg:=heap_lt g
    obtain⟨W1,hW1⟩:∃ W1,W1=u1.setCells (w.heap.size+1) 0 [.int .i64 0,.int .i64 0,.int .i64 0,.int .i64 0,.slice none 0 0]:=⟨_,rfl⟩
    have ho:=setCells_off (w.heap.size+1) [.int .i64 0,.int .i64 0,.int .i64 0,.int .i64 0,.slice none 0 0] 0 u1
    have hOu:Off (fun _=>False) w u1:=HO0.out.trans hO (fun _ _ c=>c)
    have HEnd:=Lib.hid (show Noted w.heap.size t es [] S W1/\Off S w W1 from by
     rw[hW1]
     exact⟨((HS.out.off0 hOu).off ho (fun k e c=>by subst e;have:=HS.out.2 _ c;omega)).noted _,(hOu.mono (fun _ _ c=>c.elim)).trans ho (fun k hk e=>by omega)⟩)
    have hR:W1.heap[w.heap.size+1]?=some (.cells #[.int .i64 0,.int .i64 0,.int .i64 0,.int .i64 0,.slice none 0 0] 38 (0,0)):=by rw[hW1];exact setCells_at (vs:=[.int .i64 0,.int .i64 0,.int .i64 0,.int .i64 0,.slice none 0 0]) g rfl
    obtain⟨r0,r1,r2,r3,r4⟩:W1.cell? ⟨w.heap.size+1,0,none⟩=some (.int .i64 0)/\W1.cell? ⟨w.heap.size+1,1,none⟩=some (.int .i64 0)/\W1.cell? ⟨w.heap.size+1,2,none⟩=some (.int .i64 0)/\W1.cell? ⟨w.heap.size+1,3,none⟩=some (.int .i64 0)/\W1.cell? ⟨w.heap.size+1,4,none⟩=some (.slice none 0 0):=⟨cell_of_heap hR 0,cell_of_heap hR 1,cell_of_heap hR 2,cell_of_heap hR 3,cell_of_heap hR 4⟩
    have HW1:=Lib.hid hW1
    clear hW1 ho hOu hR g hO FU
    go_wp2
    change bodyPost _ _ _ _ _ (u1.setCells (w.heap.size+1) 0 [.int .i64 0,.int .i64 0,.int .i64 0,.int .i64 0,.slice none 0 0])
    rw[<-HW1.out]
    refine bodyPost_ret (v:=.tuple #[.agg #[.int .i64 0,.int .i64 0,.int .i64 0,.int .i64 0,.slice none 0 0],.int .i64 12]) (by simp[results,Tryz.results18,go_sem,r0,r1,r2,r3,r4]) rfl ?_
    have hv:VsAt W1 (.slice none 0 0) [] (fun b=>w.heap.size<=b):=⟨none,0,rfl,Nat.zero_le _,fun x hx=>(by simp at hx),fun h=>by simp at h⟩
    first | exact⟨none,0,rfl,Nat.le_refl _,hv,fun _=>HEnd.out.1,fun h=>absurd h (by decide),HEnd.out.2⟩ | exact⟨none,0,rfl,Nat.le_refl _,hv,HEnd.out.1,HEnd.out.2⟩
   have h2:255<ix:=by omega
   clear hx
   go_enter Tryz.func18,Tryz.ntmps18
   go_wp2_with fail
   rw[<-HW0.out]
   refine FU.out.mono ?_
   rintro e u1 ⟨uv,rfl,hu0,hu1,hO⟩
   clear hu0 hu1
   have g:=hO.heap HGr.out (fun c=>c)
   have p0:=cell_of_heap g 0
   have p1:=cell_of_heap g 1
   have p2:=cell_of_heap g 2
   have p3:=cell_of_heap g 3
   have p4:=cell_of_heap g 4
   have fz:=fun k=>frozen_of_heap g k
   have lg:=heap_lt g
   obtain⟨W1,hW1⟩:∃ W1,W1=u1.setCells (w.heap.size+1) 0 [.int .i64 0,.int .i64 0,.int .i64 0,.int .i64 0,.slice none 0 0]:=⟨_,rfl⟩
   have ho:=setCells_off (w.heap.size+1) [.int .i64 0,.int .i64 0,.int .i64 0,.int .i64 0,.slice none 0 0] 0 u1
   have hOu:Off (fun _=>False) w u1:=HO0.out.trans hO (fun _ _ c=>c)
   have HEnd:=Lib.hid (show Noted w.heap.size t es [] S W1/\Off S w W1 from by
    rw[hW1]
    exact⟨((HS.out.off0 hOu).off ho (fun k e c=>by subst e;have:=HS.out.2 _ c;omega)).noted _,(hOu.mono (fun _ _ c=>c.elim)).trans ho (fun k hk e=>by omega)⟩)
   have hR:W1.heap[w.heap.size+1]?=some (.cells #[.int .i64 0,.int .i64 0,.int .i64 0,.int .i64 0,.slice none 0 0] 38 (0,0)):=by rw[hW1];exact setCells_at (vs:=[.int .i64 0,.int .i64 0,.int .i64 0,.int .i64 0,.slice none 0 0]) g rfl
   obtain⟨r0,r1,r2,r3,r4⟩:W1.cell? ⟨w.heap.size+1,0,none⟩=some (.int .i64 0)/\W1.cell? ⟨w.heap.size+1,1,none⟩=some (.int .i64 0)/\W1.cell? ⟨w.heap.size+1,2,none⟩=some (.int .i64 0)/\W1.cell? ⟨w.heap.size+1,3,none⟩=some (.int .i64 0)/\W1.cell? ⟨w.heap.size+1,4,none⟩=some (.slice none 0 0):=⟨cell_of_heap hR 0,cell_of_heap hR 1,cell_of_heap hR 2,cell_of_heap hR 3,cell_of_heap hR 4⟩
   have HW1:=Lib.hid hW1
   clear hW1 ho hOu hR g hO FU
   go_wp2
   change bodyPost _ _ _ _ _ (u1.setCells (w.heap.size+1) 0 [.int .i64 0,.int .i64 0,.int .i64 0,.int .i64 0,.slice none 0 0])
   rw[<-HW1.out]
   refine bodyPost_ret (v:=.tuple #[.agg #[.int .i64 0,.int .i64 0,.int .i64 0,.int .i64 0,.slice none 0 0],.int .i64 12]) (by simp[results,Tryz.results18,go_sem,r0,r1,r2,r3,r4]) rfl ?_
   have hv:VsAt W1 (.slice none 0 0) [] (fun b=>w.heap.size<=b):=⟨none,0,rfl,Nat.zero_le _,fun x hx=>(by simp at hx),fun h=>by simp at h⟩
   first | exact⟨none,0,rfl,Nat.le_refl _,hv,fun _=>HEnd.out.1,fun h=>absurd h (by decide),HEnd.out.2⟩ | exact⟨none,0,rfl,Nat.le_refl _,hv,HEnd.out.1,HEnd.out.2⟩
  obtain⟨i,rfl⟩:∃ i:Nat,ix=(i:Int):=⟨ix.toNat,by omega⟩
  have hE:=atE_in (l:=l) (ix:=(i:Int)) hc.symm hx
  have hA:=atS_in hE
  rw[hE,hA]
  rw[show((i:Int)).toNat=i from rfl]
  have hi:1<=i/\i<=255:=by omega
  have k4:¬((i:Int)<1):=by omega
  have k5:¬(255<(i:Int)):=by omega
  have hT9:=hT9 hc.symm
  clear hE hA hc hx
  go_enter Tryz.func18,Tryz.ntmps18
  go_wp2_with fail
  rw[<-HW0.out]
  refine FU.out.mono ?_
  rintro e u1 ⟨uv,rfl,hu0,hu1,hO⟩
  clear FU
  obtain⟨a',rfl,hus⟩:=hu1 (by trivial)
  have hA:=acc_hd HC.out.symm
  obtain⟨us,hus'⟩:∃ us,us=usJ l:=⟨_,rfl⟩
  have hln0:us.length=TJ l:=by rw[hus'];exact hA.len
  have hchk:chkV (ixs us)=0:=by rw[hus'];exact hA.chk
  have hT1:1<=TJ l:=by unfold TJ;have:=hA.th1;omega
  have hTn:TJ l<=n:=by rw[HN.out.1];exact hA.few
  have hcol:∀ k:Nat,∀ y∈colN us (k:Int),y<modN (hd0 l).fd:=fun k=>by rw[hus'];exact hA.col k
  have hpc:∀ s,us[0]?=some s->s.pl.length=cJ l:=fun s hs=>by
   rw[hus']at hs
   exact(hA.all s (hA.mem (List.mem_of_getElem? hs))).2.2.2.1
  have hc1:cJ l<=1000:=by
   have:=hA.all _ (List.mem_of_getElem? hA.first)
   have h2:=hpl _ (List.mem_of_getElem? hA.first)
   rw[this.2.2.2.1]at h2
   exact h2
  have hvl:vlJ l=jvl (pJ l) us (cJ l):=by rw[hus'];rfl
  rw[<-hus']at hus
  obtain⟨T,hTT⟩:∃ T,T=TJ l:=⟨_,rfl⟩
  obtain⟨cn,hcn⟩:∃ cn,cn=cJ l:=⟨_,rfl⟩
  have hev:=HEs.out (by trivial)
  rw[<-hTT]at hln0 hT1 hTn hus
  rw[<-hcn]at hpc hc1 hvl
  rw[<-hTT,<-hcn]at hev
  rw[<-hTT]
  obtain⟨i0,r,s,hF,hgf⟩:=fget_k17 hA.kn
  obtain⟨id,hid⟩:∃ id,id=(hd0 l).fd:=⟨_,rfl⟩
  obtain⟨p,hp⟩:∃ p,p=modN id:=⟨_,rfl⟩
  have hpJ:pJ l=p:=by rw[hp,hid];rfl
  rw[<-hid]at hF hgf hcol
  rw[<-hp]at hF hgf hcol
  rw[hpJ]at hvl
  have HEq:=Lib.hid (show T=TJ l/\cn=cJ l/\pJ l=p from⟨hTT,hcn,hpJ⟩)
  obtain⟨s1,b,off,hsx,hsok,rfl,hSb,c0,c1,c2,c3,qa,qc,c4,_⟩:=hus.at (k:=0) (by omega)
  have hs1:s1=hd0 l:=by
   rw[hus']at hsx
   have h1:=hA.first
   unfold usJ usd at hsx
   rw[List.getElem?_take,if_pos (by have:=hA.th1;omega),h1]at hsx
   exact(Option.some.inj hsx).symm
  subst hs1
  simp only[Nat.zero_mul,Nat.add_zero]at c0 c1 c2 c3 c4
  rw[<-hid]at c0
  obtain⟨th,hth⟩:∃ th,th=(hd0 l).th:=⟨_,rfl⟩
  obtain⟨ln,hln⟩:∃ ln,ln=(hd0 l).ln:=⟨_,rfl⟩
  obtain⟨x0,hx0⟩:∃ x,x=(hd0 l).ix:=⟨_,rfl⟩
  obtain⟨qn,hqn⟩:∃ x,x=(hd0 l).pl.length:=⟨_,rfl⟩
  rw[<-hth]at c1
  rw[<-hln]at c3
  rw[<-hx0]at c2
  rw[<-hqn]at c4
  have lb:=World.block_lt_of_cell? u1 _ c0
  have hTi:(0:Int)<(T:Int):=by omega
  have hTp:0<T:=by omega
  have FG:=Lib.hid (hgf u1 (HT.out.off hO))
  have HU:=Lib.hid hus
  have HO1:=Lib.hid hO
  have HF:=Lib.hid hF
  have HId:=Lib.hid (show id=(hd0 l).fd/\th=(hd0 l).th/\ln=(hd0 l).ln from⟨hid,hth,hln⟩)
  have HNum:=Lib.hid (show us.length=T/\chkV (ixs us)=0/\1<=T/\T<=90/\(∀ s,us[0]?=some s->s.pl.length=cn)/\cn<=1000/\usJ l=us/\es.length+(atEv T cn).length<=50000 from⟨hln0,hchk,hT1,by rw[hTT];exact hT9,hpc,hc1,hus'.symm,hev⟩)
  have HCol:=Lib.hid hcol
  have HCs:=Lib.hid (And.intro c0 (And.intro c1 (And.intro c2 (And.intro c3 c4))))
  have hTn0:T≠0:=by omega
  clear hu0 hu1 hO hus hA hus' hln0 hchk hT1 hTn hcol hpc hc1 hvl hTT hcn hev hF hgf hid hp hpJ hsx hpl hnc hth hln hx0 hqn hsok hT9 c1 c2 c3 c4
  go_upto_region 7 with (refine FG.out.mono ?_;rintro e u2 ⟨rfl,hO⟩)
  obtain⟨bf,hbf⟩:∃ b,b=u2.heap.size:=⟨_,rfl⟩
  obtain⟨wq,hwq⟩:∃ W,W=u2.alloc (.cells #[.int .i64 id,.int .u64 (wd p 0),.int .u64 (wd p 1),.int .u64 (wd p 2),.int .u64 (wd p 3),.int .u64 i0,.int .u64 (wd r 0),.int .u64 (wd r 1),.int .u64 (wd r 2),.int .u64 (wd r 3),.int .u64 (wd s 0),.int .u64 (wd s 1),.int .u64 (wd s 2),.int .u64 (wd s 3)] 75):=⟨_,rfl⟩
  have HGf:=Lib.hid (show FBox wq bf id p i0 r s by rw[hwq,hbf];exact heap_new' rfl _)
  have hOq:Off (fun _=>False) u1 wq:=by rw[hwq];exact hO.alloc _
  have hO0q:Off (fun _=>False) W0 wq:=HO1.out.trans hOq (fun _ _ c=>c)
  have HOq:=Lib.hid hO0q
  have HUq:=Lib.hid (HU.out.off hOq (fun _ _ _ c=>c))
  have HBf:=Lib.hid (show w.heap.size+1<bf/\bf<wq.heap.size by rw[hwq,hbf];have:=HZ0.out;have:=HO1.out.size;have:=hO.size;simp;omega)
  have HCq:=Lib.hid (show wq.cell? ⟨b,off,none⟩=some (.int .i64 id)/\wq.cell? ⟨b,off+1,none⟩=some (.int .i64 th)/\wq.cell? ⟨b,off+2,none⟩=some (.int .i64 x0)/\wq.cell? ⟨b,off+3,none⟩=some (.int .i64 ln)/\wq.cell? ⟨b,off+4,none⟩=some (.slice qa qn qc) from⟨hOq.cell HCs.out.1 (fun c=>c),hOq.cell HCs.out.2.1 (fun c=>c),hOq.cell HCs.out.2.2.1 (fun c=>c),hOq.cell HCs.out.2.2.2.1 (fun c=>c),hOq.cell HCs.out.2.2.2.2 (fun c=>c)⟩)
  rw[<-hwq,<-hbf]
  clear hwq hbf hOq hO0q hO FG c0 lb
  have hixl:(ixs us).length=T:=by rw[<-HNum.out.1];simp[ixs]
  have FI:=Lib.hid ((indices_par us (some ⟨b,off,none⟩) T cap HNum.out.1.symm (by have:=HNum.out.2.2.2.1;omega) Sl wq HUq.out).mono (fun e w' ⟨v,he,hi,hO⟩=>show ∃ xa xc,e=Ending.returned (.slice xa T xc)/\IvAt w' (.slice xa T xc) (ixs us) (fun k=>wq.heap.size<=k)/\Off (fun _=>False) wq w' from by
   have hi2:=hi
   obtain⟨xa,xc,e2,h2⟩:=hi2
   rw[hixl]at e2
   subst e2
   exact⟨xa,xc,he,hi,hO⟩))
  have hip:i<p:=by have:=(fld_full HF.out).2.2.2;omega
  have FM:=Lib.hid (fun W=>mto_any HF.out i (Nat.lt_trans hip HF.out.mp.lt) W)
  rw[Nat.mod_eq_of_lt hip]at FM
  obtain⟨X,hX⟩:∃ X,X=fm p i:=⟨_,rfl⟩
  rw[<-hX,lit_small i (by omega)]at FM
  have hwk:IntKind.u64.wrap (i:Int)=(i:Int):=by rw[IntKind.wrap_u64];omega
  have HX:=Lib.hid hX
  have HI:=Lib.hid hi
  clear hX hixl hip hi
  go_wp2_with fail
  refine FI.out.mono ?_
  rintro e u3 ⟨xa,xc,rfl,hxi,hO⟩
  have g:=hO.heap HGf.out (fun c=>c)
  obtain⟨f0,f1,f2,f3,f4,f5,f6,f7,f8,f9,f10,f11,f12,f13⟩:=fv_cells g
  have lf:=heap_lt g
  have HXi:=Lib.hid hxi
  have HO3:=Lib.hid hO
  clear g hxi hO FI
  go_wp2_with fail
  obtain⟨bx,hbx⟩:∃ b,b=u3.heap.size:=⟨_,rfl⟩
  obtain⟨W3,hW3⟩:∃ W,W=u3.alloc (.cells #[.slice xa T xc] 79):=⟨_,rfl⟩
  rw[<-hW3,<-hbx]
  have HGx:=Lib.hid (show W3.heap[bx]?=some (.cells #[.slice xa T xc] 79 (0,0)) by rw[hW3,hbx];exact heap_new' rfl _)
  have hO3:Off (fun _=>False) wq W3:=by rw[hW3];exact HO3.out.alloc _
  have HX3:=Lib.hid (HXi.out.off (show Off (fun _=>False) u3 W3 by rw[hW3];exact(Off.refl _ u3).alloc _) (fun _ _ _ c=>c))
  have HOw3:=Lib.hid hO3
  have HBx:=Lib.hid (show bf<bx/\bx<W3.heap.size by rw[hW3,hbx];have:=HO3.out.size;have:=HBf.out;simp;omega)
  clear f0 f1 f2 f3 f4 f5 f6 f7 f8 f9 f10 f11 f12 f13 lf hW3 hbx hO3
  refine(FM.out W3).mono ?_
  rintro e u4 ⟨rfl,hO⟩
  have hOa:=HOw3.out.trans hO (fun _ _ c=>c)
  have hc:=HCq.out
  have c0:=hOa.cell hc.1 (fun c=>c)
  have c1:=hOa.cell hc.2.1 (fun c=>c)
  have c2:=hOa.cell hc.2.2.1 (fun c=>c)
  have c3:=hOa.cell hc.2.2.2.1 (fun c=>c)
  have c4:=hOa.cell hc.2.2.2.2 (fun c=>c)
  have lb:=World.block_lt_of_cell? u4 _ c0
  have g:=(HOq.out.trans hOa (fun _ _ c=>c)).heap HG0.out (fun c=>c)
  have t0:u4.cell? ⟨w.heap.size,0,none⟩=some (.pointer t):=cell_of_heap g 0
  have lt0:=heap_lt g
  have HO4:=Lib.hid hO
  have HOa:=Lib.hid hOa
  clear hc hOa hO g FM
  go_wp2_with fail
  obtain⟨wz,hwz⟩:∃ W,W=(u4.alloc (.cells #[.int .u64 (wd X 0),.int .u64 (wd X 1),.int .u64 (wd X 2),.int .u64 (wd X 3)] 34)).alloc (.cells #[.int .i64 id,.int .i64 th,.int .i64 i,.int .i64 ln,.slice qa qn qc] 38):=⟨_,rfl⟩
  obtain⟨bs,hbs⟩:∃ b,b=u4.heap.size+1:=⟨_,rfl⟩
  obtain⟨br,hbr⟩:∃ b,b=w.heap.size+1:=⟨_,rfl⟩
  obtain⟨be,hbe⟩:∃ b,b=u4.heap.size:=⟨_,rfl⟩
  have h4z:Off (fun _=>False) u4 wz:=by rw[hwz];exact((Off.refl _ u4).alloc _).alloc _
  have HGs:=Lib.hid (show wz.heap[bs]?=some (.cells #[.int .i64 id,.int .i64 th,.int .i64 i,.int .i64 ln,.slice qa qn qc] 38 (0,0)) by rw[hwz,hbs];exact heap_new' (by simp) _)
  have HGe:=Lib.hid (show wz.heap[be]?=some (.cells #[.int .u64 (wd X 0),.int .u64 (wd X 1),.int .u64 (wd X 2),.int .u64 (wd X 3)] 34 (0,0)) by rw[hwz,hbe];exact heap_old' (heap_new' rfl _) _)
  have hqz:Off (fun _=>False) wq wz:=HOa.out.trans h4z (fun _ _ c=>c)
  have h0z:Off (fun _=>False) W0 wz:=HOq.out.trans hqz (fun _ _ c=>c)
  have h3z:Off (fun _=>False) W3 wz:=HO4.out.trans h4z (fun _ _ c=>c)
  have HGt:=Lib.hid (show TBox wz w.heap.size t from h0z.heap HG0.out (fun c=>c))
  have HGrz:=Lib.hid (show wz.heap[br]?=some (.cells #[.int .i64 0,.int .i64 0,.int .i64 0,.int .i64 0,.slice none 0 0] 38 (0,0)) by rw[hbr];exact h0z.heap HGr.out (fun c=>c))
  have HGfz:=Lib.hid (show FBox wz bf id p i0 r s from hqz.heap HGf.out (fun c=>c))
  have HGxz:=Lib.hid (h3z.heap HGx.out (fun c=>c))
  have HXz:=Lib.hid (HX3.out.off h3z (fun _ _ _ c=>c))
  have HUz:=Lib.hid (HUq.out.off hqz (fun _ _ _ c=>c))
  have HTz:=Lib.hid (HT0.out.off0 h0z)
  have HBs:=Lib.hid (show w.heap.size<br/\br<bf/\bf<bx/\bx<be/\be<bs/\bs<wz.heap.size from by
   have h1:=HBf.out
   have h2:=HBx.out
   have h3:=HO4.out.size
   have h4:=heap_lt HGs.out
   omega)
  have HSlt:=Lib.hid (show ∀ k,S k->k<w.heap.size from HS.out.2)
  have HOz:=Lib.hid (HO0.out.trans h0z (fun _ _ c=>c))
  have HLq:=Lib.hid hqz.size
  rw[<-hwz,<-hbs]
  rw[<-hbe,<-hbr]
  have hne:br≠bs:=by have:=HBs.out;omega
  have hne2:bs≠br:=by have:=HBs.out;omega
  clear hwz hbs hbe hbr h4z hqz h0z h3z c0 c1 c2 c3 c4 lb t0 lt0
  obtain⟨ls,hls⟩:∃ ls,ls=wpE T T++batE T++prE T T++coefD T (List.range T):=⟨_,rfl⟩
  have hchs:chsEv ls cn=atEv T cn:=by rw[hls];rfl
  have hixl:T=(ixs us).length:=by rw[<-HNum.out.1];simp[ixs]
  have FCh:=Lib.hid (chunks_any 47 #[.pointer (some ⟨w.heap.size,0,none⟩),.pointer (some ⟨bf,0,none⟩),.pointer (some ⟨bx,0,none⟩),.pointer (some ⟨be,0,none⟩)] (fun v W=>by kernel_rfl) ls (fun k=>fm p (pv (jpl p us k) i%p)) us cn HNum.out.2.2.2.2.1 HNum.out.2.2.2.2.2.1 (some ⟨b,off,none⟩) T cap HNum.out.1.symm hTp HNum.out.2.2.2.1 t es S Sl wz HUz.out (fun b c=>⟨Nat.lt_of_lt_of_le (HSl.out b c).1 HOz.out.size,(HSl.out b c).2⟩) HTz.out (by have h1:=HNum.out.2.2.2.2.2.2.2;rw[<-hchs,chsEv_len]at h1;exact h1) (fun k hk W v esk Sk hOk hsk hSk hty hL hle=>by
   rw[show(#[v]++#[.pointer (some ⟨w.heap.size,0,none⟩),.pointer (some ⟨bf,0,none⟩),.pointer (some ⟨bx,0,none⟩),.pointer (some ⟨be,0,none⟩)]:Array Value)=#[v,.pointer (some ⟨w.heap.size,0,none⟩),.pointer (some ⟨bf,0,none⟩),.pointer (some ⟨bx,0,none⟩),.pointer (some ⟨be,0,none⟩)] from rfl]
   have hnS:∀ k,w.heap.size<=k->¬S k:=fun k h c=>by have:=HSlt.out k c;omega
   have hnk:∀ k,w.heap.size<=k->k<wz.heap.size->¬Sk k:=fun k h1 h2 c=>(hsk k c).elim (hnS k h1) (fun c=>by omega)
   have hB:=HBs.out
   rw[hls]
   refine aclo_any HF.out T HNum.out.2.2.2.1 hTp (ixs us) HNum.out.2.1 hixl (jys p us k) (by rw[jys_length,HNum.out.1]) i w.heap.size bf bx be xa xc v t esk Sk (fun b=>b<W.heap.size/\¬Sk b) W ?_ ?_ ?_ ?_ (hnk _ (by omega) (by omega)) (hnk _ (by omega) (by omega)) (hnk _ (Nat.le_refl _) (by omega)) ?_ ?_ (fun b c=>c) hSk (by rw[hls]at hle;rw[List.length_append]at hle;omega)
   ·exact hOk.heap HGt.out (hnS _ (Nat.le_refl _))
   ·exact hOk.heap HGfz.out (hnS _ (by omega))
   ·exact hOk.heap HGxz.out (hnS _ (by omega))
   ·rw[<-HX.out];exact hOk.heap HGe.out (hnS _ (by omega))
   ·exact Iv.of (HXz.out.off hOk (fun b _ c=>hnS b (Nat.le_trans (Nat.le_trans (by have:=HOq.out.size;have:=HO0.out.size;omega) (Nat.le_refl wq.heap.size)) c)))
   rw[jys_fm HF.out.mp (HCol.out k)]
   exact hL))
  refine FCh.out.mono ?_
  rintro e u6 ⟨b2,rfl,hb2,hn2,hN,hO⟩
  have hnS:∀ k,w.heap.size<=k->¬S k:=fun k h c=>by have:=HSlt.out k c;omega
  have gs:=hO.heap HGs.out (hnS _ (by have:=HBs.out;omega))
  have gr:=hO.heap HGrz.out (hnS _ (by have:=HBs.out;omega))
  have m0:=cell_of_heap gs 0
  have m1:=cell_of_heap gs 1
  have m2:=cell_of_heap gs 2
  have m3:=cell_of_heap gs 3
  have m4:=cell_of_heap gs 4
  have fzs:=fun k=>frozen_of_heap gs k
  have lgs:=heap_lt gs
  have n0:=cell_of_heap gr 0
  have n1:=cell_of_heap gr 1
  have n2:=cell_of_heap gr 2
  have n3:=cell_of_heap gr 3
  have n4:=cell_of_heap gr 4
  have fzr:=fun k=>frozen_of_heap gr k
  have lgr:=heap_lt gr
  obtain⟨W7,hW7⟩:∃ W,W=u6.setCells bs 4 [.slice (some ⟨b2,0,none⟩) cn cn]:=⟨_,rfl⟩
  obtain⟨W9,hW9⟩:∃ W,W=W7.setCells br 0 [.int .i64 id,.int .i64 th,.int .i64 i,.int .i64 ln,.slice (some ⟨b2,0,none⟩) cn cn]:=⟨_,rfl⟩
  have o7:Off (fun k=>k=bs) u6 W7:=by rw[hW7];exact setCells_off bs _ 4 u6
  have o9:Off (fun k=>k=br) W7 W9:=by rw[hW9];exact setCells_off br _ 0 W7
  have hR:W9.heap[br]?=some (.cells #[.int .i64 id,.int .i64 th,.int .i64 i,.int .i64 ln,.slice (some ⟨b2,0,none⟩) cn cn] 38 (0,0)):=by rw[hW9];exact setCells_at (vs:=[.int .i64 id,.int .i64 th,.int .i64 i,.int .i64 ln,.slice (some ⟨b2,0,none⟩) cn cn]) (o7.heap gr hne) rfl
  have HEnd:=Lib.hid (show VsAt W9 (.slice (some ⟨b2,0,none⟩) cn cn) (payN (pJ l) (jpls (pJ l) (usJ l) (cJ l)) i) (fun b=>w.heap.size<=b)/\(payN (pJ l) (jpls (pJ l) (usJ l) (cJ l)) i).length=cn/\Noted w.heap.size t es (atEv (TJ l) (cJ l)) S W9/\Off S w W9 from by
   obtain⟨e1,e2,e3⟩:=HEq.out
   rw[<-e1,<-e2,e3,HNum.out.2.2.2.2.2.2.1]
   have hB:=HBs.out
   have hw:=HOz.out.size
   have hvals:payN p (jpls p us cn) i=(List.range cn).map (fun k=>fm p (pv (jpl p us k) i%p)):=by
    unfold payN jpls
    rw[List.map_map]
    rfl
   have hl:((List.range cn).map (fun k=>fm p (pv (jpl p us k) i%p))).length=cn:=by simp
   rw[hvals]
   refine⟨?_,hl,?_,?_⟩
   ·have h9:NumsAt W9 b2 34 ((List.range cn).map (fun k=>fm p (pv (jpl p us k) i%p))):=(hn2.off o7 (fun e=>by omega)).off o9 (fun e=>by omega)
    have h:=vs_of_ls17 (W:=W9) (a:=some ⟨b2,0,none⟩) (c:=cn) (xs:=(List.range cn).map (fun k=>fm p (pv (jpl p us k) i%p))) (S:=fun b=>w.heap.size<=b) ⟨some ⟨b2,0,none⟩,cn,rfl,by rw[hl];have:=HNum.out.2.2.2.2.2.1;omega,fun _=>⟨b2,0,rfl,by omega,fun j x hx=>by
     have:=NumsAt.cell h9 hx
     rw[Nat.zero_add]
     exact this⟩⟩ (fun x hx=>by
     obtain⟨k,_,rfl⟩:=List.mem_map.1 hx
     exact Nat.lt_trans (by unfold fm;exact Nat.mod_lt _ HF.out.mp.pos) HF.out.mp.lt)
    rw[hl]at h
    exact h
   ·obtain⟨S3,h1,h2⟩:=hN
    rw[hchs]at h1
    have hn:∀ k,w.heap.size<=k->k<wz.heap.size->¬S3 k:=fun k h3 h4 c=>(h2 k c).elim (hnS k h3) (fun c=>by omega)
    exact⟨S3,(h1.off o7 (fun k e c=>by subst e;exact hn _ (by omega) (by omega) c)).off o9 (fun k e c=>by subst e;exact hn _ (by omega) (by omega) c),fun k c=>(h2 k c).imp (fun c=>c) (fun c=>by omega)⟩
   exact(((HOz.out.mono (fun _ _ c=>c.elim)).trans hO (fun _ _ c=>c)).trans o7 (fun k hk e=>by omega)).trans o9 (fun k hk e=>by omega))
  obtain⟨r0,r1,r2,r3,r4⟩:W9.cell? ⟨br,0,none⟩=some (.int .i64 id)/\W9.cell? ⟨br,1,none⟩=some (.int .i64 th)/\W9.cell? ⟨br,2,none⟩=some (.int .i64 i)/\W9.cell? ⟨br,3,none⟩=some (.int .i64 ln)/\W9.cell? ⟨br,4,none⟩=some (.slice (some ⟨b2,0,none⟩) cn cn):=⟨cell_of_heap hR 0,cell_of_heap hR 1,cell_of_heap hR 2,cell_of_heap hR 3,cell_of_heap hR 4⟩
  have HW9:=Lib.hid (show W9=(u6.setCells bs 4 [.slice (some ⟨b2,0,none⟩) cn cn]).setCells br 0 [.int .i64 id,.int .i64 th,.int .i64 i,.int .i64 ln,.slice (some ⟨b2,0,none⟩) cn cn] by rw[hW9,hW7])
  have HNe:=Lib.hid (And.intro hne hne2)
  clear hW7 hW9 o7 o9 hR gs gr hb2 hn2 hN hO FCh hls hchs hixl hnS
  go_wp2
  change bodyPost _ _ _ _ _ ((u6.setCells bs 4 [.slice (some ⟨b2,0,none⟩) cn cn]).setCells br 0 [.int .i64 id,.int .i64 th,.int .i64 i,.int .i64 ln,.slice (some ⟨b2,0,none⟩) cn cn])
  rw[<-HW9.out]
  refine bodyPost_ret (v:=.tuple #[.agg #[.int .i64 id,.int .i64 th,.int .i64 i,.int .i64 ln,.slice (some ⟨b2,0,none⟩) cn cn],.int .i64 0]) (by simp[results,Tryz.results18,go_sem,r0,r1,r2,r3,r4]) rfl ?_
  obtain⟨h1,h2,h3,h4⟩:=HEnd.out
  obtain⟨i1,i2,i3⟩:=HId.out
  refine⟨some ⟨b2,0,none⟩,cn,?_,?_,?_,?_⟩
  ·dsimp only[Sh.val]
   rw[h2,i1,i2,i3]
   rfl
  ·exact Nat.le_of_eq h2
  ·rw[h2];exact h1
  first | exact⟨fun h=>absurd rfl h,fun _=>h3,h4⟩ | exact⟨h3,h4⟩
 have hE:=atE_bad (ix:=ix) hc h0
 have hA:=atS_no (l:=l) (ix:=ix) (by rw[hE];exact h0)
 rw[hE,hA]
 have k1:((c:Int) != 0)=true:=by simp;omega
 have k3:¬(c:Int)=0:=by omega
 have H0:=Lib.hid h0
 clear hE hA hc h0 hT9
 go_enter Tryz.func18,Tryz.ntmps18
 go_wp2_with fail
 rw[<-HW0.out]
 refine FU.out.mono ?_
 rintro e u1 ⟨uv,rfl,hu0,hu1,hO⟩
 clear hu0 hu1
 have g:=hO.heap HGr.out (fun c=>c)
 have p0:=cell_of_heap g 0
 have p1:=cell_of_heap g 1
 have p2:=cell_of_heap g 2
 have p3:=cell_of_heap g 3
 have p4:=cell_of_heap g 4
 have fz:=fun k=>frozen_of_heap g k
 have lg:=heap_lt g
 obtain⟨W1,hW1⟩:∃ W1,W1=u1.setCells (w.heap.size+1) 0 [.int .i64 0,.int .i64 0,.int .i64 0,.int .i64 0,.slice none 0 0]:=⟨_,rfl⟩
 have ho:=setCells_off (w.heap.size+1) [.int .i64 0,.int .i64 0,.int .i64 0,.int .i64 0,.slice none 0 0] 0 u1
 have hOu:Off (fun _=>False) w u1:=HO0.out.trans hO (fun _ _ c=>c)
 have HEnd:=Lib.hid (show Noted w.heap.size t es [] S W1/\Off S w W1 from by
  rw[hW1]
  exact⟨((HS.out.off0 hOu).off ho (fun k e c=>by subst e;have:=HS.out.2 _ c;omega)).noted _,(hOu.mono (fun _ _ c=>c.elim)).trans ho (fun k hk e=>by omega)⟩)
 have hR:W1.heap[w.heap.size+1]?=some (.cells #[.int .i64 0,.int .i64 0,.int .i64 0,.int .i64 0,.slice none 0 0] 38 (0,0)):=by rw[hW1];exact setCells_at (vs:=[.int .i64 0,.int .i64 0,.int .i64 0,.int .i64 0,.slice none 0 0]) g rfl
 obtain⟨r0,r1,r2,r3,r4⟩:W1.cell? ⟨w.heap.size+1,0,none⟩=some (.int .i64 0)/\W1.cell? ⟨w.heap.size+1,1,none⟩=some (.int .i64 0)/\W1.cell? ⟨w.heap.size+1,2,none⟩=some (.int .i64 0)/\W1.cell? ⟨w.heap.size+1,3,none⟩=some (.int .i64 0)/\W1.cell? ⟨w.heap.size+1,4,none⟩=some (.slice none 0 0):=⟨cell_of_heap hR 0,cell_of_heap hR 1,cell_of_heap hR 2,cell_of_heap hR 3,cell_of_heap hR 4⟩
 have HW1:=Lib.hid hW1
 clear hW1 ho hOu hR g hO FU
 go_wp2
 change bodyPost _ _ _ _ _ (u1.setCells (w.heap.size+1) 0 [.int .i64 0,.int .i64 0,.int .i64 0,.int .i64 0,.slice none 0 0])
 rw[<-HW1.out]
 refine bodyPost_ret (v:=.tuple #[.agg #[.int .i64 0,.int .i64 0,.int .i64 0,.int .i64 0,.slice none 0 0],.int .i64 c]) (by simp[results,Tryz.results18,go_sem,r0,r1,r2,r3,r4]) rfl ?_
 have hv:VsAt W1 (.slice none 0 0) [] (fun b=>w.heap.size<=b):=⟨none,0,rfl,Nat.zero_le _,fun x hx=>(by simp at hx),fun h=>by simp at h⟩
 first | exact⟨none,0,rfl,Nat.le_refl _,hv,fun _=>HEnd.out.1,fun h=>absurd h H0.out,HEnd.out.2⟩ | exact⟨none,0,rfl,Nat.le_refl _,hv,HEnd.out.1,HEnd.out.2⟩
theorem at_join (l:List Sh) (a:Option Addr) (n cap:Nat) (hn:n=l.length) (hl:n<=90) (hpl:∀ s∈l,s.pl.length<=1000) (ix:Int) (hix:(Lit.int .i64 ix).wf=true) (t:Option Addr) (es:List Ev) (S Sl:Nat->Prop) (w:World) (h:ShsAt w (.slice a n cap) l Sl) (hSl:∀ b,Sl b->b<w.heap.size/\¬S b) (hS:Tp w t es S) (hes:shsN l=0->es.length+(atEv (TJ l) (cJ l)).length<=50000) (hT:TabAt w) :
  Calls Tryz.prog 18 #[.pointer t,.slice a n cap,.int .i64 ix] w fun e w'=>∃ pa pc,e=.returned (.tuple #[(atS l ix).val (.slice pa (atS l ix).pl.length pc),.int .i64 (atE l ix:Int)])/\(atS l ix).pl.length<=pc/\VsAt w' (.slice pa (atS l ix).pl.length pc) (atS l ix).pl (fun b=>w.heap.size<=b)/\(atE l ix≠0->Noted w.heap.size t es [] S w')/\(atE l ix=0->Noted w.heap.size t es (atEv (TJ l) (cJ l)) S w')/\Off S w w' :=
 at_big l a n cap hn (by omega) (fun hz=>by have hA:=acc_hd hz;have h1:=hA.few;have h2:TJ l=(hd0 l).th.toNat:=rfl;omega) hpl ix hix t es S Sl w h hSl hS hes hT
end
end Go.Proofs.YtpfjgifcjengkaaGreatDoor
