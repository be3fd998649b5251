/-
  The contracts of poly's Eval and Scale over this seat's translation, with any tape. Conditions: the field's constants are those of its modulus, the lists' elements are forms of values, and lie outside the tape; the tape has room for the events.
-/
import Derived.Test.YtpfjgifcjengkaaGreatDoorInvAll
import Derived.Test.YtpfjgifcjengkaaGreatDoorMontAll
import Derived.Test.YtpfjgifcjengkaaGreatDoorPolCore
namespace Go.Proofs.YtpfjgifcjengkaaGreatDoor
open Lib (hid)
open Go.RowKit
attribute [local go_sem] Oper.semAt_some wide_fn
set_option maxRecDepth 100000 in
set_option maxHeartbeats 4000000 in
theorem eval_any {id:Int} {p i0 r s:Nat} (hF:Fld id p i0 r s) (vs:List Nat) (n cap:Nat) (a:Option Addr) (hn:n=vs.length) (hn2:n<=10000) (q:Option Addr) (es:List Ev) (S Sl:Nat->Prop) (w:World)
  (hL:LsAt w (.slice a n cap) (vs.map (fm p)) Sl) (hSl:∀ b,Sl b->b<w.heap.size/\¬S b) (hS:Tp w q es S) (hl:es.length<=70000) (x:Nat) :
  Calls Tryz.prog 49 #[.pointer q,FV id p i0 r s,.slice a n cap,V (fm p x)] w fun e w'=>e=.returned (V (fm p (pv vs x%p)))/\Noted w.heap.size q es (coefD n (List.range n)) S w'/\Off S w w':=by
 refine(callsIn_wide (n:=6)).1 ?_
 refine callsIn_of_wp_marks Tryz.func49 rfl trivial ?_ rfl
 simp only[Tryz.ntmps49,List.size_toArray,List.length_cons,List.length_nil,Nat.reduceAdd,Nat.reduceSub,Array.replicate_succ,Array.replicate_zero,List.push_toArray,List.append_toArray,List.nil_append,List.cons_append]
 have hmx:Tryz.prog.follows .mixedOrders=true:=by kernel_rfl
 have HM:=hid (fun x y W=>by have h:=mmul_any hF (fm p x) (fm p y) (Nat.lt_trans (fm_lt hF.mp.pos _) hF.mp.lt) (fm_lt hF.mp.pos _) W;rw[mm_fm hF.mp]at h;exact h:∀ x y W,Calls Tryz.prog 71 #[FV id p i0 r s,V (fm p x),V (fm p y)] W fun x' w'=>x'=.returned (V (fm p (x*y%p)))/\Off (fun _=>False) W w')
 have HA:=hid (fun x y W=>by have h:=madd_any hF (fm p x) (fm p y) (fm_lt hF.mp.pos _) (fm_lt hF.mp.pos _) W;rw[fm_add]at h;exact h:∀ x y W,Calls Tryz.prog 74 #[FV id p i0 r s,V (fm p x),V (fm p y)] W fun x' w'=>x'=.returned (V (fm p ((x+y)%p)))/\Off (fun _=>False) W w')
 have HX:=hid (fun y W=>HM.out y x W)
 obtain⟨X,hX⟩:∃ X,X=fm p x:=⟨_,rfl⟩
 rw[<-hX]at HX ⊢
 have HF:=hid hF
 have HN:=hid hn
 have HL:=hid hL
 have HSl:=hid hSl
 have HS:=hid hS
 clear hF hn hL hSl hS hX
 have hOr:=fun w=>eback_in (6-1) a n cap w
 have hCo:=fun w=>callsIn_wide (n:=6-1).2 (coefs_any q w)
 have hNo:=fun lb tb w=>callsIn_wide (n:=6-1).2 (noted_any (.func (.func 121) #[] #[.pointer (some ⟨lb,0,none⟩)]) (.func (.func 122) #[] #[.pointer (some ⟨tb,0,none⟩)]) w ⟨_,_,rfl⟩ ⟨_,_,rfl⟩)
 gi_wp2_with (first | (gi_at_call 89;refine(hOr _).mono ?_;rintro e w' ⟨rfl,rfl⟩) | (gi_at_call 90;refine(hCo _).mono ?_;rintro e w' ⟨rfl,rfl⟩) | (gi_at_call 88;refine(hNo _ _ _).mono ?_;rintro e w' ⟨rfl,rfl⟩))
 clear hOr hCo hNo
 obtain⟨W8,hW8⟩:∃ W8,W8=(((((((w.alloc (.cells #[.int .i64 id,.int .u64 (wd p 0),.int .u64 (wd p 1),.int .u64 (wd p 2),.int .u64 (wd p 3),.int .u64 i0,.int .u64 (wd r 0),.int .u64 (wd r 1),.int .u64 (wd r 2),.int .u64 (wd r 3),.int .u64 (wd s 0),.int .u64 (wd s 1),.int .u64 (wd s 2),.int .u64 (wd s 3)] 75)).alloc (.cells #[.int .u64 (wd X 0),.int .u64 (wd X 1),.int .u64 (wd X 2),.int .u64 (wd X 3)] 34)).alloc (.cells #[.int .u64 0,.int .u64 0,.int .u64 0,.int .u64 0] 34)).alloc (.cells #[.int .u64 0,.int .u64 0,.int .u64 0,.int .u64 0] 34)).alloc (.cells #[.slice a n cap] 25)).alloc (.cells #[.pointer q] 53)).alloc (.cells #[.func (.func 121) #[] #[.pointer (some ⟨w.heap.size+1+1+1+1,0,none⟩)]] 135)).alloc (.cells #[.func (.func 122) #[] #[.pointer (some ⟨w.heap.size+1+1+1+1+1,0,none⟩)]] 138):=⟨_,rfl⟩
 have hOW8:Off (fun _=>False) w W8:=by rw[hW8];exact((((((((Off.refl _ w).alloc _).alloc _).alloc _).alloc _).alloc _).alloc _).alloc _).alloc _
 have g_bf:W8.heap[w.heap.size]?=some (.cells #[.int .i64 id,.int .u64 (wd p 0),.int .u64 (wd p 1),.int .u64 (wd p 2),.int .u64 (wd p 3),.int .u64 i0,.int .u64 (wd r 0),.int .u64 (wd r 1),.int .u64 (wd r 2),.int .u64 (wd r 3),.int .u64 (wd s 0),.int .u64 (wd s 1),.int .u64 (wd s 2),.int .u64 (wd s 3)] 75 (0,0)):=by rw[hW8];exact heap_old' (heap_old' (heap_old' (heap_old' (heap_old' (heap_old' (heap_old' (heap_new' rfl _) _) _) _) _) _) _) _
 have g_bx:W8.heap[w.heap.size+1]?=some (.cells #[.int .u64 (wd X 0),.int .u64 (wd X 1),.int .u64 (wd X 2),.int .u64 (wd X 3)] 34 (0,0)):=by rw[hW8];exact heap_old' (heap_old' (heap_old' (heap_old' (heap_old' (heap_old' (heap_new' (by simp) _) _) _) _) _) _) _
 have g_rb:W8.heap[w.heap.size+1+1]?=some (.cells #[.int .u64 0,.int .u64 0,.int .u64 0,.int .u64 0] 34 (0,0)):=by rw[hW8];exact heap_old' (heap_old' (heap_old' (heap_old' (heap_old' (heap_new' (by simp) _) _) _) _) _) _
 have g_vb:W8.heap[w.heap.size+1+1+1]?=some (.cells #[.int .u64 0,.int .u64 0,.int .u64 0,.int .u64 0] 34 (0,0)):=by rw[hW8];exact heap_old' (heap_old' (heap_old' (heap_old' (heap_new' (by simp) _) _) _) _) _
 have g_lb:W8.heap[w.heap.size+1+1+1+1]?=some (.cells #[.slice a n cap] 25 (0,0)):=by rw[hW8];exact heap_old' (heap_old' (heap_old' (heap_new' (by simp) _) _) _) _
 have g_tb:W8.heap[w.heap.size+1+1+1+1+1]?=some (.cells #[.pointer q] 53 (0,0)):=by rw[hW8];exact heap_old' (heap_old' (heap_new' (by simp) _) _) _
 have g_ob:W8.heap[w.heap.size+1+1+1+1+1+1]?=some (.cells #[.func (.func 121) #[] #[.pointer (some ⟨w.heap.size+1+1+1+1,0,none⟩)]] 135 (0,0)):=by rw[hW8];exact heap_old' (heap_new' (by simp) _) _
 have g_nb:W8.heap[w.heap.size+1+1+1+1+1+1+1]?=some (.cells #[.func (.func 122) #[] #[.pointer (some ⟨w.heap.size+1+1+1+1+1,0,none⟩)]] 138 (0,0)):=by rw[hW8];exact heap_new' (by simp) _
 have hsW8:W8.heap.size=w.heap.size+1+1+1+1+1+1+1+1:=by rw[hW8];simp
 rw[<-hW8]
 obtain⟨nb,e_nb⟩:∃ nb,nb=w.heap.size+1+1+1+1+1+1+1:=⟨_,rfl⟩
 rw[<-e_nb]at g_nb ⊢
 obtain⟨ob,e_ob⟩:∃ ob,ob=w.heap.size+1+1+1+1+1+1:=⟨_,rfl⟩
 rw[<-e_ob]at g_ob ⊢
 obtain⟨tb,e_tb⟩:∃ tb,tb=w.heap.size+1+1+1+1+1:=⟨_,rfl⟩
 rw[<-e_tb]at g_tb g_nb ⊢
 obtain⟨lb,e_lb⟩:∃ lb,lb=w.heap.size+1+1+1+1:=⟨_,rfl⟩
 rw[<-e_lb]at g_lb g_ob ⊢
 obtain⟨vb,e_vb⟩:∃ vb,vb=w.heap.size+1+1+1:=⟨_,rfl⟩
 rw[<-e_vb]at g_vb ⊢
 obtain⟨rb,e_rb⟩:∃ rb,rb=w.heap.size+1+1:=⟨_,rfl⟩
 rw[<-e_rb]at g_rb ⊢
 obtain⟨bx,e_bx⟩:∃ bx,bx=w.heap.size+1:=⟨_,rfl⟩
 rw[<-e_bx]at g_bx ⊢
 obtain⟨bf,e_bf⟩:∃ bf,bf=w.heap.size:=⟨_,rfl⟩
 rw[<-e_bf]at g_bf ⊢
 have HBk:=hid (show bf=w.heap.size/\bx=w.heap.size+1/\rb=w.heap.size+1+1/\vb=w.heap.size+1+1+1/\lb=w.heap.size+1+1+1+1/\tb=w.heap.size+1+1+1+1+1/\ob=w.heap.size+1+1+1+1+1+1/\nb=w.heap.size+1+1+1+1+1+1+1/\W8.heap.size=w.heap.size+1+1+1+1+1+1+1+1 from⟨e_bf,e_bx,e_rb,e_vb,e_lb,e_tb,e_ob,e_nb,hsW8⟩)
 clear hW8 hsW8 e_bf e_bx e_rb e_vb e_lb e_tb e_ob e_nb
 have HSw:=hid (fun k c=>by have:=HS.out.2 k c;omega:∀ k,S k->k<w.heap.size)
 have hT8:=HS.out.off0 hOW8
 have hR8:Rl lb (.slice a n cap) (vs.map (fm p)) Sl W8:=⟨g_lb,HL.out.off hOW8 (fun _ _ _ c=>c)⟩
 have hnot:∀ k,w.heap.size<=k->¬S k:=fun k h c=>by have:=HSw.out k c;omega
 have hseq:=coefs_told (n:=6-1) (by omega) ob nb tb 121 #[.pointer (some ⟨lb,0,none⟩)] (enters_of Tryz.func121 (by kernel_rfl) rfl) (fun x=>n-1-x) (fun x=>fm p (vs.getD (n-1-x) 0)) (fun W=>Rl lb (.slice a n cap) (vs.map (fm p)) Sl W) (fun ys=>ys=List.range n) (fun pre=>∃ k,k<=n/\pre=List.range k) n
  (fun W hW=>by have h:=eback_stops (6-1-1) (by omega) lb a n cap (vs.map (fm p)) Sl W hW;simp only[List.length_map,getD_fm,<-HN.out]at h;exact h)
  [(ob,Obj.cells #[.func (.func 121) #[] #[.pointer (some ⟨lb,0,none⟩)]] 135 (0,0)),(nb,Obj.cells #[.func (.func 122) #[] #[.pointer (some ⟨tb,0,none⟩)]] 138 (0,0)),(tb,Obj.cells #[.pointer q] 53 (0,0))] q es S (fun k=>k=vb) W8
  (by simp) (by simp) (by simp)
  (by
   have hb:=HBk.out
   simp only[List.mem_cons,List.not_mem_nil,or_false,forall_eq_or_imp,forall_eq]
   exact⟨⟨g_ob,hnot _ (by omega),by omega⟩,⟨g_nb,hnot _ (by omega),by omega⟩,⟨g_tb,hnot _ (by omega),by omega⟩⟩)
  (fun k c=>by subst c;have hb:=HBk.out;exact⟨by omega,hnot _ (by omega)⟩) hR8
  (fun A B h hq=>by
   have hb:=HBk.out
   exact h.quiet hq ⟨by omega,fun c=>c.elim (hnot _ (by omega)) (by omega)⟩ (fun k c=>⟨by have:=(HSl.out k c).1;omega,fun d=>d.elim (HSl.out k c).2 (fun e=>by have:=(HSl.out k c).1;omega)⟩))
  hT8 (by omega)
 have HR8:=hid hT8
 have h80:W8.heap[bf]?=some (.cells #[.int .i64 id,.int .u64 (wd p 0),.int .u64 (wd p 1),.int .u64 (wd p 2),.int .u64 (wd p 3),.int .u64 i0,.int .u64 (wd r 0),.int .u64 (wd r 1),.int .u64 (wd r 2),.int .u64 (wd r 3),.int .u64 (wd s 0),.int .u64 (wd s 1),.int .u64 (wd s 2),.int .u64 (wd s 3)] 75 (0,0))/\W8.heap[bx]?=some (.cells #[.int .u64 (wd X 0),.int .u64 (wd X 1),.int .u64 (wd X 2),.int .u64 (wd X 3)] 34 (0,0))/\W8.heap[rb]?=some (.cells #[.int .u64 0,.int .u64 0,.int .u64 0,.int .u64 0] 34 (0,0))/\W8.heap[vb]?=some (.cells #[.int .u64 (wd (fm p (hor p vs x [])) 0:Int),.int .u64 (wd (fm p (hor p vs x [])) 1:Int),.int .u64 (wd (fm p (hor p vs x [])) 2:Int),.int .u64 (wd (fm p (hor p vs x [])) 3:Int)] 34 (0,0))/\Off S w W8:=⟨g_bf,g_bx,g_rb,by rw[show fm p (hor p vs x [])=0 from fm_zero p];simp only[wd_zero];exact g_vb,hOW8.mono (fun _ _ c=>c.elim)⟩
 have H80:=hid h80
 have HNot:=hid hnot
 clear h80 g_bf g_bx g_rb g_vb g_lb g_tb g_ob g_nb hT8 hR8 hOW8 hnot
 refine rangeFunc_told (n:=6) (by omega) (gf:=120) (lb:=#[.pointer (some ⟨ob,0,none⟩),.pointer (some ⟨nb,0,none⟩)]) rfl (enters_of Tryz.func120 (by kernel_rfl) rfl) hseq
  (fun xs A B h hq hc=>noted_cells h hq hc) (fun _=>by rfl)
  (fun pre W=>W.heap[bf]?=some (.cells #[.int .i64 id,.int .u64 (wd p 0),.int .u64 (wd p 1),.int .u64 (wd p 2),.int .u64 (wd p 3),.int .u64 i0,.int .u64 (wd r 0),.int .u64 (wd r 1),.int .u64 (wd r 2),.int .u64 (wd r 3),.int .u64 (wd s 0),.int .u64 (wd s 1),.int .u64 (wd s 2),.int .u64 (wd s 3)] 75 (0,0))/\W.heap[bx]?=some (.cells #[.int .u64 (wd X 0),.int .u64 (wd X 1),.int .u64 (wd X 2),.int .u64 (wd X 3)] 34 (0,0))/\W.heap[rb]?=some (.cells #[.int .u64 0,.int .u64 0,.int .u64 0,.int .u64 0] 34 (0,0))/\W.heap[vb]?=some (.cells #[.int .u64 (wd (fm p (hor p vs x pre)) 0:Int),.int .u64 (wd (fm p (hor p vs x pre)) 1:Int),.int .u64 (wd (fm p (hor p vs x pre)) 2:Int),.int .u64 (wd (fm p (hor p vs x pre)) 3:Int)] 34 (0,0))/\Off S w W) ?hI ?h0
  (fun x a' W=>∃ B,W.heap[B]?=some (.cells #[.int .u64 (wd (fm p (vs.getD (n-1-x) 0)) 0:Int),.int .u64 (wd (fm p (vs.getD (n-1-x) 0)) 1:Int),.int .u64 (wd (fm p (vs.getD (n-1-x) 0)) 2:Int),.int .u64 (wd (fm p (vs.getD (n-1-x) 0)) 3:Int)] 34 (0,0))/\nb<B/\a'={ tmps:=#[.pointer q,FV id p i0 r s,.slice a n cap,V X,undef,.pointer (some ⟨bf,0,none⟩),undef,.pointer (some ⟨bx,0,none⟩),.pointer (some ⟨rb,0,none⟩),.pointer (some ⟨vb,0,none⟩),undef,.pointer (some ⟨B,0,none⟩),.slice a n cap,.func (.func 121) #[] #[.pointer (some ⟨lb,0,none⟩)],.pointer q,.func (.func 122) #[] #[.pointer (some ⟨tb,0,none⟩)],.func (.func 120) #[] #[.pointer (some ⟨ob,0,none⟩),.pointer (some ⟨nb,0,none⟩)],.int .i64 ((n-1-x:Nat):Int),V (fm p (vs.getD (n-1-x) 0)),undef,undef,undef,undef,undef,undef,undef,undef],defers:=[] })
  (fun x a' A l o' h hc=>by obtain⟨B,h1,h2,h3⟩:=h;exact⟨B,hc _ _ _ _ h1,h2,h3⟩)
  ?assign ?body ?done
 case hI =>
  rintro pre A B ⟨h1,h2,h3,h4,h5⟩ hq
  have hb:=HBk.out
  exact⟨hq.block _ _ (by omega) (HNot.out _ (by omega)) h1,hq.block _ _ (by omega) (HNot.out _ (by omega)) h2,hq.block _ _ (by omega) (HNot.out _ (by omega)) h3,hq.block _ _ (by omega) (HNot.out _ (by omega)) h4,h5.later' hq (by omega) (fun k _ c=>c)⟩
 case h0=>exact H80.out
 case assign =>
  rintro l pre k W K hsz _ hK
  obtain⟨j,hj⟩:∃ j,j=n-1-k:=⟨_,rfl⟩
  obtain⟨y,hy⟩:∃ y,y=fm p (vs.getD (n-1-k) 0):=⟨_,rfl⟩
  rw[<-hy,<-hj]at hK
  rw[<-hy,<-hj]
  have hlt:nb<W.heap.size:=by have hb:=HBk.out;omega
  clear hy hj hseq
  gi_wp2
  exact hK _ _ ((Off.refl _ W).alloc _) ⟨W.heap.size,World.alloc_heap_new W _,hlt,rfl⟩
 case body =>
  rintro l pre k a' W _ _ ⟨h1,h2,h3,h4,h5⟩ ⟨B,hcB,hBt,rfl⟩ hlen
  obtain⟨j,hj⟩:∃ j,j=n-1-k:=⟨_,rfl⟩
  obtain⟨v,hv⟩:∃ v,v=vs.getD (n-1-k) 0:=⟨_,rfl⟩
  obtain⟨R0,hR⟩:∃ R0,R0=hor p vs x pre:=⟨_,rfl⟩
  have HSn:=hid (show hor p vs x (pre++[k])=(R0*x%p+v)%p by rw[hor_snoc,<-HN.out,<-hR,<-hv])
  rw[<-hv,<-hj]
  rw[<-hv]at hcB
  rw[<-hR]at h4
  obtain⟨y,hy⟩:∃ y,y=fm p v:=⟨_,rfl⟩
  obtain⟨u,hu⟩:∃ u,u=fm p R0:=⟨_,rfl⟩
  obtain⟨m,hm⟩:∃ m,m=fm p (R0*x%p):=⟨_,rfl⟩
  obtain⟨z,hz⟩:∃ z,z=fm p ((R0*x%p+v)%p):=⟨_,rfl⟩
  have HMu:=hid (show ∀ W,Calls Tryz.prog 71 #[FV id p i0 r s,V u,V X] W fun x' w'=>x'=.returned (V m)/\Off (fun _=>False) W w' from fun W=>by rw[hu,hm];exact HX.out _ W)
  have HAd:=hid (show ∀ W,Calls Tryz.prog 74 #[FV id p i0 r s,V m,V y] W fun x' w'=>x'=.returned (V z)/\Off (fun _=>False) W w' from fun W=>by rw[hm,hy,hz];exact HA.out _ _ W)
  rw[<-hy]
  rw[<-hy]at hcB
  rw[<-hu]at h4
  have HZ:=hid hz
  have HPr:=hid h4
  have H1:=hid h1
  have H2:=hid h2
  have H3:=hid h3
  have H5:=hid h5
  have HK:Hid (∀ A,Off (fun k=>k=vb) W A->(A.cell? ⟨bf,0,none⟩=some (.int .i64 id)/\A.cell? ⟨bf,1,none⟩=some (.int .u64 (wd p 0))/\A.cell? ⟨bf,2,none⟩=some (.int .u64 (wd p 1))/\A.cell? ⟨bf,3,none⟩=some (.int .u64 (wd p 2))/\A.cell? ⟨bf,4,none⟩=some (.int .u64 (wd p 3))/\A.cell? ⟨bf,5,none⟩=some (.int .u64 i0)/\A.cell? ⟨bf,6,none⟩=some (.int .u64 (wd r 0))/\A.cell? ⟨bf,7,none⟩=some (.int .u64 (wd r 1))/\A.cell? ⟨bf,8,none⟩=some (.int .u64 (wd r 2))/\A.cell? ⟨bf,9,none⟩=some (.int .u64 (wd r 3))/\A.cell? ⟨bf,10,none⟩=some (.int .u64 (wd s 0))/\A.cell? ⟨bf,11,none⟩=some (.int .u64 (wd s 1))/\A.cell? ⟨bf,12,none⟩=some (.int .u64 (wd s 2))/\A.cell? ⟨bf,13,none⟩=some (.int .u64 (wd s 3)))/\(A.cell? ⟨bx,0,none⟩=some (.int .u64 (wd X 0))/\A.cell? ⟨bx,1,none⟩=some (.int .u64 (wd X 1))/\A.cell? ⟨bx,2,none⟩=some (.int .u64 (wd X 2))/\A.cell? ⟨bx,3,none⟩=some (.int .u64 (wd X 3)))/\(A.cell? ⟨B,0,none⟩=some (.int .u64 (wd y 0))/\A.cell? ⟨B,1,none⟩=some (.int .u64 (wd y 1))/\A.cell? ⟨B,2,none⟩=some (.int .u64 (wd y 2))/\A.cell? ⟨B,3,none⟩=some (.int .u64 (wd y 3)))/\Off (fun k=>k=vb) W A):=hid (fun A h=>⟨fv_cells (h.heap h1 (by have hb:=HBk.out;omega)),cells4 (h.heap h2 (by have hb:=HBk.out;omega)),cells4 (h.heap hcB (by have hb:=HBk.out;omega)),h⟩)
  clear h1 h2 h3 h4 h5 hcB hz hm hu hy hR hv hj hseq
  gi_wp2
  refine wpIn_region_inv (fun a0 l a' w'=>∃ (u19:Value) (u20:Value) (u21:Value) (u22:Value) (u23:Value) (u24:Value) (u25:Value),a'=(Act.put (Act.put (Act.put (Act.put (Act.put (Act.put (Act.put a0 (some 19) u19) (some 20) u20) (some 21) u21) (some 22) u22) (some 23) u23) (some 24) u24) (some 25) u25)/\Slot l 0 u19 (FV id p i0 r s)/\Slot l 1 u20 (FV id p i0 r s)/\Slot l 2 u21 (V u)/\Slot l 3 u22 (V X)/\Slot l 4 u23 (V m)/\Slot l 5 u24 (V y)/\Slot l 6 u25 (V z)/\Old l 7 vb W w' (.cells #[.int .u64 (wd u 0),.int .u64 (wd u 1),.int .u64 (wd u 2),.int .u64 (wd u 3)] 34) (.cells #[.int .u64 (wd z 0),.int .u64 (wd z 1),.int .u64 (wd z 2),.int .u64 (wd z 3)] 34)/\Dep l 2 7/\Off (fun k=>k=vb) W w') (by kernel_rfl) (by kernel_rfl) (by kernel_rfl) ?_ ⟨?_,?_,?_,?_,?_,?_,?_,?_,trivial⟩ ?_
  ·refine⟨?z19,?z20,?z21,?z22,?z23,?z24,?z25,?fr,Slot.start _ _ _,Slot.start _ _ _,Slot.start _ _ _,Slot.start _ _ _,Slot.start _ _ _,Slot.start _ _ _,Slot.start _ _ _,Old.start HPr.out _ _,Dep.start _ _,(Off.refl _ W).drew⟩
   case fr=>first | (simp only[XP];rfl) | simp only[XP]
  all_goals try (intro l a wr hI hl hd K' hK;obtain⟨u19,u20,u21,u22,u23,u24,u25,ha,s0,s1,s2,s3,s4,s5,s6,O0,P2_7,hO⟩:=hI;simp only[XP]at ha)
  ·subst ha
   have hc:=HK.out wr hO
   have p0:=hc.1.1
   have p1:=hc.1.2.1
   have p2:=hc.1.2.2.1
   have p3:=hc.1.2.2.2.1
   have p4:=hc.1.2.2.2.2.1
   have p5:=hc.1.2.2.2.2.2.1
   have p6:=hc.1.2.2.2.2.2.2.1
   have p7:=hc.1.2.2.2.2.2.2.2.1
   have p8:=hc.1.2.2.2.2.2.2.2.2.1
   have p9:=hc.1.2.2.2.2.2.2.2.2.2.1
   have p10:=hc.1.2.2.2.2.2.2.2.2.2.2.1
   have p11:=hc.1.2.2.2.2.2.2.2.2.2.2.2.1
   have p12:=hc.1.2.2.2.2.2.2.2.2.2.2.2.2.1
   have p13:=hc.1.2.2.2.2.2.2.2.2.2.2.2.2.2
   clear hc
   go_simp
   refine hK.out _ _ ⟨_,_,_,_,_,_,_,?_,Slot.new _ _ _,s1.keep rfl,s2.keep rfl,s3.keep rfl,s4.keep rfl,s5.keep rfl,s6.keep rfl,O0.keep (Off.refl _ wr) rfl,P2_7.keep rfl,hO⟩
   simp only[XP]
  ·subst ha
   have hc:=HK.out wr hO
   have p0:=hc.1.1
   have p1:=hc.1.2.1
   have p2:=hc.1.2.2.1
   have p3:=hc.1.2.2.2.1
   have p4:=hc.1.2.2.2.2.1
   have p5:=hc.1.2.2.2.2.2.1
   have p6:=hc.1.2.2.2.2.2.2.1
   have p7:=hc.1.2.2.2.2.2.2.2.1
   have p8:=hc.1.2.2.2.2.2.2.2.2.1
   have p9:=hc.1.2.2.2.2.2.2.2.2.2.1
   have p10:=hc.1.2.2.2.2.2.2.2.2.2.2.1
   have p11:=hc.1.2.2.2.2.2.2.2.2.2.2.2.1
   have p12:=hc.1.2.2.2.2.2.2.2.2.2.2.2.2.1
   have p13:=hc.1.2.2.2.2.2.2.2.2.2.2.2.2.2
   clear hc
   go_simp
   refine hK.out _ _ ⟨_,_,_,_,_,_,_,?_,s0.keep rfl,Slot.new _ _ _,s2.keep rfl,s3.keep rfl,s4.keep rfl,s5.keep rfl,s6.keep rfl,O0.keep (Off.refl _ wr) rfl,P2_7.keep rfl,hO⟩
   simp only[XP]
  ·subst ha
   have hZ:=O0.was (P2_7 hl)
   obtain⟨p0,p1,p2,p3⟩:=cells4 hZ
   clear hZ
   go_simp
   refine hK.out _ _ ⟨_,_,_,_,_,_,_,?_,s0.keep rfl,s1.keep rfl,Slot.new _ _ _,s3.keep rfl,s4.keep rfl,s5.keep rfl,s6.keep rfl,O0.keep (Off.refl _ wr) rfl,P2_7.keep rfl,hO⟩
   simp only[XP]
  ·subst ha
   have hc:=HK.out wr hO
   have p0:=hc.2.1.1
   have p1:=hc.2.1.2.1
   have p2:=hc.2.1.2.2.1
   have p3:=hc.2.1.2.2.2
   clear hc
   go_simp
   refine hK.out _ _ ⟨_,_,_,_,_,_,_,?_,s0.keep rfl,s1.keep rfl,s2.keep rfl,Slot.new _ _ _,s4.keep rfl,s5.keep rfl,s6.keep rfl,O0.keep (Off.refl _ wr) rfl,P2_7.keep rfl,hO⟩
   simp only[XP]
  ·have q1:=s1 (hd 1 (by decide))
   have q2:=s2 (hd 2 (by decide))
   have q3:=s3 (hd 3 (by decide))
   subst ha q1 q2 q3
   go_simp
   refine(held_inv (HMu.out wr) hO).mono ?_
   rintro e w1 ⟨rfl,hO1,hOW⟩
   go_wp2_with fail
   refine hK.out _ _ ⟨_,_,_,_,_,_,_,?_,s0.keep rfl,s1.keep rfl,s2.keep rfl,s3.keep rfl,Slot.new _ _ _,s5.keep rfl,s6.keep rfl,O0.keep hOW rfl,P2_7.keep rfl,hO1⟩
   simp only[XP]
  ·subst ha
   have hc:=HK.out wr hO
   have p0:=hc.2.2.1.1
   have p1:=hc.2.2.1.2.1
   have p2:=hc.2.2.1.2.2.1
   have p3:=hc.2.2.1.2.2.2
   clear hc
   go_simp
   refine hK.out _ _ ⟨_,_,_,_,_,_,_,?_,s0.keep rfl,s1.keep rfl,s2.keep rfl,s3.keep rfl,s4.keep rfl,Slot.new _ _ _,s6.keep rfl,O0.keep (Off.refl _ wr) rfl,P2_7.keep rfl,hO⟩
   simp only[XP]
  ·have q0:=s0 (hd 0 (by decide))
   have q4:=s4 (hd 4 (by decide))
   have q5:=s5 (hd 5 (by decide))
   subst ha q0 q4 q5
   go_simp
   refine(held_inv (HAd.out wr) hO).mono ?_
   rintro e w1 ⟨rfl,hO1,hOW⟩
   go_wp2_with fail
   refine hK.out _ _ ⟨_,_,_,_,_,_,_,?_,s0.keep rfl,s1.keep rfl,s2.keep rfl,s3.keep rfl,s4.keep rfl,s5.keep rfl,Slot.new _ _ _,O0.keep hOW rfl,P2_7.keep rfl,hO1⟩
   simp only[XP]
  ·have q6:=s6 (hd 6 (by decide))
   subst ha q6
   have hZ:=(O0.was hl)
   obtain⟨m0,m1,m2,m3⟩:=cells4 hZ
   have fz:=fun j=>frozen_of_heap hZ j
   have lt:=heap_lt hZ
   clear hZ
   go_simp
   refine hK.out _ _ ⟨_,_,_,_,_,_,_,?_,s0.keep rfl,s1.keep rfl,s2.keep rfl,s3.keep rfl,s4.keep rfl,s5.keep rfl,s6.keep rfl,O0.put hl rfl,Dep.at (hd 2 (by decide)),setCells_in hO (fun _=>rfl) [.int .u64 (wd z 0),.int .u64 (wd z 1),.int .u64 (wd z 2),.int .u64 (wd z 3)]⟩
   simp only[XP]
  intro l a wc hI hd
  obtain⟨u19,u20,u21,u22,u23,u24,u25,ha,s0,s1,s2,s3,s4,s5,s6,O0,P2_7,hO⟩:=hI
  simp only[XP]at ha
  have q0:=s0 (hd 0 (by decide))
  have q1:=s1 (hd 1 (by decide))
  have q2:=s2 (hd 2 (by decide))
  have q3:=s3 (hd 3 (by decide))
  have q4:=s4 (hd 4 (by decide))
  have q5:=s5 (hd 5 (by decide))
  have q6:=s6 (hd 6 (by decide))
  have r0:wc.heap[vb]?=some (.cells #[.int .u64 (wd z 0),.int .u64 (wd z 1),.int .u64 (wd z 2),.int .u64 (wd z 3)] 34):=O0.now (hd 7 (by decide))
  subst ha q0 q1 q2 q3 q4 q5 q6
  clear hd s0 s1 s2 s3 s4 s5 s6 O0 P2_7
  have hb:=HBk.out
  refine⟨rfl,hO,hO.heap H1.out (by omega),hO.heap H2.out (by omega),hO.heap H3.out (by omega),?_,H5.out.trans hO (fun k hk e=>by omega)⟩
  rw[HSn.out,<-HZ.out]
  exact r0
 case done =>
  rintro D ys A hD rfl ⟨h1,h2,h3,h4,h5⟩ hP hK
  rw[show hor p vs x (List.range n)=pv vs x%p by rw[HN.out];exact hor_done p vs x]at h4
  obtain⟨m0,m1,m2,m3⟩:=cells4 h3
  have fz:=fun j=>frozen_of_heap h3 j
  have lt:=heap_lt h3
  obtain⟨z,hz⟩:∃ z,z=fm p (pv vs x%p):=⟨_,rfl⟩
  rw[<-hz]at h4
  obtain⟨v0,v1,v2,v3⟩:=cells4 h4
  have HZ:=hid hz
  have HP:=hid hP
  have H3:=hid h3
  have H5:=hid h5
  clear h1 h2 h3 h4 h5 hz hP hseq
  gi_wp2
  have hO9:Off (fun k=>k=rb) A (A.setCells rb 0 (words4 z)):=setCells_off rb (words4 z) 0 A
  have r9:(A.setCells rb 0 (words4 z)).heap[rb]?=some (.cells #[.int .u64 (wd z 0),.int .u64 (wd z 1),.int .u64 (wd z 2),.int .u64 (wd z 3)] 34 (0,0)):=setCells_at (vs:=words4 z) H3.out rfl
  have hK9:=hO9.others _ _ hK rfl
  refine⟨by simp,.inl ⟨_,_,rfl,run_takeDeferred hK9,?_⟩⟩
  show LeavesInM _ _ _ _ _ _ _ _ ((A.setCells rb 0 (words4 z)).putObj D (.deferred none))
  have hb:=HBk.out
  have hqD:Quiet w.heap.size S (A.setCells rb 0 (words4 z)) ((A.setCells rb 0 (words4 z)).putObj D (.deferred none)):=Quiet.putObj _ _ (by omega)
  have s9:((A.setCells rb 0 (words4 z)).putObj D (.deferred none)).heap[rb]?=some (.cells #[.int .u64 (wd z 0),.int .u64 (wd z 1),.int .u64 (wd z 2),.int .u64 (wd z 3)] 34 (0,0)):=(World.putObj_heap_other (by omega)).trans r9
  have hP9:=noted_put (o':=.deferred none) (HP.out.off hO9 (fun k e=>⟨by subst e;exact HNot.out _ (by omega),by omega⟩)) hK9
  have hO10:Off S w ((A.setCells rb 0 (words4 z)).putObj D (.deferred none)):=(H5.out.trans hO9 (fun k hk e=>by omega)).later' hqD (Nat.le_refl _) (fun _ _ c=>c)
  generalize (A.setCells rb 0 (words4 z)).putObj D (.deferred none)=W10 at s9 hP9 hO10 ⊢
  obtain⟨r0,r1,r2,r3⟩:=cells4 s9
  refine⟨V z,by simp[results,Tryz.results49,go_sem,r0,r1,r2,r3],by rw[HZ.out],?_,hO10⟩
  obtain⟨S',t1,t2⟩:=hP9
  exact⟨S',t1,fun k c=>(t2 k c).imp (fun c=>c) (fun d=>by omega)⟩
end Go.Proofs.YtpfjgifcjengkaaGreatDoor
