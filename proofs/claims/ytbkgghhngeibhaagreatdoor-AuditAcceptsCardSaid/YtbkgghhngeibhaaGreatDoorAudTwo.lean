/-
  The contracts of package audit over this seat's translation. Conditions: the shares lie in memory, outside of the tape, at most 90; the table of fields lies in memory as it was laid, outside of the tape.
  The contract of package audit's Suspects over this seat's translation. Conditions: the shares lie in memory, outside of the tape, at most 90; the table of fields lies in memory as it was laid, outside of the tape.
-/
import Derived.Test.YtbkgghhngeibhaaGreatDoorAudCh
import Derived.Test.YtbkgghhngeibhaaGreatDoorAudRow
import Derived.Test.YtbkgghhngeibhaaGreatDoorParEnd
import Derived.Test.YtbkgghhngeibhaaGreatDoorJoinRef
namespace Go.Proofs.YtbkgghhngeibhaaGreatDoor
open Lib (hid)
section
open Go.RowKit
attribute [local go_sem ↓] Go.wp_at_zero Go.wp_at_succ
set_option linter.unusedSimpArgs false
set_option maxRecDepth 100000
set_option maxHeartbeats 4000000
theorem TabAt.offS18 {S:Nat->Prop} {w w':World} (h:TabAt w) (ho:Off S w w') (hN:¬S 0):TabAt w':=fun i v hv=>ho.cell (h i v hv) hN
theorem mk_ne (y:Bool):(mk y != 0)=y:=by cases y <;> decide
theorem andclo_any (bx:Nat) (x y:Bool) (w:World) (hb:w.heap[bx]?=some (.cells #[.int .u64 (mk x)] 62 (0,0))) :
  Calls Tryz.prog 62 #[.int .u64 (mk y),.pointer (some ⟨bx,0,none⟩)] w fun e w'=>e=.returned (.tuple #[])/\w'.heap[bx]?=some (.cells #[.int .u64 (mk (x&&y))] 62 (0,0))/\Off (fun b=>b=bx) w w':=by
 have h1:=mk_andB x y
 obtain⟨m1,hm1⟩:∃ m,m=mk x:=⟨_,rfl⟩
 obtain⟨m2,hm2⟩:∃ m,m=mk y:=⟨_,rfl⟩
 obtain⟨m3,hm3⟩:∃ m,m=mk (x&&y):=⟨_,rfl⟩
 rw[<-hm1]at hb
 rw[<-hm1,<-hm2,<-hm3]at h1
 rw[<-hm2,<-hm3]
 have c0:w.cell? ⟨bx,0,none⟩=some (.int .u64 m1):=cell_of_heap hb 0
 have fz:=fun k=>frozen_of_heap hb k
 have lb:=heap_lt hb
 have HEnd:=hid (And.intro (put_oneA (u':=.int .u64 m3) hb) (put_offA w bx (.int .u64 m3)))
 clear hm1 hm2 hm3 hb
 go_enter Tryz.func62,Tryz.ntmps62
 go_wp2
 go_end0
 exact⟨rfl,HEnd.out⟩
theorem appclo_any {B bx:Nat} {w:World} {v:Value} {xs:List Bool} (y:Bool) (hb:w.heap[bx]?=some (.cells #[v] 29 (0,0))) (hbB:bx<B) (hB:B<=w.heap.size) (hr:RowBo B w v xs) (hk:xs.length+1<=100000) :
  Calls Tryz.prog 40 #[.int .u64 (mk y),.pointer (some ⟨bx,0,none⟩)] w fun e w'=>e=.returned (.tuple #[])/\(∃ v',w'.heap[bx]?=some (.cells #[v'] 29 (0,0))/\RowBo B w' v' (xs++[y]))/\Off (fun b=>b=bx\/(B<=b/\¬Typed w b)) w w':=by
 obtain⟨a,c,rfl⟩:=own_shape hr
 have k1:=mk_ne y
 obtain⟨m,hm⟩:∃ m,m=mk y:=⟨_,rfl⟩
 rw[<-hm]at k1 ⊢
 have c0:w.cell? ⟨bx,0,none⟩=some (.slice a xs.length c):=cell_of_heap hb 0
 have lb:=heap_lt hb
 have hoa:Off (fun _=>False) w (w.alloc (.cells #[.bool y] 4)):=(Off.refl _ _).alloc _
 obtain⟨v',w3,hrun,hown,hg⟩:=app_bo (bz:=w.heap.size) (x:=y) (own_off hr hoa) (Nat.le_trans hB hoa.size) (heap_new' rfl _) hk
 obtain⟨g9,c9,rfl⟩:∃ g c,v'=.slice (some ⟨g,0,none⟩) (xs.length+1) c:=ownsRow_succ (by have:=hown;unfold RowBo at this;rw[List.length_append]at this;exact this)
 have hD:∀ g,(Value.slice a xs.length c).ownBlock=some g->B<=g/\g<w.heap.size/\¬Typed w g:=fun g e=>⟨(World.ownsRow.lt hr g e).1,(World.ownsRow.lt hr g e).2,own_ntyped hr (by decide) (by decide) (by decide) g e⟩
 have ho3:Off (fun b=>b=bx\/(B<=b/\¬Typed w b)) w w3:=(hoa.mono (fun _ _ c=>c.elim):Off _ w _).grown hg (fun k e=>⟨fun _=>.inr ⟨(hD k e).1,(hD k e).2.2⟩,fun o ho=>by
  obtain⟨cur,hc⟩:∃ cur,w.heap[k]?=some (.cells cur 4 (0,0)):=by
   rcases hr.2 with ⟨e2,_⟩ | ⟨g2,cap,cur,e2,_,hgc,_⟩
   ·rw[e2]at e;simp[Value.ownBlock]at e
   rw[e2]at e;simp[Value.ownBlock]at e;subst e;exact⟨cur,hgc⟩
  rw[heap_old' hc]at ho
  cases ho;rfl⟩)
 have hb3:w3.heap[bx]?=some (.cells #[.slice a xs.length c] 29 (0,0)):=(hg.block bx (by simp;omega) (fun e=>by have:=(hD bx e.symm).1;omega)).trans (heap_old' hb _)
 have hgB:B<=g9:=(World.ownsRow.lt hown g9 rfl).1
 obtain⟨W4,hW4⟩:∃ W4,W4=w3.setCell ⟨bx,0,none⟩ (.slice (some ⟨g9,0,none⟩) (xs.length+1) c9):=⟨_,rfl⟩
 have HEnd:=hid (show(∃ v',W4.heap[bx]?=some (.cells #[v'] 29 (0,0))/\RowBo B W4 v' (xs++[y]))/\Off (fun b=>b=bx\/(B<=b/\¬Typed w b)) w W4 from by
  rw[hW4]
  refine⟨⟨_,put_oneA hb3,own_off18 hown (put_offA w3 bx _) (fun g e=>?_)⟩,ho3.trans (put_offA w3 bx _) (fun k _ e=>.inl e)⟩
  simp[Value.ownBlock]at e
  omega)
 have c3:w3.cell? ⟨bx,0,none⟩=some (.slice a xs.length c):=cell_of_heap hb3 0
 have fz:=fun k=>frozen_of_heap hb3 k
 have lb3:=heap_lt hb3
 have HW4:=hid hW4
 obtain⟨n,hn⟩:∃ n,n=xs.length:=⟨_,rfl⟩
 rw[<-hn]at c0 c3 hrun HW4
 clear hm hb hr hoa hown hg hD ho3 hb3 hgB hW4 hk hn
 go_enter Tryz.func40,Tryz.ntmps40
 go_wp2_with (at_builtin;refine Go.Lib.wpList_append_run _ rfl _ _ _ _ rfl _ _ rfl rfl _ _ hrun ?_)
 rw[<-HW4.out]
 go_end0
 exact⟨rfl,HEnd.out⟩
theorem all_snoc (xs:List Bool) (y:Bool):(xs++[y]).all id=(xs.all id&&y):=by simp
theorem are_any (ls:List Sh) (h0:shsN ls=0) (a:Option Addr) (n cap:Nat) (hn:n=ls.length) (hl:n<=90) (hpl:∀ s∈ls,s.pl.length<=1000) (q:Option Addr) (es:List Ev) (S Sl:Nat->Prop) (w:World)
  (h:ShsAt w (.slice a n cap) ls Sl) (hSl:∀ b,Sl b->b<w.heap.size/\¬S b) (hS:Tp w q es S) (hes:Room q es (alE n (TJ ls:Int) (cJ ls)).length) (hT:TabAt w) :
  Calls Tryz.prog 37 #[.pointer q,.slice a n cap] w fun e w'=>e=.returned (.bool (conL ls))/\Noted w.heap.size q es (alE n (TJ ls:Int) (cJ ls)) S w'/\Off S w w':=by
 have hmf:∀ (fn:Fn) (first cap:Array Value) (W:World),(Instr.makeFunc fn first cap).run Tryz.prog W=.ok (.func fn first cap) W:=fun _ _ _ _=>rfl
 obtain⟨W0,hW0⟩:∃ W0,W0=w.alloc (.cells #[.int .u64 18446744073709551615] 62):=⟨_,rfl⟩
 obtain⟨bx,hbx⟩:∃ b,b=w.heap.size:=⟨_,rfl⟩
 have hg0:W0.heap[bx]?=some (.cells #[.int .u64 18446744073709551615] 62 (0,0)):=by rw[hW0,hbx];exact heap_new' rfl _
 have hO0:Off (fun _=>False) w W0:=by rw[hW0];exact(Off.refl _ w).alloc _
 have hbl:bx<W0.heap.size:=heap_lt hg0
 have hbS:¬S bx:=fun c=>by have:=hS.2 _ c;omega
 have FC:=hid (chunks_aud 62 #[.pointer (some ⟨bx,0,none⟩)] (fun v W=>by kernel_rfl) bx (fun _ j W=>W.heap[bx]?=some (.cells #[.int .u64 (mk (((List.range j).map (fitJ (pJ ls) (TJ ls) ls)).all id))] 62 (0,0))) ls h0 a n cap hn hl hpl q es S Sl W0 (h.off hO0 (fun _ _ _ c=>c)) (fun b c=>⟨Nat.lt_of_lt_of_le (hSl b c).1 hO0.size,(hSl b c).2,fun e=>by have:=(hSl b c).1;omega⟩) (hS.off0 hO0) ⟨hbl,hbS⟩ hes (hT.off hO0)
  (fun W hO=>hO.heap hg0 (fun c=>c))
  (fun B j W W' S' hr hO hS'=>hO.heap hr (fun c=>not_typed' hr (by decide) (by decide) (by decide) (hS' _ c)))
  (fun B j W hj hB hr hBW=>(andclo_any bx _ (fitJ (pJ ls) (TJ ls) ls j) W hr).mono (fun e w' ⟨h1,h2,h3⟩=>⟨h1,by rw[List.range_succ,List.map_append,List.map_cons,List.map_nil,all_snoc];exact h2,h3.mono (fun k _ e=>.inl e)⟩)))
 have hce:((List.range (cJ ls)).map (fitJ (pJ ls) (TJ ls) ls)).all id=conL ls:=rfl
 simp only[hce]at FC
 obtain⟨ev,hev⟩:∃ ev,ev=alE n (TJ ls:Int) (cJ ls):=⟨_,rfl⟩
 obtain⟨y,hy⟩:∃ y,y=conL ls:=⟨_,rfl⟩
 rw[<-hev,<-hy]at FC
 rw[<-hev,<-hy]
 have k1:=mk_ne y
 obtain⟨m,hm⟩:∃ m,m=mk y:=⟨_,rfl⟩
 rw[<-hm]at k1 FC
 have HW0:=hid hW0
 have HBx:=hid hbx
 have HO0:=hid hO0
 clear hW0 hbx hg0 hO0 hbl hbS h hSl hS hes hT hev hy hm h0 hn hl hpl hce
 go_enter Tryz.func37,Tryz.ntmps37
 go_wp2_with fail
 rw[<-HW0.out,<-HBx.out]
 refine FC.out.mono ?_
 rintro e u1 ⟨rfl,⟨B,hB,hr⟩,hN,hO⟩
 have c0:u1.cell? ⟨bx,0,none⟩=some (.int .u64 m):=cell_of_heap hr 0
 have lb:=heap_lt hr
 have HEnd:=hid (show Noted w.heap.size q es ev S u1/\Off S w u1 from by
  obtain⟨S',h1,h2⟩:=hN
  exact⟨⟨S',h1,fun k c=>(h2 k c).imp (fun c=>c) (fun c=>Nat.le_trans HO0.out.size c)⟩,(HO0.out.mono (fun _ _ c=>c.elim):Off S w W0).trans hO (fun k hk c=>c.elim (fun c=>c) (fun c=>by have:=HBx.out;omega))⟩)
 clear hr hN hO hB FC
 go_wp2
 go_ret
 exact⟨rfl,HEnd.out⟩
theorem cons_aud (ls:List Sh) (a:Option Addr) (n cap:Nat) (hn:n=ls.length) (hl:n<=90) (hpl:∀ s∈ls,s.pl.length<=1000) (q:Option Addr) (es:List Ev) (S Sl:Nat->Prop) (w:World)
  (h:ShsAt w (.slice a n cap) ls Sl) (hSl:∀ b,Sl b->b<w.heap.size/\¬S b) (hS:Tp w q es S) (hes:shsN ls=0->Room q es (alE n (TJ ls:Int) (cJ ls)).length) (hT:TabAt w) :
  Calls Tryz.prog 11 #[.pointer q,.slice a n cap] w fun e w'=>e=.returned (.tuple #[.bool (decide (shsN ls=0)&&conL ls),.int .i64 (shsN ls:Int)])/\(shsN ls≠0->Noted w.heap.size q es [] S w')/\(shsN ls=0->Noted w.heap.size q es (alE n (TJ ls:Int) (cJ ls)) S w')/\Off S w w':=by
 obtain⟨c,hc⟩:∃ c,c=shsN ls:=⟨_,rfl⟩
 have FC:=hid (shares_par ls a n cap hn (by omega) (fun s hs=>Nat.le_trans (hpl s hs) (by decide)) Sl w h hT)
 have FA:=hid (fun W (hO:Off (fun _=>False) w W) (hz:c=0)=>are_any ls (hc.symm.trans hz) a n cap hn hl hpl q es S Sl W (h.off hO (fun _ _ _ c=>c)) (fun b c=>⟨Nat.lt_of_lt_of_le (hSl b c).1 hO.size,(hSl b c).2⟩) (hS.off0 hO) (hes (hc.symm.trans hz)) (hT.off hO))
 rw[<-hc]at FC ⊢
 have HS:=hid hS
 obtain⟨ev,hev⟩:∃ ev,ev=alE n (TJ ls:Int) (cJ ls):=⟨_,rfl⟩
 obtain⟨y,hy⟩:∃ y,y=conL ls:=⟨_,rfl⟩
 rw[<-hev,<-hy]at FA ⊢
 clear h hSl hS hes hT hn hl hpl hc hev hy
 by_cases h0:c=0
 ·subst h0
  go_enter Tryz.func11,Tryz.ntmps11
  go_wp2_with fail
  refine FC.out.mono ?_
  rintro e u1 ⟨rfl,hO⟩
  have HO:=hid hO
  clear hO FC
  go_wp2_with fail
  refine(FA.out u1 HO.out (by trivial)).mono ?_
  rintro e u2 ⟨rfl,hN,hO⟩
  have HEnd:=hid (show Noted w.heap.size q es ev S u2/\Off S w u2 from by
   obtain⟨S',h1,h2⟩:=hN
   exact⟨⟨S',h1,fun k c=>(h2 k c).imp (fun c=>c) (fun c=>Nat.le_trans HO.out.size c)⟩,(HO.out.mono (fun _ _ c=>c.elim):Off S w u1).trans hO (fun k hk c=>c)⟩)
  clear hN hO FA
  go_wp2
  refine bodyPost_ret (results_tmp2 rfl _ _ _) rfl ?_
  exact⟨by simp,fun h=>absurd rfl h,fun _=>HEnd.out.1,HEnd.out.2⟩
 have k1:((c:Int) != 0)=true:=by simp;omega
 have k3:¬(c:Int)=0:=by omega
 have H0:=hid h0
 clear h0 FA
 go_enter Tryz.func11,Tryz.ntmps11
 go_wp2_with fail
 refine FC.out.mono ?_
 rintro e u1 ⟨rfl,hO⟩
 have HO:=hid hO
 clear hO FC
 go_wp2
 refine bodyPost_ret (results_tmp2 rfl _ _ _) rfl ?_
 exact⟨by rw[decide_eq_false H0.out];rfl,fun _=>(HS.out.off0 HO.out).noted _,fun h=>absurd h H0.out,HO.out.mono (fun _ _ c=>c.elim)⟩
theorem chks_aud (ls:List Sh) (a:Option Addr) (n cap:Nat) (hn:n=ls.length) (hl:n<=90) (hpl:∀ s∈ls,s.pl.length<=1000) (q:Option Addr) (es:List Ev) (S Sl:Nat->Prop) (w:World)
  (h:ShsAt w (.slice a n cap) ls Sl) (hSl:∀ b,Sl b->b<w.heap.size/\¬S b) (hS:Tp w q es S) (hes:shsN ls=0->Room q es (alE n (TJ ls:Int) (cJ ls)).length) (hT:TabAt w) :
  Calls Tryz.prog 14 #[.pointer q,.slice a n cap] w fun e w'=>∃ v,e=.returned (.tuple #[v,.int .i64 (shsN ls:Int)])/\(shsN ls≠0->v=.slice none 0 0/\Noted w.heap.size q es [] S w')/\(shsN ls=0->BoAt w' v (chsL ls)/\Noted w.heap.size q es (alE n (TJ ls:Int) (cJ ls)) S w')/\Off S w w':=by
 have hmf:∀ (fn:Fn) (first cap:Array Value) (W:World),(Instr.makeFunc fn first cap).run Tryz.prog W=.ok (.func fn first cap) W:=fun _ _ _ _=>rfl
 obtain⟨c,hc⟩:∃ c,c=shsN ls:=⟨_,rfl⟩
 have FC:=hid (shares_par ls a n cap hn (by omega) (fun s hs=>Nat.le_trans (hpl s hs) (by decide)) Sl w h hT)
 have FA:=hid (fun W bx (hO:Off (fun _=>False) w W) (hz:c=0) (hg0:W.heap[bx]?=some (.cells #[.slice none 0 0] 29 (0,0))) (hbx:w.heap.size<=bx)=>by
  have h0:shsN ls=0:=hc.symm.trans hz
  have hA:=acc_hd h0
  have hc1:cJ ls<=1000:=by
   have h1:=hA.all _ (List.mem_of_getElem? hA.first)
   have h2:=hpl _ (List.mem_of_getElem? hA.first)
   rw[h1.2.2.2.1]at h2
   exact h2
  have hbl:bx<W.heap.size:=heap_lt hg0
  have hbS:¬S bx:=fun c=>by have:=hS.2 _ c;omega
  exact chunks_aud 40 #[.pointer (some ⟨bx,0,none⟩)] (fun v W=>by kernel_rfl) bx (fun B j W=>bx<B/\∃ v,W.heap[bx]?=some (.cells #[v] 29 (0,0))/\RowBo B W v ((List.range j).map (fitJ (pJ ls) (TJ ls) ls))) ls h0 a n cap hn hl hpl q es S Sl W (h.off hO (fun _ _ _ c=>c)) (fun b c=>⟨Nat.lt_of_lt_of_le (hSl b c).1 hO.size,(hSl b c).2,fun e=>by have:=(hSl b c).1;omega⟩) (hS.off0 hO) ⟨hbl,hbS⟩ (hes h0) (hT.off hO)
   (fun W' hO'=>⟨Nat.lt_of_lt_of_le hbl hO'.size,_,hO'.heap hg0 (fun c=>c),World.ownsRow_nil _ _ _ _⟩)
   (fun B j W1 W2 S' ⟨h1,v,h2,h3⟩ hO' hS'=>⟨h1,v,hO'.heap h2 (fun c=>not_typed' h2 (by decide) (by decide) (by decide) (hS' _ c)),own_offA h3 (by decide) (by decide) (by decide) hO' hS'⟩)
   (fun B j W1 hj hB ⟨h1,v,h2,h3⟩ hBW=>(appclo_any (fitJ (pJ ls) (TJ ls) ls j) h2 h1 hBW h3 (by rw[List.length_map,List.length_range];omega)).mono (fun e w' ⟨e1,⟨v',e2,e3⟩,e4⟩=>⟨e1,⟨h1,v',e2,by rw[List.range_succ,List.map_append,List.map_cons,List.map_nil];exact e3⟩,e4⟩)))
 rw[<-hc]at FC ⊢
 have HS:=hid hS
 obtain⟨ev,hev⟩:∃ ev,ev=alE n (TJ ls:Int) (cJ ls):=⟨_,rfl⟩
 have hce:(List.range (cJ ls)).map (fitJ (pJ ls) (TJ ls) ls)=chsL ls:=rfl
 simp only[hce]at FA
 obtain⟨ys,hy⟩:∃ y,y=chsL ls:=⟨_,rfl⟩
 rw[<-hev,<-hy]at FA ⊢
 clear h hSl hS hes hT hn hl hpl hc hev hy hce
 by_cases h0:c=0
 ·subst h0
  go_enter Tryz.func14,Tryz.ntmps14
  go_wp2_with fail
  refine FC.out.mono ?_
  rintro e u1 ⟨rfl,hO⟩
  obtain⟨W0,hW0⟩:∃ W0,W0=u1.alloc (.cells #[.slice none 0 0] 29):=⟨_,rfl⟩
  obtain⟨bx,hbx⟩:∃ b,b=u1.heap.size:=⟨_,rfl⟩
  have HG0:=hid (show W0.heap[bx]?=some (.cells #[.slice none 0 0] 29 (0,0)) by rw[hW0,hbx];exact heap_new' rfl _)
  have HO0:=hid (show Off (fun _=>False) w W0 by rw[hW0];exact hO.alloc _)
  have HBl:=hid (show w.heap.size<=bx by rw[hbx];exact hO.size)
  have HW0:=hid hW0
  have HBx:=hid hbx
  clear hW0 hbx hO FC
  go_wp2_with fail
  rw[<-HW0.out,<-HBx.out]
  refine(FA.out W0 bx HO0.out (by trivial) HG0.out HBl.out).mono ?_
  rintro e u2 ⟨rfl,⟨B,hB,hbB,v,hr1,hr2⟩,hN,hO⟩
  obtain⟨va,vc,rfl⟩:=own_shape hr2
  have c0:u2.cell? ⟨bx,0,none⟩=some (.slice va ys.length vc):=cell_of_heap hr1 0
  have lb:=heap_lt hr1
  have HEnd:=hid (show BoAt u2 (.slice va ys.length vc) ys/\Noted w.heap.size q es ev S u2/\Off S w u2 from by
   obtain⟨S',h1,h2⟩:=hN
   exact⟨hr2.bo,⟨S',h1,fun k c=>(h2 k c).imp (fun c=>c) (fun c=>Nat.le_trans HO0.out.size c)⟩,(HO0.out.mono (fun _ _ c=>c.elim):Off S w W0).trans hO (fun k hk c=>c.elim (fun c=>c) (fun c=>by have:=HBl.out;omega))⟩)
  obtain⟨N,hN'⟩:∃ N,N=ys.length:=⟨_,rfl⟩
  rw[<-hN']at c0 HEnd
  clear hr1 hr2 hN hO hB hbB FA hN'
  go_wp2
  refine bodyPost_ret (results_tmp2 rfl _ _ _) rfl ?_
  exact⟨_,rfl,fun h=>absurd rfl h,fun _=>⟨HEnd.out.1,HEnd.out.2.1⟩,HEnd.out.2.2⟩
 have k1:((c:Int) != 0)=true:=by simp;omega
 have k3:¬(c:Int)=0:=by omega
 have H0:=hid h0
 clear h0 FA
 go_enter Tryz.func14,Tryz.ntmps14
 go_wp2_with fail
 refine FC.out.mono ?_
 rintro e u1 ⟨rfl,hO⟩
 have HO:=hid hO
 clear hO FC
 go_wp2
 refine bodyPost_ret (results_tmp2 rfl _ _ _) rfl ?_
 exact⟨_,rfl,fun _=>⟨rfl,(HS.out.off0 HO.out).noted _⟩,fun h=>absurd h H0.out,HO.out.mono (fun _ _ c=>c.elim)⟩
theorem without_any (ls:List Sh) (i:Nat) (a:Option Addr) (n cap:Nat) (hn:n=ls.length) (hi:i<n) (hl:n<=1000) (S:Nat->Prop) (w:World) (h:ShsAt w (.slice a n cap) ls S) :
  Calls Tryz.prog 45 #[.slice a n cap,.int .i64 i] w fun e w'=>∃ a' c',e=.returned (.slice a' (n-1) c')/\ShsAt w' (.slice a' (n-1) c') (ls.eraseIdx i) (fun b=>(S b\/w.heap.size<=b)/\b<w'.heap.size)/\Off (fun _=>False) w w':=by
 have hnc:n<=cap:=by
  obtain⟨a',c',e,h,_⟩:=h
  simp at e
  omega
 obtain⟨L,e1,e2,e3,e4,e5⟩:=h.lift
 obtain⟨k,hk⟩:∃ k,k=i+1:=⟨_,rfl⟩
 obtain⟨a1,hs1,hb1⟩:=shs_hm a n cap i (by omega) hnc
 obtain⟨a2,hs2,hb2⟩:=shs_l a n cap k (by omega) hnc
 have w1:IntKind.i64.wrap ((i:Int)+1)=(k:Int):=by rw[IntKind.wrap_i64];omega
 have HB1:=hid hb1
 have HB2:=hid hb2
 have HL:=hid e4
 have HK:=hid (show i+(n-k)<=100000 by omega)
 have HE:=hid (show L.map ShV.sh=ls/\n=L.length/\k=i+1/\i<n/\n<=1000/\∀ x∈L,PlAt w x S from⟨e1,e2,hk,hi,hl,e5⟩)
 clear e1 e2 e3 e4 e5 hb1 hb2 hn hl hi hk h
 go_enter Tryz.func45,Tryz.ntmps45
 obtain⟨wq,hwq⟩:∃ W,W=w:=⟨_,rfl⟩
 rw[<-hwq]at HL HE ⊢
 clear hwq
 go_upto_region 1 with fail
 obtain⟨x5,hx⟩:∃ vv:Value,vv=.slice a n cap:=⟨_,rfl⟩
 have X5:=hid hx
 clear hx
 obtain⟨x6,hx⟩:∃ vv:Value,vv=.int .i64 i:=⟨_,rfl⟩
 have X6:=hid hx
 clear hx
 obtain⟨x7,hx⟩:∃ vv:Value,vv=.int .i64 i:=⟨_,rfl⟩
 have X7:=hid hx
 clear hx
 obtain⟨x8,hx⟩:∃ vv:Value,vv=.slice a1 i i:=⟨_,rfl⟩
 have X8:=hid hx
 clear hx
 obtain⟨x9,hx⟩:∃ vv:Value,vv=.slice a n cap:=⟨_,rfl⟩
 have X9:=hid hx
 clear hx
 obtain⟨x10,hx⟩:∃ vv:Value,vv=.int .i64 i:=⟨_,rfl⟩
 have X10:=hid hx
 clear hx
 obtain⟨x11,hx⟩:∃ vv:Value,vv=.int .i64 k:=⟨_,rfl⟩
 have X11:=hid hx
 clear hx
 obtain⟨x12,hx⟩:∃ vv:Value,vv=.slice a2 (n-k) (cap-k):=⟨_,rfl⟩
 have X12:=hid hx
 clear hx
 refine wp_region_clo (fun a0 l a' w'=>∃ (vf:Value),a'=(Act.put (fill a0 5 [sel (l 0) x5 (undef),sel (l 1) x6 (undef),sel (l 2) x7 (undef),sel (l 3) x8 (undef),sel (l 4) x9 (undef),sel (l 5) x10 (undef),sel (l 6) x11 (undef),sel (l 7) x12 (undef),sel (l 8) (vf) (undef)]) (some 4) (sel (l 9) (vf) (.slice none 0 0)))/\(l 8=false->Off (fun _=>False) wq w')/\(l 8=true->((∃ a' c',vf=.slice a' (i+(n-k)) c')/\SvsAt w' vf (L.take i++L.drop k) (fun b=>(S b\/wq.heap.size<=b)/\b<w'.heap.size)/\Off (fun _=>False) wq w'))) (by kernel_rfl) (by kernel_rfl) ?_ ⟨?_,?_,?_,?_,?_,?_,?_,?_,?_,?_,trivial⟩ ?_
 ·refine⟨undef,?_,fun _=>(Off.refl _ wq).drew,fun h=>by cases h⟩
  simp only[XF,XP,sel_start]
  try rfl
 all_goals try (rintro l a wr ⟨vf,ha,hA,hB⟩ hc hl hd K' hK)
 ·as_aux_lemma =>
   have hx:=X5.out;subst hx
   have gF:l 8=false:=hc.not (i:=8) hl 10 (by kernel_rfl)
   have hO:=hA gF
   have GF:=hid gF
   clear gF hA hB
   simp only[XF,XP]at ha
   subst ha
   rw[if_pos (by rfl)]
   go_simp
   refine Shut.out hK _ _ ⟨vf,?_,fun _=>hO,fun h=>absurd (show(true:Bool)=false from(show l 8=true by rwa [upd_ne l (by decide)]at h).symm.trans GF.out) (by decide)⟩
   simp only[XF,XP,sel_new]
   try rfl
 ·as_aux_lemma =>
   have hx:=X6.out;subst hx
   have gF:l 8=false:=hc.not (i:=8) hl 10 (by kernel_rfl)
   have hO:=hA gF
   have GF:=hid gF
   clear gF hA hB
   simp only[XF,XP]at ha
   subst ha
   rw[if_pos (by rfl)]
   go_simp
   refine Shut.out hK _ _ ⟨vf,?_,fun _=>hO,fun h=>absurd (show(true:Bool)=false from(show l 8=true by rwa [upd_ne l (by decide)]at h).symm.trans GF.out) (by decide)⟩
   simp only[XF,XP,sel_new]
   try rfl
 ·as_aux_lemma =>
   have hx:=X7.out;subst hx
   have gF:l 8=false:=hc.not (i:=8) hl 10 (by kernel_rfl)
   have hO:=hA gF
   have GF:=hid gF
   clear gF hA hB
   simp only[XF,XP]at ha
   subst ha
   rw[if_pos (by rfl)]
   go_simp
   refine Shut.out hK _ _ ⟨vf,?_,fun _=>hO,fun h=>absurd (show(true:Bool)=false from(show l 8=true by rwa [upd_ne l (by decide)]at h).symm.trans GF.out) (by decide)⟩
   simp only[XF,XP,sel_new]
   try rfl
 ·as_aux_lemma =>
   have d0:=hd 0 (by decide)
   have d1:=hd 1 (by decide)
   have d2:=hd 2 (by decide)
   have hx:=X5.out;subst hx
   have hx:=X6.out;subst hx
   have hx:=X7.out;subst hx
   have hx:=X8.out;subst hx
   have gF:l 8=false:=hc.not (i:=8) hl 10 (by kernel_rfl)
   have hO:=hA gF
   have GF:=hid gF
   clear gF hA hB
   simp only[XF,XP,sel_of d0,sel_of d1,sel_of d2]at ha
   subst ha
   rw[if_pos (by rfl)]
   go_simp
   refine Shut.out hK _ _ ⟨vf,?_,fun _=>hO,fun h=>absurd (show(true:Bool)=false from(show l 8=true by rwa [upd_ne l (by decide)]at h).symm.trans GF.out) (by decide)⟩
   simp only[XF,XP,sel_new,sel_dep d0,sel_dep d1,sel_dep d2]
   try rfl
 ·as_aux_lemma =>
   have hx:=X9.out;subst hx
   have gF:l 8=false:=hc.not (i:=8) hl 10 (by kernel_rfl)
   have hO:=hA gF
   have GF:=hid gF
   clear gF hA hB
   simp only[XF,XP]at ha
   subst ha
   rw[if_pos (by rfl)]
   go_simp
   refine Shut.out hK _ _ ⟨vf,?_,fun _=>hO,fun h=>absurd (show(true:Bool)=false from(show l 8=true by rwa [upd_ne l (by decide)]at h).symm.trans GF.out) (by decide)⟩
   simp only[XF,XP,sel_new]
   try rfl
 ·as_aux_lemma =>
   have hx:=X10.out;subst hx
   have gF:l 8=false:=hc.not (i:=8) hl 10 (by kernel_rfl)
   have hO:=hA gF
   have GF:=hid gF
   clear gF hA hB
   simp only[XF,XP]at ha
   subst ha
   rw[if_pos (by rfl)]
   go_simp
   refine Shut.out hK _ _ ⟨vf,?_,fun _=>hO,fun h=>absurd (show(true:Bool)=false from(show l 8=true by rwa [upd_ne l (by decide)]at h).symm.trans GF.out) (by decide)⟩
   simp only[XF,XP,sel_new]
   try rfl
 ·as_aux_lemma =>
   have d5:=hd 5 (by decide)
   have hx:=X10.out;subst hx
   have hx:=X11.out;subst hx
   have gF:l 8=false:=hc.not (i:=8) hl 10 (by kernel_rfl)
   have hO:=hA gF
   have GF:=hid gF
   clear gF hA hB
   simp only[XF,XP,sel_of d5]at ha
   subst ha
   rw[if_pos (by rfl)]
   go_simp
   refine Shut.out hK _ _ ⟨vf,?_,fun _=>hO,fun h=>absurd (show(true:Bool)=false from(show l 8=true by rwa [upd_ne l (by decide)]at h).symm.trans GF.out) (by decide)⟩
   simp only[XF,XP,sel_new,sel_dep d5]
   try rfl
 ·as_aux_lemma =>
   have d4:=hd 4 (by decide)
   have d6:=hd 6 (by decide)
   have hx:=X9.out;subst hx
   have hx:=X11.out;subst hx
   have hx:=X12.out;subst hx
   have gF:l 8=false:=hc.not (i:=8) hl 10 (by kernel_rfl)
   have hO:=hA gF
   have GF:=hid gF
   clear gF hA hB
   simp only[XF,XP,sel_of d4,sel_of d6]at ha
   subst ha
   rw[if_pos (by rfl)]
   go_simp
   refine Shut.out hK _ _ ⟨vf,?_,fun _=>hO,fun h=>absurd (show(true:Bool)=false from(show l 8=true by rwa [upd_ne l (by decide)]at h).symm.trans GF.out) (by decide)⟩
   simp only[XF,XP,sel_new,sel_dep d4,sel_dep d6]
   try rfl
 ·as_aux_lemma =>
   have d3:=hd 3 (by decide)
   have d7:=hd 7 (by decide)
   have hx:=X8.out;subst hx
   have hx:=X12.out;subst hx
   have gF:l 8=false:=hl
   have hO:=hA gF
   have GF:=hid gF
   clear gF hA hB
   have g9:=hc.not (i:=9) hl 10 (by kernel_rfl)
   simp only[XF,XP,sel_of d3,sel_of d7,sel_no g9,sel_no hl]at ha
   subst ha
   have G9:=hid g9
   clear g9
   rw[if_pos (by rfl)]
   obtain⟨v',w1,hrun,hA1,hA2,hA3⟩:=app_apart (HB1.out _ _ _ (HL.out.off hO (fun _ _ _ c=>c))) (HB2.out _ _ _ (HL.out.off hO (fun _ _ _ c=>c))) HK.out
   refine append_oper rfl rfl rfl hrun ?_
   refine Shut.out hK _ _ ⟨v',?_,fun h=>absurd h (by rw[upd_same];decide),fun _=>⟨hA1,hA2.wide (fun b hb h=>⟨h.imp (fun c=>c) (fun c=>Nat.le_trans hO.size c),hb⟩),hO.trans hA3 (fun _ _ c=>c)⟩⟩
   simp only[XF,XP,sel_new,sel_dep d3,sel_dep d7,sel_no (show upd l 8 9=false by rw[upd_ne l (by decide)];exact G9.out)]
   try rfl
 ·as_aux_lemma =>
   have d8:=hd 8 (by decide)
   simp only[XF,XP,sel_of d8]at ha
   subst ha
   rw[if_pos (by rfl)]
   go_simp
   refine Shut.out hK _ _ ⟨vf,?_,fun h=>absurd (show(true:Bool)=false from d8.symm.trans (show l 8=false by rwa [upd_ne l (by decide)]at h)) (by decide),fun _=>hB d8⟩
   simp only[XF,XP,sel_new,sel_dep d8]
   try rfl
 rintro l a wc ⟨vf,ha,hA,hB⟩ hd
 simp only[XF,XP,sel_of (hd 0 (by decide)),sel_of (hd 1 (by decide)),sel_of (hd 2 (by decide)),sel_of (hd 3 (by decide)),sel_of (hd 4 (by decide)),sel_of (hd 5 (by decide)),sel_of (hd 6 (by decide)),sel_of (hd 7 (by decide)),sel_of (hd 8 (by decide)),sel_of (hd 9 (by decide))]at ha
 subst ha
 have hPP:=hB (hd 8 (by decide))
 clear hA hB
 obtain⟨⟨a',c',rfl⟩,hsv,hO⟩:=hPP
 have hne:i+(n-k)=n-1:=by have:=HE.out;omega
 have HEnd:=hid (show ShsAt wc (.slice a' (n-1) c') (ls.eraseIdx i) (fun b=>(S b\/wq.heap.size<=b)/\b<wc.heap.size)/\Off (fun _=>False) wq wc from by
  obtain⟨e1,e2,e3,e4,e5,e6⟩:=HE.out
  rw[hne]at hsv
  refine⟨?_,hO⟩
  have h1:=hsv.shs (S':=fun b=>(S b\/wq.heap.size<=b)/\b<wc.heap.size) (by rw[List.length_append,List.length_take,List.length_drop];unfold maxLen;omega) (fun x hx=>((e6 x ((List.mem_append.1 hx).elim List.mem_of_mem_take List.mem_of_mem_drop)).off hO (fun _ _ _ c=>c)).wide (fun b hb c=>⟨.inl c,hb⟩)) (fun b _ c=>c)
  rw[List.map_append,List.map_take,List.map_drop,e1,e3,<-List.eraseIdx_eq_take_drop_succ]at h1
  exact h1)
 rw[hne]
 clear hsv hO hd
 go_wp2
 exact bodyPost_ret (v:=.slice a' (n-1) c') (by simp[results,Tryz.results45,go_sem]) rfl ⟨_,_,rfl,HEnd.out⟩
end
section
open Go.RowKit
attribute [local go_sem ↓] Go.wp_at_zero Go.wp_at_succ
set_option linter.unusedSimpArgs false
set_option maxRecDepth 100000
set_option maxHeartbeats 4000000
theorem sus_aud (ls:List Sh) (a:Option Addr) (n cap:Nat) (hn:n=ls.length) (hl:n<=90) (hpl:∀ s∈ls,s.pl.length<=1000) (q:Option Addr) (es:List Ev) (S Sl:Nat->Prop) (w:World)
  (h:ShsAt w (.slice a n cap) ls Sl) (hSl:∀ b,Sl b->b<w.heap.size/\¬S b) (hS:Tp w q es S) (hes:susE ls=0->Room q es (susEv n (TJ ls:Int) (cJ ls) n).length) (hT:TabAt w) (hNT:¬S 0) :
  Calls Tryz.prog 17 #[.pointer q,.slice a n cap] w fun e w'=>∃ v,e=.returned (.tuple #[v,.int .i64 (susE ls:Int)])/\Iv w' v (posI (susV ls))/\(susE ls≠0->Noted w.heap.size q es [] S w')/\(susE ls=0->Noted w.heap.size q es (susEv n (TJ ls:Int) (cJ ls) n) S w')/\Off S w w':=by
 have FC:=hid (shares_par ls a n cap hn (by omega) (fun s hs=>Nat.le_trans (hpl s hs) (by decide)) Sl w h hT)
 have hnil:∀ W,Iv W (.slice none 0 0) (posI []):=fun W=>⟨none,0,rfl,Nat.zero_le _,(fun x hx=>by cases hx),(fun h=>by simp[posI]at h)⟩
 have HS:=hid hS
 have HNil:=hid hnil
 rcases susE_cases ls with ⟨e1,e2⟩ | ⟨e1,e2,e3⟩ | ⟨e1,e2,e3⟩
 ·have hv:susV ls=[]:=by unfold susV;rw[if_pos (by rw[e1];exact e2)]
  rw[hv,e1]
  obtain⟨c,hc⟩:∃ c,c=shsN ls:=⟨_,rfl⟩
  rw[<-hc]at FC e2 ⊢
  have k1:((c:Int) != 0)=true:=by simp;omega
  have k3:¬(c:Int)=0:=by omega
  have H0:=hid e2
  clear hv e1 e2 hc h hSl hS hes hT hn hl hpl hnil hNT
  go_enter Tryz.func17,Tryz.ntmps17
  go_wp2_with fail
  refine FC.out.mono ?_
  rintro e u1 ⟨rfl,hO⟩
  have HO:=hid hO
  clear hO FC
  go_wp2
  refine bodyPost_ret (results_tmp2 rfl _ _ _) rfl ?_
  exact⟨_,rfl,HNil.out _,fun _=>(HS.out.off0 HO.out).noted _,fun h=>absurd h H0.out,HO.out.mono (fun _ _ c=>c.elim)⟩
 ·have hA:=acc_hd e2
  have hn0:0<n:=by rw[hn];exact hA.pos
  obtain⟨s1,b,off,hsx,_,rfl,hSb,c0,c1,_⟩:=h.at (k:=0) hn0
  rw[hA.first]at hsx
  cases hsx
  have hth0:(hd0 ls).th=(TJ ls:Int):=by unfold TJ;have:=hA.th1;omega
  rw[hth0]at c1
  simp only[Nat.zero_mul,Nat.add_zero]at c0 c1
  have hv:susV ls=[]:=by unfold susV;rw[if_pos (by rw[e1];decide)]
  rw[hv,e1]
  rw[e2]at FC
  obtain⟨T,hTT⟩:∃ T,T=TJ ls:=⟨_,rfl⟩
  rw[<-hTT]at c1
  have hle:(n:Int)<=(T:Int):=by omega
  have hn0i:(0:Int)<(n:Int):=by omega
  have HC1:=hid c1
  clear hv e1 e2 e3 hA hth0 hTT h hSl hS hes hT hn hl hpl hnil hNT c0 c1
  go_enter Tryz.func17,Tryz.ntmps17
  go_wp2_with fail
  refine FC.out.mono ?_
  rintro e u1 ⟨rfl,hO⟩
  have c1:=hO.cell HC1.out (fun c=>c)
  have lb:=World.block_lt_of_cell? u1 _ c1
  have HO:=hid hO
  clear hO FC
  go_wp2
  refine bodyPost_ret (results_tmp2 rfl _ _ _) rfl ?_
  exact⟨_,rfl,HNil.out _,fun _=>(HS.out.off0 HO.out).noted _,fun h=>absurd h (by decide),HO.out.mono (fun _ _ c=>c.elim)⟩
 have hA:=acc_hd e2
 have hn0:0<n:=by rw[hn];exact hA.pos
 obtain⟨s1,b,off,hsx,_,rfl,hSb,c0,c1,_⟩:=h.at (k:=0) hn0
 rw[hA.first]at hsx
 cases hsx
 have hth0:(hd0 ls).th=(TJ ls:Int):=by unfold TJ;have:=hA.th1;omega
 rw[hth0]at c1
 simp only[Nat.zero_mul,Nat.add_zero]at c0 c1
 have hv:susV ls=susL ls n:=by unfold susV;rw[if_neg (fun c=>c e1),hn]
 have hes:=hes e1
 rw[hv,e1]
 rw[e2]at FC
 have hers:=fun i=>acc_erase e2 e3 i
 obtain⟨T,hTT⟩:∃ T,T=TJ ls:=⟨_,rfl⟩
 obtain⟨c,hc⟩:∃ c,c=cJ ls:=⟨_,rfl⟩
 rw[<-hTT]at c1 hers
 rw[<-hc]at hers
 rw[<-hTT,<-hc]at hes ⊢
 have hle:¬(n:Int)<=(T:Int):=by omega
 have hle3:decide (n<=T)=false:=decide_eq_false (by omega)
 have hn0i:(0:Int)<(n:Int):=by omega
 have HC1:=hid c1
 have HH:=hid h
 have HSl:=hid hSl
 have HEs:=hid hes
 have HT:=hid hT
 have HNT:=hid hNT
 have HEr:=hid hers
 have HN:=hid (show n=ls.length/\n<=90/\T<n/\∀ s∈ls,s.pl.length<=1000 from⟨hn,hl,by omega,hpl⟩)
 clear hv e1 e2 e3 hA hth0 hTT hc h hSl hS hes hT hn hl hpl hnil HNil hNT c0 c1 hers
 go_enter Tryz.func17,Tryz.ntmps17
 go_wp2_with fail
 refine FC.out.mono ?_
 rintro e u1 ⟨rfl,hO⟩
 have c1:=hO.cell HC1.out (fun c=>c)
 have lb:=World.block_lt_of_cell? u1 _ c1
 have HO1:=hid hO
 have HT1:=hid (HS.out.off0 hO).typed
 clear hO FC
 go_wp2_with fail
 clear c1 lb
 go_loopw [7,23] (fun v i wr=>∃ j:Nat,j<=n/\i=.int .i64 j/\(∃ a2 c2 q2,v=.slice a2 q2 c2/\q2=(susL ls j).length)/\RowJ w.heap.size wr v (posI (susL ls j))/\(∃ S1,Tp wr q (ext q es (susEv n (T:Int) c j)) S1/\∀ b,S1 b->(S b\/w.heap.size<=b)/\Typed wr b)/\Off S w wr) (fun _ i _=>n-(intOf i).toNat)
 case atStart=>exact⟨0,Nat.zero_le _,rfl,⟨none,0,0,rfl,rfl⟩,World.ownsRow_nil _ _ _ _,⟨_,by rw[susEv_zero,ext_nil];exact HT1.out,fun b (h:S b/\Typed u1 b)=>⟨.inl h.1,h.2⟩⟩,HO1.out.mono (fun _ _ c=>c.elim)⟩
 case round =>
  clear HT1 HO1
  obtain⟨j,hj,rfl,⟨va,vc,vq,rfl,hvq⟩,hr,⟨S1,ht1,ht2⟩,hO⟩:=hrel
  by_cases hlt:j<n
  ·have hjc:(j:Int)<(n:Int):=by omega
   have hle2:=Nat.mul_le_mul_right (1+(alE (n-1) (T:Int) c).length) (show j+1<=n from hlt)
   have hes:=HEs.out
   have hal:=susEv_len n (T:Int) c j
   have hal2:=susEv_len n (T:Int) c n
   rw[Nat.succ_mul]at hle2
   have hr0:=hes (susEv n (T:Int) c j) (by omega)
   have hr1:=hes.ext (susEv n (T:Int) c j++[((5:Int),(j:Int),(0:Int))]) (K:=(alE (n-1) (T:Int) c).length) (by rw[List.length_append,List.length_singleton];omega)
   rw[<-ext_ext]at hr1
   have FN:=hid (note_ext q _ S1 wr ht1 (by omega) ((5:Int),(j:Int),(0:Int)))
   obtain⟨es0,hes0⟩:∃ e,e=ext q es (susEv n (T:Int) c j):=⟨_,rfl⟩
   rw[<-hes0]at hr1
   have HE0:=hid (show Room q (ext q es0 [((5:Int),(j:Int),(0:Int))]) (alE (n-1) (T:Int) c).length/\es0=ext q es (susEv n (T:Int) c j) from⟨hr1,hes0⟩)
   rw[<-hes0]at FN
   have HR:=hid hr
   have HO:=hid hO
   have HT2:=hid ht2
   have HB1:=hid ht1.2
   have HJ:=hid hlt
   have HVq:=hid hvq
   clear hr ht1 ht2 hO hj hlt hle2 hes hes0 hvq hal hal2 hr0 hr1
   go_wp2_with fail
   refine FN.out.mono ?_
   rintro e u2 ⟨rfl,hN,hO⟩
   obtain⟨S2',hs1,hs2⟩:=hN
   have hs1:=hs1.typed
   obtain⟨S2,hS2⟩:∃ S2:Nat->Prop,S2=fun k=>S2' k/\Typed u2 k:=⟨_,rfl⟩
   rw[<-hS2]at hs1
   obtain⟨es1,hes1⟩:∃ e,e=ext q es0 [((5:Int),(j:Int),(0:Int))]:=⟨_,rfl⟩
   rw[<-hes1]at hs1
   have HE1:=hid (show Room q es1 (alE (n-1) (T:Int) c).length/\es1=ext q es0 [((5:Int),(j:Int),(0:Int))] from⟨by rw[hes1];exact HE0.out.1,hes1⟩)
   have HS2:=hid (show ∀ k,S2 k->(S k\/w.heap.size<=k)/\Typed u2 k from fun k h=>by
    rw[hS2]at h
    exact⟨(hs2 k h.1).elim (fun c=>(HT2.out k c).1) (fun c=>.inr (Nat.le_trans HO.out.size c)),h.2⟩)
   have HTq:=hid hs1
   have HO2:=hid (HO.out.trans hO (fun b hb c=>(HT2.out b c).1.elim (fun c=>c) (fun c=>by omega)))
   have HR2:=hid (show RowJ w.heap.size u2 (.slice va vq vc) (posI (susL ls j)) from own_offA HR.out (by decide) (by decide) (by decide) hO (fun b h=>(HT2.out b h).2))
   have hLq:=HH.out.off HO2.out (fun k hk h=>(HSl.out k h).2)
   have FW:=hid (without_any ls j (some ⟨b,off,none⟩) n cap HN.out.1 HJ.out (by have:=HN.out.2.1;omega) Sl u2 hLq)
   clear hs1 hs2 hS2 hes1 hO FN HR HO hLq HB1
   go_wp2_with fail
   refine FW.out.mono ?_
   rintro e u3 ⟨a3,c3,rfl,hsh,hO⟩
   obtain⟨g1,g2,g3,g4⟩:=HEr.out j
   have hel:n-1=(ls.eraseIdx j).length:=by rw[List.length_eraseIdx,if_pos (by have:=HN.out.1;have:=HJ.out;omega),HN.out.1]
   have hNT3:TabAt u3:=(HT.out.offS18 HO2.out HNT.out).off hO
   have FA:=hid (are_any (ls.eraseIdx j) g1 a3 (n-1) c3 hel (by have:=HN.out.2.1;omega) (fun s hs=>HN.out.2.2.2 s ((List.eraseIdx_sublist ls j).subset hs)) q es1 S2 _ u3 hsh (fun b hb=>⟨hb.2,fun c=>hb.1.elim (fun d=>(HS2.out b c).1.elim (HSl.out b d).2 (fun e=>by have:=(HSl.out b d).1;omega)) (fun d=>by have:=HTq.out.2 b c;omega)⟩) (HTq.out.off0 hO) (by rw[g3,g4];exact HE1.out.1) hNT3)
   rw[g3,g4]at FA
   have HO3:=hid (HO2.out.trans hO (fun _ _ c=>c.elim))
   have HR3:=hid (show RowJ w.heap.size u3 (.slice va vq vc) (posI (susL ls j)) from own_off HR2.out hO)
   have HS3:=hid (show ∀ k,S2 k->(S k\/w.heap.size<=k)/\Typed u3 k from fun k h=>⟨(HS2.out k h).1,by
    obtain⟨c,T',e1,e2⟩:=(HS2.out k h).2
    exact⟨c,T',hO.heap e1 (fun c=>c),e2⟩⟩)
   clear hsh hO FW g1 g2 g3 g4 hel hNT3
   obtain⟨y,hy⟩:∃ y,y=conL (ls.eraseIdx j):=⟨_,rfl⟩
   rw[<-hy]at FA
   have HY:=hid hy
   clear hy
   go_wp2_with fail
   refine FA.out.mono ?_
   rintro e u4 ⟨rfl,hN,hO⟩
   obtain⟨S4',hs1,hs2⟩:=hN
   have hs1:=hs1.typed
   have HO4:=hid (HO3.out.trans hO (fun b hb c=>(HS3.out b c).1.elim (fun c=>c) (fun c=>by omega)))
   have hr4:RowJ w.heap.size u4 (.slice va vq vc) (posI (susL ls j)):=own_offA HR3.out (by decide) (by decide) (by decide) hO (fun b h=>(HS3.out b h).2)
   have hTp:∃ S1,Tp u4 q (ext q es (susEv n (T:Int) c (j+1))) S1/\∀ b,S1 b->(S b\/w.heap.size<=b)/\Typed u4 b:=by
    refine⟨_,?_,fun b (h:S4' b/\Typed u4 b)=>⟨(hs2 b h.1).elim (fun c=>(HS3.out b c).1) (fun c=>.inr (Nat.le_trans HO3.out.size c)),h.2⟩⟩
    rw[HE1.out.2,HE0.out.2,ext_ext,ext_ext]at hs1
    rw[susEv_succ,List.append_assoc]
    exact hs1
   have HTp:=hid hTp
   have w2:IntKind.i64.wrap ((j:Int)+1)=(j:Int)+1:=by rw[IntKind.wrap_i64];have:=HN.out.2.1;have:=HJ.out;omega
   have HR4:=hid hr4
   clear hs1 hs2 hO hTp hr4 FA
   cases y with
   | true =>
    have hoa:Off (fun _=>False) u4 (u4.alloc (.cells #[.int .i64 j] 3)):=(Off.refl _ _).alloc _
    have hls:(susL ls j).length<=j:=susL_len ls j
    obtain⟨v',w5,hrun,hown,hg⟩:=app_intJ (bz:=u4.heap.size) (x:=(j:Int)) (show RowJ w.heap.size (u4.alloc (.cells #[.int .i64 j] 3)) (.slice va vq vc) (posI (susL ls j)) from own_off HR4.out hoa) (Nat.le_trans HO4.out.size hoa.size) (heap_new' rfl _) (by rw[posI_len];have:=HN.out.2.1;have:=HJ.out;omega)
    have hD:∀ g,(Value.slice va vq vc).ownBlock=some g->w.heap.size<=g/\g<u4.heap.size/\¬Typed u4 g:=fun g e=>⟨(World.ownsRow.lt HR4.out g e).1,(World.ownsRow.lt HR4.out g e).2,own_ntyped HR4.out (by decide) (by decide) (by decide) g e⟩
    have ho5:Off (fun b=>w.heap.size<=b/\¬Typed u4 b) u4 w5:=(hoa.mono (fun _ _ c=>c.elim):Off _ u4 _).grown hg (fun k e=>⟨fun _=>⟨(hD k e).1,(hD k e).2.2⟩,fun o ho=>by
     obtain⟨cur,hc⟩:∃ cur,u4.heap[k]?=some (.cells cur 3 (0,0)):=by
      rcases HR4.out.2 with ⟨e2,_⟩ | ⟨g2,cap,cur,e2,_,hgc,_⟩
      ·rw[e2]at e;simp[Value.ownBlock]at e
      rw[e2]at e;simp[Value.ownBlock]at e;subst e;exact⟨cur,hgc⟩
     rw[heap_old' hc]at ho
     cases ho;rfl⟩)
    have hsl:susL ls (j+1)=susL ls j++[j]:=by rw[susL_succ,if_pos HY.out.symm]
    have hpe:posI (susL ls j)++[(j:Int)]=posI (susL ls (j+1)):=by rw[hsl];unfold posI;rw[List.map_append];rfl
    rw[hpe]at hown
    have hq1:(posI (susL ls (j+1))).length=vq+1:=by rw[posI_len,hsl,List.length_append,HVq.out];rfl
    obtain⟨g9,c9,rfl⟩:∃ g c,v'=.slice (some ⟨g,0,none⟩) (vq+1) c:=ownsRow_succ (by have:=hown;unfold RowJ at this;rw[hq1]at this;exact this)
    have HEnd:=hid (show(∃ a2 c2 q2,Value.slice (some ⟨g9,0,none⟩) (vq+1) c9=.slice a2 q2 c2/\q2=(susL ls (j+1)).length)/\RowJ w.heap.size w5 (.slice (some ⟨g9,0,none⟩) (vq+1) c9) (posI (susL ls (j+1)))/\(∃ S1,Tp w5 q (ext q es (susEv n (T:Int) c (j+1))) S1/\∀ b,S1 b->(S b\/w.heap.size<=b)/\Typed w5 b)/\Off S w w5 from by
     refine⟨⟨_,_,_,rfl,by rw[<-posI_len,hq1]⟩,hown,?_,HO4.out.trans ho5 (fun k hk c=>by omega)⟩
     obtain⟨S1,h1,h2⟩:=HTp.out
     refine⟨_,(h1.off ho5 (fun k c d=>c.2 (h2 k d).2)).typed,fun b (h:S1 b/\Typed w5 b)=>⟨(h2 b h.1).1,h.2⟩⟩)
    clear hoa hls hown hg hD ho5 hsl hpe hq1 HR4
    go_wp2_with (at_builtin;refine Go.Lib.wpList_append_run _ rfl _ _ _ _ rfl _ _ rfl rfl _ _ hrun ?_)
    go_roundw
    case rel=>exact⟨j+1,HJ.out,rfl,HEnd.out⟩
    case measure=>simp[intOf];have:=HJ.out;omega
   | false =>
    have HEnd:=hid (show(∃ a2 c2 q2,Value.slice va vq vc=.slice a2 q2 c2/\q2=(susL ls (j+1)).length)/\RowJ w.heap.size u4 (.slice va vq vc) (posI (susL ls (j+1)))/\(∃ S1,Tp u4 q (ext q es (susEv n (T:Int) c (j+1))) S1/\∀ b,S1 b->(S b\/w.heap.size<=b)/\Typed u4 b)/\Off S w u4 from by
     have hsl:susL ls (j+1)=susL ls j:=by rw[susL_succ,if_neg (by rw[<-HY.out];decide)]
     rw[hsl]
     exact⟨⟨_,_,_,rfl,HVq.out⟩,HR4.out,HTp.out,HO4.out⟩)
    clear HR4
    go_wp2
    go_roundw
    case rel=>exact⟨j+1,HJ.out,rfl,HEnd.out⟩
    case measure=>simp[intOf];have:=HJ.out;omega
  obtain rfl:n=j:=by omega
  have i1:¬(n:Int)<(n:Int):=by omega
  have HEnd:=hid (show Iv wr (.slice va vq vc) (posI (susL ls n))/\Noted w.heap.size q es (susEv n (T:Int) c n) S wr/\Off S w wr from
   ⟨hr.iv (by rw[posI_len];have:=susL_len ls n;have:=HN.out.2.1;omega) (posI_wf (by have:=HN.out.2.1;omega)),⟨S1,ht1,fun b h=>(ht2 b h).1⟩,hO⟩)
  clear hr ht1 ht2 hO hlt hj hvq
  go_wp2
  refine bodyPost_ret (results_tmp2 rfl _ _ _) rfl ?_
  first | exact⟨_,rfl,HEnd.out.1,fun h=>absurd rfl h,fun _=>HEnd.out.2.1,HEnd.out.2.2⟩ | exact⟨_,rfl,HEnd.out.1,HEnd.out.2.1,HEnd.out.2.2⟩
end
end Go.Proofs.YtbkgghhngeibhaaGreatDoor
