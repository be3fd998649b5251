/-
  The contract of package audit's testChunks over this seat's translation, for any closure. Conditions: the shares are accepted, at most 90, and lie in memory, outside of the tape and of the closure's box; what the closure does for a chunk is told.
-/
import Derived.Test.YtbkgghhngeibhaaGreatDoorAudPlain
import Derived.Test.YtbkgghhngeibhaaGreatDoorDegGrp
import Derived.Test.YtbkgghhngeibhaaGreatDoorRegn
import Derived.Test.YtbkgghhngeibhaaGreatDoorParEnd
namespace Go.Proofs.YtbkgghhngeibhaaGreatDoor
open Lib (hid)
open Go.RowKit
attribute [local go_sem ↓] Go.wp_at_zero Go.wp_at_succ
set_option linter.unusedSimpArgs false
set_option maxRecDepth 100000
set_option maxHeartbeats 4000000
def FBox (w:World) (b:Nat) (id:Int) (p i0 r s:Nat):Prop:=w.heap[b]?=some (.cells #[.int .i64 id,.int .u64 (wd p 0),.int .u64 (wd p 1),.int .u64 (wd p 2),.int .u64 (wd p 3),.int .u64 i0,.int .u64 (wd r 0),.int .u64 (wd r 1),.int .u64 (wd r 2),.int .u64 (wd r 3),.int .u64 (wd s 0),.int .u64 (wd s 1),.int .u64 (wd s 2),.int .u64 (wd s 3)] 104 (0,0))
theorem fget_k18 {id:Int} (h:Kn id):∃ i r s,Fld id (modN id) i r s/\∀ W,TabAt W->Calls Tryz.prog 65 #[.int .i64 id] W fun e w'=>e=.returned (.tuple #[FV id (modN id) i r s,.int .i64 0])/\Off (fun _=>False) W w':=by
 rcases h with rfl | rfl
 ·exact⟨_,_,_,fld1,fun W hT=>fget_in 1 P1 (by decide) (by decide) rfl W hT⟩
 exact⟨_,_,_,fld2,fun W hT=>fget_in 2 P2 (by decide) (by decide) rfl W hT⟩
def Room (q:Option Addr) (es:List Ev) (N:Nat):Prop:=∀ ls:List Ev,ls.length<=N->(ext q es ls).length<=50000
theorem Room.nil (N:Nat):Room none [] N:=fun ls _=>by simp[ext]
theorem Room.ext {q:Option Addr} {es:List Ev} {N:Nat} (h:Room q es N) (ms:List Ev) {K:Nat} (hK:ms.length+K<=N):Room q (ext q es ms) K:=fun ls hl=>by
 rw[ext_ext]
 exact h _ (by rw[List.length_append];omega)
theorem chunks_aud (cf:FuncId) (cps:Array Value) (hE:∀ (v:Value) W,Sem.run Tryz.prog (callFunc cf (#[v]++cps)) W=.ok (.enter cf (#[v]++cps)) W) (bx:Nat) (R:Nat->Nat->World->Prop)
  (us:List Sh) (h0:shsN us=0) (a:Option Addr) (n cap:Nat) (hn:n=us.length) (hl:n<=90) (hpl:∀ s∈us,s.pl.length<=1000) (q:Option Addr) (es:List Ev) (S Sl:Nat->Prop) (w:World)
  (h:ShsAt w (.slice a n cap) us Sl) (hSl:∀ b,Sl b->b<w.heap.size/\¬S b/\b≠bx) (hS:Tp w q es S) (hbx:bx<w.heap.size/\¬S bx) (hes:Room q es (alE n (TJ us:Int) (cJ us)).length) (hT:TabAt w)
  (hR0:∀ W,Off (fun _=>False) w W->R W.heap.size 0 W)
  (hRo:∀ B j W W' (S':Nat->Prop),R B j W->Off S' W W'->(∀ b,S' b->Typed W b)->R B j W')
  (hF:∀ B j W,j<cJ us->w.heap.size<=B->R B j W->B<=W.heap.size->Calls Tryz.prog cf (#[.int .u64 (mk (fitJ (pJ us) (TJ us) us j))]++cps) W fun e w'=>e=.returned (.tuple #[])/\R B (j+1) w'/\Off (fun b=>b=bx\/(B<=b/\¬Typed W b)) W w') :
  Calls Tryz.prog 39 #[.pointer q,.slice a n cap,.func (.func cf) #[] cps] w fun e w'=>e=.returned (.tuple #[])/\(∃ B,w.heap.size<=B/\R B (cJ us) w')/\Noted w.heap.size q es (alE n (TJ us:Int) (cJ us)) S w'/\Off (fun b=>S b\/b=bx) w w':=by
 have hA:=acc_hd h0
 have hn0:0<n:=by rw[hn];exact hA.pos
 have hTn:TJ us<=n:=by rw[hn];exact hA.few
 have hc1:cJ us<=1000:=by
  have h1:=hA.all _ (List.mem_of_getElem? hA.first)
  have h2:=hpl _ (List.mem_of_getElem? hA.first)
  rw[h1.2.2.2.1]at h2
  exact h2
 obtain⟨s1,b,off,hsx,_,rfl,hSb,c0,c1,c2,c3,pa,pc,c4,hpc,_⟩:=h.at (k:=0) hn0
 rw[hA.first]at hsx
 cases hsx
 have hpl0:(hd0 us).pl.length=cJ us:=(hA.all _ (List.mem_of_getElem? hA.first)).2.2.2.1
 have hth0:(hd0 us).th=(TJ us:Int):=by unfold TJ;have:=hA.th1;omega
 rw[hpl0]at c4
 rw[hth0]at c1
 simp only[Nat.zero_mul,Nat.add_zero]at c0 c1 c4
 have hchk:=hA.chkA
 obtain⟨i0,r,s,hF',hgf⟩:=fget_k18 hA.kn
 have hcol:∀ k:Nat,∀ y∈colN us (k:Int),y<modN (hd0 us).fd:=fun k=>hA.colA k
 obtain⟨fd,hfd⟩:∃ x,x=(hd0 us).fd:=⟨_,rfl⟩
 obtain⟨p,hp⟩:∃ p,p=pJ us:=⟨_,rfl⟩
 have hpm:modN (hd0 us).fd=p:=by rw[hp];rfl
 obtain⟨T,hTT⟩:∃ T,T=TJ us:=⟨_,rfl⟩
 obtain⟨c,hc⟩:∃ c,c=cJ us:=⟨_,rfl⟩
 rw[hpm,<-hfd]at hF' hgf
 rw[hpm]at hcol
 rw[<-hfd]at c0
 rw[<-hTT]at c1
 rw[<-hTT,<-hc]at hes
 rw[<-hp,<-hTT,<-hc]at hF
 rw[<-hTT,<-hc]
 rw[<-hc]at c4 hc1
 obtain⟨xs,hxs⟩:∃ xs,xs=ixs us:=⟨_,rfl⟩
 have hxl:n=xs.length:=by rw[hxs];unfold ixs;rw[List.length_map];exact hn
 rw[<-hxs]at hchk
 have FG:=hid (hgf w hT)
 have FI:=hid (fun W (hO:Off (fun _=>False) w W)=>show Calls Tryz.prog 66 #[.slice (some ⟨b,off,none⟩) n cap] W fun e w'=>∃ a2 c2,e=.returned (.slice a2 n c2)/\IvAt w' (.slice a2 n c2) xs (fun k=>W.heap.size<=k)/\Off (fun _=>False) W w' from(indices_par us (some ⟨b,off,none⟩) n cap hn (by omega) Sl W (h.off hO (fun _ _ _ c=>c))).mono (fun e w' ⟨v,he,hi,hO⟩=>by
  rw[<-hxs]at hi
  obtain⟨a2,c2,rfl,_⟩:=id hi
  rw[<-hxl]at he hi
  exact⟨a2,c2,he,hi,hO⟩))
 have HC04:=hid (And.intro c0 (And.intro c1 c4))
 have lb:=World.block_lt_of_cell? w _ c0
 have hn0i:(0:Int)<(n:Int):=by omega
 have HA:=hid (show n=us.length/\n<=90/\T<=n/\c<=1000/\chkV xs=0/\n=xs.length/\Fld fd p i0 r s/\(∀ k:Nat,∀ y∈colN us (k:Int),y<p)/\xs=ixs us/\p=pJ us from⟨hn,hl,by rw[hTT];exact hTn,hc1,hchk,hxl,hF',hcol,hxs,hp⟩)
 have HH:=hid h
 have HSl:=hid hSl
 have HS:=hid hS
 have HBx:=hid hbx
 have HEs:=hid hes
 have HR0:=hid hR0
 have HRo:=hid hRo
 have HF:=hid hF
 have HE:=hid hE
 have HSb:=hid (hSl b hSb)
 clear hA hn hl hTn hc1 hc hTT hp hpm hfd hth0 hpl0 hcol hchk hxl hxs hF' hgf h hSl hS hbx hes hT hR0 hRo hF hE hpl hpc c1 c2 c3 c4 h0 hSb
 go_enter Tryz.func39,Tryz.ntmps39
 go_upto_region 1 with (refine FG.out.mono ?_;rintro e u1 ⟨rfl,hO⟩)
 obtain⟨bf,hbf⟩:∃ b,b=u1.heap.size:=⟨_,rfl⟩
 obtain⟨W0,hW0⟩:∃ W,W=u1.alloc (.cells #[.int .i64 fd,.int .u64 (wd p 0),.int .u64 (wd p 1),.int .u64 (wd p 2),.int .u64 (wd p 3),.int .u64 i0,.int .u64 (wd r 0),.int .u64 (wd r 1),.int .u64 (wd r 2),.int .u64 (wd r 3),.int .u64 (wd s 0),.int .u64 (wd s 1),.int .u64 (wd s 2),.int .u64 (wd s 3)] 104):=⟨_,rfl⟩
 have HGf:=hid (show FBox W0 bf fd p i0 r s by rw[hW0,hbf];exact heap_new' rfl _)
 have HO0:=hid (show Off (fun _=>False) w W0 by rw[hW0];exact hO.alloc _)
 have HBf:=hid (show w.heap.size<=bf by rw[hbf];exact hO.size)
 rw[<-hW0,<-hbf]
 clear hW0 hbf hO FG c0 lb
 go_wp2_with fail
 refine(FI.out _ HO0.out).mono ?_
 rintro e W1 ⟨a2,c2,rfl,hi,hO⟩
 have HX1:=hid hi
 have HO1:=hid (HO0.out.trans hO (fun _ _ c=>c))
 have HF1:=hid (hO.heap HGf.out (fun c=>c))
 have HZ01:=hid (show W0.heap.size<=W1.heap.size/\bf<W0.heap.size from⟨hO.size,heap_lt HGf.out⟩)
 have c4:=HO1.out.cell HC04.out.2.2 (fun c=>c)
 have lb:=World.block_lt_of_cell? W1 _ c4
 have HR1:=hid (HR0.out W1 HO1.out)
 have HT1:=hid (HS.out.off0 HO1.out).typed
 clear hi hO FI HGf HR0
 go_wp2_with fail
 clear c4 lb
 obtain⟨S0,hS0⟩:∃ S0:Nat->Prop,S0=fun k=>S k/\Typed W1 k:=⟨_,rfl⟩
 have HT1':=hid (show Tp W1 q es S0 by rw[hS0];exact HT1.out)
 have HS0:=hid (show ∀ k,S0 k->S k/\Typed W1 k from fun k h=>by rw[hS0]at h;exact h)
 clear hS0 HT1
 go_loopw [27] (fun i wr=>∃ j:Nat,j<=c/\i=.int .i64 j/\R W1.heap.size j wr/\(∃ S1,Tp wr q (ext q es (alE n (T:Int) j)) S1/\∀ b,S1 b->(S b\/W1.heap.size<=b)/\Typed wr b)/\Off (fun b=>S b\/b=bx) W1 wr) (fun i _=>c-(intOf i).toNat)
 case atStart=>exact⟨0,Nat.zero_le _,rfl,HR1.out,⟨S0,by rw[show alE n (T:Int) 0=[] from rfl,ext_nil];exact HT1'.out,fun b h=>⟨.inl (HS0.out b h).1,(HS0.out b h).2⟩⟩,Off.refl _ _⟩
 case round =>
  clear HT1' HS0 HR1
  obtain⟨j,hj,rfl,hr,⟨S1,ht1,ht2⟩,hO⟩:=hrel
  by_cases hlt:j<c
  ·have hjc:(j:Int)<(c:Int):=by omega
   have hle2:=Nat.mul_le_mul_right (1+(ftE n (T:Int)).length) (show j+1<=c from hlt)
   have hes:=HEs.out
   have hal:=alE_len n (T:Int) j
   have hal2:=alE_len n (T:Int) c
   rw[Nat.succ_mul]at hle2
   have hr0:=hes (alE n (T:Int) j) (by omega)
   have hr1:=hes (alE n (T:Int) j++[((4:Int),(j:Int),(0:Int))]) (by rw[List.length_append,List.length_singleton];omega)
   rw[<-ext_ext]at hr1
   have FN:=hid (note_ext q _ S1 wr ht1 (by omega) ((4:Int),(j:Int),(0:Int)))
   obtain⟨es0,hes0⟩:∃ e,e=ext q es (alE n (T:Int) j):=⟨_,rfl⟩
   rw[<-hes0]at hr1
   have HE0:=hid (show(ext q es0 [((4:Int),(j:Int),(0:Int))]).length<=50000/\es0=ext q es (alE n (T:Int) j) from⟨hr1,hes0⟩)
   rw[<-hes0]at FN
   have HR:=hid hr
   have HO:=hid hO
   have HT2:=hid ht2
   have HB1:=hid ht1.2
   have HJ:=hid hlt
   clear hr ht1 ht2 hO hj hlt hle2 hes hes0 hal hal2 hr0 hr1
   go_wp2_with fail
   refine FN.out.mono ?_
   rintro e wq ⟨rfl,hN,hO⟩
   obtain⟨S2',hs1,hs2⟩:=hN
   have hs1:=hs1.typed
   obtain⟨S2,hS2⟩:∃ S2:Nat->Prop,S2=fun k=>S2' k/\Typed wq k:=⟨_,rfl⟩
   rw[<-hS2]at hs1
   obtain⟨es1,hes1⟩:∃ e,e=ext q es0 [((4:Int),(j:Int),(0:Int))]:=⟨_,rfl⟩
   rw[<-hes1]at hs1
   have HE1:=hid (show es1.length<=50000/\es1=ext q es0 [((4:Int),(j:Int),(0:Int))] from⟨by rw[hes1];exact HE0.out.1,hes1⟩)
   have hOq:Off (fun b=>S b\/b=bx) W1 wq:=HO.out.trans hO (fun b hb c=>(HT2.out b c).1.elim .inl (fun c=>by omega))
   have HS2:=hid (show ∀ k,S2 k->(S k\/W1.heap.size<=k)/\Typed wq k from fun k h=>by
    rw[hS2]at h
    exact⟨(hs2 k h.1).elim (fun c=>(HT2.out k c).1) (fun c=>.inr (Nat.le_trans HO.out.size c)),h.2⟩)
   have HTq:=hid hs1
   have HRq:=hid (HRo.out _ _ _ _ _ HR.out hO (fun b h=>(HT2.out b h).2))
   have hnS:∀ b,b<W1.heap.size->¬S b->¬S2 b:=fun b h1 h2 c=>(HS2.out b c).1.elim h2 (fun c=>by omega)
   have hbfq:¬(S bf\/bf=bx):=fun c=>c.elim (fun c=>by have:=HS.out.2 _ c;have:=HBf.out;omega) (fun c=>by have:=HBx.out.1;have:=HBf.out;omega)
   have HFq:=hid (show FBox wq bf fd p i0 r s from hOq.heap HF1.out hbfq)
   have HXq:=hid (show Iv wq (.slice a2 n c2) xs from Iv.of (IvAt.off HX1.out hOq (fun k hk h c=>c.elim (fun c=>by have:=HS.out.2 _ c;have:=HO0.out.size;omega) (fun c=>by have:=HBx.out.1;have:=HO0.out.size;omega))))
   have hLq:=HH.out.off (HO1.out.mono (fun _ _ c=>c.elim):Off (fun b=>S b\/b=bx) w W1) (fun k hk h c=>c.elim (HSl.out k h).2.1 (HSl.out k h).2.2)
   have HLq:=hid (hLq.off hOq (fun k hk h c=>c.elim (HSl.out k h).2.1 (HSl.out k h).2.2))
   have HC1q:=hid (hOq.cell (HO1.out.cell HC04.out.2.1 (fun c=>c)) (fun c=>c.elim HSb.out.2.1 HSb.out.2.2))
   have HOq:=hid hOq
   have FC:=hid (fun W (hO:Off (fun _=>False) wq W)=>show Calls Tryz.prog 68 #[.slice (some ⟨b,off,none⟩) n cap,.int .i64 j] W fun e w'=>∃ va cc,e=.returned (.slice va n cc)/\LsAt w' (.slice va n cc) (colN us (j:Int)) (fun k=>wq.heap.size<=k)/\Off (fun _=>False) W w' from(column_par us (some ⟨b,off,none⟩) n cap HA.out.1 (by have:=HA.out.2.1;omega) (j:Int) (by unfold I64;exact WalkArith.wf_i64 (by have:=HA.out.2.2.2.1;have:=HJ.out;omega)) Sl W (HLq.out.off hO (fun _ _ _ c=>c))).mono (fun e w' ⟨v,he,hc,hO2⟩=>by
    obtain⟨va,cc,rfl,_⟩:=id hc
    rw[colN_length,<-HA.out.1]at he hc
    exact⟨va,cc,he,LsAt.mono hc (fun k _ h=>Nat.le_trans hO.size h),hO2⟩))
   obtain⟨M,hM⟩:∃ M,M=mk (fitJ p T us j):=⟨_,rfl⟩
   have FT:=hid (fun W va cc (hO:Off (fun _=>False) wq W) (hL:LsAt W (.slice va n cc) (colN us (j:Int)) (fun k=>wq.heap.size<=k))=>show Calls Tryz.prog 67 #[.pointer q,FV fd p i0 r s,.slice a2 n c2,.slice va n cc,.int .i64 T] W fun e w'=>∃ dz:Nat,e=.returned (.tuple #[.int .u64 M,.int .i64 0])/\Noted wq.heap.size q es1 (ftE n (T:Int)) S2 w'/\Off S2 W w' from by
    obtain⟨h1,h2,h3,h4,h5,h6,h7,h8,h9,_⟩:=HA.out
    have hy:(jys p us j).length=n:=by rw[jys_length];exact h1.symm
    refine(fits_any h7 xs h5 n h6 h2 (jys p us j) hy.symm (T:Int) q es1 S2 (fun k=>wq.heap.size<=k/\k<W.heap.size) a2 va c2 cc W (HXq.out.off hO) ?_ (fun b h=>⟨h.2,fun c=>by have:=HTq.out.2 b c;omega⟩) (HTq.out.off0 hO) HE1.out.1).mono ?_
    ·rw[jys_fm h7.mp (h8 j)]
     exact LsAt.mono hL (fun k hk c=>⟨c,hk⟩)
    rintro e w' ⟨rfl,hN,hO2⟩
    refine⟨0,?_,?_,hO2⟩
    ·rw[hM];unfold fitM;rw[h9,fitM_J]
    obtain⟨S3,g1,g2⟩:=hN
    exact⟨S3,g1,fun k c=>(g2 k c).imp id (fun c=>Nat.le_trans hO.size c)⟩)
   have FF:=hid (fun W (hr:R W1.heap.size j W) (hB:W1.heap.size<=W.heap.size)=>show Calls Tryz.prog cf (#[.int .u64 M]++cps) W fun e w'=>e=.returned (.tuple #[])/\R W1.heap.size (j+1) w'/\Off (fun b=>b=bx\/(W1.heap.size<=b/\¬Typed W b)) W w' from by rw[hM];exact HF.out _ _ _ HJ.out HO1.out.size hr hB)
   clear hs1 hs2 hS2 hes1 hnS hbfq hLq hO hOq hM FN
   go_upto_region 6 with fail
   obtain⟨x34,hx⟩:∃ vv:Value,vv=.pointer q:=⟨_,rfl⟩
   have X34:=hid hx
   clear hx
   obtain⟨x35,hx⟩:∃ vv:Value,vv=FV fd p i0 r s:=⟨_,rfl⟩
   have X35:=hid hx
   clear hx
   obtain⟨x36,hx⟩:∃ vv:Value,vv=.slice a2 n c2:=⟨_,rfl⟩
   have X36:=hid hx
   clear hx
   obtain⟨x37,hx⟩:∃ vv:Value,vv=.slice (some ⟨b,off,none⟩) n cap:=⟨_,rfl⟩
   have X37:=hid hx
   clear hx
   obtain⟨x38,hx⟩:∃ vv:Value,vv=.int .i64 j:=⟨_,rfl⟩
   have X38:=hid hx
   clear hx
   obtain⟨x40,hx⟩:∃ vv:Value,vv=.slice (some ⟨b,off,none⟩) n cap:=⟨_,rfl⟩
   have X40:=hid hx
   clear hx
   obtain⟨x41,hx⟩:∃ vv:Value,vv=.pointer (some ⟨b,off,none⟩):=⟨_,rfl⟩
   have X41:=hid hx
   clear hx
   obtain⟨x42,hx⟩:∃ vv:Value,vv=.pointer (some ⟨b,off+1,none⟩):=⟨_,rfl⟩
   have X42:=hid hx
   clear hx
   obtain⟨x43,hx⟩:∃ vv:Value,vv=.int .i64 T:=⟨_,rfl⟩
   have X43:=hid hx
   clear hx
   obtain⟨x44,hx⟩:∃ vv:Value,vv=.tuple #[.int .u64 M,.int .i64 0]:=⟨_,rfl⟩
   have X44:=hid hx
   clear hx
   obtain⟨x33,hx⟩:∃ vv:Value,vv=.tuple #[.int .u64 M,.int .i64 0]:=⟨_,rfl⟩
   have X33:=hid hx
   clear hx
   obtain⟨x45,hx⟩:∃ vv:Value,vv=.int .u64 M:=⟨_,rfl⟩
   have X45:=hid hx
   clear hx
   obtain⟨x46,hx⟩:∃ vv:Value,vv=.int .i64 0:=⟨_,rfl⟩
   have X46:=hid hx
   clear hx
   obtain⟨x10,hx⟩:∃ vv:Value,vv=.int .u64 M:=⟨_,rfl⟩
   have X10:=hid hx
   clear hx
   obtain⟨x11,hx⟩:∃ vv:Value,vv=.int .i64 0:=⟨_,rfl⟩
   have X11:=hid hx
   clear hx
   refine wp_region_clo (fun a0 l a' w'=>∃ (va:Option Addr) (cc:Nat) (dz:Nat),a'=(Act.put (Act.put (fill a0 33 [sel (l 11) x33 (u33),sel (l 0) x34 (u34),sel (l 1) x35 (u35),sel (l 2) x36 (u36),sel (l 3) x37 (u37),sel (l 4) x38 (u38),sel (l 5) (.slice va n cc) (u39),sel (l 6) x40 (u40),sel (l 7) x41 (u41),sel (l 8) x42 (u42),sel (l 9) x43 (u43),sel (l 10) x44 (u44),sel (l 12) x45 (u45),sel (l 13) x46 (u46),u47,u48,u49,u50]) (some 10) (sel (l 14) x10 (u10))) (some 11) (sel (l 15) x11 (u11)))/\(l 10=false->Off (fun _=>False) wq w'/\(l 5=true->LsAt w' (.slice va n cc) (colN us (j:Int)) (fun k=>wq.heap.size<=k)))/\(l 10=true->(Noted wq.heap.size q es1 (ftE n (T:Int)) S2 w'/\Off S2 wq w'))) (by kernel_rfl) (by kernel_rfl) ?_ ⟨?_,?_,?_,?_,?_,?_,?_,?_,?_,?_,?_,?_,?_,?_,?_,?_,trivial⟩ ?_
   ·refine⟨none,0,0,?_,fun _=>⟨(Off.refl _ wq).drew,(fun h=>by cases h)⟩,fun h=>by cases h⟩
    simp only[XF,XP,sel_start]
    try rfl
   all_goals try (rintro l a wr ⟨va,cc,dz,ha,hA,hB⟩ hc hl hd K' hK)
   ·as_aux_lemma =>
     have hx:=X34.out;subst hx
     have gF:l 10=false:=hc.not (i:=10) hl 16 (by kernel_rfl)
     obtain⟨hO,h5⟩:=hA gF
     have GF:=hid gF
     clear gF hA hB
     simp only[XF,XP]at ha
     subst ha
     have H5:=hid h5
     clear h5
     rw[if_pos (by rfl)]
     go_simp
     refine Shut.out hK _ _ ⟨va,cc,dz,?_,fun _=>⟨hO,(fun h=>LsAt.off (H5.out (show l 5=true by rwa [upd_ne l (by decide)]at h)) (Off.refl (fun _=>False) wr) (fun _ _ _ c=>c))⟩,fun h=>absurd (show(true:Bool)=false from(show l 10=true by rwa [upd_ne l (by decide)]at h).symm.trans GF.out) (by decide)⟩
     simp only[XF,XP,sel_new]
     try rfl
   ·as_aux_lemma =>
     have hx:=X35.out;subst hx
     have gF:l 10=false:=hc.not (i:=10) hl 16 (by kernel_rfl)
     obtain⟨hO,h5⟩:=hA gF
     have GF:=hid gF
     clear gF hA hB
     simp only[XF,XP]at ha
     subst ha
     have H5:=hid h5
     clear h5
     have g:=hO.heap HFq.out (fun c=>c)
     obtain⟨f0,f1,f2,f3,f4,f5,f6,f7,f8,f9,f10,f11,f12,f13⟩:=fv_cells g
     have lf:=heap_lt g
     clear g
     rw[if_pos (by rfl)]
     go_simp
     refine Shut.out hK _ _ ⟨va,cc,dz,?_,fun _=>⟨hO,(fun h=>LsAt.off (H5.out (show l 5=true by rwa [upd_ne l (by decide)]at h)) (Off.refl (fun _=>False) wr) (fun _ _ _ c=>c))⟩,fun h=>absurd (show(true:Bool)=false from(show l 10=true by rwa [upd_ne l (by decide)]at h).symm.trans GF.out) (by decide)⟩
     simp only[XF,XP,sel_new]
     try rfl
   ·as_aux_lemma =>
     have hx:=X36.out;subst hx
     have gF:l 10=false:=hc.not (i:=10) hl 16 (by kernel_rfl)
     obtain⟨hO,h5⟩:=hA gF
     have GF:=hid gF
     clear gF hA hB
     simp only[XF,XP]at ha
     subst ha
     have H5:=hid h5
     clear h5
     rw[if_pos (by rfl)]
     go_simp
     refine Shut.out hK _ _ ⟨va,cc,dz,?_,fun _=>⟨hO,(fun h=>LsAt.off (H5.out (show l 5=true by rwa [upd_ne l (by decide)]at h)) (Off.refl (fun _=>False) wr) (fun _ _ _ c=>c))⟩,fun h=>absurd (show(true:Bool)=false from(show l 10=true by rwa [upd_ne l (by decide)]at h).symm.trans GF.out) (by decide)⟩
     simp only[XF,XP,sel_new]
     try rfl
   ·as_aux_lemma =>
     have hx:=X37.out;subst hx
     have gF:l 10=false:=hc.not (i:=10) hl 16 (by kernel_rfl)
     obtain⟨hO,h5⟩:=hA gF
     have GF:=hid gF
     clear gF hA hB
     simp only[XF,XP]at ha
     subst ha
     have H5:=hid h5
     clear h5
     rw[if_pos (by rfl)]
     go_simp
     refine Shut.out hK _ _ ⟨va,cc,dz,?_,fun _=>⟨hO,(fun h=>LsAt.off (H5.out (show l 5=true by rwa [upd_ne l (by decide)]at h)) (Off.refl (fun _=>False) wr) (fun _ _ _ c=>c))⟩,fun h=>absurd (show(true:Bool)=false from(show l 10=true by rwa [upd_ne l (by decide)]at h).symm.trans GF.out) (by decide)⟩
     simp only[XF,XP,sel_new]
     try rfl
   ·as_aux_lemma =>
     have hx:=X38.out;subst hx
     have gF:l 10=false:=hc.not (i:=10) hl 16 (by kernel_rfl)
     obtain⟨hO,h5⟩:=hA gF
     have GF:=hid gF
     clear gF hA hB
     simp only[XF,XP]at ha
     subst ha
     have H5:=hid h5
     clear h5
     rw[if_pos (by rfl)]
     go_simp
     refine Shut.out hK _ _ ⟨va,cc,dz,?_,fun _=>⟨hO,(fun h=>LsAt.off (H5.out (show l 5=true by rwa [upd_ne l (by decide)]at h)) (Off.refl (fun _=>False) wr) (fun _ _ _ c=>c))⟩,fun h=>absurd (show(true:Bool)=false from(show l 10=true by rwa [upd_ne l (by decide)]at h).symm.trans GF.out) (by decide)⟩
     simp only[XF,XP,sel_new]
     try rfl
   ·as_aux_lemma =>
     have d3:=hd 3 (by decide)
     have d4:=hd 4 (by decide)
     have hx:=X37.out;subst hx
     have hx:=X38.out;subst hx
     have gF:l 10=false:=hc.not (i:=10) hl 16 (by kernel_rfl)
     obtain⟨hO,h5⟩:=hA gF
     have GF:=hid gF
     clear gF hA hB
     have g10:=hc.not (i:=10) hl 16 (by kernel_rfl)
     have g11:=hc.not (i:=11) hl 16 (by kernel_rfl)
     have g12:=hc.not (i:=12) hl 16 (by kernel_rfl)
     have g13:=hc.not (i:=13) hl 16 (by kernel_rfl)
     have g14:=hc.not (i:=14) hl 16 (by kernel_rfl)
     have g15:=hc.not (i:=15) hl 16 (by kernel_rfl)
     simp only[XF,XP,sel_of d3,sel_of d4,sel_no g10,sel_no g11,sel_no g12,sel_no g13,sel_no g14,sel_no g15,sel_no hl]at ha
     subst ha
     have G10:=hid g10
     clear g10
     have G11:=hid g11
     clear g11
     have G12:=hid g12
     clear g12
     have G13:=hid g13
     clear g13
     have G14:=hid g14
     clear g14
     have G15:=hid g15
     clear g15
     have H5:=hid h5
     clear h5
     rw[if_pos (by rfl)]
     go_simp
     refine(FC.out wr hO).mono ?_
     rintro e w1 ⟨va',cc',rfl,hP1,hO1⟩
     go_wp2_with fail
     refine Shut.out hK _ _ ⟨va',cc',dz,?_,fun _=>⟨(hO.trans hO1 (fun _ _ c=>c)),(fun _=>hP1)⟩,fun h=>absurd (show(true:Bool)=false from(show l 10=true by rwa [upd_ne l (by decide)]at h).symm.trans GF.out) (by decide)⟩
     simp only[XF,XP,sel_new,sel_dep d3,sel_dep d4,sel_no (show upd l 5 10=false by rw[upd_ne l (by decide)];exact G10.out),sel_no (show upd l 5 11=false by rw[upd_ne l (by decide)];exact G11.out),sel_no (show upd l 5 12=false by rw[upd_ne l (by decide)];exact G12.out),sel_no (show upd l 5 13=false by rw[upd_ne l (by decide)];exact G13.out),sel_no (show upd l 5 14=false by rw[upd_ne l (by decide)];exact G14.out),sel_no (show upd l 5 15=false by rw[upd_ne l (by decide)];exact G15.out)]
     try rfl
   ·as_aux_lemma =>
     have hx:=X40.out;subst hx
     have gF:l 10=false:=hc.not (i:=10) hl 16 (by kernel_rfl)
     obtain⟨hO,h5⟩:=hA gF
     have GF:=hid gF
     clear gF hA hB
     simp only[XF,XP]at ha
     subst ha
     have H5:=hid h5
     clear h5
     rw[if_pos (by rfl)]
     go_simp
     refine Shut.out hK _ _ ⟨va,cc,dz,?_,fun _=>⟨hO,(fun h=>LsAt.off (H5.out (show l 5=true by rwa [upd_ne l (by decide)]at h)) (Off.refl (fun _=>False) wr) (fun _ _ _ c=>c))⟩,fun h=>absurd (show(true:Bool)=false from(show l 10=true by rwa [upd_ne l (by decide)]at h).symm.trans GF.out) (by decide)⟩
     simp only[XF,XP,sel_new]
     try rfl
   ·as_aux_lemma =>
     have d6:=hd 6 (by decide)
     have hx:=X40.out;subst hx
     have hx:=X41.out;subst hx
     have gF:l 10=false:=hc.not (i:=10) hl 16 (by kernel_rfl)
     obtain⟨hO,h5⟩:=hA gF
     have GF:=hid gF
     clear gF hA hB
     simp only[XF,XP,sel_of d6]at ha
     subst ha
     have H5:=hid h5
     clear h5
     rw[if_pos (by rfl)]
     go_simp
     refine Shut.out hK _ _ ⟨va,cc,dz,?_,fun _=>⟨hO,(fun h=>LsAt.off (H5.out (show l 5=true by rwa [upd_ne l (by decide)]at h)) (Off.refl (fun _=>False) wr) (fun _ _ _ c=>c))⟩,fun h=>absurd (show(true:Bool)=false from(show l 10=true by rwa [upd_ne l (by decide)]at h).symm.trans GF.out) (by decide)⟩
     simp only[XF,XP,sel_new,sel_dep d6]
     try rfl
   ·as_aux_lemma =>
     have d7:=hd 7 (by decide)
     have hx:=X41.out;subst hx
     have hx:=X42.out;subst hx
     have gF:l 10=false:=hc.not (i:=10) hl 16 (by kernel_rfl)
     obtain⟨hO,h5⟩:=hA gF
     have GF:=hid gF
     clear gF hA hB
     simp only[XF,XP,sel_of d7]at ha
     subst ha
     have H5:=hid h5
     clear h5
     rw[if_pos (by rfl)]
     go_simp
     refine Shut.out hK _ _ ⟨va,cc,dz,?_,fun _=>⟨hO,(fun h=>LsAt.off (H5.out (show l 5=true by rwa [upd_ne l (by decide)]at h)) (Off.refl (fun _=>False) wr) (fun _ _ _ c=>c))⟩,fun h=>absurd (show(true:Bool)=false from(show l 10=true by rwa [upd_ne l (by decide)]at h).symm.trans GF.out) (by decide)⟩
     simp only[XF,XP,sel_new,sel_dep d7]
     try rfl
   ·as_aux_lemma =>
     have d8:=hd 8 (by decide)
     have hx:=X42.out;subst hx
     have hx:=X43.out;subst hx
     have gF:l 10=false:=hc.not (i:=10) hl 16 (by kernel_rfl)
     obtain⟨hO,h5⟩:=hA gF
     have GF:=hid gF
     clear gF hA hB
     simp only[XF,XP,sel_of d8]at ha
     subst ha
     have H5:=hid h5
     clear h5
     have c1:=hO.cell HC1q.out (fun c=>c)
     have lb:=World.block_lt_of_cell? wr _ c1
     rw[if_pos (by rfl)]
     go_simp
     refine Shut.out hK _ _ ⟨va,cc,dz,?_,fun _=>⟨hO,(fun h=>LsAt.off (H5.out (show l 5=true by rwa [upd_ne l (by decide)]at h)) (Off.refl (fun _=>False) wr) (fun _ _ _ c=>c))⟩,fun h=>absurd (show(true:Bool)=false from(show l 10=true by rwa [upd_ne l (by decide)]at h).symm.trans GF.out) (by decide)⟩
     simp only[XF,XP,sel_new,sel_dep d8]
     try rfl
   ·as_aux_lemma =>
     have d0:=hd 0 (by decide)
     have d1:=hd 1 (by decide)
     have d2:=hd 2 (by decide)
     have d5:=hd 5 (by decide)
     have d9:=hd 9 (by decide)
     have hx:=X34.out;subst hx
     have hx:=X35.out;subst hx
     have hx:=X36.out;subst hx
     have hx:=X43.out;subst hx
     have hx:=X44.out;subst hx
     have gF:l 10=false:=hl
     obtain⟨hO,h5⟩:=hA gF
     have GF:=hid gF
     clear gF hA hB
     have g11:=hc.not (i:=11) hl 16 (by kernel_rfl)
     have g12:=hc.not (i:=12) hl 16 (by kernel_rfl)
     have g13:=hc.not (i:=13) hl 16 (by kernel_rfl)
     have g14:=hc.not (i:=14) hl 16 (by kernel_rfl)
     have g15:=hc.not (i:=15) hl 16 (by kernel_rfl)
     simp only[XF,XP,sel_of d0,sel_of d1,sel_of d2,sel_of d5,sel_of d9,sel_no g11,sel_no g12,sel_no g13,sel_no g14,sel_no g15,sel_no hl]at ha
     subst ha
     have G11:=hid g11
     clear g11
     have G12:=hid g12
     clear g12
     have G13:=hid g13
     clear g13
     have G14:=hid g14
     clear g14
     have G15:=hid g15
     clear g15
     have q5:=h5 d5
     have Q5:=hid q5
     clear q5
     have H5:=hid h5
     clear h5
     rw[if_pos (by rfl)]
     go_simp
     refine(FT.out wr va cc hO Q5.out).mono ?_
     rintro e w1 ⟨dz',rfl,hP1⟩
     go_wp2_with fail
     refine Shut.out hK _ _ ⟨va,cc,dz',?_,fun h=>absurd h (by rw[upd_same];decide),fun _=>⟨hP1.1,(hO.mono (fun _ _ c=>c.elim)).trans hP1.2 (fun _ _ c=>c)⟩⟩
     simp only[XF,XP,sel_new,sel_dep d0,sel_dep d1,sel_dep d2,sel_dep d5,sel_dep d9,sel_no (show upd l 10 11=false by rw[upd_ne l (by decide)];exact G11.out),sel_no (show upd l 10 12=false by rw[upd_ne l (by decide)];exact G12.out),sel_no (show upd l 10 13=false by rw[upd_ne l (by decide)];exact G13.out),sel_no (show upd l 10 14=false by rw[upd_ne l (by decide)];exact G14.out),sel_no (show upd l 10 15=false by rw[upd_ne l (by decide)];exact G15.out)]
     try rfl
   ·as_aux_lemma =>
     have d10:=hd 10 (by decide)
     have hx:=X44.out;subst hx
     have hx:=X33.out;subst hx
     simp only[XF,XP,sel_of d10]at ha
     subst ha
     rw[if_pos (by rfl)]
     go_simp
     refine Shut.out hK _ _ ⟨va,cc,dz,?_,fun h=>absurd (show(true:Bool)=false from d10.symm.trans (show l 10=false by rwa [upd_ne l (by decide)]at h)) (by decide),fun _=>hB d10⟩
     simp only[XF,XP,sel_new,sel_dep d10]
     try rfl
   ·as_aux_lemma =>
     have d11:=hd 11 (by decide)
     have hx:=X33.out;subst hx
     have hx:=X45.out;subst hx
     have d10:=hc.up 16 11 10 d11 (by kernel_rfl)
     simp only[XF,XP,sel_of d11,sel_of d10]at ha
     subst ha
     rw[if_pos (by rfl)]
     go_simp
     refine Shut.out hK _ _ ⟨va,cc,dz,?_,fun h=>absurd (show(true:Bool)=false from d10.symm.trans (show l 10=false by rwa [upd_ne l (by decide)]at h)) (by decide),fun _=>hB d10⟩
     simp only[XF,XP,sel_new,sel_dep d11,sel_dep d10]
     try rfl
   ·as_aux_lemma =>
     have d11:=hd 11 (by decide)
     have hx:=X33.out;subst hx
     have hx:=X46.out;subst hx
     have d10:=hc.up 16 11 10 d11 (by kernel_rfl)
     simp only[XF,XP,sel_of d11,sel_of d10]at ha
     subst ha
     rw[if_pos (by rfl)]
     go_simp
     refine Shut.out hK _ _ ⟨va,cc,dz,?_,fun h=>absurd (show(true:Bool)=false from d10.symm.trans (show l 10=false by rwa [upd_ne l (by decide)]at h)) (by decide),fun _=>hB d10⟩
     simp only[XF,XP,sel_new,sel_dep d11,sel_dep d10]
     try rfl
   ·as_aux_lemma =>
     have d12:=hd 12 (by decide)
     have hx:=X45.out;subst hx
     have hx:=X10.out;subst hx
     have d10:=hc.up 16 12 10 d12 (by kernel_rfl)
     simp only[XF,XP,sel_of d12,sel_of d10]at ha
     subst ha
     rw[if_pos (by rfl)]
     go_simp
     refine Shut.out hK _ _ ⟨va,cc,dz,?_,fun h=>absurd (show(true:Bool)=false from d10.symm.trans (show l 10=false by rwa [upd_ne l (by decide)]at h)) (by decide),fun _=>hB d10⟩
     simp only[XF,XP,sel_new,sel_dep d12,sel_dep d10]
     try rfl
   ·as_aux_lemma =>
     have d13:=hd 13 (by decide)
     have hx:=X46.out;subst hx
     have hx:=X11.out;subst hx
     have d10:=hc.up 16 13 10 d13 (by kernel_rfl)
     simp only[XF,XP,sel_of d13,sel_of d10]at ha
     subst ha
     rw[if_pos (by rfl)]
     go_simp
     refine Shut.out hK _ _ ⟨va,cc,dz,?_,fun h=>absurd (show(true:Bool)=false from d10.symm.trans (show l 10=false by rwa [upd_ne l (by decide)]at h)) (by decide),fun _=>hB d10⟩
     simp only[XF,XP,sel_new,sel_dep d13,sel_dep d10]
     try rfl
   rintro l a wc ⟨va,cc,dz,ha,hA,hB⟩ hd
   simp only[XF,XP,sel_of (hd 0 (by decide)),sel_of (hd 1 (by decide)),sel_of (hd 2 (by decide)),sel_of (hd 3 (by decide)),sel_of (hd 4 (by decide)),sel_of (hd 5 (by decide)),sel_of (hd 6 (by decide)),sel_of (hd 7 (by decide)),sel_of (hd 8 (by decide)),sel_of (hd 9 (by decide)),sel_of (hd 10 (by decide)),sel_of (hd 11 (by decide)),sel_of (hd 12 (by decide)),sel_of (hd 13 (by decide)),sel_of (hd 14 (by decide)),sel_of (hd 15 (by decide))]at ha
   subst ha
   have hx:=X10.out;subst hx
   have hx:=X11.out;subst hx
   have hPP:=hB (hd 10 (by decide))
   clear hA hB
   obtain⟨hN,hO⟩:=hPP
   obtain⟨S3',hs1,hs2⟩:=hN
   have hs1:=hs1.typed
   obtain⟨S3,hS3⟩:∃ S3:Nat->Prop,S3=fun k=>S3' k/\Typed wc k:=⟨_,rfl⟩
   rw[<-hS3]at hs1
   have HS3:=hid (show ∀ k,S3 k->(S k\/W1.heap.size<=k)/\Typed wc k from fun k h=>by
    rw[hS3]at h
    exact⟨(hs2 k h.1).elim (fun c=>(HS2.out k c).1) (fun c=>.inr (Nat.le_trans HOq.out.size c)),h.2⟩)
   have HT3:=hid hs1
   have HOc:=hid (show Off (fun b=>S b\/b=bx) W1 wc from HOq.out.trans hO (fun b hb c=>(HS2.out b c).1.elim .inl (fun c=>by omega)))
   have HRc:=hid (HRo.out _ _ _ _ _ HRq.out hO (fun b h=>(HS2.out b h).2))
   clear hs1 hs2 hS3 hO hd
   go_wp2_with fail
   rw[HE.out,Oper.upon_enter]
   refine(FF.out wc HRc.out HOc.out.size).mono ?_
   rintro e u5 ⟨rfl,hr,hO⟩
   have HEnd:=hid (show R W1.heap.size (j+1) u5/\(∃ S1,Tp u5 q (ext q es (alE n (T:Int) (j+1))) S1/\∀ b,S1 b->(S b\/W1.heap.size<=b)/\Typed u5 b)/\Off (fun b=>S b\/b=bx) W1 u5 from by
    refine⟨hr,?_,HOc.out.trans hO (fun b hb c=>c.elim .inr (fun c=>by omega))⟩
    have ht:=(HT3.out.off hO (fun k c d=>c.elim (fun e=>by subst e;exact(HS3.out _ d).1.elim HBx.out.2 (fun c=>by have:=HBx.out.1;have:=HO1.out.size;omega)) (fun c=>c.2 (HS3.out k d).2))).typed
    refine⟨_,?_,fun b (h:S3 b/\Typed u5 b)=>⟨(HS3.out b h.1).1,h.2⟩⟩
    rw[HE1.out.2,HE0.out.2,ext_ext,ext_ext]at ht
    exact ht)
   have w1:IntKind.i64.wrap ((j:Int)+1)=(j:Int)+1:=by rw[IntKind.wrap_i64];have:=HA.out.2.2.2.1;have:=HJ.out;omega
   clear hr hO
   go_wp2
   go_roundw
   case rel=>exact⟨j+1,HJ.out,rfl,HEnd.out⟩
   case measure=>simp[intOf];have:=HJ.out;omega
  obtain rfl:j=c:=by omega
  have i1:¬(j:Int)<(j:Int):=by omega
  have HEnd:=hid (show(∃ B,w.heap.size<=B/\R B j wr)/\Noted w.heap.size q es (alE n (T:Int) j) S wr/\Off (fun b=>S b\/b=bx) w wr from
   ⟨⟨_,HO1.out.size,hr⟩,⟨S1,ht1,fun b h=>(ht2 b h).1.imp id (fun c=>Nat.le_trans HO1.out.size c)⟩,(HO1.out.mono (fun _ _ c=>c.elim):Off (fun b=>S b\/b=bx) w W1).trans hO (fun _ _ c=>c)⟩)
  clear hr ht1 ht2 hO hlt hj
  go_wp2
  go_end0
  exact⟨rfl,HEnd.out⟩
end Go.Proofs.YtbkgghhngeibhaaGreatDoor
