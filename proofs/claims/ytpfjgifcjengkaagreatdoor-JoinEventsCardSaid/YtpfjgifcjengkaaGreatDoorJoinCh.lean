/-
  The contracts of package join's usedOf and forChunks over this seat's translation. Conditions: the shares lie in memory, outside of the tape; what the given function answers for a chunk is told.
-/
import Derived.Test.YtpfjgifcjengkaaGreatDoorJoinLow
import Derived.Test.YtpfjgifcjengkaaGreatDoorJoinRef
import Derived.Test.YtpfjgifcjengkaaGreatDoorLagBase
import Derived.Test.YtpfjgifcjengkaaGreatDoorParEnd
import Derived.Test.YtpfjgifcjengkaaGreatDoorInvAll
namespace Go.Proofs.YtpfjgifcjengkaaGreatDoor
open Lib (hid)
open Go.RowKit
attribute [local go_sem ↓] Go.wp_at_zero Go.wp_at_succ
set_option maxRecDepth 100000
set_option maxHeartbeats 4000000
theorem TabAt.offS17 {S:Nat->Prop} {w w':World} (h:TabAt w) (ho:Off S w w') (hN:¬S 0):TabAt w':=fun i v hv=>ho.cell (h i v hv) hN
theorem OwnL.lsT17 {B:Nat} {w:World} {v:Value} {ys:List Nat} (h:OwnL B w v ys) (hl:ys.length<=100000):LsAt w v ys (fun b=>b<w.heap.size/\¬Typed w b):=by
 rcases h with ⟨rfl,rfl⟩ | ⟨b,rfl,_,hN⟩
 ·exact⟨none,0,rfl,Nat.zero_le _,fun h=>by simp at h⟩
 exact⟨some ⟨b,0,none⟩,_,rfl,hl,fun _=>⟨b,0,rfl,⟨NumsAt.lt hN,not_typed hN⟩,fun j x hx=>by have:=NumsAt.cell hN hx;rw[Nat.zero_add];exact this⟩⟩
theorem fget_k17 {id:Int} (h:Kn id):∃ i r s,Fld id (modN id) i r s/\∀ W,TabAt W->Calls Tryz.prog 36 #[.int .i64 id] W fun e w'=>e=.returned (.tuple #[FV id (modN id) i r s,.int .i64 0])/\Off (fun _=>False) W w':=by
 rcases h with rfl | rfl
 ·exact⟨_,_,_,fld1,fun W hT=>fget_in 1 P1 (by decide) (by decide) rfl W hT⟩
 exact⟨_,_,_,fld2,fun W hT=>fget_in 2 P2 (by decide) (by decide) rfl W hT⟩
theorem used_any (l:List Sh) (a:Option Addr) (n cap:Nat) (hn:n=l.length) (hnc:n<=cap) (hl:n<=1000) (hpl:∀ s∈l,s.pl.length<=1000) (S:Nat->Prop) (w:World) (h:ShsAt w (.slice a n cap) l S) (hT:TabAt w) :
  Calls Tryz.prog 35 #[.slice a n cap] w fun e w'=>∃ v,e=.returned (.tuple #[v,.int .i64 (shsN l:Int)])/\(shsN l≠0->v=.slice none 0 0)/\(shsN l=0->∃ a',v=.slice a' (TJ l) cap/\ShsAt w' v (usJ l) S)/\Off (fun _=>False) w w':=by
 obtain⟨c,hc⟩:∃ c,c=shsN l:=⟨_,rfl⟩
 have FC:=hid (shares_par l a n cap hn (by omega) (fun s hs=>Nat.le_trans (hpl s hs) (by decide)) S w h hT)
 rw[<-hc]at FC ⊢
 by_cases h0:c=0
 ·subst h0
  have hA:=acc_hd hc.symm
  have hn0:0<n:=by have:=(List.getElem?_eq_some_iff.1 hA.first).1;omega
  obtain⟨s1,b,off,hsx,_,rfl,hSb,c0,c1,_⟩:=h.at (k:=0) hn0
  rw[hA.first]at hsx
  cases hsx
  simp only[Nat.zero_mul,Nat.add_zero]at c0 c1
  obtain⟨T,hTT⟩:∃ T,T=TJ l:=⟨_,rfl⟩
  have hth:(hd0 l).th=(T:Int):=by rw[hTT];unfold TJ;have:=hA.th1;omega
  have hTn:T<=n:=by rw[hTT,hn];exact hA.few
  obtain⟨a',hrun,hsh⟩:=shs_take (some ⟨b,off,none⟩) n cap T hTn hnc
  have hus:usJ l=l.take T:=by rw[hTT];rfl
  rw[hth]at c1
  rw[<-hTT,hus]
  have HSh:=hid hsh
  have HC1:=hid c1
  have HH:=hid h
  have hnn:(0:Int)<(n:Int):=by omega
  clear hc hA hTT hth hus hsh h hT hn hpl c0
  go_enter Tryz.func35,Tryz.ntmps35
  go_wp2_with fail
  refine FC.out.mono ?_
  rintro e u1 ⟨rfl,hO⟩
  have c1:=hO.cell HC1.out (fun c=>c)
  have lb:=World.block_lt_of_cell? u1 _ c1
  have HU:=hid (HSh.out _ _ _ (HH.out.off hO (fun _ _ _ c=>c)))
  have HO:=hid hO
  clear hO FC
  go_wp2
  refine bodyPost_ret (results_tmp2 rfl _ _ _) rfl ?_
  exact⟨_,rfl,fun h=>absurd rfl h,fun _=>⟨_,rfl,HU.out⟩,HO.out⟩
 have k1:((c:Int) != 0)=true:=by simp;omega
 have k3:¬(c:Int)=0:=by omega
 have H0:=hid h0
 clear hc h hT hn hpl h0
 go_enter Tryz.func35,Tryz.ntmps35
 go_wp2_with fail
 refine FC.out.mono ?_
 rintro e u1 ⟨rfl,hO⟩
 have HO:=hid hO
 clear hO FC
 go_wp2
 refine bodyPost_ret (results_tmp2 rfl _ _ _) rfl ?_
 exact⟨_,rfl,fun _=>rfl,fun h=>absurd h H0.out,HO.out⟩
def chsEv (ls:List Ev) (c:Nat):List Ev:=(List.range c).flatMap fun k:Nat=>((4:Int),(k:Int),(0:Int))::ls
theorem chsEv_succ (ls:List Ev) (c:Nat):chsEv ls (c+1)=chsEv ls c++([((4:Int),(c:Int),(0:Int))]++ls):=by simp[chsEv,List.range_succ]
theorem chsEv_len (ls:List Ev) (c:Nat):(chsEv ls c).length=c*(1+ls.length):=by
 induction c with
 | zero=>simp[chsEv]
 | succ c ih=>rw[chsEv_succ,List.length_append,ih,Nat.succ_mul,List.length_append,List.length_singleton]
def resSo (val:Nat->Nat) (c j:Nat):List Nat:=(List.range j).map val++List.replicate (c-j) 0
theorem resSo_length {val:Nat->Nat} {c j:Nat} (hj:j<=c):(resSo val c j).length=c:=by simp[resSo];omega
theorem resSo_next {val:Nat->Nat} {c j:Nat} (hj:j<c):(resSo val c j).set j (val j)=resSo val c (j+1):=by
 unfold resSo
 rw[List.range_succ,show c-j=(c-(j+1))+1 by omega,List.replicate_succ]
 rw[List.set_append_right _ _ (by simp),List.length_map,List.length_range,Nat.sub_self,List.set_cons_zero]
 simp
theorem resSo_all {val:Nat->Nat} {c:Nat}:resSo val c c=(List.range c).map val:=by simp[resSo]
theorem chunks_any (cf:FuncId) (cps:Array Value) (hE:∀ (v:Value) W,Sem.run Tryz.prog (callFunc cf (#[v]++cps)) W=.ok (.enter cf (#[v]++cps)) W) (ls:List Ev) (val:Nat->Nat) (u:List Sh) (c:Nat) (hc:∀ s,u[0]?=some s->s.pl.length=c) (hc2:c<=1000) (a:Option Addr) (n cap:Nat) (hn:n=u.length) (h0:0<n) (hl:n<=90) (q:Option Addr) (es:List Ev) (S Sl:Nat->Prop) (w:World)
  (h:ShsAt w (.slice a n cap) u Sl) (hSl:∀ b,Sl b->b<w.heap.size/\¬S b) (hS:Tp w q es S) (hes:es.length+c*(1+ls.length)<=50000)
  (hF:∀ k,k<c->∀ W v esk Sk,Off S w W->(∀ b,Sk b->S b\/w.heap.size<=b)->Tp W q esk Sk->(∀ b,Sk b->Typed W b)->LsAt W v (colN u (k:Int)) (fun b=>b<W.heap.size/\¬Sk b)->esk.length+ls.length<=50000 ->
   Calls Tryz.prog cf (#[v]++cps) W fun e w'=>e=.returned (V (val k))/\Noted W.heap.size q esk ls Sk w'/\Off Sk W w') :
  Calls Tryz.prog 39 #[.pointer q,.slice a n cap,.func (.func cf) #[] cps] w fun e w'=>∃ b2,e=.returned (.slice (some ⟨b2,0,none⟩) c c)/\w.heap.size<=b2/\NumsAt w' b2 34 ((List.range c).map val)/\Noted w.heap.size q es (chsEv ls c) S w'/\Off S w w':=by
 have hmk:=run_make_el c (by omega)
 obtain⟨s1,b,off,hsx,hsok,rfl,hSb,c0,c1,c2,c3,pa,pc,c4,hpc,_⟩:=h.at (k:=0) h0
 rw[hc s1 hsx]at c4 hpc
 simp only[Nat.zero_mul,Nat.add_zero]at c0 c1 c2 c3 c4
 have lb:=World.block_lt_of_cell? w _ c0
 have hnn:(0:Int)<(n:Int):=by omega
 obtain⟨W0,hW0⟩:∃ W0,W0=w.alloc (.cells (flat4 (List.replicate c 0)).toArray 34):=⟨_,rfl⟩
 obtain⟨bx,hbx⟩:∃ bx,bx=w.heap.size:=⟨_,rfl⟩
 have HA0:=hid (show NumsAt W0 bx 34 (resSo val c 0) by rw[hW0,hbx];unfold resSo;exact heap_new' (by simp) _)
 have HO0:=hid (show Off (fun _=>False) w W0 by rw[hW0];exact(Off.refl _ w).alloc _)
 have HW0:=hid hW0
 have HBx:=hid hbx
 have HT0:=hid (hS.off0 HO0.out)
 have HH:=hid h
 have HSl:=hid hSl
 have HS:=hid hS
 have HF:=hid hF
 have HEs:=hid hes
 have HC2:=hid hc2
 have HE:=hid hE
 clear hE
 have HN:=hid (And.intro hn hl)
 clear hW0 hbx h hSl hS hF hes hc2 hn hl hc hsx hsok hpc
 go_enter Tryz.func39,Tryz.ntmps39
 go_wp2_with fail
 rw[<-HW0.out,<-HBx.out]
 clear c0 c1 c2 c3 c4 lb hmk
 go_loopw [17] (fun i wr=>∃ j:Nat,j<=c/\i=.int .i64 j/\NumsAt wr bx 34 (resSo val c j)/\(∃ S1,Tp wr q (ext q es (chsEv ls j)) S1/\∀ b,S1 b->S b\/bx+1<=b)/\Off S w wr) (fun i _=>c-(intOf i).toNat)
 case atStart=>exact⟨0,Nat.zero_le _,rfl,HA0.out,⟨S,by rw[show chsEv ls 0=[] from rfl,ext_nil];exact HT0.out,fun b c=>.inl c⟩,HO0.out.mono (fun _ _ c=>c.elim)⟩
 case round =>
  obtain⟨j,hj,rfl,ha,⟨S1,ht1,ht2⟩,hO⟩:=hrel
  by_cases hlt:j<c
  ·have FN:=hid (note_ext q _ S1 wr ht1 (by have:=ext_le q es (chsEv ls j);rw[chsEv_len]at this;have h1:=HEs.out;have h2:=Nat.mul_le_mul_right (1+ls.length) (Nat.le_of_lt hlt);omega) ((4:Int),(j:Int),(0:Int)))
   have hjc:(j:Int)<(c:Int):=by omega
   have hwz:∀ b,b<w.heap.size->S1 b->S b:=fun b hb c=>(ht2 b c).elim (fun c=>c) (fun c=>by have:=HBx.out;omega)
   have HA:=hid ha
   have HO:=hid hO
   have HT2:=hid ht2
   have HWz:=hid hwz
   have HK:=hid hlt
   clear ha ht1 ht2 hO hwz hj hlt
   go_wp2_with fail
   refine FN.out.mono ?_
   rintro e u1 ⟨rfl,hN,hO⟩
   obtain⟨S2,hs1,hs2⟩:=hN
   have hwr:=HA.out.lt
   have hs3:∀ b,S2 b->S b\/bx+1<=b:=fun b c=>(hs2 b c).elim (HT2.out b) (fun c=>.inr (by omega))
   have hbS:¬S bx:=fun c=>by have:=HS.out.2 _ c;have:=HBx.out;omega
   have hOu:Off S w u1:=HO.out.trans hO HWz.out
   have ha1:=HA.out.off hO (fun c=>(HT2.out _ c).elim hbS (fun c=>by omega))
   have hh1:=HH.out.off hOu (fun b _ c=>(HSl.out b c).2)
   have FC:=hid (column_par u (some ⟨b,off,none⟩) n cap HN.out.1 (by have:=HN.out.2;omega) (j:Int) (by unfold I64;exact WalkArith.wf_i64 (by have:=HC2.out;have:=HK.out;omega)) Sl u1 hh1)
   have HA1:=hid ha1
   have HOu:=hid hOu
   have HT1:=hid hs1
   have HS3:=hid hs3
   have HBS:=hid hbS
   clear hs1 hs2 hs3 hO hOu ha1 hh1 hwr hbS FN
   go_wp2_with fail
   refine FC.out.mono ?_
   rintro e u2 ⟨v2,rfl,hcol,hO⟩
   have ht:=(HT1.out.off0 hO).typed
   obtain⟨S3,hS3⟩:∃ S3:Nat->Prop,S3=fun k=>S2 k/\Typed u2 k:=⟨_,rfl⟩
   rw[<-hS3]at ht
   have hs3:∀ b,S3 b->S b\/bx+1<=b:=fun b c=>HS3.out b (by rw[hS3]at c;exact c.1)
   have hty:∀ b,S3 b->Typed u2 b:=fun b c=>by rw[hS3]at c;exact c.2
   have hOu2:=HOu.out.trans hO (fun _ _ c=>c.elim)
   have hcl:LsAt u2 v2 (colN u (j:Int)) (fun b=>b<u2.heap.size/\¬S3 b):=hcol.mono (fun k hk hb=>⟨hk,fun c=>by
    rw[hS3]at c
    have:=HT1.out.2 k c.1
    omega⟩)
   have hle:(ext q (ext q es (chsEv ls j)) [((4:Int),(j:Int),(0:Int))]).length+ls.length<=50000:=by
    have h0:=ext_le q es (chsEv ls j)
    have h1:=ext_le q (ext q es (chsEv ls j)) [((4:Int),(j:Int),(0:Int))]
    rw[chsEv_len]at h0
    have h2:=HEs.out
    have h3:=Nat.mul_le_mul_right (1+ls.length) HK.out
    rw[Nat.succ_mul]at h3
    simp at h1
    omega
   have FF:=hid (HF.out j HK.out u2 v2 _ S3 hOu2 (fun b c=>(hs3 b c).imp id (fun c=>by have:=HBx.out;omega)) ht hty hcl hle)
   have HA2:=hid (HA1.out.off hO (fun c=>c))
   have HOu2:=hid hOu2
   have HS3':=hid hs3
   clear ht hS3 hs3 hty hOu2 hcl hle hcol hO FC HA1 HT1 HS3
   go_wp2_with fail
   rw[HE.out,Oper.upon_enter]
   refine FF.out.mono ?_
   rintro e u3 ⟨rfl,hN,hO⟩
   have ha2:=HA2.out.off hO (fun c=>(HS3'.out _ c).elim HBS.out (fun c=>by omega))
   obtain⟨y0,hy0⟩:∃ y,(resSo val c j)[j]?=some y:=⟨_,List.getElem?_eq_getElem (by rw[resSo_length (Nat.le_of_lt HK.out)];exact HK.out)⟩
   obtain⟨m0,m1,m2,m3⟩:=NumsAt.cell ha2 hy0
   have fz:=fun j=>NumsAt.frozen ha2 j
   have lt3:=ha2.lt
   have hst:=NumsAt.store ha2 (j:=j) (by rw[resSo_length (Nat.le_of_lt HK.out)];exact HK.out) (val j)
   rw[resSo_next HK.out]at hst
   have hOo:Off S w u3:=HOu2.out.trans hO (fun b hb c=>(HS3'.out b c).elim (fun c=>c) (fun c=>by have:=HBx.out;omega))
   obtain⟨S4,h1,h2⟩:=hN
   have h4:¬S4 bx:=fun c=>(h2 _ c).elim (fun c=>(HS3'.out _ c).elim HBS.out (fun c=>by omega)) (fun c=>by have:=HA2.out.lt;omega)
   have HTp:=hid (show ∃ S1,Tp (u3.setCells bx (j*4) (words4 (val j))) q (ext q es (chsEv ls (j+1))) S1/\∀ b,S1 b->S b\/bx+1<=b from⟨S4,by
    have h5:=Tp.off h1 (setCells_off bx (words4 (val j)) (j*4) u3) (fun k c d=>by subst c;exact h4 d)
    rw[ext_ext,ext_ext,<-chsEv_succ]at h5
    exact h5,fun b c=>(h2 b c).elim (HS3'.out b) (fun c=>.inr (by have:=HA2.out.lt;omega))⟩)
   have HSt:=hid hst
   have HOo:=hid (setCells_in_at hOo (b:=bx) (o:=j*4) (fun h=>by have:=HBx.out;omega) (words4 (val j)))
   have w1:IntKind.i64.wrap ((j:Int)+1)=(j:Int)+1:=by rw[IntKind.wrap_i64];have:=HC2.out;have:=HK.out;omega
   obtain⟨z,hz⟩:∃ z,z=val j:=⟨_,rfl⟩
   rw[<-hz]at HTp HSt HOo ⊢
   clear ha2 hy0 hst hO hOo h1 h2 h4 FF hz HA2 HOu2
   go_wp2
   go_roundw
   case rel=>exact⟨j+1,HK.out,rfl,HSt.out,HTp.out,HOo.out⟩
   case measure=>simp[intOf];have:=HK.out;omega
  obtain rfl:j=c:=by omega
  have i1:¬(j:Int)<(j:Int):=by omega
  rw[resSo_all]at ha
  have HA1:=hid ha
  have HO1:=hid hO
  have HTp:=hid (show Noted w.heap.size q es (chsEv ls j) S wr from⟨S1,ht1,fun b c=>(ht2 b c).elim .inl (fun c=>.inr (by have:=HBx.out;omega))⟩)
  have HBl:=hid (show w.heap.size<=bx by rw[HBx.out];exact Nat.le_refl _)
  clear ha hO ht1 ht2 hlt hj
  go_wp2
  exact bodyPost_ret (v:=.slice (some ⟨bx,0,none⟩) j j) (by simp[results,Tryz.results39,go_sem]) rfl ⟨_,rfl,HBl.out,HA1.out,HTp.out,HO1.out⟩
end Go.Proofs.YtpfjgifcjengkaaGreatDoor
