/-
  The contract of degree's Below, with any tape. Conditions: the list is short, its numbers have four words, and it lies outside the tape; the tape has room for the events.
  The contract of degree's Fits, with any tape. Conditions: the field's constants are those of its modulus, there are at most 90 points, the lists lie outside the tape, which has room for the events.
-/
import Derived.Test.YtbkgghhngeibhaaGreatDoorDegEv
import Derived.Test.YtbkgghhngeibhaaGreatDoorDegPlain
import Derived.Test.YtbkgghhngeibhaaGreatDoorLagProg
namespace Go.Proofs.YtbkgghhngeibhaaGreatDoor
open Lib (hid)
section
open Go.RowKit
def wds (l:List Nat):List Int:=l.flatMap (fun x=>[(wd x 0:Int),(wd x 1:Int),(wd x 2:Int),(wd x 3:Int)])
theorem wds_word (l:List Nat):∀ x∈wds l,Word x:=by
 intro x hx
 obtain⟨y,_,h⟩:=List.mem_flatMap.1 hx
 simp only[List.mem_cons,List.not_mem_nil,or_false]at h
 rcases h with rfl | rfl | rfl | rfl <;> exact wd_word _ _
theorem wds_zero (l:List Nat) (h:∀ z∈l,z<R256):zeroB (wds l)=l.all (·==0):=by
 induction l with
 | nil=>rfl
 | cons x r ih =>
  have h1:=wd_zero_all (h x (List.mem_cons_self ..))
  have h2:=ih (fun z hz=>h z (List.mem_cons_of_mem _ hz))
  have e:zeroB (wds (x::r))=(zeroB [(wd x 0:Int),(wd x 1:Int),(wd x 2:Int),(wd x 3:Int)]&&zeroB (wds r)):=by
   show zeroB ([(wd x 0:Int),(wd x 1:Int),(wd x 2:Int),(wd x 3:Int)]++wds r)=_
   unfold zeroB;rw[List.all_append]
  rw[e,h1,h2,List.all_cons]
  congr 1
theorem blE_none (n:Nat) (k:Int) (h:n<=k.toNat):blE n k=[]:=by
 unfold blE
 rw[List.map_eq_nil_iff,List.filter_eq_nil_iff]
 intro i hi
 have:=List.mem_range.1 hi
 simp;omega
theorem wds_step (zs:List Nat) (K j:Nat) (z:Nat) (hz:zs[j]?=some z) (hk:K<=j):wds ((zs.take (j+1)).drop K)=wds ((zs.take j).drop K)++[(wd z 0:Int),(wd z 1:Int),(wd z 2:Int),(wd z 3:Int)]:=by
 obtain⟨hj,he⟩:=List.getElem?_eq_some_iff.1 hz
 rw[List.take_succ_eq_append_getElem hj,he,List.drop_append_of_le_length (by rw[List.length_take];omega)]
 unfold wds
 rw[List.flatMap_append];simp
set_option maxRecDepth 100000 in
set_option maxHeartbeats 4000000 in
theorem below_any (zs:List Nat) (hz:∀ z∈zs,z<R256) (n cap:Nat) (a:Option Addr) (hn:n=zs.length) (hn2:n<=1000) (k:Int) (q:Option Addr) (es:List Ev) (S Sl:Nat->Prop) (w:World)
  (hL:LsAt w (.slice a n cap) zs Sl) (hSl:∀ b,Sl b->b<w.heap.size/\¬S b) (hS:Tp w q es S) (hl:es.length<=70000) :
  Calls Tryz.prog 89 #[.pointer q,.slice a n cap,.int .i64 k] w fun e w'=>e=.returned (.int .u64 (mk (lowV zs k.toNat)))/\Noted w.heap.size q es (blE n k) S w'/\Off S w w':=by
 obtain⟨K,hK⟩:∃ K:Nat,K=k.toNat:=⟨_,rfl⟩
 have HM:Hid (max k 0=(K:Int)):=hid (by omega)
 have HK:=hid hK
 have HN:=hid hn
 have HSl:=hid hSl
 have HZ:=hid hz
 have hN0:Noted w.heap.size q es (blE K k) S w:=by rw[blE_none K k (by omega)];exact hS.noted _
 have HN0:=hid hN0
 have HL0:=hid hL
 have HSw:=hid hS.2
 rw[<-hK]
 clear hK hn hSl hz hN0 hL hS
 go_enter Tryz.func89,Tryz.ntmps89
 go_wp2
 go_loopw [7,8] (fun t i wr=>∃ j:Nat,K<=j/\(j<=n\/j=K)/\i=.int .i64 j/\t=.int .u64 (orAll (wds ((zs.take j).drop K)))/\Noted w.heap.size q es (blE j k) S wr/\LsAt wr (.slice a n cap) zs Sl/\Off S w wr) (fun _ i _=>n-(intOf i).toNat)
 case atStart=>exact⟨K,Nat.le_refl _,.inr rfl,by have:=HM.out;simp[*],by rw[List.drop_eq_nil_of_le (by rw[List.length_take];omega)];rfl,HN0.out,HL0.out,Off.refl _ w⟩
 case round =>
  obtain⟨j,hKj,hj,rfl,rfl,hN,hL,hO⟩:=hrel
  obtain⟨l0,hl0⟩:∃ l,l=wds ((zs.take j).drop K):=⟨_,rfl⟩
  have hw0:∀ x∈l0,Word x:=by rw[hl0];exact wds_word _
  rw[<-hl0]
  by_cases hlt:j<n
  ·obtain⟨z,hzj⟩:∃ z,zs[j]?=some z:=⟨_,List.getElem?_eq_getElem (by have:=HN.out;omega)⟩
   obtain⟨S',t1,t2⟩:=hN
   have hnote:=note_ext q (ext q es (blE j k)) S' wr t1 (by have h1:=ext_le q es (blE j k);have h2:=blE_le j k;omega) ((2:Int),(j:Int),(0:Int))
   have hjn:(j:Int)<(n:Int):=by omega
   obtain⟨b,off,rfl,hSb,_⟩:=hL.get hzj
   have hlw:=hO.size
   have HL:=hid hL
   have HO:=hid hO
   have HT2:=hid t2
   have HW0:=hid hw0
   have HW:=hid (show wds ((zs.take (j+1)).drop K)=l0++[(wd z 0:Int),(wd z 1:Int),(wd z 2:Int),(wd z 3:Int)] by rw[hl0];exact wds_step zs K j z hzj hKj)
   have HZj:=hid hzj
   have HKj:=hid hKj
   clear hL hO t1 t2 hw0 hl0 hzj hSb hKj hj
   go_wp2_with fail
   refine hnote.mono ?_
   rintro r1 A0 ⟨rfl,hN2,hO2⟩
   clear hnote
   have hL2:=HL.out.off hO2 (fun c hc hs d=>(HT2.out c d).elim (HSl.out c hs).2 (fun e=>by have:=(HSl.out c hs).1;omega))
   obtain⟨b',off',hbe,_,c0,c1,c2,c3⟩:=hL2.get HZj.out
   cases hbe
   have HN3:=hid (show Noted w.heap.size q es (blE (j+1) k) S A0 by
    obtain⟨S2,u1,u2⟩:=hN2
    rw[ext_ext]at u1
    rw[blE_next,if_pos (by have:=HKj.out;have:=HK.out;omega)]
    exact⟨S2,u1,fun c d=>(u2 c d).elim (HT2.out c) (fun e=>.inr (by omega))⟩)
   have HO3:=hid (show Off S w A0 from HO.out.trans hO2 (fun c hc d=>(HT2.out c d).elim id (fun e=>by omega)))
   have HL2:=hid hL2
   clear hN2 hO2 hL2 HL HO HT2 hlw
   go_wp2
   clear c0 c1 c2 c3
   go_loop [7,26] (fun t i=>∃ m:Nat,m<=4/\i=.int .i64 m/\t=.int .u64 (orAll (l0++[(wd z 0:Int),(wd z 1:Int),(wd z 2:Int),(wd z 3:Int)].take m))) (fun _ i=>4-(intOf i).toNat)
   case atStart=>exact⟨0,by omega,rfl,by simp⟩
   case round =>
    obtain⟨m,hm,rfl,rfl⟩:=hrel
    have hws:∀ m,∀ x∈l0++[(wd z 0:Int),(wd z 1:Int),(wd z 2:Int),(wd z 3:Int)].take m,Word x:=fun m x hx=>(List.mem_append.1 hx).elim (HW0.out x) (fun h=>by
     have h:=List.mem_of_mem_take h
     simp only[List.mem_cons,List.not_mem_nil,or_false]at h
     rcases h with rfl | rfl | rfl | rfl <;> exact wd_word _ _)
    have h4:m=0\/m=1\/m=2\/m=3\/m=4:=by omega
    rcases h4 with rfl | rfl | rfl | rfl | rfl
    ·have hs:=orAll_snoc _ (wd z 0:Int) (hws 0) (wd_word _ _)
     have ix:∀ W,(Instr.index 66 (.agg #[.int .u64 (wd z 0),.int .u64 (wd z 1),.int .u64 (wd z 2),.int .u64 (wd z 3)]) (.int .i64 0)).run Tryz.prog W=.ok (.int .u64 (wd z 0)) W:=fun _=>by kernel_rfl
     obtain⟨x,hx⟩:∃ x,x=orAll (l0++[(wd z 0:Int),(wd z 1:Int),(wd z 2:Int),(wd z 3:Int)].take 0):=⟨_,rfl⟩
     rw[<-hx]at hs ⊢
     have Hs:=hid hs
     clear hs hws hx
     go_wp2
     go_round
     case rel=>exact⟨1,by omega,rfl,by rw[Hs.out,List.append_assoc];rfl⟩
     case measure=>simp[intOf]
    ·have hs:=orAll_snoc _ (wd z 1:Int) (hws 1) (wd_word _ _)
     have ix:∀ W,(Instr.index 66 (.agg #[.int .u64 (wd z 0),.int .u64 (wd z 1),.int .u64 (wd z 2),.int .u64 (wd z 3)]) (.int .i64 1)).run Tryz.prog W=.ok (.int .u64 (wd z 1)) W:=fun _=>by kernel_rfl
     obtain⟨x,hx⟩:∃ x,x=orAll (l0++[(wd z 0:Int),(wd z 1:Int),(wd z 2:Int),(wd z 3:Int)].take 1):=⟨_,rfl⟩
     rw[<-hx]at hs ⊢
     have Hs:=hid hs
     clear hs hws hx
     go_wp2
     go_round
     case rel=>exact⟨2,by omega,rfl,by rw[Hs.out,List.append_assoc];rfl⟩
     case measure=>simp[intOf]
    ·have hs:=orAll_snoc _ (wd z 2:Int) (hws 2) (wd_word _ _)
     have ix:∀ W,(Instr.index 66 (.agg #[.int .u64 (wd z 0),.int .u64 (wd z 1),.int .u64 (wd z 2),.int .u64 (wd z 3)]) (.int .i64 2)).run Tryz.prog W=.ok (.int .u64 (wd z 2)) W:=fun _=>by kernel_rfl
     obtain⟨x,hx⟩:∃ x,x=orAll (l0++[(wd z 0:Int),(wd z 1:Int),(wd z 2:Int),(wd z 3:Int)].take 2):=⟨_,rfl⟩
     rw[<-hx]at hs ⊢
     have Hs:=hid hs
     clear hs hws hx
     go_wp2
     go_round
     case rel=>exact⟨3,by omega,rfl,by rw[Hs.out,List.append_assoc];rfl⟩
     case measure=>simp[intOf]
    ·have hs:=orAll_snoc _ (wd z 3:Int) (hws 3) (wd_word _ _)
     have ix:∀ W,(Instr.index 66 (.agg #[.int .u64 (wd z 0),.int .u64 (wd z 1),.int .u64 (wd z 2),.int .u64 (wd z 3)]) (.int .i64 3)).run Tryz.prog W=.ok (.int .u64 (wd z 3)) W:=fun _=>by kernel_rfl
     obtain⟨x,hx⟩:∃ x,x=orAll (l0++[(wd z 0:Int),(wd z 1:Int),(wd z 2:Int),(wd z 3:Int)].take 3):=⟨_,rfl⟩
     rw[<-hx]at hs ⊢
     have Hs:=hid hs
     clear hs hws hx
     go_wp2
     go_round
     case rel=>exact⟨4,by omega,rfl,by rw[Hs.out,List.append_assoc];rfl⟩
     case measure=>simp[intOf]
    clear hws
    rw[show([(wd z 0:Int),(wd z 1:Int),(wd z 2:Int),(wd z 3:Int)].take 4)=[(wd z 0:Int),(wd z 1:Int),(wd z 2:Int),(wd z 3:Int)] from rfl,<-HW.out]
    obtain⟨x,hx⟩:∃ x,x=orAll (wds ((zs.take (j+1)).drop K)):=⟨_,rfl⟩
    rw[<-hx]
    have HX:=hid hx
    have hwj:IntKind.i64.wrap ((j:Int)+1)=(j:Int)+1:=by rw[IntKind.wrap_i64];omega
    clear hx
    go_wp2
    go_roundw
    case rel=>exact⟨j+1,by have:=HKj.out;omega,.inl (by omega),by simp,by rw[HX.out],HN3.out,HL2.out,HO3.out⟩
    case measure=>simp[intOf] <;> omega
  have hjn:¬(j:Int)<(n:Int):=by omega
  have hTw:Word (orAll l0):=orAll_word _ hw0
  have hfull:zs.take j=zs:=List.take_of_length_le (by have:=HN.out;omega)
  have hz0:zeroB [orAll l0]=lowV zs K:=by
   have h1:=orAll_zero l0 hw0
   have h2:zeroB l0=lowV zs K:=by
    rw[hl0,hfull,wds_zero _ (fun z hz=>HZ.out z (List.mem_of_mem_drop hz))];rfl
   rw[<-h2,<-h1];simp[zeroB]
  have hbl:blE j k=blE n k:=by
   rcases hj with hj | hj
   ·rw[show j=n by omega]
   rw[hj,blE_none K k (by have:=HK.out;omega),blE_none n k (by have:=HK.out;omega)]
  rw[hbl]at hN
  obtain⟨x,hx⟩:∃ x,x=orAll l0:=⟨_,rfl⟩
  rw[<-hx]at hTw hz0 ⊢
  have hWd:Words (wr.alloc (.cells #[.int .u64 x] 62)) (.slice (some ⟨wr.heap.size,0,none⟩) 1 1) [x] :=
   ⟨_,_,rfl,by simp,fun y hy=>by rw[List.mem_singleton.1 hy];exact hTw,fun _=>⟨_,_,rfl,fun i hi=>by
    obtain rfl:i=0:=by simpa using hi
    rw[cell_of_heap (heap_new' rfl _)];rfl⟩⟩
  have HWd:=hid (iszero_any [x] _ _ hWd)
  have HZ0:=hid hz0
  have HN4:=hid (show Noted w.heap.size q es (blE n k) S (wr.alloc (.cells #[.int .u64 x] 62)) by
   obtain⟨S',t1,t2⟩:=hN
   exact⟨S',t1.off0 ((Off.refl _ wr).alloc _),t2⟩)
  have HO4:=hid (hO.alloc (.cells #[.int .u64 x] 62))
  clear hN hO hL hx hl0 hw0 hTw hfull hz0 hbl hj hWd hKj
  go_wp2_with fail
  refine HWd.out.mono ?_
  rintro e W9 ⟨rfl,rfl⟩
  go_wp2
  go_ret
  exact⟨ret_u64 (by rw[HZ0.out]),HN4.out,HO4.out⟩
end
section
open Go.RowKit
def fitM (p:Nat) (xs:List Int) (ys:List Nat) (k:Int):Int:=mk (lowV (itpL p (ptV xs) ys) k.toNat)
theorem low_fm {p:Nat} (h:Mp p) (h0:0<p) (cs:List Nat) (hc:∀ c∈cs,c<p) (K:Nat):lowV (cs.map (fm p)) K=lowV cs K:=by
 unfold lowV
 rw[<-List.map_drop,List.all_map]
 have key:∀ c∈cs.drop K,fm p c=0↔c=0:=fun c hm=>⟨fun e=>fm_inj h (hc c (List.mem_of_mem_drop hm)) h0 (by rw[e,fm_zero]),fun e=>by rw[e,fm_zero]⟩
 rw[Bool.eq_iff_iff,List.all_eq_true,List.all_eq_true]
 constructor
 ·intro g c hm
  have:=g c hm
  simp only[Function.comp,beq_iff_eq]at this
  rw[beq_iff_eq];exact(key c hm).1 this
 intro g c hm
 have:=g c hm
 rw[beq_iff_eq]at this
 simp only[Function.comp,beq_iff_eq];exact(key c hm).2 this
theorem OwnL.lsT {B:Nat} {w:World} {v:Value} {ys:List Nat} (h:OwnL B w v ys) (hl:ys.length<=100000):LsAt w v ys (fun b=>b<w.heap.size/\¬Typed w b):=by
 rcases h with ⟨rfl,rfl⟩ | ⟨b,rfl,_,hN⟩
 ·exact⟨none,0,rfl,Nat.zero_le _,fun h=>by simp at h⟩
 exact⟨some ⟨b,0,none⟩,_,rfl,hl,fun _=>⟨b,0,rfl,⟨NumsAt.lt hN,not_typed hN⟩,fun j x hx=>by have:=NumsAt.cell hN hx;rw[Nat.zero_add];exact this⟩⟩
set_option maxRecDepth 100000 in
set_option maxHeartbeats 4000000 in
theorem fits_any {id:Int} {p i0 r s:Nat} (hF:Fld id p i0 r s) (xs:List Int) (hc:chkV xs=0) (n:Nat) (hn:n=xs.length) (hl:n<=90) (ys:List Nat) (hy:n=ys.length) (k:Int) (q:Option Addr) (es:List Ev) (S Sl:Nat->Prop) (a2 a:Option Addr) (cap2 cap:Nat) (w:World) (hV:Iv w (.slice a2 n cap2) xs)
  (hL:LsAt w (.slice a n cap) (ys.map (fm p)) Sl) (hSl:∀ b,Sl b->b<w.heap.size/\¬S b) (hS:Tp w q es S) (hl2:es.length<=50000) :
  Calls Tryz.prog 67 #[.pointer q,FV id p i0 r s,.slice a2 n cap2,.slice a n cap,.int .i64 k] w fun e w'=>e=.returned (.tuple #[.int .u64 (fitM p xs ys k),.int .i64 0])/\Noted w.heap.size q es (ftE n k) S w'/\Off S w w':=by
 have hp:=hF.mp.lt
 have h1:=hF.mp.one
 obtain⟨M,hM⟩:∃ M,M=fitM p xs ys k:=⟨_,rfl⟩
 obtain⟨cs,hcs⟩:∃ cs,cs=itpL p (ptV xs) ys:=⟨_,rfl⟩
 have hcl:cs.length=n:=by rw[hcs,itpL,itpF_length p _ _ _ (Nat.le_refl _),ptV_length,hn]
 have hcp:∀ c∈cs,c<p:=by rw[hcs];exact itpF_lt (by omega) _ _ _
 have hMc:mk (lowV (cs.map (fm p)) k.toNat)=M:=by rw[low_fm hF.mp (by omega) cs hcp,hM,hcs];rfl
 have HI:=hid (show ∀ W,Off (fun _=>False) w W->Calls Tryz.prog 88 #[.pointer q,FV id p i0 r s,.slice a2 n cap2,.slice a n cap] W fun e w'=>∃ u,e=.returned (.tuple #[u,.int .i64 0])/\OwnL W.heap.size w' u (cs.map (fm p))/\Noted W.heap.size q es (iE n) S w'/\Off S W w' from fun W h=>by
  have g:=itp_ok hF xs hc n hn hl ys hy q es S Sl a2 a cap2 cap W (hV.off h) (hL.off h (fun _ _ _ c=>c)) (fun b hb=>⟨Nat.lt_of_lt_of_le (hSl b hb).1 h.size,(hSl b hb).2⟩) (hS.off0 h) hl2
  rw[<-hcs]at g;exact g)
 have hzR:∀ z∈cs.map (fm p),z<R256:=by
  intro z hz
  obtain⟨c,_,rfl⟩:=List.mem_map.1 hz
  exact Nat.lt_trans (fm_lt (by omega) c) hp
 obtain⟨zs,hzs⟩:∃ zs,zs=cs.map (fm p):=⟨_,rfl⟩
 have hzl:n=zs.length:=by rw[hzs,List.length_map,hcl]
 rw[<-hzs]at HI hMc hzR
 rw[<-hM]
 have HZR:=hid hzR
 have HZl:=hid hzl
 have HM:=hid hMc
 have HS:=hid hS.2
 clear hF hV hL hSl hS hM hcs hcl hcp hMc hzR hzs hzl hc hn hy hp h1
 go_enter Tryz.func67,Tryz.ntmps67
 go_wp2_with fail
 obtain⟨W1,hW1⟩:∃ W1,W1=(w.alloc (.cells #[.int .i64 id,.int .u64 (wd p 0),.int .u64 (wd p 1),.int .u64 (wd p 2),.int .u64 (wd p 3),.int .u64 i0,.int .u64 (wd r 0),.int .u64 (wd r 1),.int .u64 (wd r 2),.int .u64 (wd r 3),.int .u64 (wd s 0),.int .u64 (wd s 1),.int .u64 (wd s 2),.int .u64 (wd s 3)] 104)):=⟨_,rfl⟩
 have hO1:Off (fun _=>False) w W1:=by rw[hW1];exact(Off.refl _ w).alloc _
 rw[<-hW1]
 refine(HI.out W1 hO1).mono ?_
 rintro e w2 ⟨u,rfl,hu,hN,hO2⟩
 have hs1:=hO1.size
 clear hW1
 obtain⟨S',t1,t2⟩:=hN
 have hLu:=hu.lsT (by have:=HZl.out;omega)
 have hus:∃ ua uc,u=.slice ua n uc:=by
  rcases hu with ⟨h0,rfl⟩ | ⟨b,rfl,_⟩
  ·exact⟨none,0,by have:=HZl.out;rw[h0]at this;rw[this];rfl⟩
  exact⟨some ⟨b,0,none⟩,zs.length,by rw[HZl.out]⟩
 obtain⟨ua,uc,rfl⟩:=hus
 have HB:=hid (below_any zs HZR.out n uc ua HZl.out (by omega) k q (ext q es (iE n)) (fun b=>S' b/\Typed w2 b) (fun b=>b<w2.heap.size/\¬Typed w2 b) w2 hLu (fun b hb=>⟨hb.1,fun c=>hb.2 c.2⟩) t1.typed (by have h1:=ext_le q es (iE n);have h2:=iE_le hl;omega))
 have HT2:=hid t2
 have HO2:=hid ((hO1.mono (fun _ _ c=>c.elim):Off S w W1).trans hO2 (fun _ _ c=>c))
 have hs2:=hO2.size
 clear hu hO2 t1 t2 hLu hO1
 go_wp2_with fail
 refine HB.out.mono ?_
 rintro e w3 ⟨rfl,hN3,hO3⟩
 have HN:=hid (show Noted w.heap.size q es (ftE n k) S w3 by
  obtain⟨S2,u1,u2⟩:=hN3
  rw[ext_ext]at u1
  exact⟨S2,u1,fun b c=>(u2 b c).elim (fun c=>(HT2.out b c.1).elim .inl (fun d=>.inr (by omega))) (fun d=>.inr (by omega))⟩)
 have HO:=hid (show Off S w w3 from HO2.out.trans hO3 (fun b hb c=>(HT2.out b c.1).elim (fun c=>c) (fun d=>by omega)))
 clear hN3 hO3
 go_wp2
 rw[HM.out]
 refine bodyPost_ret (results_tmp2 rfl _ _ _) rfl ?_
 exact⟨rfl,HN.out,HO.out⟩
end
end Go.Proofs.YtbkgghhngeibhaaGreatDoor
