/-
  Facts and contracts that some statements of layer 17 need.
-/
import Derived.Test.YtbkgghhngeibhaaGreatDoorAudRef
import Derived.Test.YtbkgghhngeibhaaGreatDoorAudRef2
import Derived.Test.YtbkgghhngeibhaaGreatDoorAudRow
import Derived.Test.YtbkgghhngeibhaaGreatDoorRegn
import Derived.Test.YtbkgghhngeibhaaGreatDoorJoinRef
import Derived.Test.YtbkgghhngeibhaaGreatDoorLagProg
import Derived.Test.YtbkgghhngeibhaaGreatDoorPartK
namespace Go.Proofs.YtbkgghhngeibhaaGreatDoor
open Lib (hid)
section
open Go.RowKit
theorem addr_zero (a:Addr):a.add 0=a:=by unfold Addr.add;split <;> simp_all
theorem slice_to (T:TypeId) (hu:Tryz.prog.underlying T=some (.slice (Tryz.prog.elem T))) (s:Nat) (hs:∀ W,(sizeOf (Tryz.prog.elem T)).run Tryz.prog W=.ok s W) (a:Option Addr) (n cap k:Nat) (hk:k<=cap) (W:World) :
  (Instr.slice T (.slice a n cap) none (some (.int .i64 k)) none).run Tryz.prog W=.ok (.slice a k cap) W:=by
 rw[run_slice_h W T _ _ _ hu .i64 _ (by omega) (by omega),hs]
 cases a <;> simp[Result.andThen,sliced,addr_zero]
theorem slice_to_int (a:Option Addr) (n cap k:Nat) (hk:k<=cap) (W:World):(Instr.slice 34 (.slice a n cap) none (some (.int .i64 k)) none).run Tryz.prog W=.ok (.slice a k cap) W:=by
 have he:Tryz.prog.elem 34=3:=by simp[Program.elem,Tryz.underlying34]
 exact slice_to _ (by rw[he];exact Tryz.underlying34) _ (by rw[he];exact Tryz.sizeOf3) a n cap k hk W
theorem slice_to_vec (a:Option Addr) (n cap k:Nat) (hk:k<=cap) (W:World):(Instr.slice 76 (.slice a n cap) none (some (.int .i64 k)) none).run Tryz.prog W=.ok (.slice a k cap) W:=by
 have he:Tryz.prog.elem 76=63:=by simp[Program.elem,Tryz.underlying76]
 exact slice_to _ (by rw[he];exact Tryz.underlying76) _ (by rw[he];exact Tryz.sizeOf63) a n cap k hk W
theorem Ls.take {w:World} {a:Option Addr} {n cap:Nat} {xs:List Nat} (h:Ls w (.slice a n cap) xs) (m:Nat) (hm:m<=n):Ls w (.slice a m cap) (xs.take m):=by
 obtain⟨a',cap',hv,h1,h4⟩:=h
 cases hv
 refine⟨a,cap,by rw[List.length_take,Nat.min_eq_left hm],by rw[List.length_take];omega,fun hp=>?_⟩
 rw[List.length_take]at hp
 obtain⟨b,off,ha,hS,hc⟩:=h4 (by omega)
 refine⟨b,off,ha,hS,fun j x hj=>hc j x ?_⟩
 rw[List.getElem?_take]at hj
 split at hj
 ·exact hj
 cases hj
theorem Iv.take {w:World} {a:Option Addr} {n cap:Nat} {xs:List Int} (h:Iv w (.slice a n cap) xs) (m:Nat) (hm:m<=n):Iv w (.slice a m cap) (xs.take m):=by
 obtain⟨a',cap',hv,h1,hw,h4⟩:=h
 cases hv
 refine⟨a,cap,by rw[List.length_take,Nat.min_eq_left hm],by rw[List.length_take];omega,fun x hx=>hw x (List.mem_of_mem_take hx),fun hp=>?_⟩
 rw[List.length_take]at hp
 obtain⟨b,off,ha,hS,hc⟩:=h4 (by omega)
 refine⟨b,off,ha,hS,fun j x hj=>hc j x ?_⟩
 rw[List.getElem?_take]at hj
 split at hj
 ·exact hj
 cases hj
end
section


def fitV (p:Nat) (xs ys:List Nat) (K:Nat):Bool:=(List.range xs.length).all (fun j=>pv (itpL p (xs.take K) (ys.take K)) (xs.getD j 0)%p==ys.getD j 0)
theorem take_getD (xs:List Nat) {j K:Nat} (h:j<K):(xs.take K).getD j 0=xs.getD j 0:=by
 rw[List.getD_eq_getElem?_getD,List.getD_eq_getElem?_getD,List.getElem?_take,if_pos h]
theorem apart_take {p:Nat} {xs:List Nat} (h:Apart p xs) (K:Nat):Apart p (xs.take K):=by
 intro i k hi hk hne
 rw[List.length_take]at hi hk
 rw[take_getD xs (by omega),take_getD xs (by omega)]
 exact h i k (by omega) (by omega) hne
theorem low_fit {p:Nat} (h1:1<p) (hf:Fer p) (xs:List Nat) (hx:∀ x∈xs,x<p) (h:Apart p xs) (ys:List Nat) (hy:∀ y∈ys,y<p) (K:Nat):lowV (itpL p xs ys) K=fitV p xs ys K:=by
 have hlen:(itpL p xs ys).length=xs.length:=itpF_length p xs ys _ (Nat.le_refl _)
 have hyl:∀ j,ys.getD j 0<p:=fun j=>getD_lt (by omega) hy j
 rw[Bool.eq_iff_iff]
 constructor
 ·intro hd
  have hs:=low_split hd
  have hv:∀ a,pv (itpL p xs ys) a=pv ((itpL p xs ys).take K) a:=fun a=>by
   have e:pv (itpL p xs ys) a=pv ((itpL p xs ys).take K++List.replicate ((itpL p xs ys).length-K) 0) a:=congrArg (fun l=>pv l a) hs
   rw[e,pv_more]
  have hc:itpL p (xs.take K) (ys.take K)=(itpL p xs ys).take K:=by
   have hi:=itp_values h1 hf (xs.take K) (fun x hm=>hx x (List.mem_of_mem_take hm)) (apart_take h K) ((itpL p xs ys).take K) (fun v hm=>itpF_lt (by omega) xs ys _ v (List.mem_of_mem_take hm)) (by rw[List.length_take,List.length_take,hlen];exact Nat.le_refl _) (ys.take K) (fun j hj=>by
    rw[List.length_take]at hj
    rw[take_getD ys (by omega),take_getD xs (by omega),<-hv,pv_itp h1 hf xs ys hx h (by omega)])
   rw[hi,List.length_take,List.length_take,hlen,Nat.sub_self,List.replicate_zero,List.append_nil]
  unfold fitV
  rw[List.all_eq_true]
  intro j hj
  rw[List.mem_range]at hj
  rw[hc,<-hv,pv_itp h1 hf xs ys hx h hj,Nat.mod_eq_of_lt (hyl j)]
  exact beq_self_eq_true _
 intro hd
 unfold fitV at hd
 rw[List.all_eq_true]at hd
 have hcl:(itpL p (xs.take K) (ys.take K)).length=(xs.take K).length:=itpF_length p _ _ _ (Nat.le_refl _)
 refine low_of_values h1 hf xs hx h (itpL p (xs.take K) (ys.take K)) (itpF_lt (by omega) _ _ _) ys (fun j hj=>?_) (by rw[hcl,List.length_take];omega)
 have:=hd j (List.mem_range.2 hj)
 rw[beq_iff_eq]at this
 rw[this,Nat.mod_eq_of_lt (hyl j)]
end
section
open Go.RowKit
attribute [local go_sem ↓] Go.wp_at_zero Go.wp_at_succ
theorem built_x1 (w:World) (m:Nat):Ls (w.alloc (.cells #[.int .u64 (wd m 0),.int .u64 (wd m 1),.int .u64 (wd m 2),.int .u64 (wd m 3),.int .u64 1,.int .u64 0,.int .u64 0,.int .u64 0] 63 (0,0))) (.slice (some ⟨w.heap.size,0,none⟩) 2 2) [m,1]:=by
 have h:=ls_build w [m,1] (by simp) 63
 rw[show(flat4 [m,1]).toArray=#[.int .u64 (wd m 0),.int .u64 (wd m 1),.int .u64 (wd m 2),.int .u64 (wd m 3),.int .u64 1,.int .u64 0,.int .u64 0,.int .u64 0] from by kernel_rfl]at h
 exact h
theorem built_1 (w:World) (m:Nat):Ls (w.alloc (.cells #[.int .u64 (wd m 0),.int .u64 (wd m 1),.int .u64 (wd m 2),.int .u64 (wd m 3)] 63 (0,0))) (.slice (some ⟨w.heap.size,0,none⟩) 1 1) [m]:=ls_build w [m] (by simp) 63
set_option maxRecDepth 100000 in
set_option maxHeartbeats 4000000 in
theorem refitp_new {p:Nat} (hp:p<R256) (hbig:256<=p) (xs:List Int) (hr:∀ x∈xs,1<=x/\x<=255) (hl:xs.length<=90) (ys:List Nat) (hy:∀ y∈ys,y<p) (hyl:ys.length=xs.length) (v u:Value) (w:World) (hV:Iv w v xs) (hU:Ls w u ys) :
  Calls Tryz.prog 70 #[V p,v,u] w fun e w'=>∃ z,e=.returned z/\Lz w.heap.size w' z (itpL p (ptV xs) ys)/\Off (fun _=>False) w w':=by
 have hmx:Tryz.prog.follows .mixedOrders=true:=by kernel_rfl
 have h1:1<p:=by omega
 obtain⟨a2,cap2,rfl,hL⟩:=hV.open
 obtain⟨ya,yc,rfl,hY⟩:=hU.open
 rw[hyl]at hY ⊢
 obtain⟨ps,hps⟩:∃ ps,ps=ptV xs:=⟨_,rfl⟩
 have HWt:=hid (fun W h=>by have g:=refwts_any hp hbig xs hr (by omega) (.slice a2 xs.length cap2) W (hV.off h);rw[<-hps]at g;exact g:∀ W,Off (fun _=>False) w W->_)
 obtain⟨n,hn⟩:∃ n,n=xs.length:=⟨_,rfl⟩
 have hpn:ps.length=n:=by rw[hps,ptV_length,hn]
 have HAt:=hid (fun W h k hk=>by have g:=ints_at (IvAt.off hL h (fun _ _ _ c=>c)) hr hk;rw[<-hps]at g;exact g:∀ W,Off (fun _=>False) w W->∀ k,k<xs.length->∃ b off m,a2=some ⟨b,off,none⟩/\W.cell? ⟨b,off+k,none⟩=some (.int .i64 ((m:Nat):Int))/\m<256/\ps.getD k 0=m)
 rw[<-hn]at HAt HWt hl hyl hY ⊢
 rw[<-hps]
 have HSu:=hid (fun b hb W=>by have h:=mod_diff p 0 b hp (by omega) hb W;rw[Nat.zero_add,lit_small 0 (by decide)]at h;exact h:∀ b,b<p->∀ W,Calls Tryz.prog 92 #[V p,.agg #[.int .u64 0,.int .u64 0,.int .u64 0,.int .u64 0],V b] W fun e w'=>e=.returned (V (ng p b))/\Off (fun _=>False) W w')
 have HMl:=hid (fun a b ha hb W=>mod_mul p a b hp h1 ha (Nat.lt_trans hb hp) W:∀ a b,a<p->b<p->∀ W,_)
 have HAd:=hid (fun vs us h2 h3 h4 h5 v u W=>refadd_new hp h1 vs us h2 h3 h4 h5 v u W)
 have HMp:=hid (fun vs us h2 h3 h4 h5 v u W=>refmul_any hp h1 vs us h2 h3 h4 h5 v u W)
 have hmk:=run_make_vec n (by omega)
 obtain⟨ZZ,hZZ⟩:∃ Z,Z=itpL p ps ys:=⟨_,rfl⟩
 rw[<-hZZ]
 have HZZ:=hid hZZ
 have HPn:=hid hpn
 have HY:=hid hY
 have HYl:=hid hyl
 have HYp:=hid hy
 clear hV hU hL hr hn hps hpn hY hyl hy hZZ
 go_enter Tryz.func70,Tryz.ntmps70
 go_wp2_with fail
 obtain⟨W0,hW0⟩:∃ W0,W0=w.alloc (.cells #[.int .u64 (wd p 0),.int .u64 (wd p 1),.int .u64 (wd p 2),.int .u64 (wd p 3)] 63):=⟨_,rfl⟩
 obtain⟨pb,hpb⟩:∃ pb,pb=w.heap.size:=⟨_,rfl⟩
 rw[<-hW0,<-hpb]
 have hO0:Off (fun _=>False) w W0:=by rw[hW0];exact(Off.refl _ w).alloc _
 have hP0:W0.heap[pb]?=some (.cells #[.int .u64 (wd p 0),.int .u64 (wd p 1),.int .u64 (wd p 2),.int .u64 (wd p 3)] 63 (0,0)):=by rw[hW0,hpb];exact heap_new' rfl _
 have HO0:=hid hO0
 have HP0:=hid hP0
 clear hW0 hpb hO0 hP0
 refine(HWt.out W0 HO0.out).mono ?_
 rintro e W1 ⟨wa,wc1,B,rfl,hB,hown,hO1⟩
 have hWl:=Ls.of (ls_of_own hown (show n=(wgtL p ps).length by rw[wgtL_length,HPn.out]) (by omega))
 have HW1:=hid hWl
 have HO1:=hid hO1
 clear hown hB hO1 hWl
 go_wp2_with fail
 obtain⟨W2,hW2⟩:∃ W2,W2=W1.alloc (.cells (flat4 (List.replicate n 0)).toArray 63):=⟨_,rfl⟩
 have ho2:Off (fun _=>False) W1 W2:=by rw[hW2];exact(Off.refl _ W1).alloc _
 have hz0:Lz w.heap.size W2 (.slice (some ⟨W1.heap.size,0,none⟩) n n) (itpF p ps ys 0):=by
  have h:=ls_new (cap:=n) (B:=w.heap.size) (T:=63) (xs:=List.replicate n 0) (show NumsAt W2 W1.heap.size 63 (List.replicate n 0) by rw[hW2];exact heap_new' rfl _) (by rw[List.length_replicate];omega) (Nat.le_trans HO0.out.size HO1.out.size)
  rw[List.length_replicate]at h
  rw[show itpF p ps ys 0=List.replicate ps.length 0 from rfl,HPn.out];exact h
 rw[<-hW2]
 obtain⟨ob,hob⟩:∃ ob,ob=Value.slice (some ⟨W1.heap.size,0,none⟩) n n:=⟨_,rfl⟩
 rw[<-hob]at hz0 ⊢
 have HZ0:=hid hz0
 have HW2:=hid (HW1.out.off ho2)
 have HO2:=hid (HO1.out.trans ho2 (fun _ _ c=>c))
 clear hz0 ho2 hW2 hob hmk HW1 HO1
 go_loopw [8,9] (fun z ix wr=>∃ i:Nat,i<=n/\ix=.int .i64 i/\Lz w.heap.size wr z (itpF p ps ys i)/\Ls wr (.slice wa n wc1) (wgtL p ps)/\Off (fun _=>False) W0 wr) (fun _ ix _=>n-(intOf ix).toNat)
 case atStart=>exact⟨0,Nat.zero_le _,rfl,HZ0.out,HW2.out,HO2.out⟩
 case round =>
  obtain⟨zo,rfl⟩:∃ zo,zo=u8:=⟨_,rfl⟩
  obtain⟨i,hi,rfl,hz,hW,hO⟩:=hrel
  by_cases hlt:i<n
  ·have hin:(i:Int)<(n:Int):=by omega
   obtain⟨A0,rfl⟩:∃ A0,A0=wr:=⟨_,rfl⟩
   have hOw:=HO0.out.trans hO (fun _ _ c=>c)
   obtain⟨t,ht⟩:∃ t,t=wgt p ps i:=⟨_,rfl⟩
   have htp:t<p:=by rw[ht];exact wgt_lt (by omega) ps i
   obtain⟨y,hy⟩:∃ y,y=ys.getD i 0:=⟨_,rfl⟩
   have hyp:y<p:=by rw[hy];exact getD_lt (by omega) HYp.out i
   obtain⟨f,hf⟩:∃ f,f=t*y%p:=⟨_,rfl⟩
   have hfp:f<p:=by rw[hf];exact Nat.mod_lt _ (by omega)
   have hwx:(wgtL p ps)[i]?=some t:=by rw[wgtL,List.getElem?_map,List.getElem?_range (by have:=HPn.out;omega),ht];rfl
   have hyx:ys[i]?=some y:=by rw[List.getElem?_eq_getElem (by have:=HYl.out;omega),hy,List.getD_eq_getElem?_getD,List.getElem?_eq_getElem (by have:=HYl.out;omega)];rfl
   obtain⟨wb,wo,hwa,_,w0c,w1c,w2c,w3c⟩:=LsAt.get hW hwx
   subst hwa
   obtain⟨yb,yo,hya,_,y0,y1,y2,y3⟩:=(HY.out.off hOw (fun _ _ _ c=>c)).get hyx
   subst hya
   have HMu:=hid (show ∀ W,Calls Tryz.prog 53 #[V p,V t,V y] W fun e w'=>e=.returned (V f)/\Off (fun _=>False) W w' from fun W=>by rw[hf];exact HMl.out t y htp hyp W)
   have HK:Hid (∀ B,Off (fun _=>False) A0 B->(B.cell? ⟨pb,0,none⟩=some (.int .u64 (wd p 0))/\B.cell? ⟨pb,1,none⟩=some (.int .u64 (wd p 1))/\B.cell? ⟨pb,2,none⟩=some (.int .u64 (wd p 2))/\B.cell? ⟨pb,3,none⟩=some (.int .u64 (wd p 3)))/\elAt B wb (wo+i*4) t/\elAt B yb (yo+i*4) y/\Off (fun _=>False) A0 B):=hid (fun B h=>⟨cells4 (h.heap (hO.heap HP0.out (fun c=>c)) (fun c=>c)),elAt.off ⟨w0c,w1c,w2c,w3c⟩ h (fun c=>c),elAt.off ⟨y0,y1,y2,y3⟩ h (fun c=>c),h⟩)
   have Hff:=hid (show f=wgt p ps i*ys.getD i 0%p by rw[hf,ht,hy])
   have H1:=hid hz
   have H2:=hid hW
   have H3:=hid hO
   clear hz hW hO hOw hwx hyx w0c w1c w2c w3c y0 y1 y2 y3 ht hy hf htp hyp
   go_upto_region 6 with fail
   refine wp_region_inv (fun a0 l a' w'=>∃ (u24:Value) (u25:Value) (u26:Value) (u27:Value) (u28:Value) (u29:Value) (u30:Value) (u31:Value) (u32:Value) (u33:Value) (u34:Value) (u10:Value),a'=(Act.put (Act.put (Act.put (Act.put (Act.put (Act.put (Act.put (Act.put (Act.put (Act.put (Act.put (Act.put a0 (some 24) u24) (some 25) u25) (some 26) u26) (some 27) u27) (some 28) u28) (some 29) u29) (some 30) u30) (some 31) u31) (some 32) u32) (some 33) u33) (some 34) u34) (some 10) u10)/\Slot l 0 u24 (V p)/\Slot l 1 u25 (.slice (some ⟨wb,wo,none⟩) n wc1)/\Slot l 2 u26 (.int .i64 i)/\Slot l 3 u27 (.pointer (some ⟨wb,wo+i*4,none⟩))/\Slot l 4 u28 (V t)/\Slot l 5 u29 (.slice (some ⟨yb,yo,none⟩) n yc)/\Slot l 6 u30 (.int .i64 i)/\Slot l 7 u31 (.pointer (some ⟨yb,yo+i*4,none⟩))/\Slot l 8 u32 (V y)/\Slot l 9 u33 (V f)/\Lk l 10 u34 w' ([f])/\Lk l 11 u10 w' ([f])/\Off (fun _=>False) A0 w') (by kernel_rfl) (by kernel_rfl) ?_ ⟨?_,?_,?_,?_,?_,?_,?_,?_,?_,?_,?_,?_,trivial⟩ ?_
   ·refine⟨?z24,?z25,?z26,?z27,?z28,?z29,?z30,?z31,?z32,?z33,?z34,?z10,?fr,Slot.start _ _ _,Slot.start _ _ _,Slot.start _ _ _,Slot.start _ _ _,Slot.start _ _ _,Slot.start _ _ _,Slot.start _ _ _,Slot.start _ _ _,Slot.start _ _ _,Slot.start _ _ _,Lk.start _ _ _ _,Lk.start _ _ _ _,(Off.refl _ A0).drew⟩
    case fr=>first | (simp only[XP];rfl) | simp only[XP]
   all_goals try (intro l a wr hI hl hd K' hK;obtain⟨u24,u25,u26,u27,u28,u29,u30,u31,u32,u33,u34,u10,ha,s0,s1,s2,s3,s4,s5,s6,s7,s8,s9,M10,M11,hO⟩:=hI;simp only[XP]at ha)
   ·subst ha
    have hc:=HK.out wr hO
    have p0:=hc.1.1
    have p1:=hc.1.2.1
    have p2:=hc.1.2.2.1
    have p3:=hc.1.2.2.2
    clear hc
    go_simp
    refine hK.out _ _ ⟨_,_,_,_,_,_,_,_,_,_,_,_,?_,Slot.new _ _ _,s1.keep rfl,s2.keep rfl,s3.keep rfl,s4.keep rfl,s5.keep rfl,s6.keep rfl,s7.keep rfl,s8.keep rfl,s9.keep rfl,M10.keep (Off.refl _ wr) rfl,M11.keep (Off.refl _ wr) rfl,hO⟩
    simp only[XP]
   ·subst ha
    go_simp
    refine hK.out _ _ ⟨_,_,_,_,_,_,_,_,_,_,_,_,?_,s0.keep rfl,Slot.new _ _ _,s2.keep rfl,s3.keep rfl,s4.keep rfl,s5.keep rfl,s6.keep rfl,s7.keep rfl,s8.keep rfl,s9.keep rfl,M10.keep (Off.refl _ wr) rfl,M11.keep (Off.refl _ wr) rfl,hO⟩
    simp only[XP]
   ·subst ha
    go_simp
    refine hK.out _ _ ⟨_,_,_,_,_,_,_,_,_,_,_,_,?_,s0.keep rfl,s1.keep rfl,Slot.new _ _ _,s3.keep rfl,s4.keep rfl,s5.keep rfl,s6.keep rfl,s7.keep rfl,s8.keep rfl,s9.keep rfl,M10.keep (Off.refl _ wr) rfl,M11.keep (Off.refl _ wr) rfl,hO⟩
    simp only[XP]
   ·have q1:=s1 (hd 1 (by decide))
    have q2:=s2 (hd 2 (by decide))
    subst ha q1 q2
    go_simp
    refine hK.out _ _ ⟨_,_,_,_,_,_,_,_,_,_,_,_,?_,s0.keep rfl,s1.keep rfl,s2.keep rfl,Slot.new _ _ _,s4.keep rfl,s5.keep rfl,s6.keep rfl,s7.keep rfl,s8.keep rfl,s9.keep rfl,M10.keep (Off.refl _ wr) rfl,M11.keep (Off.refl _ wr) rfl,hO⟩
    simp only[XP]
   ·have q3:=s3 (hd 3 (by decide))
    subst ha q3
    have hc:=HK.out wr hO
    have p0:=hc.2.1.1
    have p1:=hc.2.1.2.1
    have p2:=hc.2.1.2.2.1
    have p3:=hc.2.1.2.2.2
    clear hc
    go_simp
    refine hK.out _ _ ⟨_,_,_,_,_,_,_,_,_,_,_,_,?_,s0.keep rfl,s1.keep rfl,s2.keep rfl,s3.keep rfl,Slot.new _ _ _,s5.keep rfl,s6.keep rfl,s7.keep rfl,s8.keep rfl,s9.keep rfl,M10.keep (Off.refl _ wr) rfl,M11.keep (Off.refl _ wr) rfl,hO⟩
    simp only[XP]
   ·subst ha
    go_simp
    refine hK.out _ _ ⟨_,_,_,_,_,_,_,_,_,_,_,_,?_,s0.keep rfl,s1.keep rfl,s2.keep rfl,s3.keep rfl,s4.keep rfl,Slot.new _ _ _,s6.keep rfl,s7.keep rfl,s8.keep rfl,s9.keep rfl,M10.keep (Off.refl _ wr) rfl,M11.keep (Off.refl _ wr) rfl,hO⟩
    simp only[XP]
   ·subst ha
    go_simp
    refine hK.out _ _ ⟨_,_,_,_,_,_,_,_,_,_,_,_,?_,s0.keep rfl,s1.keep rfl,s2.keep rfl,s3.keep rfl,s4.keep rfl,s5.keep rfl,Slot.new _ _ _,s7.keep rfl,s8.keep rfl,s9.keep rfl,M10.keep (Off.refl _ wr) rfl,M11.keep (Off.refl _ wr) rfl,hO⟩
    simp only[XP]
   ·have q5:=s5 (hd 5 (by decide))
    have q6:=s6 (hd 6 (by decide))
    subst ha q5 q6
    go_simp
    refine hK.out _ _ ⟨_,_,_,_,_,_,_,_,_,_,_,_,?_,s0.keep rfl,s1.keep rfl,s2.keep rfl,s3.keep rfl,s4.keep rfl,s5.keep rfl,s6.keep rfl,Slot.new _ _ _,s8.keep rfl,s9.keep rfl,M10.keep (Off.refl _ wr) rfl,M11.keep (Off.refl _ wr) rfl,hO⟩
    simp only[XP]
   ·have q7:=s7 (hd 7 (by decide))
    subst ha q7
    have hc:=HK.out wr hO
    have p0:=hc.2.2.1.1
    have p1:=hc.2.2.1.2.1
    have p2:=hc.2.2.1.2.2.1
    have p3:=hc.2.2.1.2.2.2
    clear hc
    go_simp
    refine hK.out _ _ ⟨_,_,_,_,_,_,_,_,_,_,_,_,?_,s0.keep rfl,s1.keep rfl,s2.keep rfl,s3.keep rfl,s4.keep rfl,s5.keep rfl,s6.keep rfl,s7.keep rfl,Slot.new _ _ _,s9.keep rfl,M10.keep (Off.refl _ wr) rfl,M11.keep (Off.refl _ wr) rfl,hO⟩
    simp only[XP]
   ·have q0:=s0 (hd 0 (by decide))
    have q4:=s4 (hd 4 (by decide))
    have q8:=s8 (hd 8 (by decide))
    subst ha q0 q4 q8
    go_simp
    refine(held_inv (HMu.out wr) hO).mono ?_
    rintro e w1 ⟨rfl,hO1,hOW⟩
    go_wp2_with fail
    refine hK.out _ _ ⟨_,_,_,_,_,_,_,_,_,_,_,_,?_,s0.keep rfl,s1.keep rfl,s2.keep rfl,s3.keep rfl,s4.keep rfl,s5.keep rfl,s6.keep rfl,s7.keep rfl,s8.keep rfl,Slot.new _ _ _,M10.keep hOW rfl,M11.keep hOW rfl,hO1⟩
    simp only[XP]
   ·have q9:=s9 (hd 9 (by decide))
    subst ha q9
    go_simp
    refine hK.out _ _ ⟨_,_,_,_,_,_,_,_,_,_,_,_,?_,s0.keep rfl,s1.keep rfl,s2.keep rfl,s3.keep rfl,s4.keep rfl,s5.keep rfl,s6.keep rfl,s7.keep rfl,s8.keep rfl,s9.keep rfl,(fun _=>built_1 wr f),M11.keep ((Off.refl _ wr).alloc _) rfl,hO.alloc _⟩
    simp only[XP]
   ·have m10:=M10 (hd 10 (by decide))
    subst ha
    go_simp
    refine hK.out _ _ ⟨_,_,_,_,_,_,_,_,_,_,_,_,?_,s0.keep rfl,s1.keep rfl,s2.keep rfl,s3.keep rfl,s4.keep rfl,s5.keep rfl,s6.keep rfl,s7.keep rfl,s8.keep rfl,s9.keep rfl,M10.keep (Off.refl _ wr) rfl,Lk.new (m10),hO⟩
    simp only[XP]
   intro l a wc hI hd
   obtain⟨u24,u25,u26,u27,u28,u29,u30,u31,u32,u33,u34,u10,ha,s0,s1,s2,s3,s4,s5,s6,s7,s8,s9,M10,M11,hO⟩:=hI
   simp only[XP]at ha
   have q0:=s0 (hd 0 (by decide))
   have q1:=s1 (hd 1 (by decide))
   have q2:=s2 (hd 2 (by decide))
   have q3:=s3 (hd 3 (by decide))
   have q4:=s4 (hd 4 (by decide))
   have q5:=s5 (hd 5 (by decide))
   have q6:=s6 (hd 6 (by decide))
   have q7:=s7 (hd 7 (by decide))
   have q8:=s8 (hd 8 (by decide))
   have q9:=s9 (hd 9 (by decide))
   have m34:=M10 (hd 10 (by decide))
   have m10:=M11 (hd 11 (by decide))
   subst ha q0 q1 q2 q3 q4 q5 q6 q7 q8 q9
   clear hd s0 s1 s2 s3 s4 s5 s6 s7 s8 s9 M10 M11
   have h3:=H3.out.trans hO (fun _ _ c=>c)
   have HZ:=hid (H1.out.off hO)
   have HW:=hid (H2.out.off hO)
   have HC:=hid (show Ls wc u10 (tlF p ps [f] (oth 0 i)) from m10)
   have HO:=hid h3
   have Hf:=hid hfp
   clear m34 m10 h3 hO H1 H2 H3 HK
   go_wp2
   go_loopw [10,11] (fun zc jx wr=>∃ j:Nat,j<=n/\jx=.int .i64 j/\Ls wr zc (tlF p ps [f] (oth j i))/\Lz w.heap.size wr zo (itpF p ps ys i)/\Ls wr (.slice (some ⟨wb,wo,none⟩) n wc1) (wgtL p ps)/\Off (fun _=>False) W0 wr) (fun _ jx _=>n-(intOf jx).toNat)
   case atStart=>exact⟨0,Nat.zero_le _,rfl,HC.out,HZ.out,HW.out,HO.out⟩
   case round =>
    obtain⟨zc,rfl⟩:∃ zc,zc=u10:=⟨_,rfl⟩
    obtain⟨j,hj,rfl,hc,hz,hW,hO⟩:=hrel
    clear HC HZ HW HO
    obtain⟨A0,rfl⟩:∃ A0,A0=wr:=⟨_,rfl⟩
    have hcl:(tlF p ps [f] (oth j i)).length<=100:=by rw[tlF_length p ps (show 0<[f].length by simp)];have:=oth_le j i;simp;omega
    have hcp:∀ u∈tlF p ps [f] (oth j i),u<p:=tlF_lt (by omega) ps (by simpa using hfp) _
    by_cases hlt2:j<n
    ·have hjn:(j:Int)<(n:Int):=by omega
     by_cases hjk:j=i
     ·have HC:=hid (show Ls A0 zc (tlF p ps [f] (oth (j+1) i)) by rw[oth_next,if_pos hjk];exact hc)
      have HZ:=hid hz
      have HW:=hid hW
      have HO:=hid hO
      clear hc hz hW hO hcl hcp
      subst hjk
      go_wp2
      go_roundw
      case rel=>exact⟨j+1,by omega,by simp,HC.out,HZ.out,HW.out,HO.out⟩
      case measure=>simp[intOf] <;> omega
     have hne1:((j:Int) != (i:Int))=true:=by simp;omega
     have hOw:=HO0.out.trans hO (fun _ _ c=>c)
     obtain⟨b,off,m,hab,cj,hm,hpj⟩:=HAt.out A0 hOw j hlt2
     subst hab
     obtain⟨s,hs⟩:∃ s,s=ng p m:=⟨_,rfl⟩
     have hsp:s<p:=by rw[hs];exact ng_lt (by omega) m
     obtain⟨ml,hml⟩:∃ ml,ml=tlF p ps [f] (oth (j+1) i):=⟨_,rfl⟩
     have hml2:ml=mulL p (tlF p ps [f] (oth j i)) [s,1]:=by rw[hml,oth_next,if_neg hjk,tlF_snoc,hpj,hs];rfl
     have HPt2:=hid (fun W=>point_any m hm W)
     have HSb:=hid (show ∀ W,Calls Tryz.prog 92 #[V p,.agg #[.int .u64 0,.int .u64 0,.int .u64 0,.int .u64 0],V m] W fun e w'=>e=.returned (V s)/\Off (fun _=>False) W w' from fun W=>by rw[hs];exact HSu.out m (by omega) W)
     have FM2:Hid (∀ W u,Off (fun _=>False) A0 W->Ls W u [s,1]->Calls Tryz.prog 91 #[V p,zc,u] W fun e w'=>∃ z,e=.returned z/\Ls w' z ml/\Off (fun _=>False) W w'):=hid (fun W u h hu=>by
      rw[hml2]
      exact HMp.out _ _ hcp (by intro x hx;simp at hx;omega) (by omega) (by simp) zc u W (hc.off h) hu)
     have HK:Hid (∀ B,Off (fun _=>False) A0 B->(B.cell? ⟨pb,0,none⟩=some (.int .u64 (wd p 0))/\B.cell? ⟨pb,1,none⟩=some (.int .u64 (wd p 1))/\B.cell? ⟨pb,2,none⟩=some (.int .u64 (wd p 2))/\B.cell? ⟨pb,3,none⟩=some (.int .u64 (wd p 3)))/\B.cell? ⟨b,off+j,none⟩=some (.int .i64 m)/\Off (fun _=>False) A0 B):=hid (fun B h=>⟨cells4 (h.heap (hO.heap HP0.out (fun c=>c)) (fun c=>c)),h.cell cj (fun c=>c),h⟩)
     have HZ:=hid hz
     have HW:=hid hW
     have HO:=hid hO
     have Hml:=hid hml
     clear hc hz hW hO hOw cj hs hsp hml hml2 hpj hcl hcp hfp
     go_upto_region 11 with fail
     refine wp_region_inv (fun a0 l a' w'=>∃ (u44:Value) (u45:Value) (u46:Value) (u47:Value) (u48:Value) (u49:Value) (u50:Value) (u51:Value) (u52:Value) (u53:Value) (u54:Value) (u55:Value) (u56:Value) (u10:Value),a'=(Act.put (Act.put (Act.put (Act.put (Act.put (Act.put (Act.put (Act.put (Act.put (Act.put (Act.put (Act.put (Act.put (Act.put a0 (some 44) u44) (some 45) u45) (some 46) u46) (some 47) u47) (some 48) u48) (some 49) u49) (some 50) u50) (some 51) u51) (some 52) u52) (some 53) u53) (some 54) u54) (some 55) u55) (some 56) u56) (some 10) u10)/\Slot l 0 u44 (V p)/\Slot l 1 u45 (zc)/\Slot l 2 u46 (V p)/\Slot l 3 u47 (.agg #[.int .u64 0,.int .u64 0,.int .u64 0,.int .u64 0])/\Slot l 4 u48 (.slice (some ⟨b,off,none⟩) n cap2)/\Slot l 5 u49 (.int .i64 j)/\Slot l 6 u50 (.pointer (some ⟨b,off+j,none⟩))/\Slot l 7 u51 (.int .i64 m)/\Slot l 8 u52 (V m)/\Slot l 9 u53 (V s)/\Slot l 10 u54 (.agg #[.int .u64 1,.int .u64 0,.int .u64 0,.int .u64 0])/\Lk l 11 u55 w' ([s,1])/\Lk l 12 u56 w' (ml)/\Lk l 13 u10 w' (ml)/\Dep l 1 12/\Dep l 1 13/\Was l 13 u10 (zc)/\Off (fun _=>False) A0 w') (by kernel_rfl) (by kernel_rfl) ?_ ⟨?_,?_,?_,?_,?_,?_,?_,?_,?_,?_,?_,?_,?_,?_,trivial⟩ ?_
     ·refine⟨?z44,?z45,?z46,?z47,?z48,?z49,?z50,?z51,?z52,?z53,?z54,?z55,?z56,zc,?fr,Slot.start _ _ _,Slot.start _ _ _,Slot.start _ _ _,Slot.start _ _ _,Slot.start _ _ _,Slot.start _ _ _,Slot.start _ _ _,Slot.start _ _ _,Slot.start _ _ _,Slot.start _ _ _,Slot.start _ _ _,Lk.start _ _ _ _,Lk.start _ _ _ _,Lk.start _ _ _ _,Dep.start _ _,Dep.start _ _,Was.start _ _,(Off.refl _ A0).drew⟩
      case fr=>first | (simp only[XP];rfl) | simp only[XP]
     all_goals try (intro l a wr hI hl hd K' hK;obtain⟨u44,u45,u46,u47,u48,u49,u50,u51,u52,u53,u54,u55,u56,u10,ha,s0,s1,s2,s3,s4,s5,s6,s7,s8,s9,s10,M11,M12,M13,V1_12,V1_13,W13,hO⟩:=hI;simp only[XP]at ha)
     ·subst ha
      have hc:=HK.out wr hO
      have p0:=hc.1.1
      have p1:=hc.1.2.1
      have p2:=hc.1.2.2.1
      have p3:=hc.1.2.2.2
      clear hc
      go_simp
      refine hK.out _ _ ⟨_,_,_,_,_,_,_,_,_,_,_,_,_,_,?_,Slot.new _ _ _,s1.keep rfl,s2.keep rfl,s3.keep rfl,s4.keep rfl,s5.keep rfl,s6.keep rfl,s7.keep rfl,s8.keep rfl,s9.keep rfl,s10.keep rfl,M11.keep (Off.refl _ wr) rfl,M12.keep (Off.refl _ wr) rfl,M13.keep (Off.refl _ wr) rfl,V1_12.keep rfl,V1_13.keep rfl,W13.keep rfl,hO⟩
      simp only[XP]
     ·have qw:=(W13 (V1_13 hl)).symm
      subst ha qw
      go_simp
      refine hK.out _ _ ⟨_,_,_,_,_,_,_,_,_,_,_,_,_,_,?_,s0.keep rfl,Slot.new _ _ _,s2.keep rfl,s3.keep rfl,s4.keep rfl,s5.keep rfl,s6.keep rfl,s7.keep rfl,s8.keep rfl,s9.keep rfl,s10.keep rfl,M11.keep (Off.refl _ wr) rfl,M12.keep (Off.refl _ wr) rfl,M13.keep (Off.refl _ wr) rfl,V1_12.keep rfl,V1_13.keep rfl,W13.keep rfl,hO⟩
      simp only[XP]
     ·subst ha
      have hc:=HK.out wr hO
      have p0:=hc.1.1
      have p1:=hc.1.2.1
      have p2:=hc.1.2.2.1
      have p3:=hc.1.2.2.2
      clear hc
      go_simp
      refine hK.out _ _ ⟨_,_,_,_,_,_,_,_,_,_,_,_,_,_,?_,s0.keep rfl,s1.keep rfl,Slot.new _ _ _,s3.keep rfl,s4.keep rfl,s5.keep rfl,s6.keep rfl,s7.keep rfl,s8.keep rfl,s9.keep rfl,s10.keep rfl,M11.keep (Off.refl _ wr) rfl,M12.keep (Off.refl _ wr) rfl,M13.keep (Off.refl _ wr) rfl,V1_12.keep rfl,V1_13.keep rfl,W13.keep rfl,hO⟩
      simp only[XP]
     ·subst ha
      go_simp
      refine hK.out _ _ ⟨_,_,_,_,_,_,_,_,_,_,_,_,_,_,?_,s0.keep rfl,s1.keep rfl,s2.keep rfl,Slot.new _ _ _,s4.keep rfl,s5.keep rfl,s6.keep rfl,s7.keep rfl,s8.keep rfl,s9.keep rfl,s10.keep rfl,M11.keep (Off.refl _ wr) rfl,M12.keep (Off.refl _ wr) rfl,M13.keep (Off.refl _ wr) rfl,V1_12.keep rfl,V1_13.keep rfl,W13.keep rfl,hO⟩
      simp only[XP]
     ·subst ha
      go_simp
      refine hK.out _ _ ⟨_,_,_,_,_,_,_,_,_,_,_,_,_,_,?_,s0.keep rfl,s1.keep rfl,s2.keep rfl,s3.keep rfl,Slot.new _ _ _,s5.keep rfl,s6.keep rfl,s7.keep rfl,s8.keep rfl,s9.keep rfl,s10.keep rfl,M11.keep (Off.refl _ wr) rfl,M12.keep (Off.refl _ wr) rfl,M13.keep (Off.refl _ wr) rfl,V1_12.keep rfl,V1_13.keep rfl,W13.keep rfl,hO⟩
      simp only[XP]
     ·subst ha
      go_simp
      refine hK.out _ _ ⟨_,_,_,_,_,_,_,_,_,_,_,_,_,_,?_,s0.keep rfl,s1.keep rfl,s2.keep rfl,s3.keep rfl,s4.keep rfl,Slot.new _ _ _,s6.keep rfl,s7.keep rfl,s8.keep rfl,s9.keep rfl,s10.keep rfl,M11.keep (Off.refl _ wr) rfl,M12.keep (Off.refl _ wr) rfl,M13.keep (Off.refl _ wr) rfl,V1_12.keep rfl,V1_13.keep rfl,W13.keep rfl,hO⟩
      simp only[XP]
     ·have q4:=s4 (hd 4 (by decide))
      have q5:=s5 (hd 5 (by decide))
      subst ha q4 q5
      go_simp
      refine hK.out _ _ ⟨_,_,_,_,_,_,_,_,_,_,_,_,_,_,?_,s0.keep rfl,s1.keep rfl,s2.keep rfl,s3.keep rfl,s4.keep rfl,s5.keep rfl,Slot.new _ _ _,s7.keep rfl,s8.keep rfl,s9.keep rfl,s10.keep rfl,M11.keep (Off.refl _ wr) rfl,M12.keep (Off.refl _ wr) rfl,M13.keep (Off.refl _ wr) rfl,V1_12.keep rfl,V1_13.keep rfl,W13.keep rfl,hO⟩
      simp only[XP]
     ·have q6:=s6 (hd 6 (by decide))
      subst ha q6
      have hc:=HK.out wr hO
      have p0:=hc.2.1
      clear hc
      go_simp
      refine hK.out _ _ ⟨_,_,_,_,_,_,_,_,_,_,_,_,_,_,?_,s0.keep rfl,s1.keep rfl,s2.keep rfl,s3.keep rfl,s4.keep rfl,s5.keep rfl,s6.keep rfl,Slot.new _ _ _,s8.keep rfl,s9.keep rfl,s10.keep rfl,M11.keep (Off.refl _ wr) rfl,M12.keep (Off.refl _ wr) rfl,M13.keep (Off.refl _ wr) rfl,V1_12.keep rfl,V1_13.keep rfl,W13.keep rfl,hO⟩
      simp only[XP]
     ·have q7:=s7 (hd 7 (by decide))
      subst ha q7
      go_simp
      refine(held_inv (HPt2.out wr) hO).mono ?_
      rintro e w1 ⟨rfl,hO1,hOW⟩
      go_wp2_with fail
      refine hK.out _ _ ⟨_,_,_,_,_,_,_,_,_,_,_,_,_,_,?_,s0.keep rfl,s1.keep rfl,s2.keep rfl,s3.keep rfl,s4.keep rfl,s5.keep rfl,s6.keep rfl,s7.keep rfl,Slot.new _ _ _,s9.keep rfl,s10.keep rfl,M11.keep hOW rfl,M12.keep hOW rfl,M13.keep hOW rfl,V1_12.keep rfl,V1_13.keep rfl,W13.keep rfl,hO1⟩
      simp only[XP]
     ·have q2:=s2 (hd 2 (by decide))
      have q3:=s3 (hd 3 (by decide))
      have q8:=s8 (hd 8 (by decide))
      subst ha q2 q3 q8
      go_simp
      refine(held_inv (HSb.out wr) hO).mono ?_
      rintro e w1 ⟨rfl,hO1,hOW⟩
      go_wp2_with fail
      refine hK.out _ _ ⟨_,_,_,_,_,_,_,_,_,_,_,_,_,_,?_,s0.keep rfl,s1.keep rfl,s2.keep rfl,s3.keep rfl,s4.keep rfl,s5.keep rfl,s6.keep rfl,s7.keep rfl,s8.keep rfl,Slot.new _ _ _,s10.keep rfl,M11.keep hOW rfl,M12.keep hOW rfl,M13.keep hOW rfl,V1_12.keep rfl,V1_13.keep rfl,W13.keep rfl,hO1⟩
      simp only[XP]
     ·subst ha
      go_simp
      refine hK.out _ _ ⟨_,_,_,_,_,_,_,_,_,_,_,_,_,_,?_,s0.keep rfl,s1.keep rfl,s2.keep rfl,s3.keep rfl,s4.keep rfl,s5.keep rfl,s6.keep rfl,s7.keep rfl,s8.keep rfl,s9.keep rfl,Slot.new _ _ _,M11.keep (Off.refl _ wr) rfl,M12.keep (Off.refl _ wr) rfl,M13.keep (Off.refl _ wr) rfl,V1_12.keep rfl,V1_13.keep rfl,W13.keep rfl,hO⟩
      simp only[XP]
     ·have q9:=s9 (hd 9 (by decide))
      have q10:=s10 (hd 10 (by decide))
      subst ha q9 q10
      go_simp
      refine hK.out _ _ ⟨_,_,_,_,_,_,_,_,_,_,_,_,_,_,?_,s0.keep rfl,s1.keep rfl,s2.keep rfl,s3.keep rfl,s4.keep rfl,s5.keep rfl,s6.keep rfl,s7.keep rfl,s8.keep rfl,s9.keep rfl,s10.keep rfl,(fun _=>built_x1 wr s),M12.keep ((Off.refl _ wr).alloc _) rfl,M13.keep ((Off.refl _ wr).alloc _) rfl,V1_12.keep rfl,V1_13.keep rfl,W13.keep rfl,hO.alloc _⟩
      simp only[XP]
     ·have q0:=s0 (hd 0 (by decide))
      have q1:=(s1 (hd 1 (by decide))).symm
      have m11:=M11 (hd 11 (by decide))
      subst ha q0 q1
      go_simp
      refine(FM2.out wr u55 hO m11).mono ?_
      rintro e w1 ⟨uv,rfl,hm,hOW⟩
      have hO1:=hO.trans hOW (fun _ _ c=>c.elim)
      go_wp2_with fail
      refine hK.out _ _ ⟨_,_,_,_,_,_,_,_,_,_,_,_,_,_,?_,s0.keep rfl,s1.keep rfl,s2.keep rfl,s3.keep rfl,s4.keep rfl,s5.keep rfl,s6.keep rfl,s7.keep rfl,s8.keep rfl,s9.keep rfl,s10.keep rfl,M11.keep hOW rfl,Lk.new hm,M13.keep hOW rfl,Dep.at (hd 1 (by decide)),V1_13.keep rfl,W13.keep rfl,hO1⟩
      simp only[XP]
     ·have m12:=M12 (hd 12 (by decide))
      subst ha
      go_simp
      refine hK.out _ _ ⟨_,_,_,_,_,_,_,_,_,_,_,_,_,_,?_,s0.keep rfl,s1.keep rfl,s2.keep rfl,s3.keep rfl,s4.keep rfl,s5.keep rfl,s6.keep rfl,s7.keep rfl,s8.keep rfl,s9.keep rfl,s10.keep rfl,M11.keep (Off.refl _ wr) rfl,M12.keep (Off.refl _ wr) rfl,Lk.new (m12),V1_12.keep rfl,Dep.at (V1_12.via (hd 12 (by decide))),Was.gone _ _ _ _,hO⟩
      simp only[XP]
     intro l a wc hI hd
     obtain⟨u44,u45,u46,u47,u48,u49,u50,u51,u52,u53,u54,u55,u56,u10,ha,s0,s1,s2,s3,s4,s5,s6,s7,s8,s9,s10,M11,M12,M13,V1_12,V1_13,W13,hO⟩:=hI
     simp only[XP]at ha
     have q0:=s0 (hd 0 (by decide))
     have q1:=(s1 (hd 1 (by decide))).symm
     have q2:=s2 (hd 2 (by decide))
     have q3:=s3 (hd 3 (by decide))
     have q4:=s4 (hd 4 (by decide))
     have q5:=s5 (hd 5 (by decide))
     have q6:=s6 (hd 6 (by decide))
     have q7:=s7 (hd 7 (by decide))
     have q8:=s8 (hd 8 (by decide))
     have q9:=s9 (hd 9 (by decide))
     have q10:=s10 (hd 10 (by decide))
     have m55:=M11 (hd 11 (by decide))
     have m56:=M12 (hd 12 (by decide))
     have m10:=M13 (hd 13 (by decide))
     subst ha q0 q1 q2 q3 q4 q5 q6 q7 q8 q9 q10
     clear hd s0 s1 s2 s3 s4 s5 s6 s7 s8 s9 s10 M11 M12 M13 V1_12 V1_13 W13
     rw[Hml.out]at m10
     have H1:=hid m10
     have H2:=hid (HZ.out.off hO)
     have H3:=hid (HW.out.off hO)
     have H4:=hid (HO.out.trans hO (fun _ _ c=>c))
     clear m10 hO
     go_wp2
     go_roundw
     case rel=>exact⟨j+1,by omega,by simp,H1.out,H2.out,H3.out,H4.out⟩
     case measure=>simp[intOf] <;> omega
    obtain rfl:n=j:=by omega
    have hip:∀ u∈itpF p ps ys i,u<p:=itpF_lt (by omega) ps ys i
    have hil:(itpF p ps ys i).length=n:=by rw[itpF_length p ps ys i (by have:=HPn.out;omega),HPn.out]
    have hnx:sumL p (itpF p ps ys i) (tlF p ps [f] (oth n i))=itpF p ps ys (i+1):=by
     have h:=tlF_one p ps hfp i
     rw[HPn.out]at h
     rw[h,itpF_next,Hff.out]
    have HA2:=hid (show ∀ W,Off (fun _=>False) A0 W->Calls Tryz.prog 93 #[V p,zo,zc] W fun e w'=>∃ z,e=.returned z/\LsAt w' z (itpF p ps ys (i+1)) (fun b=>W.heap.size<=b)/\Off (fun _=>False) W w' from fun W h=>by
     rw[<-hnx];exact HAd.out _ _ hip hcp (by omega) (by omega) zo zc W (hz.off h).ls (hc.off h))
    obtain⟨p0,p1,p2,p3⟩:=cells4 (hO.heap HP0.out (fun c=>c))
    have HW:=hid hW
    have HO:=hid hO
    clear hc hz hW hO hcl hcp hip hil hnx
    go_wp2_with fail
    refine(HA2.out A0 (Off.refl _ _)).mono ?_
    rintro e w3 ⟨z3,rfl,hz3,hO3⟩
    have H1:=hid (show Lz w.heap.size w3 z3 (itpF p ps ys (i+1)) from hz3.mono (fun b _ hb=>Nat.le_trans (HO0.out.trans HO.out (fun _ _ c=>c)).size hb))
    have H3:=hid (HW.out.off hO3)
    have H4:=hid (HO.out.trans hO3 (fun _ _ c=>c))
    clear hz3 hO3 p0 p1 p2 p3
    go_wp2_with fail
    go_roundw
    case rel=>exact⟨i+1,by omega,by simp,H1.out,H3.out,H4.out⟩
    case measure=>simp[intOf] <;> omega
  obtain rfl:n=i:=by omega
  have H1:=hid (show Lz w.heap.size wr zo ZZ by rw[HZZ.out,itpL,HPn.out];exact hz)
  have H2:=hid (HO0.out.trans hO (fun _ _ c=>c))
  clear hz hO hW
  go_wp2
  refine bodyPost_ret (results_tmp rfl _ _ _) rfl ?_
  exact⟨_,rfl,H1.out,H2.out⟩
theorem refitp_any {p:Nat} (hp:p<R256) (hbig:256<=p) (xs:List Int) (hr:∀ x∈xs,1<=x/\x<=255) (hl:xs.length<=90) (ys:List Nat) (hy:∀ y∈ys,y<p) (hyl:ys.length=xs.length) (v u:Value) (w:World) (hV:Iv w v xs) (hU:Ls w u ys) :
  Calls Tryz.prog 70 #[V p,v,u] w fun e w'=>∃ z,e=.returned z/\Ls w' z (itpL p (ptV xs) ys)/\Off (fun _=>False) w w':=by
 refine(refitp_new hp hbig xs hr hl ys hy hyl v u w hV hU).mono ?_
 rintro e w' ⟨z,he,h,ho⟩
 exact⟨z,he,h.ls,ho⟩
end
section
open Go.RowKit
section
variable {s0:Sh} {l:List Sh}
end
theorem Acc.fit {s0:Sh} {l:List Sh} (h:Acc s0 l) (T k:Nat):fitV (modN s0.fd) (ptV (ixs l)) (jys (modN s0.fd) l k) T=fitJ (modN s0.fd) T l k:=by
 obtain⟨i,r,s,hF⟩:=fld_ofA h.kn
 have hb:=big_p h.kn
 have h256:256<=modN s0.fd:=Nat.le_of_lt (Nat.lt_trans (by decide) hb)
 exact(low_fit hF.mp.one (fld_full hF).2.1 _ (pts_lt h256 h.chkA) (pts_apart h256 h.chkA) _ (jys_lt hF.mp l k) T).symm
end
section
open Go.RowKit
attribute [local go_sem ↓] Go.wp_at_zero Go.wp_at_succ
set_option maxRecDepth 100000
set_option maxHeartbeats 4000000
theorem app_v1 {B bz:Nat} {W:World} {v:Value} {xs:List Nat} {z:Nat} {T:TypeId} (h1:W.ownsRow B 63 4 v xs.length (flat4 xs)) (hB:B<=W.heap.size) (hb:W.heap[bz]?=some (.cells #[.int .u64 (wd z 0),.int .u64 (wd z 1),.int .u64 (wd z 2),.int .u64 (wd z 3)] T (0,0))) (hk:xs.length+1<=100000) :
  ∃ v' w',(Builtin.append_ #[76,76] 76 #[v,.slice (some ⟨bz,0,none⟩) 1 1]).run Tryz.prog W=.ok v' w'/\w'.ownsRow B 63 4 v' (xs++[z]).length (flat4 (xs++[z]))/\W.grownBy w' v.ownBlock:=by
 obtain⟨i0,hi,hz0,hz1,hz2⟩:=info_parts vec_info
 obtain⟨v',w',hr,ho,hg,_,_⟩:=run_append_own_at (P:=Tryz.prog) W B 76 76 63 i0 _ 4 32 Tryz.underlying76 hi hz0 hz1 hz2 rfl (by decide) v xs.length _ h1 ⟨bz,0,none⟩ 1 1 (words4 z) rfl (words4_at hb) (words4_one z) (by unfold maxLen;omega) (by omega) hB
 refine⟨v',w',hr,?_,hg⟩
 rw[flat4_append,List.length_append]
 exact ho
theorem row_ofs {B N size n:Nat} {W3 wq wr w1:World} {T:TypeId} {v:Value} {xs:List Value} (h:wq.ownsRow B T size v n xs) (ho:Off (fun _=>False) wq wr) (hn:Off (fun _=>False) W3 wq/\W3.heap.size<=B/\N=N) (hg:wr.grownBy w1 v.ownBlock):Off (fun _=>False) W3 w1 :=
 (hn.1.trans ho (fun _ _ c=>c)).grown hg (fun g e=>⟨fun h2=>by have:=(World.ownsRow.lt (own_off h ho) g e).1;have:=hn.2.1;omega,fun o ho2=>by
  rcases(own_off h ho).2 with ⟨e2,_⟩ | ⟨g2,cap,cur,e2,_,hgc,_⟩
  ·rw[e2]at e;simp[Value.ownBlock]at e
  rw[e2]at e;simp[Value.ownBlock]at e;subst e;rw[hgc]at ho2;cases ho2;rfl⟩)
end
section
open Go.RowKit
attribute [local go_sem ↓] Go.wp_at_zero Go.wp_at_succ
theorem fit_no {p:Nat} {xs ys:List Nat} {K j:Nat} (hj:j<xs.length) (h:pv (itpL p (xs.take K) (ys.take K)) (xs.getD j 0)%p≠ys.getD j 0):fitV p xs ys K=false:=by
 rw[Bool.eq_false_iff]
 intro h2
 unfold fitV at h2
 rw[List.all_eq_true]at h2
 exact h (by simpa using h2 j (List.mem_range.2 hj))
theorem fit_yes {p:Nat} {xs ys:List Nat} {K:Nat} (h:∀ j,j<xs.length->pv (itpL p (xs.take K) (ys.take K)) (xs.getD j 0)%p=ys.getD j 0):fitV p xs ys K=true:=by
 unfold fitV
 rw[List.all_eq_true]
 intro j hj
 rw[h j (List.mem_range.1 hj)]
 exact beq_self_eq_true _
theorem ptV_take (xs:List Int) (m:Nat):ptV (xs.take m)=(ptV xs).take m:=List.map_take
theorem take_min {α:Type} (l:List α) (K n:Nat) (h:l.length=n):l.take (min K n)=l.take K:=by
 by_cases hk:K<=n
 ·rw[Nat.min_eq_left hk]
 rw[Nat.min_eq_right (by omega),List.take_of_length_le (by omega),List.take_of_length_le (by omega)]
set_option maxRecDepth 100000 in
set_option maxHeartbeats 4000000 in
theorem reffits_any {p:Nat} (hp:p<R256) (hbig:256<=p) (xs:List Int) (hc:chkV xs=0) (n:Nat) (hn:n=xs.length) (hl:n<=90) (ys:List Nat) (hy:∀ y∈ys,y<p) (hyl:n=ys.length) (k0:Int) (a2 a:Option Addr) (cap2 cap:Nat) (hc2:n<=cap2) (hc1:n<=cap) (w:World) (hV:Iv w (.slice a2 n cap2) xs) (hU:Ls w (.slice a n cap) ys) :
  Calls Tryz.prog 43 #[V p,.slice a2 n cap2,.slice a n cap,.int .i64 k0] w fun e w'=>e=.returned (.bool (fitV p (ptV xs) ys k0.toNat))/\Off (fun _=>False) w w':=by
 obtain⟨hr,hnd⟩:=chkV_zero hc
 have hpl:(ptV xs).length=n:=by rw[ptV_length];exact hn.symm
 obtain⟨m,hm⟩:∃ m,m=min k0.toNat n:=⟨_,rfl⟩
 have hmn:m<=n:=by omega
 have hmm:max (min k0 (n:Int)) 0=(m:Int):=by omega
 have htx:(ptV xs).take m=(ptV xs).take k0.toNat:=by rw[hm];exact take_min _ _ _ hpl
 have hty:ys.take m=ys.take k0.toNat:=by rw[hm];exact take_min _ _ _ hyl.symm
 obtain⟨cs,hcs⟩:∃ l,l=itpL p ((ptV xs).take k0.toNat) (ys.take k0.toNat):=⟨_,rfl⟩
 have hcsp:∀ v∈cs,v<p:=by rw[hcs];exact itpF_lt (by omega) _ _ _
 have hs2:=slice_to_int a2 n cap2 m (by omega)
 have hs1:=slice_to_vec a n cap m (by omega)
 have FI0:=hid (show ∀ W v u,Iv W v (xs.take m)->Ls W u (ys.take m)->Calls Tryz.prog 70 #[V p,v,u] W fun e w'=>∃ z,e=.returned z/\Ls w' z cs/\Off (fun _=>False) W w' from fun W v u h h2=>by
  have g:=refitp_any hp hbig (xs.take m) (fun x hx=>hr x (List.mem_of_mem_take hx)) (by rw[List.length_take];omega) (ys.take m) (fun y hx=>hy y (List.mem_of_mem_take hx)) (by rw[List.length_take,List.length_take];omega) v u W h h2
  rw[ptV_take,htx,hty,<-hcs]at g;exact g)
 have FE0:=hid (show ∀ q,q<256->∀ W v,Ls W v cs->Calls Tryz.prog 71 #[V p,v,V q] W fun e w'=>e=.returned (V (pv cs q%p))/\Off (fun _=>False) W w' from fun q hq W v h=>refeval_any hp (by omega) cs hcsp q (by omega) v W h)
 have FP0:=hid (show ∀ q:Nat,q<256->∀ W,Calls Tryz.prog 72 #[.int .i64 q] W fun e w'=>e=.returned (V q)/\Off (fun _=>False) W w' from fun q hq W=>point_any q hq W)
 have FM0:=hid (show ∀ y,y<p->∀ W,Calls Tryz.prog 31 #[V p,V y] W fun e w'=>e=.returned (V y)/\Off (fun _=>False) W w' from fun y hy W=>by
  have g:=mod_mod p y hp (by omega) (by omega) W
  rw[Nat.mod_eq_of_lt hy]at g;exact g)
 have hyn:fitV p (ptV xs) ys k0.toNat=true↔∀ j,j<n->pv cs ((ptV xs).getD j 0)%p=ys.getD j 0:=by
  rw[hcs]
  constructor
  ·intro h j hj
   refine Classical.byContradiction (fun hne=>?_)
   rw[fit_no (by omega) hne]at h
   cases h
  intro h
  exact fit_yes (fun j hj=>h j (by omega))
 have HYn:=hid hyn
 clear hyn
 have HPt:=hid (show ∀ W,Iv W (.slice a2 n cap2) xs->∀ k,k<n->∃ b off q,a2=some ⟨b,off,none⟩/\W.cell? ⟨b,off+k,none⟩=some (.int .i64 ((q:Nat):Int))/\q<256/\(ptV xs).getD k 0=q from fun W h k hk=>ints_at h hr hk)
 have HYp:=hid (show ∀ k y,ys[k]?=some y->y<p from fun k y h=>hy y (List.mem_of_getElem? h))
 have HIv:=hid hV
 have HLs:=hid hU
 have HMn:=hid hmn
 have HMm:=hid hmm
 have HYl:=hid hyl
 have hpR:=hp
 have hEv:∀ q,pv cs q%p<R256:=fun q=>Nat.lt_trans (Nat.mod_lt _ (by omega)) hp
 have HEv:=hid hEv
 have HpR:=hid hpR
 clear hr hnd hpl hm hmn hmm htx hty hcs hcsp hp hbig hc hn hy hyl hV hU hEv hpR
 go_enter Tryz.func43,Tryz.ntmps43
 go_upto_region 2 with fail
 rw[HMm.out]
 obtain⟨W0,hW0⟩:∃ W0,W0=w.alloc (.cells #[.int .u64 (wd p 0),.int .u64 (wd p 1),.int .u64 (wd p 2),.int .u64 (wd p 3)] 63):=⟨_,rfl⟩
 rw[<-hW0]
 have hOw:Off (fun _=>False) w W0:=by rw[hW0];exact(Off.refl _ w).alloc _
 have g_P:W0.heap[w.heap.size]?=some (.cells #[.int .u64 (wd p 0),.int .u64 (wd p 1),.int .u64 (wd p 2),.int .u64 (wd p 3)] 63 (0,0)):=by rw[hW0];exact heap_new' rfl _
 obtain⟨pb,hpb⟩:∃ pb,pb=w.heap.size:=⟨_,rfl⟩
 rw[<-hpb]at g_P ⊢
 clear hW0 hpb
 have HK:Hid (∀ W',Off (fun _=>False) W0 W'->(W'.cell? ⟨pb,0,none⟩=some (.int .u64 (wd p 0))/\W'.cell? ⟨pb,1,none⟩=some (.int .u64 (wd p 1))/\W'.cell? ⟨pb,2,none⟩=some (.int .u64 (wd p 2))/\W'.cell? ⟨pb,3,none⟩=some (.int .u64 (wd p 3)))/\Off (fun _=>False) W0 W'):=hid (fun W' h=>⟨cells4 (h.heap g_P (fun c=>c)),h⟩)
 have FI:=hid (show ∀ W,Off (fun _=>False) W0 W->_ from fun W h=>FI0.out W _ _ ((HIv.out.off (hOw.trans h (fun _ _ c=>c))).take m HMn.out) ((HLs.out.off (hOw.trans h (fun _ _ c=>c))).take m HMn.out))
 have HOw:=hid hOw
 have HP:=hid g_P
 clear hOw g_P
 refine wp_region_inv (fun a0 l a' w'=>∃ (u17:Value) (u18:Value) (u19:Value) (u20:Value) (u21:Value) (u22:Value) (u23:Value) (u24:Value) (u10:Value),a'=(Act.put (Act.put (Act.put (Act.put (Act.put (Act.put (Act.put (Act.put (Act.put a0 (some 17) u17) (some 18) u18) (some 19) u19) (some 20) u20) (some 21) u21) (some 22) u22) (some 23) u23) (some 24) u24) (some 10) u10)/\Slot l 0 u17 (V p)/\Slot l 1 u18 (.slice a2 n cap2)/\Slot l 2 u19 (.int .i64 m)/\Slot l 3 u20 (.slice a2 m cap2)/\Slot l 4 u21 (.slice a n cap)/\Slot l 5 u22 (.int .i64 m)/\Slot l 6 u23 (.slice a m cap)/\Lk l 7 u24 w' (cs)/\Lk l 8 u10 w' (cs)/\Off (fun _=>False) W0 w') (by kernel_rfl) (by kernel_rfl) ?_ ⟨?_,?_,?_,?_,?_,?_,?_,?_,?_,trivial⟩ ?_
 ·refine⟨?z17,?z18,?z19,?z20,?z21,?z22,?z23,?z24,?z10,?fr,Slot.start _ _ _,Slot.start _ _ _,Slot.start _ _ _,Slot.start _ _ _,Slot.start _ _ _,Slot.start _ _ _,Slot.start _ _ _,Lk.start _ _ _ _,Lk.start _ _ _ _,(Off.refl _ W0).drew⟩
  case fr=>first | (simp only[XP];rfl) | simp only[XP]
 all_goals try (intro l a wr hI hl hd K' hK;obtain⟨u17,u18,u19,u20,u21,u22,u23,u24,u10,ha,s0,s1,s2,s3,s4,s5,s6,M7,M8,hO⟩:=hI;simp only[XP]at ha)
 ·subst ha
  have hc:=HK.out wr hO
  have p0:=hc.1.1
  have p1:=hc.1.2.1
  have p2:=hc.1.2.2.1
  have p3:=hc.1.2.2.2
  clear hc
  go_simp
  refine hK.out _ _ ⟨_,_,_,_,_,_,_,_,_,?_,Slot.new _ _ _,s1.keep rfl,s2.keep rfl,s3.keep rfl,s4.keep rfl,s5.keep rfl,s6.keep rfl,M7.keep (Off.refl _ wr) rfl,M8.keep (Off.refl _ wr) rfl,hO⟩
  simp only[XP]
 ·subst ha
  go_simp
  refine hK.out _ _ ⟨_,_,_,_,_,_,_,_,_,?_,s0.keep rfl,Slot.new _ _ _,s2.keep rfl,s3.keep rfl,s4.keep rfl,s5.keep rfl,s6.keep rfl,M7.keep (Off.refl _ wr) rfl,M8.keep (Off.refl _ wr) rfl,hO⟩
  simp only[XP]
 ·subst ha
  go_simp
  refine hK.out _ _ ⟨_,_,_,_,_,_,_,_,_,?_,s0.keep rfl,s1.keep rfl,Slot.new _ _ _,s3.keep rfl,s4.keep rfl,s5.keep rfl,s6.keep rfl,M7.keep (Off.refl _ wr) rfl,M8.keep (Off.refl _ wr) rfl,hO⟩
  simp only[XP]
 ·have q1:=s1 (hd 1 (by decide))
  have q2:=s2 (hd 2 (by decide))
  subst ha q1 q2
  go_simp
  refine hK.out _ _ ⟨_,_,_,_,_,_,_,_,_,?_,s0.keep rfl,s1.keep rfl,s2.keep rfl,Slot.new _ _ _,s4.keep rfl,s5.keep rfl,s6.keep rfl,M7.keep (Off.refl _ wr) rfl,M8.keep (Off.refl _ wr) rfl,hO⟩
  simp only[XP]
 ·subst ha
  go_simp
  refine hK.out _ _ ⟨_,_,_,_,_,_,_,_,_,?_,s0.keep rfl,s1.keep rfl,s2.keep rfl,s3.keep rfl,Slot.new _ _ _,s5.keep rfl,s6.keep rfl,M7.keep (Off.refl _ wr) rfl,M8.keep (Off.refl _ wr) rfl,hO⟩
  simp only[XP]
 ·subst ha
  go_simp
  refine hK.out _ _ ⟨_,_,_,_,_,_,_,_,_,?_,s0.keep rfl,s1.keep rfl,s2.keep rfl,s3.keep rfl,s4.keep rfl,Slot.new _ _ _,s6.keep rfl,M7.keep (Off.refl _ wr) rfl,M8.keep (Off.refl _ wr) rfl,hO⟩
  simp only[XP]
 ·have q4:=s4 (hd 4 (by decide))
  have q5:=s5 (hd 5 (by decide))
  subst ha q4 q5
  go_simp
  refine hK.out _ _ ⟨_,_,_,_,_,_,_,_,_,?_,s0.keep rfl,s1.keep rfl,s2.keep rfl,s3.keep rfl,s4.keep rfl,s5.keep rfl,Slot.new _ _ _,M7.keep (Off.refl _ wr) rfl,M8.keep (Off.refl _ wr) rfl,hO⟩
  simp only[XP]
 ·have q0:=s0 (hd 0 (by decide))
  have q3:=s3 (hd 3 (by decide))
  have q6:=s6 (hd 6 (by decide))
  subst ha q0 q3 q6
  go_simp
  refine(FI.out wr hO).mono ?_
  rintro e w1 ⟨uv,rfl,hm,hOW⟩
  have hO1:=hO.trans hOW (fun _ _ c=>c.elim)
  go_wp2_with fail
  refine hK.out _ _ ⟨_,_,_,_,_,_,_,_,_,?_,s0.keep rfl,s1.keep rfl,s2.keep rfl,s3.keep rfl,s4.keep rfl,s5.keep rfl,s6.keep rfl,Lk.new hm,M8.keep hOW rfl,hO1⟩
  simp only[XP]
 ·have m7:=M7 (hd 7 (by decide))
  subst ha
  go_simp
  refine hK.out _ _ ⟨_,_,_,_,_,_,_,_,_,?_,s0.keep rfl,s1.keep rfl,s2.keep rfl,s3.keep rfl,s4.keep rfl,s5.keep rfl,s6.keep rfl,M7.keep (Off.refl _ wr) rfl,Lk.new (m7),hO⟩
  simp only[XP]
 intro l a wc hI hd
 obtain⟨u17,u18,u19,u20,u21,u22,u23,u24,u10,ha,s0,s1,s2,s3,s4,s5,s6,M7,M8,hO⟩:=hI
 simp only[XP]at ha
 have q0:=s0 (hd 0 (by decide))
 have q1:=s1 (hd 1 (by decide))
 have q2:=s2 (hd 2 (by decide))
 have q3:=s3 (hd 3 (by decide))
 have q4:=s4 (hd 4 (by decide))
 have q5:=s5 (hd 5 (by decide))
 have q6:=s6 (hd 6 (by decide))
 have m24:=M7 (hd 7 (by decide))
 have m10:=M8 (hd 8 (by decide))
 subst ha q0 q1 q2 q3 q4 q5 q6
 clear hd s0 s1 s2 s3 s4 s5 s6 M7 M8
 obtain⟨zc,hzc⟩:∃ z,z=u10:=⟨_,rfl⟩
 rw[<-hzc]at m10
 rw[<-hzc]
 have HZ:=hid m10
 have HO1:=hid hO
 clear hzc m24 m10 hO HK
 go_wp2
 go_loopw [11] (fun i wr=>∃ k:Nat,k<=n/\i=.int .i64 k/\(∀ j,j<k->pv cs ((ptV xs).getD j 0)%p=ys.getD j 0)/\Off (fun _=>False) W0 wr/\Ls wr zc cs) (fun i _=>n-(intOf i).toNat)
 case atStart=>exact⟨0,Nat.zero_le _,rfl,fun j hj=>by omega,HO1.out,HZ.out⟩
 case round =>
  obtain⟨k,hk,rfl,hgood,hO,hz⟩:=hrel
  have HGo:=hid hgood
  clear hgood
  by_cases hlt:k<n
  ·obtain⟨y,hyk⟩:∃ y,ys[k]?=some y:=⟨_,List.getElem?_eq_getElem (by have:=HYl.out;omega)⟩
   have hyp:=HYp.out k y hyk
   obtain⟨b,off,q,rfl,d0,hq,hqk⟩:=HPt.out wr (HIv.out.off (HOw.out.trans hO (fun _ _ c=>c))) k hlt
   obtain⟨b2,off2,rfl,_,c0,c1,c2,c3⟩:=LsAt.get (HLs.out.off (HOw.out.trans hO (fun _ _ c=>c))) hyk
   obtain⟨e,he⟩:∃ e,e=pv cs q%p:=⟨_,rfl⟩
   have HQk:=hid hqk
   have HYk:=hid (show ys.getD k 0=y by rw[List.getD_eq_getElem?_getD,hyk];rfl)
   have FP:=hid (show ∀ W,Calls Tryz.prog 72 #[.int .i64 q] W fun e w'=>e=.returned (V q)/\Off (fun _=>False) W w' from fun W=>FP0.out q hq W)
   have FM:=hid (show ∀ W,Calls Tryz.prog 31 #[V p,V y] W fun e w'=>e=.returned (V y)/\Off (fun _=>False) W w' from fun W=>FM0.out y hyp W)
   obtain⟨wr0,hwr⟩:∃ u,u=wr:=⟨_,rfl⟩
   rw[<-hwr]at hO hz d0 c0 c1 c2 c3 ⊢
   have FE:=hid (show ∀ W,Off (fun _=>False) wr0 W->Calls Tryz.prog 71 #[V p,zc,V q] W fun x w'=>x=.returned (V e)/\Off (fun _=>False) W w' from fun W h=>by rw[he];exact FE0.out q hq W zc (hz.off h))
   have g_P:=hO.heap HP.out (fun c=>c)
   have HKr:Hid (∀ W',Off (fun _=>False) wr0 W'->(W'.cell? ⟨pb,0,none⟩=some (.int .u64 (wd p 0))/\W'.cell? ⟨pb,1,none⟩=some (.int .u64 (wd p 1))/\W'.cell? ⟨pb,2,none⟩=some (.int .u64 (wd p 2))/\W'.cell? ⟨pb,3,none⟩=some (.int .u64 (wd p 3)))/\(W'.cell? ⟨b2,off2+k*4,none⟩=some (.int .u64 (wd y 0))/\W'.cell? ⟨b2,off2+k*4+1,none⟩=some (.int .u64 (wd y 1))/\W'.cell? ⟨b2,off2+k*4+2,none⟩=some (.int .u64 (wd y 2))/\W'.cell? ⟨b2,off2+k*4+3,none⟩=some (.int .u64 (wd y 3)))/\W'.cell? ⟨b,off+k,none⟩=some (.int .i64 q)/\Off (fun _=>False) wr0 W'):=hid (fun W' h=>⟨cells4 (h.heap g_P (fun c=>c)),⟨h.cell c0 (fun c=>c),h.cell c1 (fun c=>c),h.cell c2 (fun c=>c),h.cell c3 (fun c=>c)⟩,h.cell d0 (fun c=>c),h⟩)
   have HZr:=hid hz
   have HOr:=hid (Off.refl (fun _=>False) wr0)
   have HOg:=hid hO
   have heR:e<R256:=by rw[he];exact HEv.out q
   have hyR:y<R256:=Nat.lt_trans hyp HpR.out
   have HE:=hid he
   have hkn:(k:Int)<(n:Int):=by omega
   have hwk:IntKind.i64.wrap ((k:Int)+1)=(k:Int)+1:=by rw[IntKind.wrap_i64];omega
   clear hwr hyk hyp d0 hq hqk c0 c1 c2 c3 he hO hz g_P
   by_cases hey:e=y
   ·have hgo:∀ j,j<k+1->pv cs ((ptV xs).getD j 0)%p=ys.getD j 0:=fun j hj=>by
     by_cases hjk:j<k
     ·exact HGo.out j hjk
     obtain rfl:j=k:=by omega
     rw[HQk.out,HYk.out,<-HE.out,hey]
    have HGo2:=hid hgo
    have e2:=fun W:World=>(show(Op.equalIn 10000 63 (V e) (V y)).run Tryz.prog W=.ok true W by rw[hey];exact equalIn_same y W)
    clear hgo heR hyR
    have HEy:=hid hey
    clear hey
    go_upto_region 6 with fail
    refine wp_region_inv (fun a0 l a' w'=>∃ (u31:Value) (u32:Value) (u33:Value) (u34:Value) (u35:Value) (u36:Value) (u37:Value) (u38:Value) (u39:Value) (u40:Value) (u41:Value) (u42:Value) (u43:Value) (u44:Value) (u45:Value),a'=(Act.put (Act.put (Act.put (Act.put (Act.put (Act.put (Act.put (Act.put (Act.put (Act.put (Act.put (Act.put (Act.put (Act.put (Act.put a0 (some 31) u31) (some 32) u32) (some 33) u33) (some 34) u34) (some 35) u35) (some 36) u36) (some 37) u37) (some 38) u38) (some 39) u39) (some 40) u40) (some 41) u41) (some 42) u42) (some 43) u43) (some 44) u44) (some 45) u45)/\Slot l 0 u31 (V p)/\Slot l 1 u32 (zc)/\Slot l 2 u33 (.slice (some ⟨b,off,none⟩) n cap2)/\Slot l 3 u34 (.int .i64 k)/\Slot l 4 u35 (.pointer (some ⟨b,off+k,none⟩))/\Slot l 5 u36 (.int .i64 q)/\Slot l 6 u37 (V q)/\Slot l 7 u38 (V e)/\Slot l 8 u39 (V p)/\Slot l 9 u40 (.slice (some ⟨b2,off2,none⟩) n cap)/\Slot l 10 u41 (.int .i64 k)/\Slot l 11 u42 (.pointer (some ⟨b2,off2+k*4,none⟩))/\Slot l 12 u43 (V y)/\Slot l 13 u44 (V y)/\Slot l 14 u45 (.bool false)/\Off (fun _=>False) wr0 w') (by kernel_rfl) (by kernel_rfl) ?_ ⟨?_,?_,?_,?_,?_,?_,?_,?_,?_,?_,?_,?_,?_,?_,?_,trivial⟩ ?_
    ·refine⟨?z31,?z32,?z33,?z34,?z35,?z36,?z37,?z38,?z39,?z40,?z41,?z42,?z43,?z44,?z45,?fr,Slot.start _ _ _,Slot.start _ _ _,Slot.start _ _ _,Slot.start _ _ _,Slot.start _ _ _,Slot.start _ _ _,Slot.start _ _ _,Slot.start _ _ _,Slot.start _ _ _,Slot.start _ _ _,Slot.start _ _ _,Slot.start _ _ _,Slot.start _ _ _,Slot.start _ _ _,Slot.start _ _ _,HOr.out.drew⟩
     case fr=>first | (simp only[XP];rfl) | simp only[XP]
    all_goals try (intro l a wr hI hl hd K' hK;obtain⟨u31,u32,u33,u34,u35,u36,u37,u38,u39,u40,u41,u42,u43,u44,u45,ha,s0,s1,s2,s3,s4,s5,s6,s7,s8,s9,s10,s11,s12,s13,s14,hO⟩:=hI;simp only[XP]at ha)
    ·subst ha
     have hc:=HKr.out wr hO
     have p0:=hc.1.1
     have p1:=hc.1.2.1
     have p2:=hc.1.2.2.1
     have p3:=hc.1.2.2.2
     clear hc
     go_simp
     refine hK.out _ _ ⟨_,_,_,_,_,_,_,_,_,_,_,_,_,_,_,?_,Slot.new _ _ _,s1.keep rfl,s2.keep rfl,s3.keep rfl,s4.keep rfl,s5.keep rfl,s6.keep rfl,s7.keep rfl,s8.keep rfl,s9.keep rfl,s10.keep rfl,s11.keep rfl,s12.keep rfl,s13.keep rfl,s14.keep rfl,hO⟩
     simp only[XP]
    ·subst ha
     go_simp
     refine hK.out _ _ ⟨_,_,_,_,_,_,_,_,_,_,_,_,_,_,_,?_,s0.keep rfl,Slot.new _ _ _,s2.keep rfl,s3.keep rfl,s4.keep rfl,s5.keep rfl,s6.keep rfl,s7.keep rfl,s8.keep rfl,s9.keep rfl,s10.keep rfl,s11.keep rfl,s12.keep rfl,s13.keep rfl,s14.keep rfl,hO⟩
     simp only[XP]
    ·subst ha
     go_simp
     refine hK.out _ _ ⟨_,_,_,_,_,_,_,_,_,_,_,_,_,_,_,?_,s0.keep rfl,s1.keep rfl,Slot.new _ _ _,s3.keep rfl,s4.keep rfl,s5.keep rfl,s6.keep rfl,s7.keep rfl,s8.keep rfl,s9.keep rfl,s10.keep rfl,s11.keep rfl,s12.keep rfl,s13.keep rfl,s14.keep rfl,hO⟩
     simp only[XP]
    ·subst ha
     go_simp
     refine hK.out _ _ ⟨_,_,_,_,_,_,_,_,_,_,_,_,_,_,_,?_,s0.keep rfl,s1.keep rfl,s2.keep rfl,Slot.new _ _ _,s4.keep rfl,s5.keep rfl,s6.keep rfl,s7.keep rfl,s8.keep rfl,s9.keep rfl,s10.keep rfl,s11.keep rfl,s12.keep rfl,s13.keep rfl,s14.keep rfl,hO⟩
     simp only[XP]
    ·have q2:=s2 (hd 2 (by decide))
     have q3:=s3 (hd 3 (by decide))
     subst ha q2 q3
     go_simp
     refine hK.out _ _ ⟨_,_,_,_,_,_,_,_,_,_,_,_,_,_,_,?_,s0.keep rfl,s1.keep rfl,s2.keep rfl,s3.keep rfl,Slot.new _ _ _,s5.keep rfl,s6.keep rfl,s7.keep rfl,s8.keep rfl,s9.keep rfl,s10.keep rfl,s11.keep rfl,s12.keep rfl,s13.keep rfl,s14.keep rfl,hO⟩
     simp only[XP]
    ·have q4:=s4 (hd 4 (by decide))
     subst ha q4
     have hc:=HKr.out wr hO
     have p0:=hc.2.2.1
     clear hc
     go_simp
     refine hK.out _ _ ⟨_,_,_,_,_,_,_,_,_,_,_,_,_,_,_,?_,s0.keep rfl,s1.keep rfl,s2.keep rfl,s3.keep rfl,s4.keep rfl,Slot.new _ _ _,s6.keep rfl,s7.keep rfl,s8.keep rfl,s9.keep rfl,s10.keep rfl,s11.keep rfl,s12.keep rfl,s13.keep rfl,s14.keep rfl,hO⟩
     simp only[XP]
    ·have q5:=s5 (hd 5 (by decide))
     subst ha q5
     go_simp
     refine(held_inv (FP.out wr) hO).mono ?_
     rintro e w1 ⟨rfl,hO1,hOW⟩
     go_wp2_with fail
     refine hK.out _ _ ⟨_,_,_,_,_,_,_,_,_,_,_,_,_,_,_,?_,s0.keep rfl,s1.keep rfl,s2.keep rfl,s3.keep rfl,s4.keep rfl,s5.keep rfl,Slot.new _ _ _,s7.keep rfl,s8.keep rfl,s9.keep rfl,s10.keep rfl,s11.keep rfl,s12.keep rfl,s13.keep rfl,s14.keep rfl,hO1⟩
     simp only[XP]
    ·have q0:=s0 (hd 0 (by decide))
     have q1:=s1 (hd 1 (by decide))
     have q6:=s6 (hd 6 (by decide))
     subst ha q0 q1 q6
     go_simp
     refine(held_inv (FE.out wr hO) hO).mono ?_
     rintro e w1 ⟨rfl,hO1,hOW⟩
     go_wp2_with fail
     refine hK.out _ _ ⟨_,_,_,_,_,_,_,_,_,_,_,_,_,_,_,?_,s0.keep rfl,s1.keep rfl,s2.keep rfl,s3.keep rfl,s4.keep rfl,s5.keep rfl,s6.keep rfl,Slot.new _ _ _,s8.keep rfl,s9.keep rfl,s10.keep rfl,s11.keep rfl,s12.keep rfl,s13.keep rfl,s14.keep rfl,hO1⟩
     simp only[XP]
    ·subst ha
     have hc:=HKr.out wr hO
     have p0:=hc.1.1
     have p1:=hc.1.2.1
     have p2:=hc.1.2.2.1
     have p3:=hc.1.2.2.2
     clear hc
     go_simp
     refine hK.out _ _ ⟨_,_,_,_,_,_,_,_,_,_,_,_,_,_,_,?_,s0.keep rfl,s1.keep rfl,s2.keep rfl,s3.keep rfl,s4.keep rfl,s5.keep rfl,s6.keep rfl,s7.keep rfl,Slot.new _ _ _,s9.keep rfl,s10.keep rfl,s11.keep rfl,s12.keep rfl,s13.keep rfl,s14.keep rfl,hO⟩
     simp only[XP]
    ·subst ha
     go_simp
     refine hK.out _ _ ⟨_,_,_,_,_,_,_,_,_,_,_,_,_,_,_,?_,s0.keep rfl,s1.keep rfl,s2.keep rfl,s3.keep rfl,s4.keep rfl,s5.keep rfl,s6.keep rfl,s7.keep rfl,s8.keep rfl,Slot.new _ _ _,s10.keep rfl,s11.keep rfl,s12.keep rfl,s13.keep rfl,s14.keep rfl,hO⟩
     simp only[XP]
    ·subst ha
     go_simp
     refine hK.out _ _ ⟨_,_,_,_,_,_,_,_,_,_,_,_,_,_,_,?_,s0.keep rfl,s1.keep rfl,s2.keep rfl,s3.keep rfl,s4.keep rfl,s5.keep rfl,s6.keep rfl,s7.keep rfl,s8.keep rfl,s9.keep rfl,Slot.new _ _ _,s11.keep rfl,s12.keep rfl,s13.keep rfl,s14.keep rfl,hO⟩
     simp only[XP]
    ·have q9:=s9 (hd 9 (by decide))
     have q10:=s10 (hd 10 (by decide))
     subst ha q9 q10
     go_simp
     refine hK.out _ _ ⟨_,_,_,_,_,_,_,_,_,_,_,_,_,_,_,?_,s0.keep rfl,s1.keep rfl,s2.keep rfl,s3.keep rfl,s4.keep rfl,s5.keep rfl,s6.keep rfl,s7.keep rfl,s8.keep rfl,s9.keep rfl,s10.keep rfl,Slot.new _ _ _,s12.keep rfl,s13.keep rfl,s14.keep rfl,hO⟩
     simp only[XP]
    ·have q11:=s11 (hd 11 (by decide))
     subst ha q11
     have hc:=HKr.out wr hO
     have p0:=hc.2.1.1
     have p1:=hc.2.1.2.1
     have p2:=hc.2.1.2.2.1
     have p3:=hc.2.1.2.2.2
     clear hc
     go_simp
     refine hK.out _ _ ⟨_,_,_,_,_,_,_,_,_,_,_,_,_,_,_,?_,s0.keep rfl,s1.keep rfl,s2.keep rfl,s3.keep rfl,s4.keep rfl,s5.keep rfl,s6.keep rfl,s7.keep rfl,s8.keep rfl,s9.keep rfl,s10.keep rfl,s11.keep rfl,Slot.new _ _ _,s13.keep rfl,s14.keep rfl,hO⟩
     simp only[XP]
    ·have q8:=s8 (hd 8 (by decide))
     have q12:=s12 (hd 12 (by decide))
     subst ha q8 q12
     go_simp
     refine(held_inv (FM.out wr) hO).mono ?_
     rintro e w1 ⟨rfl,hO1,hOW⟩
     go_wp2_with fail
     refine hK.out _ _ ⟨_,_,_,_,_,_,_,_,_,_,_,_,_,_,_,?_,s0.keep rfl,s1.keep rfl,s2.keep rfl,s3.keep rfl,s4.keep rfl,s5.keep rfl,s6.keep rfl,s7.keep rfl,s8.keep rfl,s9.keep rfl,s10.keep rfl,s11.keep rfl,s12.keep rfl,Slot.new _ _ _,s14.keep rfl,hO1⟩
     simp only[XP]
    ·have q7:=s7 (hd 7 (by decide))
     have q13:=s13 (hd 13 (by decide))
     subst ha q7 q13
     go_simp
     refine hK.out _ _ ⟨_,_,_,_,_,_,_,_,_,_,_,_,_,_,_,?_,s0.keep rfl,s1.keep rfl,s2.keep rfl,s3.keep rfl,s4.keep rfl,s5.keep rfl,s6.keep rfl,s7.keep rfl,s8.keep rfl,s9.keep rfl,s10.keep rfl,s11.keep rfl,s12.keep rfl,s13.keep rfl,Slot.new _ _ _,hO⟩
     simp only[XP]
    intro l a wc hI hd
    obtain⟨u31,u32,u33,u34,u35,u36,u37,u38,u39,u40,u41,u42,u43,u44,u45,ha,s0,s1,s2,s3,s4,s5,s6,s7,s8,s9,s10,s11,s12,s13,s14,hO⟩:=hI
    simp only[XP]at ha
    have q0:=s0 (hd 0 (by decide))
    have q1:=s1 (hd 1 (by decide))
    have q2:=s2 (hd 2 (by decide))
    have q3:=s3 (hd 3 (by decide))
    have q4:=s4 (hd 4 (by decide))
    have q5:=s5 (hd 5 (by decide))
    have q6:=s6 (hd 6 (by decide))
    have q7:=s7 (hd 7 (by decide))
    have q8:=s8 (hd 8 (by decide))
    have q9:=s9 (hd 9 (by decide))
    have q10:=s10 (hd 10 (by decide))
    have q11:=s11 (hd 11 (by decide))
    have q12:=s12 (hd 12 (by decide))
    have q13:=s13 (hd 13 (by decide))
    have q14:=s14 (hd 14 (by decide))
    subst ha q0 q1 q2 q3 q4 q5 q6 q7 q8 q9 q10 q11 q12 q13 q14
    clear hd s0 s1 s2 s3 s4 s5 s6 s7 s8 s9 s10 s11 s12 s13 s14
    have HZ5:=hid (HZr.out.off hO)
    have HO5:=hid (HOg.out.trans hO (fun _ _ c=>c))
    clear hO
    go_wp2
    go_roundw
    case rel=>exact⟨k+1,by omega,by simp,HGo2.out,HO5.out,HZ5.out⟩
    case measure=>simp[intOf] <;> omega
   have hfv:fitV p (ptV xs) ys k0.toNat=false:=by
    rw[Bool.eq_false_iff]
    intro h
    have h2:=HYn.out.1 h k hlt
    rw[HQk.out,HYk.out,<-HE.out]at h2
    exact hey h2
   have HFv:=hid hfv
   have e2:=fun W:World=>(show(Op.equalIn 10000 63 (V e) (V y)).run Tryz.prog W=.ok false W by
    rw[equalIn_num heR hyR,show eqN e y=false by simp[eqN,hey]])
   have HEy:=hid hey
   clear hfv heR hyR hey
   go_upto_region 6 with fail
   refine wp_region_inv (fun a0 l a' w'=>∃ (u31:Value) (u32:Value) (u33:Value) (u34:Value) (u35:Value) (u36:Value) (u37:Value) (u38:Value) (u39:Value) (u40:Value) (u41:Value) (u42:Value) (u43:Value) (u44:Value) (u45:Value),a'=(Act.put (Act.put (Act.put (Act.put (Act.put (Act.put (Act.put (Act.put (Act.put (Act.put (Act.put (Act.put (Act.put (Act.put (Act.put a0 (some 31) u31) (some 32) u32) (some 33) u33) (some 34) u34) (some 35) u35) (some 36) u36) (some 37) u37) (some 38) u38) (some 39) u39) (some 40) u40) (some 41) u41) (some 42) u42) (some 43) u43) (some 44) u44) (some 45) u45)/\Slot l 0 u31 (V p)/\Slot l 1 u32 (zc)/\Slot l 2 u33 (.slice (some ⟨b,off,none⟩) n cap2)/\Slot l 3 u34 (.int .i64 k)/\Slot l 4 u35 (.pointer (some ⟨b,off+k,none⟩))/\Slot l 5 u36 (.int .i64 q)/\Slot l 6 u37 (V q)/\Slot l 7 u38 (V e)/\Slot l 8 u39 (V p)/\Slot l 9 u40 (.slice (some ⟨b2,off2,none⟩) n cap)/\Slot l 10 u41 (.int .i64 k)/\Slot l 11 u42 (.pointer (some ⟨b2,off2+k*4,none⟩))/\Slot l 12 u43 (V y)/\Slot l 13 u44 (V y)/\Slot l 14 u45 (.bool true)/\Off (fun _=>False) wr0 w') (by kernel_rfl) (by kernel_rfl) ?_ ⟨?_,?_,?_,?_,?_,?_,?_,?_,?_,?_,?_,?_,?_,?_,?_,trivial⟩ ?_
   ·refine⟨?z31,?z32,?z33,?z34,?z35,?z36,?z37,?z38,?z39,?z40,?z41,?z42,?z43,?z44,?z45,?fr,Slot.start _ _ _,Slot.start _ _ _,Slot.start _ _ _,Slot.start _ _ _,Slot.start _ _ _,Slot.start _ _ _,Slot.start _ _ _,Slot.start _ _ _,Slot.start _ _ _,Slot.start _ _ _,Slot.start _ _ _,Slot.start _ _ _,Slot.start _ _ _,Slot.start _ _ _,Slot.start _ _ _,HOr.out.drew⟩
    case fr=>first | (simp only[XP];rfl) | simp only[XP]
   all_goals try (intro l a wr hI hl hd K' hK;obtain⟨u31,u32,u33,u34,u35,u36,u37,u38,u39,u40,u41,u42,u43,u44,u45,ha,s0,s1,s2,s3,s4,s5,s6,s7,s8,s9,s10,s11,s12,s13,s14,hO⟩:=hI;simp only[XP]at ha)
   ·subst ha
    have hc:=HKr.out wr hO
    have p0:=hc.1.1
    have p1:=hc.1.2.1
    have p2:=hc.1.2.2.1
    have p3:=hc.1.2.2.2
    clear hc
    go_simp
    refine hK.out _ _ ⟨_,_,_,_,_,_,_,_,_,_,_,_,_,_,_,?_,Slot.new _ _ _,s1.keep rfl,s2.keep rfl,s3.keep rfl,s4.keep rfl,s5.keep rfl,s6.keep rfl,s7.keep rfl,s8.keep rfl,s9.keep rfl,s10.keep rfl,s11.keep rfl,s12.keep rfl,s13.keep rfl,s14.keep rfl,hO⟩
    simp only[XP]
   ·subst ha
    go_simp
    refine hK.out _ _ ⟨_,_,_,_,_,_,_,_,_,_,_,_,_,_,_,?_,s0.keep rfl,Slot.new _ _ _,s2.keep rfl,s3.keep rfl,s4.keep rfl,s5.keep rfl,s6.keep rfl,s7.keep rfl,s8.keep rfl,s9.keep rfl,s10.keep rfl,s11.keep rfl,s12.keep rfl,s13.keep rfl,s14.keep rfl,hO⟩
    simp only[XP]
   ·subst ha
    go_simp
    refine hK.out _ _ ⟨_,_,_,_,_,_,_,_,_,_,_,_,_,_,_,?_,s0.keep rfl,s1.keep rfl,Slot.new _ _ _,s3.keep rfl,s4.keep rfl,s5.keep rfl,s6.keep rfl,s7.keep rfl,s8.keep rfl,s9.keep rfl,s10.keep rfl,s11.keep rfl,s12.keep rfl,s13.keep rfl,s14.keep rfl,hO⟩
    simp only[XP]
   ·subst ha
    go_simp
    refine hK.out _ _ ⟨_,_,_,_,_,_,_,_,_,_,_,_,_,_,_,?_,s0.keep rfl,s1.keep rfl,s2.keep rfl,Slot.new _ _ _,s4.keep rfl,s5.keep rfl,s6.keep rfl,s7.keep rfl,s8.keep rfl,s9.keep rfl,s10.keep rfl,s11.keep rfl,s12.keep rfl,s13.keep rfl,s14.keep rfl,hO⟩
    simp only[XP]
   ·have q2:=s2 (hd 2 (by decide))
    have q3:=s3 (hd 3 (by decide))
    subst ha q2 q3
    go_simp
    refine hK.out _ _ ⟨_,_,_,_,_,_,_,_,_,_,_,_,_,_,_,?_,s0.keep rfl,s1.keep rfl,s2.keep rfl,s3.keep rfl,Slot.new _ _ _,s5.keep rfl,s6.keep rfl,s7.keep rfl,s8.keep rfl,s9.keep rfl,s10.keep rfl,s11.keep rfl,s12.keep rfl,s13.keep rfl,s14.keep rfl,hO⟩
    simp only[XP]
   ·have q4:=s4 (hd 4 (by decide))
    subst ha q4
    have hc:=HKr.out wr hO
    have p0:=hc.2.2.1
    clear hc
    go_simp
    refine hK.out _ _ ⟨_,_,_,_,_,_,_,_,_,_,_,_,_,_,_,?_,s0.keep rfl,s1.keep rfl,s2.keep rfl,s3.keep rfl,s4.keep rfl,Slot.new _ _ _,s6.keep rfl,s7.keep rfl,s8.keep rfl,s9.keep rfl,s10.keep rfl,s11.keep rfl,s12.keep rfl,s13.keep rfl,s14.keep rfl,hO⟩
    simp only[XP]
   ·have q5:=s5 (hd 5 (by decide))
    subst ha q5
    go_simp
    refine(held_inv (FP.out wr) hO).mono ?_
    rintro e w1 ⟨rfl,hO1,hOW⟩
    go_wp2_with fail
    refine hK.out _ _ ⟨_,_,_,_,_,_,_,_,_,_,_,_,_,_,_,?_,s0.keep rfl,s1.keep rfl,s2.keep rfl,s3.keep rfl,s4.keep rfl,s5.keep rfl,Slot.new _ _ _,s7.keep rfl,s8.keep rfl,s9.keep rfl,s10.keep rfl,s11.keep rfl,s12.keep rfl,s13.keep rfl,s14.keep rfl,hO1⟩
    simp only[XP]
   ·have q0:=s0 (hd 0 (by decide))
    have q1:=s1 (hd 1 (by decide))
    have q6:=s6 (hd 6 (by decide))
    subst ha q0 q1 q6
    go_simp
    refine(held_inv (FE.out wr hO) hO).mono ?_
    rintro e w1 ⟨rfl,hO1,hOW⟩
    go_wp2_with fail
    refine hK.out _ _ ⟨_,_,_,_,_,_,_,_,_,_,_,_,_,_,_,?_,s0.keep rfl,s1.keep rfl,s2.keep rfl,s3.keep rfl,s4.keep rfl,s5.keep rfl,s6.keep rfl,Slot.new _ _ _,s8.keep rfl,s9.keep rfl,s10.keep rfl,s11.keep rfl,s12.keep rfl,s13.keep rfl,s14.keep rfl,hO1⟩
    simp only[XP]
   ·subst ha
    have hc:=HKr.out wr hO
    have p0:=hc.1.1
    have p1:=hc.1.2.1
    have p2:=hc.1.2.2.1
    have p3:=hc.1.2.2.2
    clear hc
    go_simp
    refine hK.out _ _ ⟨_,_,_,_,_,_,_,_,_,_,_,_,_,_,_,?_,s0.keep rfl,s1.keep rfl,s2.keep rfl,s3.keep rfl,s4.keep rfl,s5.keep rfl,s6.keep rfl,s7.keep rfl,Slot.new _ _ _,s9.keep rfl,s10.keep rfl,s11.keep rfl,s12.keep rfl,s13.keep rfl,s14.keep rfl,hO⟩
    simp only[XP]
   ·subst ha
    go_simp
    refine hK.out _ _ ⟨_,_,_,_,_,_,_,_,_,_,_,_,_,_,_,?_,s0.keep rfl,s1.keep rfl,s2.keep rfl,s3.keep rfl,s4.keep rfl,s5.keep rfl,s6.keep rfl,s7.keep rfl,s8.keep rfl,Slot.new _ _ _,s10.keep rfl,s11.keep rfl,s12.keep rfl,s13.keep rfl,s14.keep rfl,hO⟩
    simp only[XP]
   ·subst ha
    go_simp
    refine hK.out _ _ ⟨_,_,_,_,_,_,_,_,_,_,_,_,_,_,_,?_,s0.keep rfl,s1.keep rfl,s2.keep rfl,s3.keep rfl,s4.keep rfl,s5.keep rfl,s6.keep rfl,s7.keep rfl,s8.keep rfl,s9.keep rfl,Slot.new _ _ _,s11.keep rfl,s12.keep rfl,s13.keep rfl,s14.keep rfl,hO⟩
    simp only[XP]
   ·have q9:=s9 (hd 9 (by decide))
    have q10:=s10 (hd 10 (by decide))
    subst ha q9 q10
    go_simp
    refine hK.out _ _ ⟨_,_,_,_,_,_,_,_,_,_,_,_,_,_,_,?_,s0.keep rfl,s1.keep rfl,s2.keep rfl,s3.keep rfl,s4.keep rfl,s5.keep rfl,s6.keep rfl,s7.keep rfl,s8.keep rfl,s9.keep rfl,s10.keep rfl,Slot.new _ _ _,s12.keep rfl,s13.keep rfl,s14.keep rfl,hO⟩
    simp only[XP]
   ·have q11:=s11 (hd 11 (by decide))
    subst ha q11
    have hc:=HKr.out wr hO
    have p0:=hc.2.1.1
    have p1:=hc.2.1.2.1
    have p2:=hc.2.1.2.2.1
    have p3:=hc.2.1.2.2.2
    clear hc
    go_simp
    refine hK.out _ _ ⟨_,_,_,_,_,_,_,_,_,_,_,_,_,_,_,?_,s0.keep rfl,s1.keep rfl,s2.keep rfl,s3.keep rfl,s4.keep rfl,s5.keep rfl,s6.keep rfl,s7.keep rfl,s8.keep rfl,s9.keep rfl,s10.keep rfl,s11.keep rfl,Slot.new _ _ _,s13.keep rfl,s14.keep rfl,hO⟩
    simp only[XP]
   ·have q8:=s8 (hd 8 (by decide))
    have q12:=s12 (hd 12 (by decide))
    subst ha q8 q12
    go_simp
    refine(held_inv (FM.out wr) hO).mono ?_
    rintro e w1 ⟨rfl,hO1,hOW⟩
    go_wp2_with fail
    refine hK.out _ _ ⟨_,_,_,_,_,_,_,_,_,_,_,_,_,_,_,?_,s0.keep rfl,s1.keep rfl,s2.keep rfl,s3.keep rfl,s4.keep rfl,s5.keep rfl,s6.keep rfl,s7.keep rfl,s8.keep rfl,s9.keep rfl,s10.keep rfl,s11.keep rfl,s12.keep rfl,Slot.new _ _ _,s14.keep rfl,hO1⟩
    simp only[XP]
   ·have q7:=s7 (hd 7 (by decide))
    have q13:=s13 (hd 13 (by decide))
    subst ha q7 q13
    go_simp
    refine hK.out _ _ ⟨_,_,_,_,_,_,_,_,_,_,_,_,_,_,_,?_,s0.keep rfl,s1.keep rfl,s2.keep rfl,s3.keep rfl,s4.keep rfl,s5.keep rfl,s6.keep rfl,s7.keep rfl,s8.keep rfl,s9.keep rfl,s10.keep rfl,s11.keep rfl,s12.keep rfl,s13.keep rfl,Slot.new _ _ _,hO⟩
    simp only[XP]
   intro l a wc hI hd
   obtain⟨u31,u32,u33,u34,u35,u36,u37,u38,u39,u40,u41,u42,u43,u44,u45,ha,s0,s1,s2,s3,s4,s5,s6,s7,s8,s9,s10,s11,s12,s13,s14,hO⟩:=hI
   simp only[XP]at ha
   have q0:=s0 (hd 0 (by decide))
   have q1:=s1 (hd 1 (by decide))
   have q2:=s2 (hd 2 (by decide))
   have q3:=s3 (hd 3 (by decide))
   have q4:=s4 (hd 4 (by decide))
   have q5:=s5 (hd 5 (by decide))
   have q6:=s6 (hd 6 (by decide))
   have q7:=s7 (hd 7 (by decide))
   have q8:=s8 (hd 8 (by decide))
   have q9:=s9 (hd 9 (by decide))
   have q10:=s10 (hd 10 (by decide))
   have q11:=s11 (hd 11 (by decide))
   have q12:=s12 (hd 12 (by decide))
   have q13:=s13 (hd 13 (by decide))
   have q14:=s14 (hd 14 (by decide))
   subst ha q0 q1 q2 q3 q4 q5 q6 q7 q8 q9 q10 q11 q12 q13 q14
   clear hd s0 s1 s2 s3 s4 s5 s6 s7 s8 s9 s10 s11 s12 s13 s14
   have HO5:=hid (HOw.out.trans (HOg.out.trans hO (fun _ _ c=>c)) (fun _ _ c=>c))
   clear hO
   go_wp2
   go_ret
   exact⟨by rw[HFv.out];rfl,HO5.out⟩
  obtain rfl:k=n:=by omega
  have hfv:fitV p (ptV xs) ys k0.toNat=true:=HYn.out.2 HGo.out
  have HFv:=hid hfv
  have HO5:=hid (HOw.out.trans hO (fun _ _ c=>c))
  clear hfv hO hz
  go_wp2
  go_ret
  exact⟨by rw[HFv.out];rfl,HO5.out⟩
end
section
open Go.RowKit
attribute [local go_sem ↓] Go.wp_at_zero Go.wp_at_succ
set_option linter.unusedSimpArgs false
set_option maxRecDepth 100000
set_option maxHeartbeats 4000000
theorem refchs18 (us:List Sh) (h0:shsN us=0) (a:Option Addr) (n cap:Nat) (hn:n=us.length) (hnc:n<=cap) (hl:n<=90) (hcn:cJ us<=1000) (S:Nat->Prop) (w:World) (h:ShsAt w (.slice a n cap) us S) :
  Calls Tryz.prog 16 #[.slice a n cap] w fun e w'=>∃ v,e=.returned v/\RowBo w.heap.size w' v (chsL us)/\Off (fun _=>False) w w':=by
 have hmx:Tryz.prog.follows .mixedOrders=true:=by kernel_rfl
 have hA:=acc_hd h0
 obtain⟨p,hp⟩:∃ p,p=pJ us:=⟨_,rfl⟩
 obtain⟨c,hc⟩:∃ c,c=cJ us:=⟨_,rfl⟩
 obtain⟨T,hT⟩:∃ T,T=TJ us:=⟨_,rfl⟩
 have hn0:0<n:=by rw[hn];exact hA.pos
 obtain⟨hp1,hp2⟩:=modN_pos hA.kn
 have hbig:=big_p hA.kn
 have hpm:modN (hd0 us).fd=p:=by rw[hp];rfl
 rw[hpm]at hp1 hp2 hbig
 rw[<-hc]at hcn
 obtain⟨i0,r,s,hF⟩:∃ i r s,Fld (hd0 us).fd p i r s:=by
  rw[<-hpm]
  rcases hA.kn with e | e <;> rw[e]
  ·exact⟨_,_,_,fld1⟩
  exact⟨_,_,_,fld2⟩
 have FMo:=hid (fun W=>by have h:=mod_modulus (hd0 us).fd W;rw[hpm]at h;exact h)
 have FVl:=hid (fun y (hy:y<p) W=>value_any p y hF.mp (fld_full hF).1 hy W)
 have hchk:=hA.chkA
 have hxl:n=(ixs us).length:=by unfold ixs;rw[List.length_map];exact hn
 have hth:(hd0 us).th=(T:Int):=by rw[hT];unfold TJ;have:=hA.th1;omega
 have FFt:=hid (fun(j:Nat) a2 ya cap2 yc (h2:n<=cap2) (h3:n<=yc) W (hV:Iv W (.slice a2 n cap2) (ixs us)) (hU:Ls W (.slice ya n yc) (jys p us j))=>show Calls Tryz.prog 43 #[V p,.slice a2 n cap2,.slice ya n yc,.int .i64 T] W fun e w'=>e=.returned (.bool (fitJ p T us j))/\Off (fun _=>False) W w' from by
  have g:=reffits_any hp2 (Nat.le_of_lt (Nat.lt_trans (by decide) hbig)) (ixs us) hchk n hxl hl (jys p us j) (jys_lt hF.mp us j) (by rw[jys_length];exact hn) (T:Int) a2 ya cap2 yc h2 h3 W hV hU
  have g2:=hA.fit T j
  rw[hpm]at g2
  rw[Int.toNat_natCast,g2]at g
  exact g)
 have HF:=hid hF
 have HH:=hid h
 have HA:=hid hA
 have HPm:=hid hpm
 have HC:=hid (show chsL us=(List.range c).map (fitJ p T us) by rw[hc,hp,hT];rfl)
 have HN:=hid (And.intro hn (And.intro hnc (And.intro hl (And.intro hn0 hcn))))
 obtain⟨s1,b,off,hx,_,rfl,hSb,c0,c1,c2,c3,pa,pc,c4,hpc,hV⟩:=h.at (k:=0) hn0
 rw[hA.first]at hx
 cases hx
 have hpl:(hd0 us).pl.length=c:=by rw[hc];exact(hA.all _ (List.mem_of_getElem? hA.first)).2.2.2.1
 rw[hpl]at c4
 rw[hth]at c1
 obtain⟨o0,ho0⟩:∃ o0,o0=off+0*5:=⟨_,rfl⟩
 have ho0':o0=off:=by omega
 rw[<-ho0,ho0']at c0 c1 c2 c3 c4
 have HC04:=hid (And.intro c0 (And.intro c1 c4))
 have lb:=World.block_lt_of_cell? w _ c0
 have hn0i:(0:Int)<(n:Int):=by omega
 obtain⟨fd,hfd⟩:∃ fd,fd=(hd0 us).fd:=⟨_,rfl⟩
 rw[<-hfd]at c0 FMo
 clear hV hpc hF hp hc hT hn hl hp1 hp2 hbig hA h hpl hth ho0 ho0' hfd c1 c2 c3 c4 hSb hchk hxl hpm hcn h0
 go_enter Tryz.func16,Tryz.ntmps16
 go_wp2_with fail
 refine(FMo.out _).mono ?_
 rintro e u1 ⟨rfl,hO⟩
 have HO1:=hid hO
 clear hO FMo c0 lb
 go_wp2_with fail
 obtain⟨W1,hW1⟩:∃ W,W=u1.alloc (.cells #[.int .u64 (wd p 0),.int .u64 (wd p 1),.int .u64 (wd p 2),.int .u64 (wd p 3)] 63):=⟨_,rfl⟩
 rw[<-hW1]
 have HOW:=hid (show Off (fun _=>False) w W1 by rw[hW1];exact HO1.out.alloc _)
 have HPb:=hid (show W1.heap[u1.heap.size]?=some (.cells #[.int .u64 (wd p 0),.int .u64 (wd p 1),.int .u64 (wd p 2),.int .u64 (wd p 3)] 63 (0,0)) by rw[hW1];exact heap_new' rfl _)
 obtain⟨bp,hbp⟩:∃ b,b=u1.heap.size:=⟨_,rfl⟩
 rw[<-hbp]at HPb ⊢
 clear hW1 hbp HO1
 go_loopw [4,5] (fun o i wr=>∃ k:Nat,k<=n/\i=.int .i64 k/\(∃ a2 c2,o=.slice a2 k c2/\RowJ W1.heap.size wr o ((ixs us).take k))/\Off (fun _=>False) W1 wr) (fun _ i _=>n-(intOf i).toNat)
 case atStart=>exact⟨0,Nat.zero_le _,rfl,⟨none,0,rfl,World.ownsRow_nil _ _ _ _⟩,Off.refl _ _⟩
 case round =>
  obtain⟨k,hk,rfl,⟨va,vc,rfl,hr⟩,hO⟩:=hrel
  by_cases hlt:k<n
  ·obtain⟨s1,b1,off1,hx,hok,e0,_,c0,c1,c2,c3,pa,pc,c4,hpc,hV⟩:=(HH.out.off (HOW.out.trans hO (fun _ _ c=>c)) (fun _ _ _ c=>c)).at (k:=k) hlt
   cases e0
   have hxi:(ixs us)[k]?=some s1.ix:=by
    unfold ixs
    rw[List.getElem?_map,hx];rfl
   have hxk:(ixs us).take (k+1)=(ixs us).take k++[s1.ix]:=by rw[List.take_add_one,hxi];rfl
   have hl0:((ixs us).take k).length=k:=by rw[List.length_take];unfold ixs;rw[List.length_map];have:=HN.out.1;omega
   have hl1:((ixs us).take (k+1)).length=k+1:=by rw[List.length_take];unfold ixs;rw[List.length_map];have:=HN.out.1;omega
   have hoa:Off (fun _=>False) wr (wr.alloc (.cells #[.int .i64 s1.ix] 3)):=(Off.refl _ _).alloc _
   have hra:RowJ W1.heap.size (wr.alloc (.cells #[.int .i64 s1.ix] 3)) (.slice va k vc) ((ixs us).take k):=own_off hr hoa
   obtain⟨v',w3,hrun,hown,hg⟩:=app_intJ (bz:=wr.heap.size) hra (Nat.le_trans hO.size hoa.size) (heap_new' rfl _) (by have:=HN.out;omega)
   have ho3:=row_ofs (N:=0) hr hoa ⟨hO,Nat.le_refl _,rfl⟩ hg
   rw[<-hxk]at hown
   have hown':w3.ownsRow W1.heap.size 3 1 v' (k+1) (((ixs us).take (k+1)).map ivJ):=by have:=hown;unfold RowJ at this;rw[hl1]at this;exact this
   obtain⟨g9,c9,rfl⟩:=ownsRow_succ hown'
   have w1:IntKind.i64.wrap ((k:Int)+1)=(k:Int)+1:=by rw[IntKind.wrap_i64];have:=HN.out;omega
   have hkn:(k:Int)<(n:Int):=by omega
   have lb:=World.block_lt_of_cell? wr _ c2
   have HOw:=hid hown
   have HO3:=hid ho3
   have HK:=hid hlt
   clear hr hO hx hok hxi hxk hl0 hl1 hoa hra hown hown' hg ho3 hk hlt c0 c1 c3 c4 hpc hV
   go_wp2_with (at_builtin;refine Go.Lib.wpList_append_run _ rfl _ _ _ _ rfl _ _ rfl rfl _ _ hrun ?_)
   go_roundw
   case rel=>exact⟨k+1,HK.out,by simp,⟨_,_,rfl,HOw.out⟩,HO3.out⟩
   case measure=>simp[intOf];have:=HK.out;omega
  obtain rfl:n=k:=by omega
  have i3:¬(n:Int)<(n:Int):=by omega
  have htk:(ixs us).take n=ixs us:=List.take_of_length_le (by unfold ixs;rw[List.length_map];have:=HN.out;omega)
  rw[htk]at hr
  have hxc:n<=vc:=own_capA (by have:=hr;unfold RowJ at this;rw[show(ixs us).length=n by unfold ixs;rw[List.length_map];exact HN.out.1.symm]at this;exact this)
  have HXc:=hid hxc
  have HIv:=hid (hr.iv (by unfold ixs;rw[List.length_map];have:=HN.out;omega) (fun x hx=>by
   have h1:=(chkV_zero HA.out.chkA).1 x hx
   exact WalkArith.wf_i64 (by show -9223372036854775808<=x/\x<=9223372036854775807;omega)))
  have HO2:=hid hO
  have c4:=(HOW.out.trans hO (fun _ _ c=>c)).cell HC04.out.2.2 (fun c=>c)
  have lb:=World.block_lt_of_cell? wr _ c4
  clear hr hO htk hlt hk hxc
  obtain⟨W2,rfl⟩:∃ W,W=wr:=⟨_,rfl⟩
  go_wp2_with fail
  clear c4 lb i3
  go_loopw [6,7] (fun o i wq=>∃ j:Nat,j<=c/\i=.int .i64 j/\(∃ a2 c2,o=.slice a2 j c2/\RowBo W2.heap.size wq o ((List.range j).map (fitJ p T us)))/\Off (fun _=>False) W2 wq) (fun _ i _=>c-(intOf i).toNat)
  case atStart=>exact⟨0,Nat.zero_le _,rfl,⟨none,0,rfl,World.ownsRow_nil _ _ _ _⟩,Off.refl _ _⟩
  case round =>
   obtain⟨j,hj,rfl,⟨oa,oc,rfl,hr⟩,hO⟩:=hrel
   have hOw:Off (fun _=>False) w wr:=(HOW.out.trans HO2.out (fun _ _ c=>c)).trans hO (fun _ _ c=>c)
   have c4:=hOw.cell HC04.out.2.2 (fun c=>c)
   have lb:=World.block_lt_of_cell? wr _ c4
   by_cases hlt:j<c
   ·have hjc:(j:Int)<(c:Int):=by omega
    have FCl:=hid (fun W (hO:Off (fun _=>False) w W)=>refcolumn_any us (some ⟨b,off,none⟩) n cap HN.out.1 (by have:=HN.out;omega) (j:Int) S W (HH.out.off hO (fun _ _ _ c=>c)))
    have HOw:=hid hOw
    have HR:=hid hr
    have HO3:=hid hO
    have HJ:=hid hlt
    clear hOw hr hO hlt hj
    go_wp2_with fail
    refine(FCl.out wr HOw.out).mono ?_
    rintro e u3 ⟨a3,c3,rfl,hown3,hO4⟩
    have HY3:=hid (ls_of_own hown3 (by rw[colN_length];exact HN.out.1) (by have:=HN.out;omega))
    have HR3:=hid (show RowBo W2.heap.size u3 (.slice oa j oc) _ from own_off HR.out hO4)
    have HO5:=hid (HOw.out.trans hO4 (fun _ _ c=>c))
    have HO6:=hid (HO3.out.trans hO4 (fun _ _ c=>c))
    have HP3:=hid (Off.heap ((HO2.out.trans HO3.out (fun _ _ c=>c)).trans hO4 (fun _ _ c=>c)) HPb.out (fun c=>c))
    obtain⟨ys,hys⟩:∃ ys,ys=jys p us j:=⟨_,rfl⟩
    have HYs:=hid hys
    have hyl:ys.length=n:=by rw[hys,jys_length];exact HN.out.1.symm
    have HYl:=hid hyl
    clear hown3 hO4 FCl HR HO3 HOw c4 lb hys hyl
    go_wp2_with fail
    go_loopw [9,10] (fun o i wq=>∃ m:Nat,m<=n/\i=.int .i64 m/\(∃ a2 c2,o=.slice a2 m c2/\wq.ownsRow u3.heap.size 63 4 o (ys.take m).length (flat4 (ys.take m)))/\Off (fun _=>False) u3 wq) (fun _ i _=>n-(intOf i).toNat)
    case atStart=>exact⟨0,Nat.zero_le _,rfl,⟨none,0,rfl,World.ownsRow_nil _ _ _ _⟩,Off.refl _ _⟩
    case round =>
     obtain⟨m,hm,rfl,⟨va2,vc2,rfl,hr⟩,hO⟩:=hrel
     by_cases hlt:m<n
     ·have hmT:(m:Int)<(n:Int):=by omega
      obtain⟨y,hy⟩:∃ y,(colN us j)[m]?=some y:=⟨_,List.getElem?_eq_getElem (by rw[colN_length,<-HN.out.1];exact hlt)⟩
      obtain⟨yb,yo,rfl,_,hel⟩:=(LsAt.off HY3.out hO (fun _ _ _ c=>c)).get hy
      have hyp:y<p:=by
       have h1:=HA.out.colA j y (List.mem_of_getElem? hy)
       rw[HPm.out]at h1;exact h1
      obtain⟨z,hz⟩:∃ z,z=mm p y 1:=⟨_,rfl⟩
      have hzk:ys.take m++[z]=ys.take (m+1):=by
       rw[List.take_add_one,hz,HYs.out]
       congr 1
       unfold jys
       rw[List.getElem?_map,hy];rfl
      have hl1:(ys.take (m+1)).length=m+1:=by rw[List.length_take,HYl.out];omega
      have hl0:(ys.take m).length+1<=100000:=by rw[List.length_take];have:=HN.out;have:=HYl.out;omega
      obtain⟨wq,hwq⟩:∃ wq,wq=wr:=⟨_,rfl⟩
      have FVq:=hid (fun W=>by have h:=FVl.out y hyp W;rw[<-hz]at h;exact h)
      rw[<-hwq]at hO hel hr ⊢
      have HPq:=hid (hO.heap HP3.out (fun c=>c))
      have HYq:=hid hel
      have HRq:=hid hr
      have HBq:=hid (show u3.heap.size<=wq.heap.size from hO.size)
      have HKq:=hid hl0
      have HEq:=hid hzk
      have HNq:=hid (show Off (fun _=>False) u3 wq/\u3.heap.size<=u3.heap.size/\(0:Nat)=0 from⟨hO,Nat.le_refl _,rfl⟩)
      have HL1:=hid hl1
      have HMT:=hid hlt
      clear hO hel hr hl0 hzk hl1 hz hyp hwq hy hm hlt
      go_upto_region 16 with fail
      obtain⟨x48,hx⟩:∃ vv:Value,vv=.slice va2 m vc2:=⟨_,rfl⟩
      have X48:=hid hx
      clear hx
      obtain⟨x49,hx⟩:∃ vv:Value,vv=V p:=⟨_,rfl⟩
      have X49:=hid hx
      clear hx
      obtain⟨x50,hx⟩:∃ vv:Value,vv=.slice (some ⟨yb,yo,none⟩) n c3:=⟨_,rfl⟩
      have X50:=hid hx
      clear hx
      obtain⟨x51,hx⟩:∃ vv:Value,vv=.int .i64 m:=⟨_,rfl⟩
      have X51:=hid hx
      clear hx
      obtain⟨x52,hx⟩:∃ vv:Value,vv=.pointer (some ⟨yb,yo+m*4,none⟩):=⟨_,rfl⟩
      have X52:=hid hx
      clear hx
      obtain⟨x53,hx⟩:∃ vv:Value,vv=V y:=⟨_,rfl⟩
      have X53:=hid hx
      clear hx
      obtain⟨x54,hx⟩:∃ vv:Value,vv=V z:=⟨_,rfl⟩
      have X54:=hid hx
      clear hx
      refine wp_region_clo (fun a0 l a' w'=>∃ (bz:Nat) (vf:Value),a'=(Act.put (fill a0 48 [sel (l 0) x48 (u48),sel (l 1) x49 (u49),sel (l 2) x50 (u50),sel (l 3) x51 (u51),sel (l 4) x52 (u52),sel (l 5) x53 (u53),sel (l 6) x54 (u54),sel (l 7) (.slice (some ⟨bz,0,none⟩) 1 1) (u55),sel (l 8) (vf) (u56),u57,u58,u59,u60,u61,u62,u63,u64,u65,u66,u67,undef]) (some 9) (sel (l 9) (vf) (.slice va2 m vc2)))/\(l 8=false->Off (fun _=>False) wq w'/\(l 7=true->w'.heap[bz]?=some (.cells #[.int .u64 (wd z 0),.int .u64 (wd z 1),.int .u64 (wd z 2),.int .u64 (wd z 3)] 63 (0,0))))/\(l 8=true->(w'.ownsRow u3.heap.size 63 4 vf (ys.take (m+1)).length (flat4 (ys.take (m+1)))/\Off (fun _=>False) u3 w'))) (by kernel_rfl) (by kernel_rfl) ?_ ⟨?_,?_,?_,?_,?_,?_,?_,?_,?_,?_,trivial⟩ ?_
      ·refine⟨0,undef,?_,fun _=>⟨(Off.refl _ wq).drew,(fun h=>by cases h)⟩,fun h=>by cases h⟩
       simp only[XF,XP,sel_start]
       try rfl
      all_goals try (rintro l a wr ⟨bz,vf,ha,hA,hB⟩ hc hl hd K' hK)
      ·as_aux_lemma =>
        have hx:=X48.out;subst hx
        have gF:l 8=false:=hc.not (i:=8) hl 10 (by kernel_rfl)
        obtain⟨hO,h7⟩:=hA gF
        have GF:=hid gF
        clear gF hA hB
        have g9:=hc.not (i:=9) hl 10 (by kernel_rfl)
        simp only[XF,XP,sel_no g9]at ha
        subst ha
        have G9:=hid g9
        clear g9
        have H7:=hid h7
        clear h7
        rw[if_pos (by rfl)]
        go_simp
        refine Shut.out hK _ _ ⟨bz,vf,?_,fun _=>⟨hO,(fun h=>Off.heap (Off.refl (fun _=>False) wr) (H7.out (show l 7=true by rwa [upd_ne l (by decide)]at h)) (fun c=>c))⟩,fun h=>absurd (show(true:Bool)=false from(show l 8=true by rwa [upd_ne l (by decide)]at h).symm.trans GF.out) (by decide)⟩
        simp only[XF,XP,sel_new,sel_no (show upd l 0 9=false by rw[upd_ne l (by decide)];exact G9.out)]
        try rfl
      ·as_aux_lemma =>
        have hx:=X49.out;subst hx
        have gF:l 8=false:=hc.not (i:=8) hl 10 (by kernel_rfl)
        obtain⟨hO,h7⟩:=hA gF
        have GF:=hid gF
        clear gF hA hB
        simp only[XF,XP]at ha
        subst ha
        have H7:=hid h7
        clear h7
        obtain⟨p0,p1,p2,p3⟩:=cells4 (hO.heap HPq.out (fun c=>c))
        have lp:=heap_lt (hO.heap HPq.out (fun c=>c))
        rw[if_pos (by rfl)]
        go_simp
        refine Shut.out hK _ _ ⟨bz,vf,?_,fun _=>⟨hO,(fun h=>Off.heap (Off.refl (fun _=>False) wr) (H7.out (show l 7=true by rwa [upd_ne l (by decide)]at h)) (fun c=>c))⟩,fun h=>absurd (show(true:Bool)=false from(show l 8=true by rwa [upd_ne l (by decide)]at h).symm.trans GF.out) (by decide)⟩
        simp only[XF,XP,sel_new]
        try rfl
      ·as_aux_lemma =>
        have hx:=X50.out;subst hx
        have gF:l 8=false:=hc.not (i:=8) hl 10 (by kernel_rfl)
        obtain⟨hO,h7⟩:=hA gF
        have GF:=hid gF
        clear gF hA hB
        simp only[XF,XP]at ha
        subst ha
        have H7:=hid h7
        clear h7
        rw[if_pos (by rfl)]
        go_simp
        refine Shut.out hK _ _ ⟨bz,vf,?_,fun _=>⟨hO,(fun h=>Off.heap (Off.refl (fun _=>False) wr) (H7.out (show l 7=true by rwa [upd_ne l (by decide)]at h)) (fun c=>c))⟩,fun h=>absurd (show(true:Bool)=false from(show l 8=true by rwa [upd_ne l (by decide)]at h).symm.trans GF.out) (by decide)⟩
        simp only[XF,XP,sel_new]
        try rfl
      ·as_aux_lemma =>
        have hx:=X51.out;subst hx
        have gF:l 8=false:=hc.not (i:=8) hl 10 (by kernel_rfl)
        obtain⟨hO,h7⟩:=hA gF
        have GF:=hid gF
        clear gF hA hB
        simp only[XF,XP]at ha
        subst ha
        have H7:=hid h7
        clear h7
        rw[if_pos (by rfl)]
        go_simp
        refine Shut.out hK _ _ ⟨bz,vf,?_,fun _=>⟨hO,(fun h=>Off.heap (Off.refl (fun _=>False) wr) (H7.out (show l 7=true by rwa [upd_ne l (by decide)]at h)) (fun c=>c))⟩,fun h=>absurd (show(true:Bool)=false from(show l 8=true by rwa [upd_ne l (by decide)]at h).symm.trans GF.out) (by decide)⟩
        simp only[XF,XP,sel_new]
        try rfl
      ·as_aux_lemma =>
        have d2:=hd 2 (by decide)
        have d3:=hd 3 (by decide)
        have hx:=X50.out;subst hx
        have hx:=X51.out;subst hx
        have hx:=X52.out;subst hx
        have gF:l 8=false:=hc.not (i:=8) hl 10 (by kernel_rfl)
        obtain⟨hO,h7⟩:=hA gF
        have GF:=hid gF
        clear gF hA hB
        simp only[XF,XP,sel_of d2,sel_of d3]at ha
        subst ha
        have H7:=hid h7
        clear h7
        rw[if_pos (by rfl)]
        go_simp
        refine Shut.out hK _ _ ⟨bz,vf,?_,fun _=>⟨hO,(fun h=>Off.heap (Off.refl (fun _=>False) wr) (H7.out (show l 7=true by rwa [upd_ne l (by decide)]at h)) (fun c=>c))⟩,fun h=>absurd (show(true:Bool)=false from(show l 8=true by rwa [upd_ne l (by decide)]at h).symm.trans GF.out) (by decide)⟩
        simp only[XF,XP,sel_new,sel_dep d2,sel_dep d3]
        try rfl
      ·as_aux_lemma =>
        have d4:=hd 4 (by decide)
        have hx:=X52.out;subst hx
        have hx:=X53.out;subst hx
        have gF:l 8=false:=hc.not (i:=8) hl 10 (by kernel_rfl)
        obtain⟨hO,h7⟩:=hA gF
        have GF:=hid gF
        clear gF hA hB
        simp only[XF,XP,sel_of d4]at ha
        subst ha
        have H7:=hid h7
        clear h7
        obtain⟨y0,y1,y2,y3⟩:=HYq.out.off hO (fun c=>c)
        have ly:=World.block_lt_of_cell? wr _ y0
        rw[if_pos (by rfl)]
        go_simp
        refine Shut.out hK _ _ ⟨bz,vf,?_,fun _=>⟨hO,(fun h=>Off.heap (Off.refl (fun _=>False) wr) (H7.out (show l 7=true by rwa [upd_ne l (by decide)]at h)) (fun c=>c))⟩,fun h=>absurd (show(true:Bool)=false from(show l 8=true by rwa [upd_ne l (by decide)]at h).symm.trans GF.out) (by decide)⟩
        simp only[XF,XP,sel_new,sel_dep d4]
        try rfl
      ·as_aux_lemma =>
        have d1:=hd 1 (by decide)
        have d5:=hd 5 (by decide)
        have hx:=X49.out;subst hx
        have hx:=X53.out;subst hx
        have hx:=X54.out;subst hx
        have gF:l 8=false:=hc.not (i:=8) hl 10 (by kernel_rfl)
        obtain⟨hO,h7⟩:=hA gF
        have GF:=hid gF
        clear gF hA hB
        simp only[XF,XP,sel_of d1,sel_of d5]at ha
        subst ha
        have H7:=hid h7
        clear h7
        rw[if_pos (by rfl)]
        go_simp
        refine(FVq.out wr).mono ?_
        rintro e w1 ⟨rfl,hO1⟩
        go_wp2_with fail
        refine Shut.out hK _ _ ⟨bz,vf,?_,fun _=>⟨(hO.trans hO1 (fun _ _ c=>c)),(fun h=>Off.heap hO1 (H7.out (show l 7=true by rwa [upd_ne l (by decide)]at h)) (fun c=>c))⟩,fun h=>absurd (show(true:Bool)=false from(show l 8=true by rwa [upd_ne l (by decide)]at h).symm.trans GF.out) (by decide)⟩
        simp only[XF,XP,sel_new,sel_dep d1,sel_dep d5]
        try rfl
      ·have d6:=hd 6 (by decide)
       have hx:=X54.out;subst hx
       have gF:l 8=false:=hc.not (i:=8) hl 10 (by kernel_rfl)
       obtain⟨hO,h7⟩:=hA gF
       have GF:=hid gF
       clear gF hA hB
       have g8:=hc.not (i:=8) hl 10 (by kernel_rfl)
       have g9:=hc.not (i:=9) hl 10 (by kernel_rfl)
       simp only[XF,XP,sel_of d6,sel_no g8,sel_no g9,sel_no hl]at ha
       subst ha
       have G8:=hid g8
       clear g8
       have G9:=hid g9
       clear g9
       have H7:=hid h7
       clear h7
       rw[if_pos (by rfl)]
       go_simp
       refine Shut.out hK _ _ ⟨wr.heap.size,vf,?_,fun _=>⟨(hO.alloc _),(fun _=>heap_new' rfl _)⟩,fun h=>absurd (show(true:Bool)=false from(show l 8=true by rwa [upd_ne l (by decide)]at h).symm.trans GF.out) (by decide)⟩
       simp only[XF,XP,sel_new,sel_dep d6,sel_no (show upd l 7 8=false by rw[upd_ne l (by decide)];exact G8.out),sel_no (show upd l 7 9=false by rw[upd_ne l (by decide)];exact G9.out)]
       try rfl
      all_goals try (rintro l a wr ⟨bz,vf,ha,hA,hB⟩ hc hl hd K' hK)
      ·as_aux_lemma =>
        have d0:=hd 0 (by decide)
        have d7:=hd 7 (by decide)
        have hx:=X48.out;subst hx
        have gF:l 8=false:=hl
        obtain⟨hO,h7⟩:=hA gF
        have GF:=hid gF
        clear gF hA hB
        have g9:=hc.not (i:=9) hl 10 (by kernel_rfl)
        simp only[XF,XP,sel_of d0,sel_of d7,sel_no g9,sel_no hl]at ha
        subst ha
        have G9:=hid g9
        clear g9
        have q7:=h7 d7
        have Q7:=hid q7
        clear q7
        have H7:=hid h7
        clear h7
        rw[if_pos (by rfl)]
        obtain⟨v',w1,hrun,ho1,hg1⟩:=app_v1 (own_off HRq.out hO) (Nat.le_trans HBq.out hO.size) Q7.out HKq.out
        rw[HEq.out]at ho1
        refine append_oper rfl rfl rfl hrun ?_
        refine Shut.out hK _ _ ⟨bz,v',?_,fun h=>absurd h (by rw[upd_same];decide),fun _=>⟨ho1,row_ofs HRq.out hO HNq.out hg1⟩⟩
        simp only[XF,XP,sel_new,sel_dep d0,sel_dep d7,sel_no (show upd l 8 9=false by rw[upd_ne l (by decide)];exact G9.out)]
        try rfl
      ·as_aux_lemma =>
        have d8:=hd 8 (by decide)
        simp only[XF,XP,sel_of d8]at ha
        subst ha
        rw[if_pos (by rfl)]
        go_simp
        refine Shut.out hK _ _ ⟨bz,vf,?_,fun h=>absurd (show(true:Bool)=false from d8.symm.trans (show l 8=false by rwa [upd_ne l (by decide)]at h)) (by decide),fun _=>hB d8⟩
        simp only[XF,XP,sel_new,sel_dep d8]
        try rfl
      rintro l a wc ⟨bz,vf,ha,hA,hB⟩ hd
      simp only[XF,XP,sel_of (hd 0 (by decide)),sel_of (hd 1 (by decide)),sel_of (hd 2 (by decide)),sel_of (hd 3 (by decide)),sel_of (hd 4 (by decide)),sel_of (hd 5 (by decide)),sel_of (hd 6 (by decide)),sel_of (hd 7 (by decide)),sel_of (hd 8 (by decide)),sel_of (hd 9 (by decide))]at ha
      subst ha
      have hPP:=hB (hd 8 (by decide))
      clear hA hB
      obtain⟨hown,ho3⟩:=hPP
      rw[HL1.out]at hown
      obtain⟨g9,c9,rfl⟩:=ownsRow_succ hown
      have w1:IntKind.i64.wrap ((m:Int)+1)=(m:Int)+1:=by rw[IntKind.wrap_i64];have:=HN.out;have:=HMT.out;omega
      have HOw:=hid hown
      have HO3:=hid ho3
      clear hown ho3
      go_wp2
      go_roundw
      case rel=>exact⟨m+1,HMT.out,by simp,⟨_,_,rfl,by rw[HL1.out];exact HOw.out⟩,HO3.out⟩
      case measure=>simp[intOf];have:=HMT.out;omega
     obtain rfl:n=m:=by omega
     have i3:¬(n:Int)<(n:Int):=by omega
     have htk:ys.take n=ys:=List.take_of_length_le (by rw[HYl.out];exact Nat.le_refl _)
     rw[htk,HYl.out]at hr
     obtain⟨wq,hwq⟩:∃ wq,wq=wr:=⟨_,rfl⟩
     rw[<-hwq]at hO hr ⊢
     have HOq:=hid (HO6.out.trans hO (fun _ _ c=>c))
     have HI:=hid (HIv.out.off HOq.out)
     have HYr:=hid (show Ls wq _ (jys p us j) from by rw[<-HYs.out];exact Ls.of (ls_of_own hr HYl.out.symm (by have:=HN.out;omega)))
     have HRq:=hid (show RowBo W2.heap.size wq (.slice oa j oc) _ from own_off HR3.out hO)
     have HPq:=hid (hO.heap HP3.out (fun c=>c))
     have HC1q:=hid ((HO5.out.trans hO (fun _ _ c=>c)).cell HC04.out.2.1 (fun c=>c))
     have HYc:=hid (own_capA hr)
     have FT:=hid (fun W (hO:Off (fun _=>False) wq W)=>FFt.out j va va2 vc vc2 HXc.out HYc.out W (HI.out.off hO) (HYr.out.off hO))
     have HEq:=hid (show(List.range j).map (fitJ p T us)++[fitJ p T us j]=(List.range (j+1)).map (fitJ p T us) by rw[List.range_succ,List.map_append];rfl)
     obtain⟨y,hy⟩:∃ y,y=fitJ p T us j:=⟨_,rfl⟩
     rw[<-hy]at FT HEq
     have HNq:=hid (show Off (fun _=>False) W2 wq/\W2.heap.size<=W2.heap.size/\(0:Nat)=0 from⟨HOq.out,Nat.le_refl _,rfl⟩)
     have HBq:=hid (show W2.heap.size<=wq.heap.size from HOq.out.size)
     have HKq:=hid (show((List.range j).map (fitJ p T us)).length+1<=100000 by rw[List.length_map,List.length_range];have:=HN.out;have:=HJ.out;omega)
     clear hr hO htk hlt hm hwq hy
     go_upto_region 17 with fail
     obtain⟨x57,hx⟩:∃ vv:Value,vv=.slice oa j oc:=⟨_,rfl⟩
     have X57:=hid hx
     clear hx
     obtain⟨x58,hx⟩:∃ vv:Value,vv=V p:=⟨_,rfl⟩
     have X58:=hid hx
     clear hx
     obtain⟨x59,hx⟩:∃ vv:Value,vv=.slice va n vc:=⟨_,rfl⟩
     have X59:=hid hx
     clear hx
     obtain⟨x60,hx⟩:∃ vv:Value,vv=.slice va2 n vc2:=⟨_,rfl⟩
     have X60:=hid hx
     clear hx
     obtain⟨x61,hx⟩:∃ vv:Value,vv=.slice (some ⟨b,off,none⟩) n cap:=⟨_,rfl⟩
     have X61:=hid hx
     clear hx
     obtain⟨x62,hx⟩:∃ vv:Value,vv=.pointer (some ⟨b,off,none⟩):=⟨_,rfl⟩
     have X62:=hid hx
     clear hx
     obtain⟨x63,hx⟩:∃ vv:Value,vv=.pointer (some ⟨b,off+1,none⟩):=⟨_,rfl⟩
     have X63:=hid hx
     clear hx
     obtain⟨x64,hx⟩:∃ vv:Value,vv=.int .i64 T:=⟨_,rfl⟩
     have X64:=hid hx
     clear hx
     obtain⟨x65,hx⟩:∃ vv:Value,vv=.bool y:=⟨_,rfl⟩
     have X65:=hid hx
     clear hx
     refine wp_region_clo (fun a0 l a' w'=>∃ (bz:Nat) (vf:Value),a'=(Act.put (fill a0 57 [sel (l 0) x57 (u57),sel (l 1) x58 (u58),sel (l 2) x59 (u59),sel (l 3) x60 (u60),sel (l 4) x61 (u61),sel (l 5) x62 (u62),sel (l 6) x63 (u63),sel (l 7) x64 (u64),sel (l 8) x65 (u65),sel (l 9) (.slice (some ⟨bz,0,none⟩) 1 1) (u66),sel (l 10) (vf) (u67),undef]) (some 6) (sel (l 11) (vf) (.slice oa j oc)))/\(l 10=false->Off (fun _=>False) wq w'/\(l 9=true->w'.heap[bz]?=some (.cells #[.bool y] 4 (0,0))))/\(l 10=true->(RowBo W2.heap.size w' vf ((List.range (j+1)).map (fitJ p T us))/\Off (fun _=>False) W2 w'))) (by kernel_rfl) (by kernel_rfl) ?_ ⟨?_,?_,?_,?_,?_,?_,?_,?_,?_,?_,?_,?_,trivial⟩ ?_
     ·refine⟨0,undef,?_,fun _=>⟨(Off.refl _ wq).drew,(fun h=>by cases h)⟩,fun h=>by cases h⟩
      simp only[XF,XP,sel_start]
      try rfl
     all_goals try (rintro l a wr ⟨bz,vf,ha,hA,hB⟩ hc hl hd K' hK)
     ·as_aux_lemma =>
       have hx:=X57.out;subst hx
       have gF:l 10=false:=hc.not (i:=10) hl 12 (by kernel_rfl)
       obtain⟨hO,h9⟩:=hA gF
       have GF:=hid gF
       clear gF hA hB
       have g11:=hc.not (i:=11) hl 12 (by kernel_rfl)
       simp only[XF,XP,sel_no g11]at ha
       subst ha
       have G11:=hid g11
       clear g11
       have H9:=hid h9
       clear h9
       rw[if_pos (by rfl)]
       go_simp
       refine Shut.out hK _ _ ⟨bz,vf,?_,fun _=>⟨hO,(fun h=>Off.heap (Off.refl (fun _=>False) wr) (H9.out (show l 9=true by rwa [upd_ne l (by decide)]at h)) (fun c=>c))⟩,fun h=>absurd (show(true:Bool)=false from(show l 10=true by rwa [upd_ne l (by decide)]at h).symm.trans GF.out) (by decide)⟩
       simp only[XF,XP,sel_new,sel_no (show upd l 0 11=false by rw[upd_ne l (by decide)];exact G11.out)]
       try rfl
     ·as_aux_lemma =>
       have hx:=X58.out;subst hx
       have gF:l 10=false:=hc.not (i:=10) hl 12 (by kernel_rfl)
       obtain⟨hO,h9⟩:=hA gF
       have GF:=hid gF
       clear gF hA hB
       simp only[XF,XP]at ha
       subst ha
       have H9:=hid h9
       clear h9
       obtain⟨p0,p1,p2,p3⟩:=cells4 (hO.heap HPq.out (fun c=>c))
       have lp:=heap_lt (hO.heap HPq.out (fun c=>c))
       rw[if_pos (by rfl)]
       go_simp
       refine Shut.out hK _ _ ⟨bz,vf,?_,fun _=>⟨hO,(fun h=>Off.heap (Off.refl (fun _=>False) wr) (H9.out (show l 9=true by rwa [upd_ne l (by decide)]at h)) (fun c=>c))⟩,fun h=>absurd (show(true:Bool)=false from(show l 10=true by rwa [upd_ne l (by decide)]at h).symm.trans GF.out) (by decide)⟩
       simp only[XF,XP,sel_new]
       try rfl
     ·as_aux_lemma =>
       have hx:=X59.out;subst hx
       have gF:l 10=false:=hc.not (i:=10) hl 12 (by kernel_rfl)
       obtain⟨hO,h9⟩:=hA gF
       have GF:=hid gF
       clear gF hA hB
       simp only[XF,XP]at ha
       subst ha
       have H9:=hid h9
       clear h9
       rw[if_pos (by rfl)]
       go_simp
       refine Shut.out hK _ _ ⟨bz,vf,?_,fun _=>⟨hO,(fun h=>Off.heap (Off.refl (fun _=>False) wr) (H9.out (show l 9=true by rwa [upd_ne l (by decide)]at h)) (fun c=>c))⟩,fun h=>absurd (show(true:Bool)=false from(show l 10=true by rwa [upd_ne l (by decide)]at h).symm.trans GF.out) (by decide)⟩
       simp only[XF,XP,sel_new]
       try rfl
     ·as_aux_lemma =>
       have hx:=X60.out;subst hx
       have gF:l 10=false:=hc.not (i:=10) hl 12 (by kernel_rfl)
       obtain⟨hO,h9⟩:=hA gF
       have GF:=hid gF
       clear gF hA hB
       simp only[XF,XP]at ha
       subst ha
       have H9:=hid h9
       clear h9
       rw[if_pos (by rfl)]
       go_simp
       refine Shut.out hK _ _ ⟨bz,vf,?_,fun _=>⟨hO,(fun h=>Off.heap (Off.refl (fun _=>False) wr) (H9.out (show l 9=true by rwa [upd_ne l (by decide)]at h)) (fun c=>c))⟩,fun h=>absurd (show(true:Bool)=false from(show l 10=true by rwa [upd_ne l (by decide)]at h).symm.trans GF.out) (by decide)⟩
       simp only[XF,XP,sel_new]
       try rfl
     ·as_aux_lemma =>
       have hx:=X61.out;subst hx
       have gF:l 10=false:=hc.not (i:=10) hl 12 (by kernel_rfl)
       obtain⟨hO,h9⟩:=hA gF
       have GF:=hid gF
       clear gF hA hB
       simp only[XF,XP]at ha
       subst ha
       have H9:=hid h9
       clear h9
       rw[if_pos (by rfl)]
       go_simp
       refine Shut.out hK _ _ ⟨bz,vf,?_,fun _=>⟨hO,(fun h=>Off.heap (Off.refl (fun _=>False) wr) (H9.out (show l 9=true by rwa [upd_ne l (by decide)]at h)) (fun c=>c))⟩,fun h=>absurd (show(true:Bool)=false from(show l 10=true by rwa [upd_ne l (by decide)]at h).symm.trans GF.out) (by decide)⟩
       simp only[XF,XP,sel_new]
       try rfl
     ·as_aux_lemma =>
       have d4:=hd 4 (by decide)
       have hx:=X61.out;subst hx
       have hx:=X62.out;subst hx
       have gF:l 10=false:=hc.not (i:=10) hl 12 (by kernel_rfl)
       obtain⟨hO,h9⟩:=hA gF
       have GF:=hid gF
       clear gF hA hB
       simp only[XF,XP,sel_of d4]at ha
       subst ha
       have H9:=hid h9
       clear h9
       rw[if_pos (by rfl)]
       go_simp
       refine Shut.out hK _ _ ⟨bz,vf,?_,fun _=>⟨hO,(fun h=>Off.heap (Off.refl (fun _=>False) wr) (H9.out (show l 9=true by rwa [upd_ne l (by decide)]at h)) (fun c=>c))⟩,fun h=>absurd (show(true:Bool)=false from(show l 10=true by rwa [upd_ne l (by decide)]at h).symm.trans GF.out) (by decide)⟩
       simp only[XF,XP,sel_new,sel_dep d4]
       try rfl
     ·as_aux_lemma =>
       have d5:=hd 5 (by decide)
       have hx:=X62.out;subst hx
       have hx:=X63.out;subst hx
       have gF:l 10=false:=hc.not (i:=10) hl 12 (by kernel_rfl)
       obtain⟨hO,h9⟩:=hA gF
       have GF:=hid gF
       clear gF hA hB
       simp only[XF,XP,sel_of d5]at ha
       subst ha
       have H9:=hid h9
       clear h9
       rw[if_pos (by rfl)]
       go_simp
       refine Shut.out hK _ _ ⟨bz,vf,?_,fun _=>⟨hO,(fun h=>Off.heap (Off.refl (fun _=>False) wr) (H9.out (show l 9=true by rwa [upd_ne l (by decide)]at h)) (fun c=>c))⟩,fun h=>absurd (show(true:Bool)=false from(show l 10=true by rwa [upd_ne l (by decide)]at h).symm.trans GF.out) (by decide)⟩
       simp only[XF,XP,sel_new,sel_dep d5]
       try rfl
     ·as_aux_lemma =>
       have d6:=hd 6 (by decide)
       have hx:=X63.out;subst hx
       have hx:=X64.out;subst hx
       have gF:l 10=false:=hc.not (i:=10) hl 12 (by kernel_rfl)
       obtain⟨hO,h9⟩:=hA gF
       have GF:=hid gF
       clear gF hA hB
       simp only[XF,XP,sel_of d6]at ha
       subst ha
       have H9:=hid h9
       clear h9
       have c1:=hO.cell HC1q.out (fun c=>c)
       have lb:=World.block_lt_of_cell? wr _ c1
       rw[if_pos (by rfl)]
       go_simp
       refine Shut.out hK _ _ ⟨bz,vf,?_,fun _=>⟨hO,(fun h=>Off.heap (Off.refl (fun _=>False) wr) (H9.out (show l 9=true by rwa [upd_ne l (by decide)]at h)) (fun c=>c))⟩,fun h=>absurd (show(true:Bool)=false from(show l 10=true by rwa [upd_ne l (by decide)]at h).symm.trans GF.out) (by decide)⟩
       simp only[XF,XP,sel_new,sel_dep d6]
       try rfl
     ·as_aux_lemma =>
       have d1:=hd 1 (by decide)
       have d2:=hd 2 (by decide)
       have d3:=hd 3 (by decide)
       have d7:=hd 7 (by decide)
       have hx:=X58.out;subst hx
       have hx:=X59.out;subst hx
       have hx:=X60.out;subst hx
       have hx:=X64.out;subst hx
       have hx:=X65.out;subst hx
       have gF:l 10=false:=hc.not (i:=10) hl 12 (by kernel_rfl)
       obtain⟨hO,h9⟩:=hA gF
       have GF:=hid gF
       clear gF hA hB
       simp only[XF,XP,sel_of d1,sel_of d2,sel_of d3,sel_of d7]at ha
       subst ha
       have H9:=hid h9
       clear h9
       rw[if_pos (by rfl)]
       go_simp
       refine(FT.out wr hO).mono ?_
       rintro e w1 ⟨rfl,hO1⟩
       go_wp2_with fail
       refine Shut.out hK _ _ ⟨bz,vf,?_,fun _=>⟨(hO.trans hO1 (fun _ _ c=>c)),(fun h=>Off.heap hO1 (H9.out (show l 9=true by rwa [upd_ne l (by decide)]at h)) (fun c=>c))⟩,fun h=>absurd (show(true:Bool)=false from(show l 10=true by rwa [upd_ne l (by decide)]at h).symm.trans GF.out) (by decide)⟩
       simp only[XF,XP,sel_new,sel_dep d1,sel_dep d2,sel_dep d3,sel_dep d7]
       try rfl
     ·have d8:=hd 8 (by decide)
      have hx:=X65.out;subst hx
      have gF:l 10=false:=hc.not (i:=10) hl 12 (by kernel_rfl)
      obtain⟨hO,h9⟩:=hA gF
      have GF:=hid gF
      clear gF hA hB
      have g10:=hc.not (i:=10) hl 12 (by kernel_rfl)
      have g11:=hc.not (i:=11) hl 12 (by kernel_rfl)
      simp only[XF,XP,sel_of d8,sel_no g10,sel_no g11,sel_no hl]at ha
      subst ha
      have G10:=hid g10
      clear g10
      have G11:=hid g11
      clear g11
      have H9:=hid h9
      clear h9
      rw[if_pos (by rfl)]
      go_simp
      refine Shut.out hK _ _ ⟨wr.heap.size,vf,?_,fun _=>⟨(hO.alloc _),(fun _=>heap_new' rfl _)⟩,fun h=>absurd (show(true:Bool)=false from(show l 10=true by rwa [upd_ne l (by decide)]at h).symm.trans GF.out) (by decide)⟩
      simp only[XF,XP,sel_new,sel_dep d8,sel_no (show upd l 9 10=false by rw[upd_ne l (by decide)];exact G10.out),sel_no (show upd l 9 11=false by rw[upd_ne l (by decide)];exact G11.out)]
      try rfl
     all_goals try (rintro l a wr ⟨bz,vf,ha,hA,hB⟩ hc hl hd K' hK)
     ·as_aux_lemma =>
       have d0:=hd 0 (by decide)
       have d9:=hd 9 (by decide)
       have hx:=X57.out;subst hx
       have gF:l 10=false:=hl
       obtain⟨hO,h9⟩:=hA gF
       have GF:=hid gF
       clear gF hA hB
       have g11:=hc.not (i:=11) hl 12 (by kernel_rfl)
       simp only[XF,XP,sel_of d0,sel_of d9,sel_no g11,sel_no hl]at ha
       subst ha
       have G11:=hid g11
       clear g11
       have q9:=h9 d9
       have Q9:=hid q9
       clear q9
       have H9:=hid h9
       clear h9
       rw[if_pos (by rfl)]
       obtain⟨v',w1,hrun,ho1,hg1⟩:=app_bo (own_off HRq.out hO) (Nat.le_trans HBq.out hO.size) Q9.out HKq.out
       rw[HEq.out]at ho1
       refine append_oper rfl rfl rfl hrun ?_
       refine Shut.out hK _ _ ⟨bz,v',?_,fun h=>absurd h (by rw[upd_same];decide),fun _=>⟨ho1,row_ofs HRq.out hO HNq.out hg1⟩⟩
       simp only[XF,XP,sel_new,sel_dep d0,sel_dep d9,sel_no (show upd l 10 11=false by rw[upd_ne l (by decide)];exact G11.out)]
       try rfl
     ·as_aux_lemma =>
       have d10:=hd 10 (by decide)
       simp only[XF,XP,sel_of d10]at ha
       subst ha
       rw[if_pos (by rfl)]
       go_simp
       refine Shut.out hK _ _ ⟨bz,vf,?_,fun h=>absurd (show(true:Bool)=false from d10.symm.trans (show l 10=false by rwa [upd_ne l (by decide)]at h)) (by decide),fun _=>hB d10⟩
       simp only[XF,XP,sel_new,sel_dep d10]
       try rfl
     rintro l a wc ⟨bz,vf,ha,hA,hB⟩ hd
     simp only[XF,XP,sel_of (hd 0 (by decide)),sel_of (hd 1 (by decide)),sel_of (hd 2 (by decide)),sel_of (hd 3 (by decide)),sel_of (hd 4 (by decide)),sel_of (hd 5 (by decide)),sel_of (hd 6 (by decide)),sel_of (hd 7 (by decide)),sel_of (hd 8 (by decide)),sel_of (hd 9 (by decide)),sel_of (hd 10 (by decide)),sel_of (hd 11 (by decide))]at ha
     subst ha
     have hPP:=hB (hd 10 (by decide))
     clear hA hB
     obtain⟨hown,ho3⟩:=hPP
     have hown':wc.ownsRow W2.heap.size 4 1 vf (j+1) (((List.range (j+1)).map (fitJ p T us)).map Value.bool):=by have:=hown;unfold RowBo at this;rw[List.length_map,List.length_range]at this;exact this
     obtain⟨g9,c9,rfl⟩:=ownsRow_succ hown'
     have w1:IntKind.i64.wrap ((j:Int)+1)=(j:Int)+1:=by rw[IntKind.wrap_i64];have:=HN.out;have:=HJ.out;omega
     have HOw:=hid hown
     have HO3:=hid ho3
     clear hown hown' ho3
     go_wp2
     go_roundw
     case rel=>exact⟨j+1,HJ.out,by simp,⟨_,_,rfl,HOw.out⟩,HO3.out⟩
     case measure=>simp[intOf];have:=HJ.out;omega
   obtain rfl:j=c:=by omega
   have i3:¬(j:Int)<(j:Int):=by omega
   have HEnd:=hid (show RowBo w.heap.size wr (.slice oa j oc) (chsL us)/\Off (fun _=>False) w wr from by
    rw[HC.out]
    exact⟨⟨hr.1,hr.2.imp (fun x=>x) (fun⟨g,cap,cur,e,hB,r⟩=>⟨g,cap,cur,e,Nat.le_trans (Nat.le_trans HOW.out.size HO2.out.size) hB,r⟩)⟩,hOw⟩)
   clear hr hO hOw hlt hj
   go_wp2
   exact bodyPost_ret (v:=.slice oa j oc) (by simp[results,Tryz.results16,go_sem]) rfl ⟨_,rfl,HEnd.out⟩
end
section
open Go.RowKit
attribute [local go_sem ↓] Go.wp_at_zero Go.wp_at_succ
set_option linter.unusedSimpArgs false
set_option maxRecDepth 100000
set_option maxHeartbeats 4000000
theorem all_no (xs:List Bool) {k:Nat} (h:xs[k]?=some false):xs.all id=false:=by
 rw[Bool.eq_false_iff]
 intro c
 rw[List.all_eq_true]at c
 exact absurd (c false (List.mem_of_getElem? h)) (by decide)
theorem all_yes (xs:List Bool) (h:∀ k,k<xs.length->xs[k]?=some true):xs.all id=true:=by
 rw[List.all_eq_true]
 intro x hx
 obtain⟨k,hk⟩:=List.getElem?_of_mem hx
 have:=h k (List.getElem?_eq_some_iff.1 hk).1
 rw[hk]at this
 cases this;rfl
theorem refcon18 (us:List Sh) (h0:shsN us=0) (a:Option Addr) (n cap:Nat) (hn:n=us.length) (hnc:n<=cap) (hl:n<=90) (hcn:cJ us<=1000) (S:Nat->Prop) (w:World) (h:ShsAt w (.slice a n cap) us S) :
  Calls Tryz.prog 13 #[.slice a n cap] w fun e w'=>e=.returned (.bool (conL us))/\Off (fun _=>False) w w':=by
 have FC:=hid (refchs18 us h0 a n cap hn hnc hl hcn S w h)
 obtain⟨y,hy⟩:∃ y,y=conL us:=⟨_,rfl⟩
 obtain⟨bs,hbs⟩:∃ bs,bs=chsL us:=⟨_,rfl⟩
 obtain⟨c,hc⟩:∃ c,c=bs.length:=⟨_,rfl⟩
 have hyb:y=bs.all id:=by rw[hy,hbs];rfl
 have hcl:c<=1000:=by rw[hc,hbs];unfold chsL;rw[List.length_map,List.length_range];exact hcn
 rw[<-hbs]at FC
 rw[<-hy]
 have HY:=hid hyb
 have HC:=hid (And.intro hc hcl)
 clear hy hbs hyb h h0 hn hnc hl hcn hc hcl
 go_enter Tryz.func13,Tryz.ntmps13
 go_wp2_with fail
 refine FC.out.mono ?_
 rintro e u1 ⟨v,rfl,hr,hO⟩
 obtain⟨va,vc,rfl⟩:=own_shape hr
 have hb:=hr.bo
 rw[<-HC.out.1]at hb ⊢
 have HB:=hid hb
 have HO1:=hid hO
 clear hr hb hO FC
 go_wp2_with fail
 go_loopw [4] (fun i wr=>∃ k:Nat,k<=c/\i=.int .i64 k/\(∀ t,t<k->bs[t]?=some true)/\Off (fun _=>False) u1 wr) (fun i _=>c-(intOf i).toNat)
 case atStart=>exact⟨0,Nat.zero_le _,rfl,(fun t h=>absurd h (Nat.not_lt_zero t)),Off.refl _ _⟩
 case round =>
  obtain⟨k,hk,rfl,ht,hO⟩:=hrel
  by_cases hlt:k<c
  ·obtain⟨x,b,off,hx,rfl,c0⟩:=(HB.out.off hO).at hlt
   have lb:=World.block_lt_of_cell? wr _ c0
   have hkc:(k:Int)<(c:Int):=by omega
   have w1:IntKind.i64.wrap ((k:Int)+1)=(k:Int)+1:=by rw[IntKind.wrap_i64];have:=HC.out;omega
   have HX:=hid hx
   have HT:=hid ht
   have HO:=hid (HO1.out.trans hO (fun _ _ c=>c))
   have HO2:=hid hO
   have HK:=hid hlt
   clear hx ht hO hk hlt
   cases x with
   | true =>
    go_wp2
    go_roundw
    case rel=>exact⟨k+1,HK.out,by simp,(fun t ht=>by
     by_cases h:t<k
     ·exact HT.out t h
     obtain rfl:t=k:=by omega
     exact HX.out),HO2.out⟩
    case measure=>simp[intOf];have:=HK.out;omega
   | false =>
    have hyf:y=false:=by rw[HY.out];exact all_no bs HX.out
    go_wp2
    exact bodyPost_ret (v:=.bool false) (by simp[results,Tryz.results13,go_sem]) rfl ⟨rfl,HO.out⟩
  obtain rfl:k=c:=by omega
  have hkc:¬(k:Int)<(k:Int):=by omega
  have hyt:y=true:=by rw[HY.out];exact all_yes bs (fun t h=>ht t (by rw[HC.out.1];exact h))
  have HO:=hid (HO1.out.trans hO (fun _ _ c=>c))
  clear ht hO hlt hk
  go_wp2
  exact bodyPost_ret (v:=.bool true) (by simp[results,Tryz.results13,go_sem]) rfl ⟨rfl,HO.out⟩
theorem refwo18 (ls:List Sh) (i:Nat) (a:Option Addr) (n cap:Nat) (hn:n=ls.length) (hi:i<n) (hl:n<=1000) (S:Nat->Prop) (w:World) (h:ShsAt w (.slice a n cap) ls S) :
  Calls Tryz.prog 46 #[.slice a n cap,.int .i64 i] w fun e w'=>∃ a' c',e=.returned (.slice a' (n-1) c')/\n-1<=c'/\ShsAt w' (.slice a' (n-1) c') (ls.eraseIdx i) (fun b=>b<w'.heap.size)/\Off (fun _=>False) w w':=by
 have hnc:n<=cap:=by
  obtain⟨a',c',e,h,_⟩:=h
  simp at e
  omega
 obtain⟨L,e1,e2,e3,e4,e5⟩:=h.lift
 obtain⟨k,hk⟩:∃ k,k=i+1:=⟨_,rfl⟩
 obtain⟨a1,hs1,hb1⟩:=shs_h a n cap i (by omega) hnc
 obtain⟨a2,hs2,hb2⟩:=shs_l a n cap k (by omega) hnc
 have w1:IntKind.i64.wrap ((i:Int)+1)=(k:Int):=by rw[IntKind.wrap_i64];omega
 obtain⟨W0,hW0⟩:∃ W0,W0=w.alloc (.cells #[] 45):=⟨_,rfl⟩
 have hO0:Off (fun _=>False) w W0:=by rw[hW0];exact(Off.refl _ w).alloc _
 obtain⟨v1,W1,hr1,hw1,hO1⟩:=app_shs hO0 (by rw[hW0];exact RowS.empty w) (hb1 _ _ _ (e4.off hO0 (fun _ _ _ c=>c))) (by rw[List.length_nil,List.length_take];omega)
 obtain⟨v2,W2,hr2,hw2,hO2⟩:=app_shs hO1 hw1 (hb2 _ _ _ (e4.off hO1 (fun _ _ _ c=>c))) (by rw[List.length_append,List.length_nil,List.length_take,List.length_drop];omega)
 have hM:[]++L.take i++L.drop k=L.take i++L.drop k:=rfl
 rw[hM]at hw2
 have hlen:(L.take i++L.drop k).length=n-1:=by rw[List.length_append,List.length_take,List.length_drop];omega
 obtain⟨aa,cc,rfl⟩:=own_shape hw2
 have hcap:n-1<=cc:=by have h1:=own_capA hw2;rw[hlen]at h1;exact h1
 have HEnd:=hid (show n-1<=cc/\ShsAt W2 (.slice aa (n-1) cc) (ls.eraseIdx i) (fun b=>b<W2.heap.size)/\Off (fun _=>False) w W2 from by
  refine⟨hcap,?_,hO2⟩
  have h1:=(SvsAt.wide hw2.svs (S':=fun b=>b<W2.heap.size) (fun b hb _=>hb)).shs (S':=fun b=>b<W2.heap.size) (by rw[hlen];unfold maxLen;omega) (fun x hx=>((e5 x ((List.mem_append.1 hx).elim List.mem_of_mem_take List.mem_of_mem_drop)).off hO2 (fun _ _ _ c=>c)).wide (fun b hb c=>hb)) (fun b _ c=>c)
  rw[hlen]at h1
  rw[List.map_append,List.map_take,List.map_drop,e1,hk,<-List.eraseIdx_eq_take_drop_succ]at h1
  exact h1)
 rw[hlen]at hr2
 obtain⟨a3,c3,rfl⟩:=own_shape hw1
 have hl1:([]++L.take i).length=i:=by rw[List.nil_append,List.length_take];omega
 rw[hl1]at hr1 hr2
 have HW0:=hid hW0
 rw[hW0]at hr1
 clear e1 e2 e3 e4 e5 hb1 hb2 hn hl hi hk h hW0 hO0 hw1 hO1 hw2 hO2 hM hlen hcap hl1 hnc
 go_enter Tryz.func46,Tryz.ntmps46
 go_wp2_with (at_builtin;first | refine Go.Lib.wpList_append_run _ rfl _ _ _ _ rfl _ _ rfl rfl _ _ hr1 ?_ | refine Go.Lib.wpList_append_run _ rfl _ _ _ _ rfl _ _ rfl rfl _ _ hr2 ?_)
 exact bodyPost_ret (v:=.slice aa (n-1) cc) (by simp[results,Tryz.results46,go_sem]) rfl ⟨_,_,rfl,HEnd.out⟩
theorem refsus18 (ls:List Sh) (a:Option Addr) (n cap:Nat) (hn:n=ls.length) (hl:n<=90) (hpl:∀ s∈ls,s.pl.length<=1000) (S:Nat->Prop) (w:World) (h:ShsAt w (.slice a n cap) ls S) :
  Calls Tryz.prog 18 #[.slice a n cap] w fun e w'=>∃ v,e=.returned (.tuple #[v,.int .i64 (susE ls:Int)])/\Iv w' v (posI (susV ls))/\Off (fun _=>False) w w':=by
 have FC:=hid (refshares_any ls a n cap hn S w h)
 have hnil:∀ W,Iv W (.slice none 0 0) (posI []):=fun W=>⟨none,0,rfl,Nat.zero_le _,(fun x hx=>by cases hx),(fun h=>by simp[posI]at h)⟩
 have HNil:=hid hnil
 rcases susE_cases ls with ⟨e1,e2⟩ | ⟨e1,e2,e3⟩ | ⟨e1,e2,e3⟩
 ·have hv:susV ls=[]:=by unfold susV;rw[if_pos (by rw[e1];exact e2)]
  rw[hv,e1]
  obtain⟨c,hc⟩:∃ c,c=shsN ls:=⟨_,rfl⟩
  rw[<-hc]at FC e2 ⊢
  have k1:((c:Int) != 0)=true:=by simp;omega
  have k3:¬(c:Int)=0:=by omega
  clear hv e1 e2 hc h hn hl hpl hnil
  go_enter Tryz.func18,Tryz.ntmps18
  go_wp2_with fail
  refine FC.out.mono ?_
  rintro e u1 ⟨rfl,hO⟩
  have HO:=hid hO
  clear hO FC
  go_wp2
  refine bodyPost_ret (results_tmp2 rfl _ _ _) rfl ?_
  exact⟨_,rfl,HNil.out _,HO.out⟩
 ·have hA:=acc_hd e2
  have hn0:0<n:=by rw[hn];exact hA.pos
  obtain⟨s1,b,off,hsx,_,rfl,hSb,c0,c1,_⟩:=h.at (k:=0) hn0
  rw[hA.first]at hsx
  cases hsx
  have hth0:(hd0 ls).th=(TJ ls:Int):=by unfold TJ;have:=hA.th1;omega
  rw[hth0]at c1
  simp only[Nat.zero_mul,Nat.add_zero]at c0 c1
  have hv:susV ls=[]:=by unfold susV;rw[if_pos (by rw[e1];decide)]
  rw[hv,e1]
  rw[e2]at FC
  obtain⟨T,hTT⟩:∃ T,T=TJ ls:=⟨_,rfl⟩
  rw[<-hTT]at c1
  have hle:(n:Int)<=(T:Int):=by omega
  have hn0i:(0:Int)<(n:Int):=by omega
  have HC1:=hid c1
  clear hv e1 e2 e3 hA hth0 hTT h hn hl hpl hnil c0 c1
  go_enter Tryz.func18,Tryz.ntmps18
  go_wp2_with fail
  refine FC.out.mono ?_
  rintro e u1 ⟨rfl,hO⟩
  have c1:=hO.cell HC1.out (fun c=>c)
  have lb:=World.block_lt_of_cell? u1 _ c1
  have HO:=hid hO
  clear hO FC
  go_wp2
  refine bodyPost_ret (results_tmp2 rfl _ _ _) rfl ?_
  exact⟨_,rfl,HNil.out _,HO.out⟩
 have hA:=acc_hd e2
 have hn0:0<n:=by rw[hn];exact hA.pos
 have hc1:cJ ls<=1000:=by
  have h1:=hA.all _ (List.mem_of_getElem? hA.first)
  have h2:=hpl _ (List.mem_of_getElem? hA.first)
  rw[h1.2.2.2.1]at h2
  exact h2
 obtain⟨s1,b,off,hsx,_,rfl,hSb,c0,c1,_⟩:=h.at (k:=0) hn0
 rw[hA.first]at hsx
 cases hsx
 have hth0:(hd0 ls).th=(TJ ls:Int):=by unfold TJ;have:=hA.th1;omega
 rw[hth0]at c1
 simp only[Nat.zero_mul,Nat.add_zero]at c0 c1
 have hv:susV ls=susL ls n:=by unfold susV;rw[if_neg (fun c=>c e1),hn]
 rw[hv,e1]
 rw[e2]at FC
 have hers:=fun i=>acc_erase e2 e3 i
 obtain⟨T,hTT⟩:∃ T,T=TJ ls:=⟨_,rfl⟩
 rw[<-hTT]at c1
 have hle:¬(n:Int)<=(T:Int):=by omega
 have hle3:decide (n<=T)=false:=decide_eq_false (by omega)
 have hn0i:(0:Int)<(n:Int):=by omega
 have HC1:=hid c1
 have HH:=hid h
 have HEr:=hid hers
 have HN:=hid (show n=ls.length/\n<=90/\cJ ls<=1000 from⟨hn,hl,hc1⟩)
 clear hv e1 e2 e3 hA hth0 hTT hc1 h hn hl hpl hnil HNil c0 c1 hers
 go_enter Tryz.func18,Tryz.ntmps18
 go_wp2_with fail
 refine FC.out.mono ?_
 rintro e u1 ⟨rfl,hO⟩
 have c1:=hO.cell HC1.out (fun c=>c)
 have lb:=World.block_lt_of_cell? u1 _ c1
 have HO1:=hid hO
 clear hO FC
 go_wp2_with fail
 clear c1 lb
 go_loopw [5,6] (fun v i wr=>∃ j:Nat,j<=n/\i=.int .i64 j/\(∃ a2 c2 q2,v=.slice a2 q2 c2/\q2=(susL ls j).length)/\RowJ w.heap.size wr v (posI (susL ls j))/\Off (fun _=>False) w wr) (fun _ i _=>n-(intOf i).toNat)
 case atStart=>exact⟨0,Nat.zero_le _,rfl,⟨none,0,0,rfl,rfl⟩,World.ownsRow_nil _ _ _ _,HO1.out⟩
 case round =>
  clear HO1
  obtain⟨j,hj,rfl,⟨va,vc,vq,rfl,hvq⟩,hr,hO⟩:=hrel
  by_cases hlt:j<n
  ·have hjc:(j:Int)<(n:Int):=by omega
   have FW:=hid (refwo18 ls j (some ⟨b,off,none⟩) n cap HN.out.1 hlt (by have:=HN.out.2.1;omega) S wr (HH.out.off hO (fun _ _ _ c=>c)))
   have HR:=hid hr
   have HO:=hid hO
   have HJ:=hid hlt
   have HVq:=hid hvq
   clear hr hO hj hlt hvq
   go_wp2_with fail
   refine FW.out.mono ?_
   rintro e u3 ⟨a3,c3,rfl,hcc,hsh,hO⟩
   obtain⟨g1,g2,g3,g4⟩:=HEr.out j
   have hel:n-1=(ls.eraseIdx j).length:=by rw[List.length_eraseIdx,if_pos (by have:=HN.out.1;have:=HJ.out;omega),HN.out.1]
   have FA:=hid (refcon18 (ls.eraseIdx j) g1 a3 (n-1) c3 hel hcc (by have:=HN.out.2.1;omega) (by rw[g4];exact HN.out.2.2) _ u3 hsh)
   have HO3:=hid (HO.out.trans hO (fun _ _ c=>c.elim))
   have HR3:=hid (show RowJ w.heap.size u3 (.slice va vq vc) (posI (susL ls j)) from own_off HR.out hO)
   clear hsh hO FW g1 g2 g3 g4 hel hcc HR HO
   obtain⟨y,hy⟩:∃ y,y=conL (ls.eraseIdx j):=⟨_,rfl⟩
   rw[<-hy]at FA
   have HY:=hid hy
   clear hy
   go_wp2_with fail
   refine FA.out.mono ?_
   rintro e u4 ⟨rfl,hO⟩
   have HO4:=hid (HO3.out.trans hO (fun b hb c=>c))
   have HR4:=hid (show RowJ w.heap.size u4 (.slice va vq vc) (posI (susL ls j)) from own_off HR3.out hO)
   have w2:IntKind.i64.wrap ((j:Int)+1)=(j:Int)+1:=by rw[IntKind.wrap_i64];have:=HN.out.2.1;have:=HJ.out;omega
   clear hO FA
   cases y with
   | true =>
    have hoa:Off (fun _=>False) u4 (u4.alloc (.cells #[.int .i64 j] 3)):=(Off.refl _ _).alloc _
    have hls:(susL ls j).length<=j:=susL_len ls j
    obtain⟨v',w5,hrun,hown,hg⟩:=app_intJ (bz:=u4.heap.size) (x:=(j:Int)) (show RowJ w.heap.size (u4.alloc (.cells #[.int .i64 j] 3)) (.slice va vq vc) (posI (susL ls j)) from own_off HR4.out hoa) (Nat.le_trans HO4.out.size hoa.size) (heap_new' rfl _) (by rw[posI_len];have:=HN.out.2.1;have:=HJ.out;omega)
    have ho5:=row_ofs (N:=0) HR4.out hoa ⟨HO4.out,Nat.le_refl _,rfl⟩ hg
    have hsl:susL ls (j+1)=susL ls j++[j]:=by rw[susL_succ,if_pos HY.out.symm]
    have hpe:posI (susL ls j)++[(j:Int)]=posI (susL ls (j+1)):=by rw[hsl];unfold posI;rw[List.map_append];rfl
    rw[hpe]at hown
    have hq1:(posI (susL ls (j+1))).length=vq+1:=by rw[posI_len,hsl,List.length_append,HVq.out];rfl
    obtain⟨g9,c9,rfl⟩:∃ g c,v'=.slice (some ⟨g,0,none⟩) (vq+1) c:=ownsRow_succ (by have:=hown;unfold RowJ at this;rw[hq1]at this;exact this)
    have HEnd:=hid (show(∃ a2 c2 q2,Value.slice (some ⟨g9,0,none⟩) (vq+1) c9=.slice a2 q2 c2/\q2=(susL ls (j+1)).length)/\RowJ w.heap.size w5 (.slice (some ⟨g9,0,none⟩) (vq+1) c9) (posI (susL ls (j+1)))/\Off (fun _=>False) w w5 from
     ⟨⟨_,_,_,rfl,by rw[<-posI_len,hq1]⟩,hown,ho5⟩)
    clear hoa hls hown hg ho5 hsl hpe hq1 HR4
    go_wp2_with (at_builtin;refine Go.Lib.wpList_append_run _ rfl _ _ _ _ rfl _ _ rfl rfl _ _ hrun ?_)
    go_roundw
    case rel=>exact⟨j+1,HJ.out,rfl,HEnd.out⟩
    case measure=>simp[intOf];have:=HJ.out;omega
   | false =>
    have HEnd:=hid (show(∃ a2 c2 q2,Value.slice va vq vc=.slice a2 q2 c2/\q2=(susL ls (j+1)).length)/\RowJ w.heap.size u4 (.slice va vq vc) (posI (susL ls (j+1)))/\Off (fun _=>False) w u4 from by
     have hsl:susL ls (j+1)=susL ls j:=by rw[susL_succ,if_neg (by rw[<-HY.out];decide)]
     rw[hsl]
     exact⟨⟨_,_,_,rfl,HVq.out⟩,HR4.out,HO4.out⟩)
    clear HR4
    go_wp2
    go_roundw
    case rel=>exact⟨j+1,HJ.out,rfl,HEnd.out⟩
    case measure=>simp[intOf];have:=HJ.out;omega
  obtain rfl:n=j:=by omega
  have i1:¬(n:Int)<(n:Int):=by omega
  have HEnd:=hid (show Iv wr (.slice va vq vc) (posI (susL ls n))/\Off (fun _=>False) w wr from
   ⟨hr.iv (by rw[posI_len];have:=susL_len ls n;have:=HN.out.2.1;omega) (posI_wf (by have:=HN.out.2.1;omega)),hO⟩)
  clear hr hO hlt hj hvq
  go_wp2
  refine bodyPost_ret (results_tmp2 rfl _ _ _) rfl ?_
  exact⟨_,rfl,HEnd.out.1,HEnd.out.2⟩
end
end Go.Proofs.YtbkgghhngeibhaaGreatDoor
