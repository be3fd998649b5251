/-
  Facts and contracts that some statements of layer 17 need.
-/
import Derived.Test.YtbkgghhngeibhaaGreatDoorPartQ
import Derived.Test.YtbkgghhngeibhaaGreatDoorPolEnd
import Derived.Test.YtbkgghhngeibhaaGreatDoorPolRefer
namespace Go.Proofs.YtbkgghhngeibhaaGreatDoor
open Lib (hid)
section
open Go.RowKit

theorem equalIn_same (n:Nat) (w:World):(Op.equalIn 10000 63 (V n) (V n)).run Tryz.prog w=.ok true w:=by
 rw[equalIn_four];simp
end
section
open Go.RowKit

theorem diff_borrow {p a b:Nat} (hp:p<R256) (ha:a<p) (hb:b<p) (h:a<b):V (subV a b%R256+p)=V ((a+(p-b))%p):=by
 rw[<-V_mod (subV a b%R256+p)]
 congr 1
 rw[Nat.mod_eq_of_lt (show a+(p-b)<p by omega)]
 unfold subV R256 W64 at *
 simp only[Nat.reducePow]at *
 omega
theorem diff_plain {p a b:Nat} (hp:p<R256) (ha:a<p) (hb:b<p) (h:¬a<b):V (subV a b)=V ((a+(p-b))%p):=by
 rw[<-V_mod (subV a b)]
 congr 1
 rw[show a+(p-b)=(a-b)+p by omega,Nat.add_mod_right,Nat.mod_eq_of_lt (show a-b<p by omega)]
 unfold subV R256 W64 at *
 simp only[Nat.reducePow]at *
 omega
attribute [local go_sem ↓] Go.wp_at_zero Go.wp_at_succ
set_option maxRecDepth 100000 in
set_option maxHeartbeats 2000000 in
theorem mod_diff (p a b:Nat) (hp:p<R256) (ha:a<p) (hb:b<p) (w:World) :
  Calls Tryz.prog 92 #[V p,V a,V b] w fun e w'=>e=.returned (V ((a+(p-b))%p))/\Off (fun _=>False) w w':=by
 have qS:=fun W=>mod_sub a b (by omega) (by omega) W
 obtain⟨r,hr⟩:∃ r,r=(a+(p-b))%p:=⟨_,rfl⟩
 rw[<-hr]
 by_cases hlt:a<b
 ·have qU:=fun W=>mod_sum (subV a b%R256) p (Nat.mod_lt _ r256_pos) hp W
  rw[show ltN a b=1 by unfold ltN;rw[if_pos hlt]]at qS
  simp only[diff_borrow hp ha hb hlt,<-hr]at qU
  simp only[V_mod]at qU
  obtain⟨c,hc⟩:∃ c,c=(subV a b%R256+p) / R256:=⟨_,rfl⟩
  simp only[<-hc]at qU
  obtain⟨d,hd⟩:∃ d,d=subV a b:=⟨_,rfl⟩
  simp only[<-hd]at qS qU
  have FS:=hid qS
  have FU:=hid qU
  clear qS qU hr hc hd hlt hp ha hb
  go_enter Tryz.func92,Tryz.ntmps92
  go_wp2_with fail
  refine(FS.out _).mono ?_
  rintro e u ⟨rfl,hO⟩
  have hP:NumAt u w.heap.size p:=hO.heap (heap_old' (heap_old' (heap_old' (heap_new' rfl _) _) _) _) (fun c=>c)
  have hR:PartAt u (w.heap.size+1+1+1) 0 0:=hO.heap (heap_new' (by simp) _) (fun c=>c)
  have lp:=hP.lt
  obtain⟨p0,p1,p2,p3⟩:=hP.four
  have HR:=hid hR
  have HO:=hid (((((Off.refl _ w).alloc _).alloc _).alloc _).alloc _ |>.trans hO (fun _ _ c=>c))
  clear hP hR hO
  go_wp2_with fail
  refine(FU.out _).mono ?_
  rintro e u2 ⟨rfl,hO2⟩
  have hD:NumAt u2 u.heap.size d:=hO2.heap (heap_new' rfl _) (fun c=>c)
  have hR2:PartAt u2 (w.heap.size+1+1+1) 0 0:=hO2.heap (heap_old' HR.out _) (fun c=>c)
  have ld:=hD.lt
  have lr:=heap_lt hR2.old
  have l0:w.heap.size+1+1+1<u.heap.size:=heap_lt HR.out.old
  have n1:u.heap.size≠w.heap.size+1+1+1:=by omega
  have n2:w.heap.size+1+1+1≠u.heap.size:=by omega
  obtain⟨d0,d1,d2,d3⟩:=hD.four
  have fd:=fun j=>frozen_of_heap hD j
  obtain⟨⟨r0,r1,r2,r3⟩,fz⟩:=hR2.four
  have HO2:=hid ((HO.out.alloc _).trans hO2 (fun _ _ c=>c))
  have l1:w.heap.size<=u.heap.size:=HO.out.size
  clear hD hR2 hO2 HR
  go_wp2
  refine bodyPost_ret (v:=V r) (by simp[results,Tryz.results92,go_sem,r0,r1,r2,r3]) rfl ⟨rfl,?_⟩
  exact off4 (off4 HO2.out (by omega) _ _ _ _) (by omega) _ _ _ _
 rw[show ltN a b=0 by unfold ltN;rw[if_neg hlt]]at qS
 simp only[diff_plain hp ha hb hlt,<-hr]at qS
 have FS:=hid qS
 clear qS hr hlt hp ha hb
 go_enter Tryz.func92,Tryz.ntmps92
 go_wp2_with fail
 refine(FS.out _).mono ?_
 rintro e u ⟨rfl,hO⟩
 have hR:PartAt u (w.heap.size+1+1+1) 0 0:=hO.heap (heap_new' (by simp) _) (fun c=>c)
 have lr:=heap_lt hR.old
 obtain⟨⟨r0,r1,r2,r3⟩,fz⟩:=hR.four
 have HO:=hid (((((Off.refl _ w).alloc _).alloc _).alloc _).alloc _ |>.trans hO (fun _ _ c=>c))
 clear hR hO
 go_wp2
 refine bodyPost_ret (v:=V r) (by simp[results,Tryz.results92,go_sem,r0,r1,r2,r3,lr]) rfl ⟨rfl,?_⟩
 exact(off4 HO.out (by omega) _ _ _ _).alloc _
end
section
open Go.RowKit
def powV (p a b k:Nat):Nat:=a^(b / 2^(256-k))%p
theorem powV_zero (p a:Nat) {b:Nat} (hb:b<R256) (hp:1<p):powV p a b 0=1:=by unfold powV;rw[Nat.sub_zero,div_all hb,Nat.pow_zero,Nat.mod_eq_of_lt hp]
theorem powV_full (p a b:Nat):powV p a b 256=a^b%p:=by unfold powV;simp
theorem powV_no (p a b k:Nat) (hk:k<256) (h:bitV b (255-k)=0):powV p a b (k+1)=powV p a b k*powV p a b k%p:=by
 unfold powV
 rw[bits_next b k hk,h,<-Nat.mul_mod,Nat.add_zero,Nat.two_mul,Nat.pow_add]
theorem powV_yes (p a b k:Nat) (hk:k<256) (h:bitV b (255-k)=1):powV p a b (k+1)=(powV p a b k*powV p a b k%p)*a%p:=by
 unfold powV
 rw[bits_next b k hk,h,<-Nat.mul_mod,Nat.mod_mul_mod,Nat.pow_succ,Nat.two_mul,Nat.pow_add]

set_option maxRecDepth 100000 in
set_option maxHeartbeats 4000000 in
theorem mod_pow (p a b:Nat) (hp:p<R256) (h1:1<p) (ha:a<p) (hb:b<R256) (w:World) :
  Calls Tryz.prog 128 #[V p,V a,V b] w fun e w'=>e=.returned (V (a^b%p))/\Off (fun _=>False) w w':=by
 have HB:=hid hb
 have HF:=hid (powV_full p a b)
 have HZ:=hid (powV_zero p a hb h1)
 have FO:=hid (fun x y hx hy W=>mod_mul p x y hp h1 hx hy W)
 have FB:=hid (fun i hi W=>refbit_any b i hb hi W)
 have hlt0:∀ k,powV p a b k<p:=fun k=>by unfold powV;exact Nat.mod_lt _ (by omega)
 have HL:=hid hlt0
 have hpw:∀ x,x<p->x<R256:=fun x hx=>by omega
 have HP:=hid hpw
 have HN:=hid (fun k hk h=>powV_no p a b k hk h)
 have HY:=hid (fun k hk h=>powV_yes p a b k hk h)
 have HAp:=hid ha
 clear hlt0 hpw hb hp h1 ha
 go_enter Tryz.func128,Tryz.ntmps128
 go_wp2_with fail
 refine(mod_one _).mono ?_
 rintro e u0 ⟨rfl,hO0⟩
 have HS0:=hid (show PowAt w (u0.alloc (.cells #[.int .u64 (wd 1 0),.int .u64 (wd 1 1),.int .u64 (wd 1 2),.int .u64 (wd 1 3)] 63)) p a b 1 u0.heap.size from
  ⟨heap_old' (hO0.heap (heap_old' (heap_old' (heap_old' (heap_new' rfl _) _) _) _) (fun c=>c)) _,heap_old' (hO0.heap (heap_old' (heap_old' (heap_new' (by simp) _) _) _) (fun c=>c)) _,heap_old' (hO0.heap (heap_old' (heap_new' (by simp) _) _) (fun c=>c)) _,heap_old' (hO0.heap (heap_new' (by simp) _) (fun c=>c)) _,heap_new' rfl _,(((((Off.refl _ w).alloc _).alloc _).alloc _).alloc _).trans hO0 (fun _ _ c=>c) |>.alloc _⟩)
 have hsz:=hO0.size
 obtain⟨g,hg⟩:∃ g,g=u0.heap.size:=⟨_,rfl⟩
 have hgl:w.heap.size+1+1+1<g:=by simp at hsz;omega
 have HS:=hid (by rw[<-hg]at HS0;exact HS0.out:PowAt w (u0.alloc (.cells #[.int .u64 (wd 1 0),.int .u64 (wd 1 1),.int .u64 (wd 1 2),.int .u64 (wd 1 3)] 63)) p a b 1 g)
 clear hO0 hsz HS0
 go_wp2
 rw[<-hg]
 clear hg
 go_loopw [8] (fun i wr=>∃ k:Nat,k<=256/\i=.int .i64 (255-(k:Int))/\PowAt w wr p a b (powV p a b k) g) (fun i _=>(intOf i+1).toNat)
 case atStart=>exact⟨0,by omega,by simp,by rw[HZ.out];exact HS.out⟩
 case round =>
  obtain⟨k,hk,rfl,hA⟩:=hrel
  by_cases hlt:k<256
  ·obtain⟨j,hj⟩:∃ j,j=255-k:=⟨_,rfl⟩
   have hij:(255:Int)-(k:Int)=(j:Int):=by omega
   have HJ:=hid (show((j:Int)-1)=255-((k+1:Nat):Int) by omega)
   rw[hij]
   have i1:decide ((0:Int)<=(j:Int))=true:=by simp
   have jb:(j:Int)<=255:=by omega
   clear hij
   obtain⟨o,ho⟩:∃ o,o=powV p a b k:=⟨_,rfl⟩
   have hop:=HL.out k
   have hno:=HN.out k hlt
   have hye:=HY.out k hlt
   rw[<-ho]at hA hop hno hye
   rw[<-hj]at hno hye
   have HOP:=hid hop
   have HNO:=hid hno
   have HYE:=hid hye
   have HA:=hid hA
   obtain⟨p0,p1,p2,p3⟩:=hA.p.four
   obtain⟨o0,o1,o2,o3⟩:=hA.out.four
   clear hA hno hye hop hj ho
   go_wp2_with fail
   refine(FO.out o o HOP.out (HP.out _ HOP.out) _).mono ?_
   rintro e u1 ⟨rfl,hO1⟩
   obtain⟨d,hd⟩:∃ d,d=(o*o)%p:=⟨_,rfl⟩
   rw[<-hd]
   have hdp:d<p:=by rw[hd];exact Nat.mod_lt _ (by have:=HOP.out;omega)
   have HDP:=hid hdp
   have HD:=hid hd
   have hA1:=HA.out.keep hO1
   clear p0 p1 p2 p3 o0 o1 o2 o3 hO1 hd hdp
   obtain⟨o0,o1,o2,o3⟩:=hA1.out.four
   have fz:=fun j=>frozen_of_heap hA1.out j
   have hA2:=hA1.put (Nat.lt_of_lt_of_le hgl (Nat.le_refl _)) d
   obtain⟨b0,b1,b2,b3⟩:=(show NumAt u1 (w.heap.size+1+1) b from hA1.b).four
   have nb:w.heap.size+1+1≠g:=by omega
   have HA2:=hid hA2
   clear hA1 hA2
   go_wp2_with fail
   refine(FB.out j (by omega) _).mono ?_
   rintro e u2 ⟨rfl,hO2⟩
   have hA3:=HA2.out.keep hO2
   clear o0 o1 o2 o3 fz b0 b1 b2 b3 hO2
   rcases bitV_le b j with hbit | hbit
   ·rw[hbit]
    have HA3:=hid (by rw[HD.out,<-HNO.out hbit]at hA3;exact hA3:PowAt w u2 p a b (powV p a b (k+1)) g)
    clear hA3 hbit
    go_wp2
    go_roundw
    case rel=>exact⟨k+1,by omega,by rw[HJ.out],HA3.out⟩
    case measure=>simp[intOf] <;> omega
   rw[hbit]
   obtain⟨p0,p1,p2,p3⟩:=hA3.p.four
   obtain⟨a0,a1,a2,a3⟩:=hA3.a.four
   obtain⟨o0,o1,o2,o3⟩:=hA3.out.four
   have HA3:=hid hA3
   have HBIT:=hid hbit
   clear hA3 hbit
   go_wp2_with fail
   refine(FO.out d a HDP.out (HP.out _ HAp.out) _).mono ?_
   rintro e u3 ⟨rfl,hO3⟩
   have hA4:=HA3.out.keep hO3
   clear p0 p1 p2 p3 a0 a1 a2 a3 o0 o1 o2 o3 hO3
   obtain⟨o0,o1,o2,o3⟩:=hA4.out.four
   have fz:=fun j=>frozen_of_heap hA4.out j
   obtain⟨q,hq⟩:∃ q,q=(d*a)%p:=⟨_,rfl⟩
   rw[<-hq]
   have hA5:=hA4.put (Nat.lt_of_lt_of_le hgl (Nat.le_refl _)) q
   have HA5:=hid (by rw[hq,HD.out,<-HYE.out HBIT.out]at hA5;rw[hq,HD.out,<-HYE.out HBIT.out];exact hA5:PowAt w (put4 u3 g q) p a b (powV p a b (k+1)) g)
   clear hA4 hA5 hq
   go_wp2
   go_roundw
   case rel=>exact⟨k+1,by omega,by rw[HJ.out],HA5.out⟩
   case measure=>simp[intOf] <;> omega
  obtain rfl:k=256:=by omega
  have i1:decide ((0:Int)<=255-((256:Nat):Int))=false:=by simp
  obtain⟨o,ho⟩:∃ o,o=powV p a b 256:=⟨_,rfl⟩
  rw[<-ho]at hA
  have HE:=hid (ho.trans HF.out)
  obtain⟨o0,o1,o2,o3⟩:=hA.out.four
  obtain⟨⟨r0,r1,r2,r3⟩,fz⟩:=hA.ret.four
  have HA:=hid hA
  clear hA ho
  go_wp2
  refine bodyPost_ret (v:=V o) (by simp[results,Tryz.results128,go_sem,r0,r1,r2,r3]) rfl ⟨by rw[HE.out],?_⟩
  exact off4 HA.out.off (by omega) _ _ _ _

attribute [local go_sem ↓] Go.wp_at_zero Go.wp_at_succ
theorem sub_two {p:Nat} (hp:p<R256) (h1:1<p):V (subV p 2)=V (p-2):=by
 have e:subV p 2%R256=p-2:=by
  unfold subV R256 W64 at *
  simp only[Nat.reducePow]at *
  omega
 rw[<-V_mod (subV p 2),e]

set_option maxRecDepth 100000 in
set_option maxHeartbeats 4000000 in
theorem mod_inverse (p a:Nat) (hp:p<R256) (h1:1<p) (ha:a<p) (w:World) :
  Calls Tryz.prog 112 #[V p,V a] w fun e w'=>e=.returned (V (a^(p-2)%p))/\Off (fun _=>False) w w':=by
 have F1:=fun W=>mod_sub p 2 hp (by decide) W
 have F2:=fun W=>mod_pow p a (p-2) hp h1 ha (by omega) W
 rw[sub_two hp h1,lit_small 2 (by decide)]at F1
 obtain⟨q,hq⟩:∃ q,q=p-2:=⟨_,rfl⟩
 simp only[<-hq]at F1 F2 ⊢
 obtain⟨r,hr⟩:∃ r,r=a^q%p:=⟨_,rfl⟩
 obtain⟨b,hb⟩:∃ b,b=ltN p 2:=⟨_,rfl⟩
 simp only[<-hr]at F2 ⊢
 simp only[<-hb]at F1
 have F1:=hid F1
 have F2:=hid F2
 clear hq hr hb hp h1 ha
 go_enter Tryz.func112,Tryz.ntmps112
 go_wp2_with fail
 refine(F1.out _).mono ?_
 rintro e u ⟨rfl,hO⟩
 have hP:NumAt u w.heap.size p:=hO.heap (heap_old' (heap_old' (heap_new' rfl _) _) _) (fun c=>c)
 have hA:NumAt u (w.heap.size+1) a:=hO.heap (heap_old' (heap_new' (by simp) _) _) (fun c=>c)
 have hR:PartAt u (w.heap.size+1+1) 0 0:=hO.heap (heap_new' (by simp) _) (fun c=>c)
 have l0:=hP.lt
 have l1:=hA.lt
 obtain⟨p0,p1,p2,p3⟩:=hP.four
 obtain⟨a0,a1,a2,a3⟩:=hA.four
 have HR:=hid hR
 have HO:=hid (((((Off.refl _ w).alloc _).alloc _).alloc _).trans hO (fun _ _ c=>c))
 clear hP hA hR hO
 go_wp2_with fail
 refine(F2.out _).mono ?_
 rintro e u2 ⟨rfl,hO2⟩
 have hR2:PartAt u2 (w.heap.size+1+1) 0 0:=hO2.heap (heap_old' HR.out _) (fun c=>c)
 obtain⟨⟨r0,r1,r2,r3⟩,fz⟩:=hR2.four
 have HO2:=hid ((HO.out.alloc _).trans hO2 (fun _ _ c=>c))
 clear hR2 hO2 HR
 go_wp2
 refine bodyPost_ret (v:=V r) (by simp[results,Tryz.results112,go_sem,r0,r1,r2,r3]) rfl ⟨rfl,?_⟩
 exact off4 HO2.out (by omega) _ _ _ _
end
section


def hvV (p a:Nat):Nat:=(a+(if a%2=1 then p else 0)) / 2
theorem hvV_two {p a:Nat} (ho:p%2=1):2*hvV p a=a+(if a%2=1 then p else 0):=by
 unfold hvV;split <;> omega
theorem hvV_lt {p a:Nat} (ha:a<p):hvV p a<p:=by
 unfold hvV;split <;> omega
def hvs (p a:Nat):Nat->Nat
 | 0=>a
 | k+1=>hvV p (hvs p a k)
theorem hvs_lt {p a:Nat} (ha:a<p):∀ k,hvs p a k<p
 | 0=>ha
 | k+1=>hvV_lt (hvs_lt ha k)
theorem hvs_mod {p a:Nat} (ho:p%2=1):∀ k,hvs p a k*2^k%p=a%p
 | 0=>by simp[hvs]
 | k+1=>by
  have h:=hvV_two (p:=p) (a:=hvs p a k) ho
  have e:hvs p a (k+1)*2^(k+1)=(2*hvV p (hvs p a k))*2^k:=by
   show hvV p (hvs p a k)*2^(k+1)=_
   rw[Nat.pow_succ,Nat.mul_comm (2^k) 2,<-Nat.mul_assoc,Nat.mul_comm (hvV p (hvs p a k)) 2]
  rw[e,h,Nat.add_mul]
  have e2:(if hvs p a k%2=1 then p else 0)*2^k%p=0:=by
   split
   ·exact Nat.mul_mod_right _ _
   simp
  rw[Nat.add_mod,e2,Nat.add_zero,Nat.mod_mod,hvs_mod ho k]
theorem hvs_value {p a:Nat} (h:Mp p) (ho:p%2=1) (ha:a<p):hvs p a 256=mm p a 1:=by
 refine mm_of h (hvs_lt ha 256) ?_
 rw[r256_eq,hvs_mod ho,Nat.mul_one]

end
section
open Go.RowKit
attribute [local go_sem ↓] Go.wp_at_zero Go.wp_at_succ

theorem wd_half (s k:Nat):wd (s / 2) k=wd s k / 2+wd s (k+1)%2*9223372036854775808:=by
 unfold wd dg
 have e1:s / 2 / W64^k=s / W64^k / 2:=by rw[Nat.div_div_eq_div_mul,Nat.mul_comm,<-Nat.div_div_eq_div_mul]
 have e2:s / W64^(k+1)=s / W64^k / W64:=by rw[Nat.pow_succ,Nat.div_div_eq_div_mul]
 rw[e1,e2]
 generalize s / W64^k=q
 unfold W64
 omega
theorem top_half {s:Nat} (h:s<2*R256):s / R256=wd s (3+1)%2:=by
 unfold wd dg W64 R256 W64 at *
 simp only[Nat.reducePow,Nat.reduceAdd]at *
 omega
theorem setCells_size (b:Nat):∀ (vs:List Value) (o:Nat) (w:World),(w.setCells b o vs).heap.size=w.heap.size
 | [],_,_=>rfl
 | v::vs,o,w=>by
  show((w.setCell ⟨b,o,none⟩ v).setCells b (o+1) vs).heap.size=_
  rw[setCells_size b vs (o+1)]
  simp
structure HalfAt (w wr:World) (s rb k:Nat):Prop where
 a:NumAt wr (w.heap.size+1) s
 ret:PartAt wr (w.heap.size+1+1) 0 0
 res:PartAt wr rb (s / 2) k
 lt:w.heap.size+1+1<rb
 off:Off (fun _=>False) w wr
theorem HalfAt.step {w wr:World} {s rb k:Nat} (h:HalfAt w wr s rb k) (hk:k<4):HalfAt w (wr.setCell ⟨rb,k,none⟩ (.int .u64 (wd (s / 2) k:Int))) s rb (k+1):=by
 have hl:=h.lt
 have ho:Off (fun b=>b=rb) wr (wr.setCell ⟨rb,k,none⟩ (.int .u64 (wd (s / 2) k:Int))):=(Off.refl (fun b=>b=rb) wr).setCell (p:=⟨rb,k,none⟩) (fun _=>rfl) _
 exact⟨ho.heap h.a (by omega),ho.heap h.ret (by omega),h.res.step hk,hl,h.off.trans ho (fun b hb e=>by omega)⟩
set_option maxRecDepth 100000 in
set_option maxHeartbeats 4000000 in
theorem halve_any (p a:Nat) (hp:p<R256) (ha:a<R256) (w:World) :
  Calls Tryz.prog 69 #[V p,V a] w fun e w'=>e=.returned (V (hvV p a))/\Off (fun _=>False) w w':=by
 have HSu:=hid (fun W=>mod_sum a p ha hp W)
 have hpar:(wd a 0:Int)%2=((a%2:Nat):Int):=by
  have:wd a 0%2=a%2:=by unfold wd dg W64;rw[Nat.pow_zero,Nat.div_one];omega
  omega
 obtain⟨b1,hb1⟩:∃ b1,b1=w.heap.size+1:=⟨_,rfl⟩
 by_cases hodd:a%2=1
 ·have HV:=hid (show hvV p a=(a+p) / 2 by unfold hvV;rw[if_pos hodd])
  have hp2:(wd a 0:Int)%2=1:=by omega
  obtain⟨s,hs⟩:∃ s,s=a+p:=⟨_,rfl⟩
  rw[<-hs]at HSu HV
  obtain⟨top,htop⟩:∃ top,top=s / R256:=⟨_,rfl⟩
  rw[<-htop]at HSu
  have HTop:=hid (show top=wd s (3+1)%2 by rw[htop];exact top_half (by omega))
  have hcells:=cells4 (show((w.alloc (.cells #[.int .u64 (wd p 0),.int .u64 (wd p 1),.int .u64 (wd p 2),.int .u64 (wd p 3)] 63)).alloc (.cells #[.int .u64 (wd a 0),.int .u64 (wd a 1),.int .u64 (wd a 2),.int .u64 (wd a 3)] 63)).heap[w.heap.size+1]?=some (.cells #[.int .u64 (wd a 0),.int .u64 (wd a 1),.int .u64 (wd a 2),.int .u64 (wd a 3)] 63) from heap_new' (by simp) _)
  clear hpar hodd hs htop hp ha hb1
  go_enter Tryz.func69,Tryz.ntmps69
  go_wp2_with fail
  refine(HSu.out _).mono ?_
  rintro e u1 ⟨rfl,hO1⟩
  have hA1:u1.heap[w.heap.size+1]?=some (.cells #[.int .u64 (wd a 0),.int .u64 (wd a 1),.int .u64 (wd a 2),.int .u64 (wd a 3)] 63):=hO1.heap (heap_old' (heap_new' (by simp) _) _) (fun c=>c)
  have hR1:u1.heap[w.heap.size+1+1]?=some (.cells #[.int .u64 0,.int .u64 0,.int .u64 0,.int .u64 0] 63):=hO1.heap (heap_new' (by simp) _) (fun c=>c)
  obtain⟨m0,m1,m2,m3⟩:=cells4 hA1
  have fz:=fun j=>frozen_of_heap hA1 j
  have lt:=heap_lt hA1
  obtain⟨rb,hrb⟩:∃ rb,rb=u1.heap.size:=⟨_,rfl⟩
  have hsz:=heap_lt hR1
  have hO2:Off (fun k=>k=w.heap.size+1) u1 (u1.setCells (w.heap.size+1) 0 (words4 s)):=setCells_off (w.heap.size+1) (words4 s) 0 u1
  have HS:=hid (show HalfAt w ((u1.setCells (w.heap.size+1) 0 (words4 s)).alloc (.cells #[.int .u64 0,.int .u64 0,.int .u64 0,.int .u64 0] 63)) s rb 0 from
   ⟨heap_old' (setCells_at (vs:=words4 s) hA1 rfl) _,heap_old' (hO2.heap hR1 (by omega)) _,heap_new' (by rw[hrb,setCells_size]) _,by omega,
    ((((((Off.refl _ w).alloc _).alloc _).alloc _).trans hO1 (fun _ _ c=>c)).trans hO2 (fun k hk e=>by omega)).alloc _⟩)
  clear hA1 hR1 hO1 hO2 hcells
  go_wp2_with fail
  rw[<-hrb]
  clear m0 m1 m2 m3 fz lt hrb hsz
  go_loopw [7] (fun i wr=>∃ k:Nat,k<=4/\i=.int .i64 k/\HalfAt w wr s rb k) (fun i _=>4-(intOf i).toNat)
  case atStart=>exact⟨0,by omega,rfl,HS.out⟩
  case round =>
   obtain⟨k,hk,rfl,hA⟩:=hrel
   by_cases hlt:k<4
   ·obtain⟨x,hx⟩:∃ x,x=wd s k:=⟨_,rfl⟩
    obtain⟨y,hy⟩:∃ y,y=wd s (k+1):=⟨_,rfl⟩
    have hxl:x<18446744073709551616:=by rw[hx];exact wd_lt s k
    have hyl:y<18446744073709551616:=by rw[hy];exact wd_lt s (k+1)
    have hh:=wd_half s k
    rw[<-hx,<-hy]at hh
    have c0:wr.cell? ⟨w.heap.size+1,k,none⟩=some (.int .u64 x):=by rw[hx];exact hA.a.cell k hlt
    have cr:=hA.res.cell hlt
    have fz:=frozen_of_heap hA.res.old k
    have ltr:=heap_lt hA.res.old
    obtain⟨c,hc⟩:∃ c,c=y%2:=⟨_,rfl⟩
    obtain⟨d,hd⟩:∃ d,d=x / 2:=⟨_,rfl⟩
    obtain⟨e,he⟩:∃ e,e=c*9223372036854775808:=⟨_,rfl⟩
    obtain⟨t,ht⟩:∃ t,t=d+e:=⟨_,rfl⟩
    have HD:=hid (show(t:Int)=(wd (s / 2) k:Int) by rw[hh];omega)
    have w1:IntKind.u64.wrap ((c:Int)*9223372036854775808)=(e:Int):=by rw[IntKind.wrap_u64];omega
    have w2:IntKind.u64.wrap ((d:Int)+(e:Int))=(t:Int):=by rw[IntKind.wrap_u64];omega
    have w3:IntKind.u64.wrap (d:Int)=(d:Int):=by rw[IntKind.wrap_u64];omega
    have q1:(x:Int) / 2=(d:Int):=by omega
    have q2:(y:Int)%2=(c:Int):=by omega
    have hk4:(k:Int)<4:=by omega
    have HA:=hid hA
    by_cases h3:k<3
    ·have c1:wr.cell? ⟨w.heap.size+1,k+1,none⟩=some (.int .u64 y):=by rw[hy];exact hA.a.cell (k+1) (by omega)
     have hk3:(k:Int)<3:=by omega
     have hk5:(k:Int)+1<4:=by omega
     have hk6:(0:Int)<=(k:Int)+1:=by omega
     have hwr:IntKind.i64.wrap ((k:Int)+1)=(k:Int)+1:=by rw[IntKind.wrap_i64];omega
     have HS2:=hid (show HalfAt w (wr.setCell ⟨rb,k,none⟩ (.int .u64 t)) s rb (k+1) by rw[HD.out];exact HA.out.step hlt)
     clear hA hx hy hh hc hd he ht hxl hyl
     go_wp2
     go_roundw
     case rel=>exact⟨k+1,by omega,by simp,HS2.out⟩
     case measure=>simp[intOf] <;> omega
    obtain rfl:k=3:=by omega
    have HS2:=hid (show HalfAt w (wr.setCell ⟨rb,3,none⟩ (.int .u64 t)) s rb (3+1) by rw[HD.out];exact HA.out.step hlt)
    have htp:top=c:=by rw[hc,hy];exact HTop.out
    subst htp
    clear hA hx hy hh hc hd he ht hxl hyl q2
    go_wp2
    go_roundw
    case rel=>exact⟨4,by omega,by simp,HS2.out⟩
    case measure=>simp[intOf] <;> omega
   obtain rfl:k=4:=by omega
   obtain⟨c0,c1,c2,c3⟩:=hA.res.full.four
   obtain⟨⟨r0,r1,r2,r3⟩,fz⟩:=hA.ret.four
   have ltt:=heap_lt hA.ret.old
   have HA:=hid hA
   clear hA
   go_wp2
   refine bodyPost_ret (v:=V (s / 2)) (by simp[results,Tryz.results69,go_sem,r0,r1,r2,r3]) rfl ⟨by rw[HV.out],?_⟩
   exact off4 HA.out.off (by omega) _ _ _ _
 have HV:=hid (show hvV p a=a / 2 by unfold hvV;rw[if_neg hodd];rfl)
 have hp2:(wd a 0:Int)%2=0:=by omega
 obtain⟨s,hs⟩:∃ s,s=a:=⟨_,rfl⟩
 have HTop:=hid (show(0:Nat)=wd s (3+1)%2 by
  have e:s / R256=0:=Nat.div_eq_of_lt (by omega)
  rw[<-top_half (by omega),e])
 subst hs
 obtain⟨rb,hrb⟩:∃ rb,rb=w.heap.size+1+1+1:=⟨_,rfl⟩
 have HS:=hid (show HalfAt w ((((w.alloc (.cells #[.int .u64 (wd p 0),.int .u64 (wd p 1),.int .u64 (wd p 2),.int .u64 (wd p 3)] 63)).alloc (.cells #[.int .u64 (wd s 0),.int .u64 (wd s 1),.int .u64 (wd s 2),.int .u64 (wd s 3)] 63)).alloc (.cells #[.int .u64 0,.int .u64 0,.int .u64 0,.int .u64 0] 63)).alloc (.cells #[.int .u64 0,.int .u64 0,.int .u64 0,.int .u64 0] 63)) s rb 0 from
  ⟨heap_old' (heap_old' (heap_new' (by simp) _) _) _,heap_old' (heap_new' (by simp) _) _,heap_new' (by rw[hrb];simp) _,by omega,((((Off.refl _ w).alloc _).alloc _).alloc _).alloc _⟩)
 clear hpar hodd hp ha hb1
 go_enter Tryz.func69,Tryz.ntmps69
 go_wp2_with fail
 rw[<-hrb]
 clear hrb
 go_loopw [7] (fun i wr=>∃ k:Nat,k<=4/\i=.int .i64 k/\HalfAt w wr s rb k) (fun i _=>4-(intOf i).toNat)
 case atStart=>exact⟨0,by omega,rfl,HS.out⟩
 case round =>
  obtain⟨k,hk,rfl,hA⟩:=hrel
  by_cases hlt:k<4
  ·obtain⟨x,hx⟩:∃ x,x=wd s k:=⟨_,rfl⟩
   obtain⟨y,hy⟩:∃ y,y=wd s (k+1):=⟨_,rfl⟩
   have hxl:x<18446744073709551616:=by rw[hx];exact wd_lt s k
   have hyl:y<18446744073709551616:=by rw[hy];exact wd_lt s (k+1)
   have hh:=wd_half s k
   rw[<-hx,<-hy]at hh
   have c0:wr.cell? ⟨w.heap.size+1,k,none⟩=some (.int .u64 x):=by rw[hx];exact hA.a.cell k hlt
   have cr:=hA.res.cell hlt
   have fz:=frozen_of_heap hA.res.old k
   have ltr:=heap_lt hA.res.old
   obtain⟨c,hc⟩:∃ c,c=y%2:=⟨_,rfl⟩
   obtain⟨d,hd⟩:∃ d,d=x / 2:=⟨_,rfl⟩
   obtain⟨e,he⟩:∃ e,e=c*9223372036854775808:=⟨_,rfl⟩
   obtain⟨t,ht⟩:∃ t,t=d+e:=⟨_,rfl⟩
   have HD:=hid (show(t:Int)=(wd (s / 2) k:Int) by rw[hh];omega)
   have w1:IntKind.u64.wrap ((c:Int)*9223372036854775808)=(e:Int):=by rw[IntKind.wrap_u64];omega
   have w2:IntKind.u64.wrap ((d:Int)+(e:Int))=(t:Int):=by rw[IntKind.wrap_u64];omega
   have w3:IntKind.u64.wrap (d:Int)=(d:Int):=by rw[IntKind.wrap_u64];omega
   have q1:(x:Int) / 2=(d:Int):=by omega
   have q2:(y:Int)%2=(c:Int):=by omega
   have hk4:(k:Int)<4:=by omega
   have HA:=hid hA
   by_cases h3:k<3
   ·have c1:wr.cell? ⟨w.heap.size+1,k+1,none⟩=some (.int .u64 y):=by rw[hy];exact hA.a.cell (k+1) (by omega)
    have hk3:(k:Int)<3:=by omega
    have hk5:(k:Int)+1<4:=by omega
    have hk6:(0:Int)<=(k:Int)+1:=by omega
    have hwr:IntKind.i64.wrap ((k:Int)+1)=(k:Int)+1:=by rw[IntKind.wrap_i64];omega
    have HS2:=hid (show HalfAt w (wr.setCell ⟨rb,k,none⟩ (.int .u64 t)) s rb (k+1) by rw[HD.out];exact HA.out.step hlt)
    clear hA hx hy hh hc hd he ht hxl hyl
    go_wp2
    go_roundw
    case rel=>exact⟨k+1,by omega,by simp,HS2.out⟩
    case measure=>simp[intOf] <;> omega
   obtain rfl:k=3:=by omega
   have hc0:c=0:=by rw[hc,hy,<-HTop.out]
   have htd:t=d:=by rw[ht,he,hc0,Nat.zero_mul,Nat.add_zero]
   rw[htd]at HD
   have HS2:=hid (show HalfAt w (wr.setCell ⟨rb,3,none⟩ (.int .u64 d)) s rb (3+1) by rw[HD.out];exact HA.out.step hlt)
   clear w1 w2 htd hc0
   clear hA hx hy hh hc hd he ht hxl hyl q2
   go_wp2
   go_roundw
   case rel=>exact⟨4,by omega,by simp,HS2.out⟩
   case measure=>simp[intOf] <;> omega
  obtain rfl:k=4:=by omega
  obtain⟨c0,c1,c2,c3⟩:=hA.res.full.four
  obtain⟨⟨r0,r1,r2,r3⟩,fz⟩:=hA.ret.four
  have ltt:=heap_lt hA.ret.old
  have HA:=hid hA
  clear hA
  go_wp2
  refine bodyPost_ret (v:=V (s / 2)) (by simp[results,Tryz.results69,go_sem,r0,r1,r2,r3]) rfl ⟨by rw[HV.out],?_⟩
  exact off4 HA.out.off (by omega) _ _ _ _
structure ValAt (w wr:World) (p u:Nat):Prop where
 p:wr.heap[w.heap.size]?=some (.cells #[.int .u64 (wd p 0),.int .u64 (wd p 1),.int .u64 (wd p 2),.int .u64 (wd p 3)] 63)
 v:wr.heap[w.heap.size+1]?=some (.cells #[.int .u64 (wd u 0),.int .u64 (wd u 1),.int .u64 (wd u 2),.int .u64 (wd u 3)] 63)
 ret:wr.heap[w.heap.size+1+1]?=some (.cells #[.int .u64 0,.int .u64 0,.int .u64 0,.int .u64 0] 63)
 off:Off (fun _=>False) w wr
set_option maxRecDepth 100000 in
set_option maxHeartbeats 4000000 in
theorem value_any (p a:Nat) (hm:Mp p) (ho:p%2=1) (ha:a<p) (w:World) :
  Calls Tryz.prog 42 #[V p,V a] w fun e w'=>e=.returned (V (mm p a 1))/\Off (fun _=>False) w w':=by
 have HH:=hid (fun k W=>halve_any p (hvs p a k) hm.lt (Nat.lt_trans (hvs_lt ha k) hm.lt) W)
 have HV:=hid (hvs_value hm ho ha)
 have HI:=hid (show ValAt w (((w.alloc (.cells #[.int .u64 (wd p 0),.int .u64 (wd p 1),.int .u64 (wd p 2),.int .u64 (wd p 3)] 63)).alloc (.cells #[.int .u64 (wd a 0),.int .u64 (wd a 1),.int .u64 (wd a 2),.int .u64 (wd a 3)] 63)).alloc (.cells #[.int .u64 0,.int .u64 0,.int .u64 0,.int .u64 0] 63)) p (hvs p a 0) from
  ⟨heap_old' (heap_old' (heap_new' rfl _) _) _,heap_old' (heap_new' (by simp) _) _,heap_new' (by simp) _,(((Off.refl _ w).alloc _).alloc _).alloc _⟩)
 clear hm ho ha
 go_enter Tryz.func42,Tryz.ntmps42
 go_wp2_with fail
 go_loopw [5] (fun i wr=>∃ k:Nat,k<=256/\i=.int .i64 k/\ValAt w wr p (hvs p a k)) (fun i _=>256-(intOf i).toNat)
 case atStart=>exact⟨0,by omega,rfl,HI.out⟩
 case round =>
  obtain⟨k,hk,rfl,hA⟩:=hrel
  by_cases hlt:k<256
  ·obtain⟨u,hu⟩:∃ u,u=hvs p a k:=⟨_,rfl⟩
   obtain⟨z,hz⟩:∃ z,z=hvV p u:=⟨_,rfl⟩
   rw[<-hu]at hA
   have HHk:=hid (fun W=>HH.out k W)
   rw[<-hu,<-hz]at HHk
   have HZ:=hid (show hvs p a (k+1)=z by rw[hz,hu];rfl)
   have HA:=hid hA
   obtain⟨p0,p1,p2,p3⟩:=cells4 hA.p
   obtain⟨v0,v1,v2,v3⟩:=cells4 hA.v
   have hkI:(k:Int)<256:=by omega
   have hwr:IntKind.i64.wrap ((k:Int)+1)=(k:Int)+1:=by rw[IntKind.wrap_i64];omega
   clear hA hu hz
   go_wp2_with fail
   refine(HHk.out _).mono ?_
   rintro e W1 ⟨rfl,hO1⟩
   clear p0 p1 p2 p3 v0 v1 v2 v3
   have hv:=hO1.heap HA.out.v (fun c=>c)
   obtain⟨m0,m1,m2,m3⟩:=cells4 hv
   have fz:=fun j=>frozen_of_heap hv j
   have lt:=heap_lt hv
   have ho:=setCells_off (w.heap.size+1) (words4 z) 0 W1
   have HA2:=hid (show ValAt w (W1.setCells (w.heap.size+1) 0 (words4 z)) p (hvs p a (k+1)) by
    rw[HZ.out]
    exact⟨ho.heap (hO1.heap HA.out.p (fun c=>c)) (by omega),setCells_at hv rfl,ho.heap (hO1.heap HA.out.ret (fun c=>c)) (by omega),(HA.out.off.trans hO1 (fun _ _ c=>c)).trans ho (fun b hb e=>by omega)⟩)
   clear hv ho hO1
   go_wp2
   go_roundw
   case rel=>exact⟨k+1,by omega,by simp,HA2.out⟩
   case measure=>simp[intOf] <;> omega
  obtain rfl:k=256:=by omega
  rw[HV.out]at hA
  obtain⟨z,hz⟩:∃ z,z=mm p a 1:=⟨_,rfl⟩
  rw[<-hz]at hA
  have HZ:=hid hz
  obtain⟨v0,v1,v2,v3⟩:=cells4 hA.v
  obtain⟨⟨r0,r1,r2,r3⟩,fz,lt⟩:=zero_cells hA.ret
  have HA:=hid hA
  clear hA hz
  go_wp2
  refine bodyPost_ret (v:=V z) (by simp[results,Tryz.results42,go_sem,r0,r1,r2,r3]) rfl ⟨by rw[HZ.out],?_⟩
  exact off4 HA.out.off (by omega) _ _ _ _
end
section
open Go.RowKit
attribute [local go_sem ↓] Go.wp_at_zero Go.wp_at_succ
theorem Ls.of_nums {w:World} {b cap:Nat} {T:TypeId} {xs:List Nat} (h:NumsAt w b T xs) (hl:xs.length<=100000) (k:Nat) (hk:k<=xs.length):Ls w (.slice (some ⟨b,0,none⟩) k cap) (xs.take k):=by
 refine⟨some ⟨b,0,none⟩,cap,by rw[List.length_take,Nat.min_eq_left hk],by rw[List.length_take];omega,fun _=>⟨b,0,rfl,trivial,fun j x hx=>?_⟩⟩
 rw[List.getElem?_take]at hx
 split at hx
 ·have:=NumsAt.cell h hx;rw[Nat.zero_add];exact this
 cases hx
theorem Ls.of_all {w:World} {b cap:Nat} {T:TypeId} {xs:List Nat} (h:NumsAt w b T xs) (hl:xs.length<=100000):Ls w (.slice (some ⟨b,0,none⟩) xs.length cap) xs:=by
 have:=Ls.of_nums (cap:=cap) h hl xs.length (Nat.le_refl _)
 rwa [List.take_length]at this
def Lk (l:Nat->Bool) (i:Nat) (u:Value) (w:World) (xs:List Nat):Prop:=l i=true->Ls w u xs
theorem Lk.start (i:Nat) (u:Value) (w:World) (xs:List Nat):Lk (fun _=>false) i u w xs:=fun h=>by cases h
theorem Lk.new {l:Nat->Bool} {i:Nat} {u:Value} {w:World} {xs:List Nat} (h:Ls w u xs):Lk (upd l i) i u w xs:=fun _=>h
theorem Lk.keep {l:Nat->Bool} {i:Nat} {u:Value} {w w':World} {xs:List Nat} (h:Lk l i u w xs) (ho:Off (fun _=>False) w w') {k:Nat} (hk:(k==i)=false):Lk (upd l k) i u w' xs:=fun hl=>by
 rw[upd_k l hk]at hl;exact(h hl).off ho
end
section


theorem ng_lt {p:Nat} (h:0<p) (x:Nat):ng p x<p:=Nat.mod_lt _ h
theorem tl_scale (p x f:Nat) (c:List Nat):tl p x (scaL p c f)=scaL p (tl p x c) f:=by
 have hs:∀ (c:List Nat) j,(scaL p c f).getD j 0=c.getD j 0*f%p:=fun c j=>by
  unfold scaL
  rw[List.getD_eq_getElem?_getD,List.getD_eq_getElem?_getD,List.getElem?_map]
  cases c[j]? <;> simp
 by_cases h:0<c.length
 ·apply ext_getD
  ·rw[tl_length _ _ (by simpa[scaL]using h)];simp[scaL,tl_length p x h]
  intro i _
  rw[hs,tl_get,tl_get,hs,hs]
  obtain⟨a,ha⟩:∃ a,a=c.getD i 0:=⟨_,rfl⟩
  obtain⟨b,hb⟩:∃ b,b=c.getD (i-1) 0:=⟨_,rfl⟩
  rw[<-ha,<-hb,Nat.mod_mul_mod]
  by_cases e:i=0
  ·rw[if_pos e,if_pos e,Nat.zero_add,Nat.zero_add,Nat.mod_mul_mod];congr 1;rw[Nat.mul_right_comm]
  rw[if_neg e,if_neg e]
  rw[md_add (md_self _ _) (md_mul (md_self (p:=p) _) rfl)]
  congr 1
  rw[Nat.add_mul,Nat.mul_right_comm a]
 have:c=[]:=List.eq_nil_of_length_eq_zero (by omega)
 subst this
 rfl
theorem tlF_scale (p:Nat) (xs c:List Nat) (f:Nat):∀ l,tlF p xs (scaL p c f) l=scaL p (tlF p xs c l) f :=
 snoc_ind rfl (fun l x ih=>by rw[tlF_snoc,tlF_snoc,ih,tl_scale])
theorem tlF_one (p:Nat) (xs:List Nat) {f:Nat} (hf:f<p) (i:Nat):tlF p xs [f] (oth xs.length i)=scaL p (numL p xs i) f:=by
 have:[f]=scaL p [1] f:=by simp[scaL,Nat.mod_eq_of_lt hf]
 rw[this,tlF_scale];rfl
theorem wgt_lt {p:Nat} (h0:0<p) (xs:List Nat) (i:Nat):wgt p xs i<p:=Nat.mod_lt _ h0
/-! The values. -/
/-! The only one. -/
end
section
open Go.RowKit
attribute [local go_sem ↓] Go.wp_at_zero Go.wp_at_succ
theorem run_make_vec (n:Nat) (hn:n<=100000) (w:World):(Instr.makeSlice 76 (.int .i64 n) (.int .i64 n)).run Tryz.prog w=.ok (.slice (some ⟨w.heap.size,0,none⟩) n n) (w.alloc (.cells (flat4 (List.replicate n 0)).toArray 63)):=by
 obtain⟨i0,hi,hz0,hz1,hz2⟩:=info_parts vec_info
 have:=run_make (P:=Tryz.prog) w 76 63 i0 _ Tryz.underlying76 hi hz0 .i64 .i64 (n:Int) (n:Int) (by omega) (Int.le_refl _) (by rw[hz2];omega) (by omega)
 rw[hz1,show(Value.agg #[.int .u64 0,.int .u64 0,.int .u64 0,.int .u64 0]).cells=#[.int .u64 0,.int .u64 0,.int .u64 0,.int .u64 0] from rfl]at this
 rw[<-made_zero4]
 simpa using this
def fL (f:Nat->Nat) (n:Nat):List Nat:=(List.range n).map f
theorem fL_length (f:Nat->Nat) (n:Nat):(fL f n).length=n:=by simp[fL]
theorem fL_get (f:Nat->Nat) {n k:Nat} (h:k<n):(fL f n)[k]?=some (f k):=by unfold fL;rw[List.getElem?_map,List.getElem?_range h];rfl
theorem fL_set (f:Nat->Nat) (n k v:Nat):(fL f n).set k v=fL (fun j=>if j=k then v else f j) n:=by
 apply List.ext_getElem?
 intro j
 by_cases hk:k<n
 ·by_cases hj:j=k
  ·subst hj
   rw[List.getElem?_set_self (by rw[fL_length];exact hk),fL_get _ hk,if_pos rfl]
  rw[List.getElem?_set_ne (fun e=>hj e.symm)]
  by_cases hjn:j<n
  ·rw[fL_get _ hjn,fL_get _ hjn,if_neg hj]
  rw[List.getElem?_eq_none (by rw[fL_length];omega),List.getElem?_eq_none (by rw[fL_length];omega)]
 rw[List.set_eq_of_length_le (by rw[fL_length];omega)]
 by_cases hjn:j<n
 ·rw[fL_get _ hjn,fL_get _ hjn,if_neg (by omega)]
 rw[List.getElem?_eq_none (by rw[fL_length];omega),List.getElem?_eq_none (by rw[fL_length];omega)]
theorem fL_congr {f g:Nat->Nat} {n:Nat} (h:∀ j,j<n->f j=g j):fL f n=fL g n:=by
 unfold fL;exact List.map_congr_left (fun j hj=>h j (List.mem_range.1 hj))
theorem fL_zero (n:Nat):fL (fun _=>0) n=List.replicate n 0:=by unfold fL;simp[List.map_const']
def Lz (N:Nat) (w:World) (v:Value) (xs:List Nat):Prop:=LsAt w v xs (fun b=>N<=b)
theorem Lz.off {N:Nat} {w w':World} {v:Value} {xs:List Nat} (h:Lz N w v xs) (ho:Off (fun _=>False) w w'):Lz N w' v xs:=LsAt.off h ho (fun _ _ _ c=>c)
theorem Lz.ls {N:Nat} {w:World} {v:Value} {xs:List Nat} (h:Lz N w v xs):Ls w v xs:=Ls.of h
theorem ls_new {w:World} {b cap B:Nat} {T:TypeId} {xs:List Nat} (h:NumsAt w b T xs) (hl:xs.length<=100000) (hb:B<=b):LsAt w (.slice (some ⟨b,0,none⟩) xs.length cap) xs (fun k=>B<=k):=by
 obtain⟨a,c,e,h1,h2⟩:=Ls.of_all (cap:=cap) h hl
 refine⟨a,c,e,h1,fun hp=>?_⟩
 obtain⟨b2,off,e2,_,h3⟩:=h2 hp
 refine⟨b2,off,e2,?_,h3⟩
 simp at e
 rw[e2]at e
 simp at e
 omega
set_option maxRecDepth 100000 in
set_option maxHeartbeats 4000000 in
theorem refadd_new {p:Nat} (hp:p<R256) (h1:1<p) (vs us:List Nat) (hvs:∀ v∈vs,v<p) (hus:∀ v∈us,v<p) (hl1:vs.length<=10000) (hl2:us.length<=10000) (v u:Value) (w:World) (hV:Ls w v vs) (hU:Ls w u us) :
  Calls Tryz.prog 93 #[V p,v,u] w fun e w'=>∃ z,e=.returned z/\LsAt w' z (sumL p vs us) (fun b=>w.heap.size<=b)/\Off (fun _=>False) w w':=by
 obtain⟨a,cap,rfl,hL⟩:=hV.open
 obtain⟨a2,cap2,rfl,hM⟩:=hU.open
 clear hV hU
 obtain⟨n,hn⟩:∃ n,n=vs.length:=⟨_,rfl⟩
 obtain⟨m,hm⟩:∃ m,m=us.length:=⟨_,rfl⟩
 rw[<-hn]at hL hl1 ⊢
 rw[<-hm]at hM hl2 ⊢
 obtain⟨N,hN⟩:∃ N,N=max n m:=⟨_,rfl⟩
 have hmx:max (n:Int) (m:Int)=(N:Int):=by omega
 have hmk:=run_make_vec N (by omega)
 have hnN:n<=N:=by omega
 have hmN:m<=N:=by omega
 have hNl:N<=10000:=by omega
 have HA:=hid (fun a b ha hb W=>mod_add p a b hp ha hb W:∀ a b,a<p->b<p->∀ W,_)
 have HN:=hid hn
 have HM':=hid hm
 have HNN:=hid hN
 have HL:=hid hL
 have HM:=hid hM
 have HI:=hid (show ∀ W,W=(w.alloc (.cells #[.int .u64 (wd p 0),.int .u64 (wd p 1),.int .u64 (wd p 2),.int .u64 (wd p 3)] 63)).alloc (.cells (flat4 (List.replicate N 0)).toArray 63)->W.heap[w.heap.size]?=some (.cells #[.int .u64 (wd p 0),.int .u64 (wd p 1),.int .u64 (wd p 2),.int .u64 (wd p 3)] 63 (0,0))/\NumsAt W (w.heap.size+1) 63 (fL (fun j=>if j<0 then vs.getD j 0 else 0) N)/\Off (fun _=>False) w W from by
  rintro W rfl
  refine⟨heap_old' (heap_new' rfl _) _,?_,((Off.refl _ w).alloc _).alloc _⟩
  rw[show fL (fun j=>if j<0 then vs.getD j 0 else 0) N=List.replicate N 0 by rw[<-fL_zero];exact fL_congr (fun j _=>if_neg (by omega))]
  exact heap_new' (by simp) _)
 clear hn hm hN hL hM
 go_enter Tryz.func93,Tryz.ntmps93
 go_wp2_with fail
 clear hmk hmx
 obtain⟨arr,harr⟩:∃ arr,arr=w.heap.size+1:=⟨_,rfl⟩
 obtain⟨bp,hbp⟩:∃ bp,bp=w.heap.size:=⟨_,rfl⟩
 rw[<-harr]at HI ⊢
 rw[<-hbp]at HI ⊢
 have HB:=hid (show bp=w.heap.size/\arr=w.heap.size+1 from⟨hbp,harr⟩)
 clear harr hbp
 go_loopw [8] (fun i wr=>∃ k:Nat,k<=n/\i=.int .i64 k/\wr.heap[bp]?=some (.cells #[.int .u64 (wd p 0),.int .u64 (wd p 1),.int .u64 (wd p 2),.int .u64 (wd p 3)] 63 (0,0))/\NumsAt wr arr 63 (fL (fun j=>if j<k then vs.getD j 0 else 0) N)/\Off (fun _=>False) w wr) (fun i _=>n-(intOf i).toNat)
 case atStart=>exact⟨0,Nat.zero_le _,rfl,HI.out _ rfl⟩
 case round =>
  obtain⟨k,hk,rfl,hP,hA,hO⟩:=hrel
  by_cases hlt:k<n
  ·obtain⟨c,b,off,hck,rfl,c0,c1,c2,c3⟩:=(HL.out.off hO (fun _ _ _ c=>c)).at hlt
   have hfc:vs.getD k 0=c:=by rw[List.getD_eq_getElem?_getD,hck];rfl
   obtain⟨L1,hL1⟩:∃ L1,L1=fL (fun j=>if j<k then vs.getD j 0 else 0) N:=⟨_,rfl⟩
   have hst:L1.set k c=fL (fun j=>if j<k+1 then vs.getD j 0 else 0) N:=by
    rw[hL1,fL_set]
    refine fL_congr (fun j _=>?_)
    by_cases e:j=k
    ·rw[if_pos e,if_pos (by omega),e,hfc]
    by_cases e2:j<k
    ·rw[if_neg e,if_pos e2,if_pos (by omega)]
    rw[if_neg e,if_neg e2,if_neg (by omega)]
   have hl1n:L1.length=N:=by rw[hL1,fL_length]
   rw[<-hL1]at hA
   obtain⟨e0,he0⟩:∃ e0,L1[k]?=some e0:=⟨_,List.getElem?_eq_getElem (by omega)⟩
   obtain⟨m0,m1,m2,m3⟩:=NumsAt.cell hA he0
   have fz:=fun j=>NumsAt.frozen hA j
   have lt:=NumsAt.lt hA
   have hA2:=hA.store (j:=k) (by omega) c
   have hO2:Off (fun j=>j=arr) wr (wr.setCells arr (k*4) (words4 c)):=setCells_off arr (words4 c) (k*4) wr
   rw[hst]at hA2
   have HP2:=hid (hO2.heap hP (by have hb:=HB.out;omega))
   have HA2:=hid hA2
   have HO2:=hid (hO.trans hO2 (fun j hj e=>by have hb:=HB.out;omega))
   have hkn:(k:Int)<(n:Int):=by omega
   have hkN:(k:Int)<(N:Int):=by omega
   have hwk:IntKind.i64.wrap ((k:Int)+1)=(k:Int)+1:=by rw[IntKind.wrap_i64];omega
   clear hP hA hO hck hfc hst hL1 he0 hA2 hO2
   go_wp2
   go_roundw
   case rel=>exact⟨k+1,by omega,by simp,HP2.out,HA2.out,HO2.out⟩
   case measure=>simp[intOf] <;> omega
  obtain rfl:k=n:=by omega
  have hA:NumsAt wr arr 63 (fL (fun j=>if j<0 then(vs.getD j 0+us.getD j 0)%p else vs.getD j 0) N):=by
   rw[show fL (fun j=>if j<0 then(vs.getD j 0+us.getD j 0)%p else vs.getD j 0) N=fL (fun j=>if j<k then vs.getD j 0 else 0) N from fL_congr (fun j _=>by
    rw[if_neg (by omega)]
    by_cases e:j<k
    ·rw[if_pos e]
    rw[if_neg e,getD_over (by have:=HN.out;omega)])]
   exact hA
  have HP:=hid hP
  have HAr:=hid hA
  have HO:=hid hO
  clear hP hA hO
  go_wp2
  go_loopw [9] (fun i wr=>∃ k:Nat,k<=m/\i=.int .i64 k/\wr.heap[bp]?=some (.cells #[.int .u64 (wd p 0),.int .u64 (wd p 1),.int .u64 (wd p 2),.int .u64 (wd p 3)] 63 (0,0))/\NumsAt wr arr 63 (fL (fun j=>if j<k then(vs.getD j 0+us.getD j 0)%p else vs.getD j 0) N)/\Off (fun _=>False) w wr) (fun i _=>m-(intOf i).toNat)
  case atStart=>exact⟨0,Nat.zero_le _,rfl,HP.out,HAr.out,HO.out⟩
  case round =>
   obtain⟨k,hk2,rfl,hP,hA,hO⟩:=hrel
   by_cases hlt2:k<m
   ·obtain⟨c,b,off,hck,rfl,c0,c1,c2,c3⟩:=(HM.out.off hO (fun _ _ _ c=>c)).at hlt2
    have hfc:us.getD k 0=c:=by rw[List.getD_eq_getElem?_getD,hck];rfl
    have hcp:c<p:=hus c (List.mem_of_getElem? hck)
    obtain⟨o,ho⟩:∃ o,o=vs.getD k 0:=⟨_,rfl⟩
    have hop:o<p:=by rw[ho];exact getD_lt (by omega) hvs k
    obtain⟨z,hz⟩:∃ z,z=(o+c)%p:=⟨_,rfl⟩
    obtain⟨L1,hL1⟩:∃ L1,L1=fL (fun j=>if j<k then(vs.getD j 0+us.getD j 0)%p else vs.getD j 0) N:=⟨_,rfl⟩
    have hst:L1.set k z=fL (fun j=>if j<k+1 then(vs.getD j 0+us.getD j 0)%p else vs.getD j 0) N:=by
     rw[hL1,fL_set]
     refine fL_congr (fun j _=>?_)
     by_cases e:j=k
     ·rw[if_pos e,if_pos (by omega),e,hfc,<-ho,hz]
     by_cases e2:j<k
     ·rw[if_neg e,if_pos e2,if_pos (by omega)]
     rw[if_neg e,if_neg e2,if_neg (by omega)]
    have hl1n:L1.length=N:=by rw[hL1,fL_length]
    have hoj:L1[k]?=some o:=by rw[hL1,fL_get _ (by omega),if_neg (by omega),ho]
    rw[<-hL1]at hA
    have HAd:=hid (show ∀ W,Calls Tryz.prog 32 #[V p,V o,V c] W fun e w'=>e=.returned (V z)/\Off (fun _=>False) W w' from fun W=>by rw[hz];exact HA.out o c hop hcp W)
    have HOj:=hid hoj
    have HPt:=hid (show ∀ W:World,W.heap[arr]?=some (.cells (flat4 L1).toArray 63 (0,0))->(W.setCells arr (k*4) (words4 z)).heap[arr]?=some (.cells (flat4 (L1.set k z)).toArray 63 (0,0)) from fun W h=>NumsAt.store h (by omega) z)
    have HAr:=hid (show wr.heap[arr]?=some (.cells (flat4 L1).toArray 63 (0,0)) from hA)
    have HST:=hid hst
    have HK:Hid (∀ W',Off (fun k=>k=arr) wr W'->(W'.cell? ⟨bp,0,none⟩=some (.int .u64 (wd p 0))/\W'.cell? ⟨bp,1,none⟩=some (.int .u64 (wd p 1))/\W'.cell? ⟨bp,2,none⟩=some (.int .u64 (wd p 2))/\W'.cell? ⟨bp,3,none⟩=some (.int .u64 (wd p 3)))/\(W'.cell? ⟨b,off+k*4,none⟩=some (.int .u64 (wd c 0))/\W'.cell? ⟨b,off+k*4+1,none⟩=some (.int .u64 (wd c 1))/\W'.cell? ⟨b,off+k*4+2,none⟩=some (.int .u64 (wd c 2))/\W'.cell? ⟨b,off+k*4+3,none⟩=some (.int .u64 (wd c 3)))/\Off (fun k=>k=arr) wr W'):=hid (fun W' h=>by
     have hb:=HB.out
     have hbn:b≠arr:=fun e=>by
      have:=(HM.out.at hlt2);obtain⟨_,b2,off2,_,e2,d0,_⟩:=this
      cases e2;have:=World.block_lt_of_cell? w _ d0;simp at this;omega
     exact⟨cells4 (h.heap hP (by omega)),⟨h.cell c0 hbn,h.cell c1 hbn,h.cell c2 hbn,h.cell c3 hbn⟩,h⟩)
    have HP:=hid hP
    have HO:=hid hO
    have hkn:(k:Int)<(m:Int):=by omega
    have hkN:(k:Int)<(N:Int):=by omega
    have hwk:IntKind.i64.wrap ((k:Int)+1)=(k:Int)+1:=by rw[IntKind.wrap_i64];omega
    clear hP hA hO hck hfc hcp ho hop hz hL1 hst hoj c0 c1 c2 c3
    go_upto_region 9 with fail
    refine wp_region_inv (fun a0 l a' w'=>∃ (u35:Value) (u36:Value) (u37:Value) (u38:Value) (u39:Value) (u40:Value) (u41:Value) (u42:Value) (u43:Value) (u44:Value) (u45:Value) (u46:Value) (u47:Value),a'=(Act.put (Act.put (Act.put (Act.put (Act.put (Act.put (Act.put (Act.put (Act.put (Act.put (Act.put (Act.put (Act.put a0 (some 35) u35) (some 36) u36) (some 37) u37) (some 38) u38) (some 39) u39) (some 40) u40) (some 41) u41) (some 42) u42) (some 43) u43) (some 44) u44) (some 45) u45) (some 46) u46) (some 47) u47)/\Slot l 0 u35 (.slice (some ⟨arr,0,none⟩) N N)/\Slot l 1 u36 (.int .i64 k)/\Slot l 2 u37 (V p)/\Slot l 3 u38 (.slice (some ⟨arr,0,none⟩) N N)/\Slot l 4 u39 (.int .i64 k)/\Slot l 5 u40 (.pointer (some ⟨arr,k*4,none⟩))/\Slot l 6 u41 (V o)/\Slot l 7 u42 (.slice (some ⟨b,off,none⟩) m cap2)/\Slot l 8 u43 (.int .i64 k)/\Slot l 9 u44 (.pointer (some ⟨b,off+k*4,none⟩))/\Slot l 10 u45 (V c)/\Slot l 11 u46 (V z)/\Slot l 12 u47 (.pointer (some ⟨arr,k*4,none⟩))/\Old l 13 arr wr w' (.cells (flat4 L1).toArray 63) (.cells (flat4 (L1.set k z)).toArray 63)/\Dep l 6 13/\Off (fun k=>k=arr) wr w') (by kernel_rfl) (by kernel_rfl) ?_ ⟨?_,?_,?_,?_,?_,?_,?_,?_,?_,?_,?_,?_,?_,?_,trivial⟩ ?_
    ·refine⟨?z35,?z36,?z37,?z38,?z39,?z40,?z41,?z42,?z43,?z44,?z45,?z46,?z47,?fr,Slot.start _ _ _,Slot.start _ _ _,Slot.start _ _ _,Slot.start _ _ _,Slot.start _ _ _,Slot.start _ _ _,Slot.start _ _ _,Slot.start _ _ _,Slot.start _ _ _,Slot.start _ _ _,Slot.start _ _ _,Slot.start _ _ _,Slot.start _ _ _,Old.start HAr.out _ _,Dep.start _ _,(Off.refl _ wr).drew⟩
     case fr=>first | (simp only[XP];rfl) | simp only[XP]
    all_goals try (intro l a wr hI hl hd K' hK;obtain⟨u35,u36,u37,u38,u39,u40,u41,u42,u43,u44,u45,u46,u47,ha,s0,s1,s2,s3,s4,s5,s6,s7,s8,s9,s10,s11,s12,O0,P6_13,hO⟩:=hI;simp only[XP]at ha)
    ·subst ha
     go_simp
     refine hK.out _ _ ⟨_,_,_,_,_,_,_,_,_,_,_,_,_,?_,Slot.new _ _ _,s1.keep rfl,s2.keep rfl,s3.keep rfl,s4.keep rfl,s5.keep rfl,s6.keep rfl,s7.keep rfl,s8.keep rfl,s9.keep rfl,s10.keep rfl,s11.keep rfl,s12.keep rfl,O0.keep (Off.refl _ wr) rfl,P6_13.keep rfl,hO⟩
     simp only[XP]
    ·subst ha
     go_simp
     refine hK.out _ _ ⟨_,_,_,_,_,_,_,_,_,_,_,_,_,?_,s0.keep rfl,Slot.new _ _ _,s2.keep rfl,s3.keep rfl,s4.keep rfl,s5.keep rfl,s6.keep rfl,s7.keep rfl,s8.keep rfl,s9.keep rfl,s10.keep rfl,s11.keep rfl,s12.keep rfl,O0.keep (Off.refl _ wr) rfl,P6_13.keep rfl,hO⟩
     simp only[XP]
    ·subst ha
     have hc:=HK.out wr hO
     have p0:=hc.1.1
     have p1:=hc.1.2.1
     have p2:=hc.1.2.2.1
     have p3:=hc.1.2.2.2
     clear hc
     go_simp
     refine hK.out _ _ ⟨_,_,_,_,_,_,_,_,_,_,_,_,_,?_,s0.keep rfl,s1.keep rfl,Slot.new _ _ _,s3.keep rfl,s4.keep rfl,s5.keep rfl,s6.keep rfl,s7.keep rfl,s8.keep rfl,s9.keep rfl,s10.keep rfl,s11.keep rfl,s12.keep rfl,O0.keep (Off.refl _ wr) rfl,P6_13.keep rfl,hO⟩
     simp only[XP]
    ·subst ha
     go_simp
     refine hK.out _ _ ⟨_,_,_,_,_,_,_,_,_,_,_,_,_,?_,s0.keep rfl,s1.keep rfl,s2.keep rfl,Slot.new _ _ _,s4.keep rfl,s5.keep rfl,s6.keep rfl,s7.keep rfl,s8.keep rfl,s9.keep rfl,s10.keep rfl,s11.keep rfl,s12.keep rfl,O0.keep (Off.refl _ wr) rfl,P6_13.keep rfl,hO⟩
     simp only[XP]
    ·subst ha
     go_simp
     refine hK.out _ _ ⟨_,_,_,_,_,_,_,_,_,_,_,_,_,?_,s0.keep rfl,s1.keep rfl,s2.keep rfl,s3.keep rfl,Slot.new _ _ _,s5.keep rfl,s6.keep rfl,s7.keep rfl,s8.keep rfl,s9.keep rfl,s10.keep rfl,s11.keep rfl,s12.keep rfl,O0.keep (Off.refl _ wr) rfl,P6_13.keep rfl,hO⟩
     simp only[XP]
    ·have q3:=s3 (hd 3 (by decide))
     have q4:=s4 (hd 4 (by decide))
     subst ha q3 q4
     go_simp
     refine hK.out _ _ ⟨_,_,_,_,_,_,_,_,_,_,_,_,_,?_,s0.keep rfl,s1.keep rfl,s2.keep rfl,s3.keep rfl,s4.keep rfl,Slot.new _ _ _,s6.keep rfl,s7.keep rfl,s8.keep rfl,s9.keep rfl,s10.keep rfl,s11.keep rfl,s12.keep rfl,O0.keep (Off.refl _ wr) rfl,P6_13.keep rfl,hO⟩
     simp only[XP]
    ·have q5:=s5 (hd 5 (by decide))
     subst ha q5
     have hZ:=O0.was (P6_13 hl)
     obtain⟨p0,p1,p2,p3⟩:=NumsAt.cell hZ HOj.out
     clear hZ
     go_simp
     refine hK.out _ _ ⟨_,_,_,_,_,_,_,_,_,_,_,_,_,?_,s0.keep rfl,s1.keep rfl,s2.keep rfl,s3.keep rfl,s4.keep rfl,s5.keep rfl,Slot.new _ _ _,s7.keep rfl,s8.keep rfl,s9.keep rfl,s10.keep rfl,s11.keep rfl,s12.keep rfl,O0.keep (Off.refl _ wr) rfl,P6_13.keep rfl,hO⟩
     simp only[XP]
    ·subst ha
     go_simp
     refine hK.out _ _ ⟨_,_,_,_,_,_,_,_,_,_,_,_,_,?_,s0.keep rfl,s1.keep rfl,s2.keep rfl,s3.keep rfl,s4.keep rfl,s5.keep rfl,s6.keep rfl,Slot.new _ _ _,s8.keep rfl,s9.keep rfl,s10.keep rfl,s11.keep rfl,s12.keep rfl,O0.keep (Off.refl _ wr) rfl,P6_13.keep rfl,hO⟩
     simp only[XP]
    ·subst ha
     go_simp
     refine hK.out _ _ ⟨_,_,_,_,_,_,_,_,_,_,_,_,_,?_,s0.keep rfl,s1.keep rfl,s2.keep rfl,s3.keep rfl,s4.keep rfl,s5.keep rfl,s6.keep rfl,s7.keep rfl,Slot.new _ _ _,s9.keep rfl,s10.keep rfl,s11.keep rfl,s12.keep rfl,O0.keep (Off.refl _ wr) rfl,P6_13.keep rfl,hO⟩
     simp only[XP]
    ·have q7:=s7 (hd 7 (by decide))
     have q8:=s8 (hd 8 (by decide))
     subst ha q7 q8
     go_simp
     refine hK.out _ _ ⟨_,_,_,_,_,_,_,_,_,_,_,_,_,?_,s0.keep rfl,s1.keep rfl,s2.keep rfl,s3.keep rfl,s4.keep rfl,s5.keep rfl,s6.keep rfl,s7.keep rfl,s8.keep rfl,Slot.new _ _ _,s10.keep rfl,s11.keep rfl,s12.keep rfl,O0.keep (Off.refl _ wr) rfl,P6_13.keep rfl,hO⟩
     simp only[XP]
    ·have q9:=s9 (hd 9 (by decide))
     subst ha q9
     have hc:=HK.out wr hO
     have p0:=hc.2.1.1
     have p1:=hc.2.1.2.1
     have p2:=hc.2.1.2.2.1
     have p3:=hc.2.1.2.2.2
     clear hc
     go_simp
     refine hK.out _ _ ⟨_,_,_,_,_,_,_,_,_,_,_,_,_,?_,s0.keep rfl,s1.keep rfl,s2.keep rfl,s3.keep rfl,s4.keep rfl,s5.keep rfl,s6.keep rfl,s7.keep rfl,s8.keep rfl,s9.keep rfl,Slot.new _ _ _,s11.keep rfl,s12.keep rfl,O0.keep (Off.refl _ wr) rfl,P6_13.keep rfl,hO⟩
     simp only[XP]
    ·have q2:=s2 (hd 2 (by decide))
     have q6:=s6 (hd 6 (by decide))
     have q10:=s10 (hd 10 (by decide))
     subst ha q2 q6 q10
     go_simp
     refine(held_inv (HAd.out wr) hO).mono ?_
     rintro e w1 ⟨rfl,hO1,hOW⟩
     go_wp2_with fail
     refine hK.out _ _ ⟨_,_,_,_,_,_,_,_,_,_,_,_,_,?_,s0.keep rfl,s1.keep rfl,s2.keep rfl,s3.keep rfl,s4.keep rfl,s5.keep rfl,s6.keep rfl,s7.keep rfl,s8.keep rfl,s9.keep rfl,s10.keep rfl,Slot.new _ _ _,s12.keep rfl,O0.keep hOW rfl,P6_13.keep rfl,hO1⟩
     simp only[XP]
    ·have q0:=s0 (hd 0 (by decide))
     have q1:=s1 (hd 1 (by decide))
     subst ha q0 q1
     go_simp
     refine hK.out _ _ ⟨_,_,_,_,_,_,_,_,_,_,_,_,_,?_,s0.keep rfl,s1.keep rfl,s2.keep rfl,s3.keep rfl,s4.keep rfl,s5.keep rfl,s6.keep rfl,s7.keep rfl,s8.keep rfl,s9.keep rfl,s10.keep rfl,s11.keep rfl,Slot.new _ _ _,O0.keep (Off.refl _ wr) rfl,P6_13.keep rfl,hO⟩
     simp only[XP]
    ·have q12:=s12 (hd 12 (by decide))
     have q11:=s11 (hd 11 (by decide))
     subst ha q12 q11
     have hZ:=(O0.was hl)
     obtain⟨m0,m1,m2,m3⟩:=NumsAt.cell hZ HOj.out
     have fz:=fun j=>NumsAt.frozen hZ j
     have lt:=heap_lt hZ
     clear hZ
     go_simp
     refine hK.out _ _ ⟨_,_,_,_,_,_,_,_,_,_,_,_,_,?_,s0.keep rfl,s1.keep rfl,s2.keep rfl,s3.keep rfl,s4.keep rfl,s5.keep rfl,s6.keep rfl,s7.keep rfl,s8.keep rfl,s9.keep rfl,s10.keep rfl,s11.keep rfl,s12.keep rfl,O0.putAt (HPt.out wr) hl,Dep.at (hd 6 (by decide)),setCells_in_at hO (fun _=>rfl) (words4 z)⟩
     simp only[XP]
    intro l a wc hI hd
    obtain⟨u35,u36,u37,u38,u39,u40,u41,u42,u43,u44,u45,u46,u47,ha,s0,s1,s2,s3,s4,s5,s6,s7,s8,s9,s10,s11,s12,O0,P6_13,hO⟩:=hI
    simp only[XP]at ha
    have q0:=s0 (hd 0 (by decide))
    have q1:=s1 (hd 1 (by decide))
    have q2:=s2 (hd 2 (by decide))
    have q3:=s3 (hd 3 (by decide))
    have q4:=s4 (hd 4 (by decide))
    have q5:=s5 (hd 5 (by decide))
    have q6:=s6 (hd 6 (by decide))
    have q7:=s7 (hd 7 (by decide))
    have q8:=s8 (hd 8 (by decide))
    have q9:=s9 (hd 9 (by decide))
    have q10:=s10 (hd 10 (by decide))
    have q11:=s11 (hd 11 (by decide))
    have q12:=s12 (hd 12 (by decide))
    have r0:wc.heap[arr]?=some (.cells (flat4 (L1.set k z)).toArray 63):=O0.now (hd 13 (by decide))
    subst ha q0 q1 q2 q3 q4 q5 q6 q7 q8 q9 q10 q11 q12
    clear hd s0 s1 s2 s3 s4 s5 s6 s7 s8 s9 s10 s11 s12 O0 P6_13
    have hb:=HB.out
    have HP2:=hid (hO.heap HP.out (by omega))
    have HO2:=hid (HO.out.trans hO (fun j hj e=>by omega))
    rw[HST.out]at r0
    have R0:=hid r0
    clear hO r0 hb
    go_wp2
    go_roundw
    case rel=>exact⟨k+1,by omega,by simp,HP2.out,R0.out,HO2.out⟩
    case measure=>simp[intOf] <;> omega
   obtain rfl:k=m:=by omega
   have hz:fL (fun j=>if j<k then(vs.getD j 0+us.getD j 0)%p else vs.getD j 0) N=sumL p vs us:=by
    have hs:sumL p vs us=fL (fun j=>(vs.getD j 0+us.getD j 0)%p) N:=by unfold sumL fL;rw[HNN.out,HN.out,HM'.out]
    rw[hs]
    refine fL_congr (fun j _=>?_)
    by_cases e:j<k
    ·rw[if_pos e]
    rw[if_neg e,getD_over (L:=us) (by have:=HM'.out;omega),Nat.add_zero,Nat.mod_eq_of_lt (getD_lt (by omega) hvs j)]
   rw[hz]at hA
   have hsl:(sumL p vs us).length=N:=by rw[<-hz,fL_length]
   have hLs:=ls_new (cap:=N) (B:=w.heap.size) hA (by omega) (by have:=HB.out;omega)
   rw[hsl]at hLs
   have HLs:=hid hLs
   have HO:=hid hO
   clear hP hA hO hz hLs
   go_wp2
   go_ret
   exact⟨_,rfl,HLs.out,HO.out⟩
end
section
open Go.RowKit
section
variable {id:Int} {p i0 r s:Nat}
end
theorem ls_build (w:World) (xs:List Nat) (hl:xs.length<=100000) (T:TypeId):Ls (w.alloc (.cells (flat4 xs).toArray T (0,0))) (.slice (some ⟨w.heap.size,0,none⟩) xs.length xs.length) xs :=
 Ls.of_all (T:=T) (heap_new' rfl _:NumsAt _ _ T xs) hl
end
section
open Go.RowKit
attribute [local go_sem ↓] Go.wp_at_zero Go.wp_at_succ
set_option maxHeartbeats 400000 in
theorem refmul_nil (p n cap m cap2:Nat) (a a2:Option Addr) (h:n=0\/m=0) (w:World) :
  Calls Tryz.prog 91 #[V p,.slice a n cap,.slice a2 m cap2] w fun e w'=>e=.returned (.slice none 0 0)/\Off (fun _=>False) w w':=by
 by_cases h0:n=0
 ·subst h0
  go_enter Tryz.func91,Tryz.ntmps91
  go_wp2
  go_ret
  exact⟨rfl,(Off.refl _ w).alloc _⟩
 obtain rfl:m=0:=by omega
 have hne:((n:Int)==0)=false:=by simp;omega
 go_enter Tryz.func91,Tryz.ntmps91
 go_wp2
 go_ret
 exact⟨rfl,(Off.refl _ w).alloc _⟩
set_option maxRecDepth 100000 in
set_option maxHeartbeats 4000000 in
theorem refmul_some {p:Nat} (hp:p<R256) (h1:1<p) (vs us:List Nat) (hvs:∀ v∈vs,v<p) (hus:∀ v∈us,v<p) (n cap m cap2:Nat) (a a2:Option Addr) (hn:n=vs.length) (hm:m=us.length) (h0:0<n) (h02:0<m) (hl1:n<=10000) (hl2:m<=10000) (w:World) (hL:LsAt w (.slice a n cap) vs (fun k=>k<w.heap.size/\¬False)) (hM:LsAt w (.slice a2 m cap2) us (fun k=>k<w.heap.size/\¬False)) :
  Calls Tryz.prog 91 #[V p,.slice a n cap,.slice a2 m cap2] w fun e w'=>∃ z,e=.returned z/\Ls w' z (mulL p vs us)/\Off (fun _=>False) w w':=by
 obtain⟨N,hN⟩:∃ N,N=n+m-1:=⟨_,rfl⟩
 obtain⟨n1,hn1⟩:∃ n1,n1=n+m:=⟨_,rfl⟩
 have hw1:IntKind.i64.wrap ((n:Int)+(m:Int))=(n1:Int):=by rw[IntKind.wrap_i64];omega
 have hw2:IntKind.i64.wrap ((n1:Int)-1)=(N:Int):=by rw[IntKind.wrap_i64];omega
 have hne1:((n:Int)==0)=false:=by simp;omega
 have hne2:((m:Int)==0)=false:=by simp;omega
 have hmk:=run_make_vec N (by omega)
 have hNl:N<=20000:=by omega
 have HNm:=hid hN
 have HA:=hid (fun a b ha hb W=>mod_add p a b hp ha hb W:∀ a b,a<p->b<p->∀ W,_)
 have HMl:=hid (fun a b ha hb W=>mod_mul p a b hp h1 ha (Nat.lt_trans hb hp) W:∀ a b,a<p->b<p->∀ W,_)
 have HN:=hid hn
 have HN2:=hid hm
 have HL:=hid hL
 have HM:=hid hM
 have HI:=hid (show ∀ W,W=(w.alloc (.cells #[.int .u64 (wd p 0),.int .u64 (wd p 1),.int .u64 (wd p 2),.int .u64 (wd p 3)] 63)).alloc (.cells (flat4 (List.replicate N 0)).toArray 63)->W.heap[w.heap.size]?=some (.cells #[.int .u64 (wd p 0),.int .u64 (wd p 1),.int .u64 (wd p 2),.int .u64 (wd p 3)] 63 (0,0))/\NumsAt W (w.heap.size+1) 63 (mulAll p vs us (List.range 0))/\Off (fun _=>False) w W from by
  rintro W rfl
  refine⟨heap_old' (heap_new' rfl _) _,?_,((Off.refl _ w).alloc _).alloc _⟩
  rw[show mulAll p vs us (List.range 0)=List.replicate (vs.length+us.length-1) 0 from rfl,<-hn,<-hm,<-hN]
  exact heap_new' (by simp) _)
 clear hn hm hN hL hM hn1
 go_enter Tryz.func91,Tryz.ntmps91
 go_wp2_with fail
 clear hmk hw1 hw2 hne1 hne2
 obtain⟨arr,harr⟩:∃ arr,arr=w.heap.size+1:=⟨_,rfl⟩
 obtain⟨bp,hbp⟩:∃ bp,bp=w.heap.size:=⟨_,rfl⟩
 rw[<-harr]at HI ⊢
 rw[<-hbp]at HI ⊢
 have HB:=hid (show bp=w.heap.size/\arr=w.heap.size+1 from⟨hbp,harr⟩)
 clear harr hbp
 go_loopw [8] (fun x wr=>∃ i:Nat,i<=n/\x=.int .i64 i/\wr.heap[bp]?=some (.cells #[.int .u64 (wd p 0),.int .u64 (wd p 1),.int .u64 (wd p 2),.int .u64 (wd p 3)] 63 (0,0))/\NumsAt wr arr 63 (mulAll p vs us (List.range i))/\Off (fun _=>False) w wr) (fun x _=>n-(intOf x).toNat)
 case atStart=>exact⟨0,Nat.zero_le _,rfl,HI.out _ rfl⟩
 case round =>
  obtain⟨i,hi,rfl,hP,hA,hO⟩:=hrel
  by_cases hlt:i<n
  ·obtain⟨v,b,off,hvk,rfl,c0,c1,c2,c3⟩:=HL.out.at hlt
   have hfv:vs.getD i 0=v:=by rw[List.getD_eq_getElem?_getD,hvk];rfl
   have hvp:v<p:=hvs v (List.mem_of_getElem? hvk)
   have hbw:=World.block_lt_of_cell? w _ c0
   have HC:=hid (show elAt w b (off+i*4) v from⟨c0,c1,c2,c3⟩)
   have HBw:=hid (show b<w.heap.size from hbw)
   obtain⟨L,hL⟩:∃ L,L=mulAll p vs us (List.range i):=⟨_,rfl⟩
   have hLn:L.length=N:=by rw[hL,mulAll_length,<-HN.out,<-HN2.out,HNm.out]
   have HSn:=hid (show mulAll p vs us (List.range (i+1))=mulRow p v us i L (List.range m) by rw[List.range_succ,mulAll_snoc,<-HN.out,<-HN2.out,Nat.mod_eq_of_lt hlt,hfv,hL])
   have HLl:=hid (show ∀ x∈L,x<p by rw[hL];exact mulAll_lt (by omega) _ _ _)
   rw[<-hL]at hA
   have hin:(i:Int)<(n:Int):=by omega
   have hwi:IntKind.i64.wrap ((i:Int)+1)=(i:Int)+1:=by rw[IntKind.wrap_i64];omega
   have HP:=hid hP
   have HAr:=hid hA
   have HO:=hid hO
   clear hP hA hO hvk hfv hL c0 c1 c2 c3 hbw
   go_wp2
   go_loopw [9] (fun x wr=>∃ k:Nat,k<=m/\x=.int .i64 k/\wr.heap[bp]?=some (.cells #[.int .u64 (wd p 0),.int .u64 (wd p 1),.int .u64 (wd p 2),.int .u64 (wd p 3)] 63 (0,0))/\NumsAt wr arr 63 (mulRow p v us i L (List.range k))/\Off (fun _=>False) w wr) (fun x _=>m-(intOf x).toNat)
   case atStart=>exact⟨0,Nat.zero_le _,rfl,HP.out,HAr.out,HO.out⟩
   case round =>
    obtain⟨k,hk,rfl,hP,hA,hO⟩:=hrel
    by_cases hlt2:k<m
    ·obtain⟨c,b2,off2,hck,rfl,d0,d1,d2,d3⟩:=HM.out.at hlt2
     have hfc:us.getD k 0=c:=by rw[List.getD_eq_getElem?_getD,hck];rfl
     have hcp:c<p:=hus c (List.mem_of_getElem? hck)
     have hb2w:b2<w.heap.size:=World.block_lt_of_cell? w _ d0
     obtain⟨L2,hL2⟩:∃ L2,L2=mulRow p v us i L (List.range k):=⟨_,rfl⟩
     have hL2n:L2.length=N:=by rw[hL2,mulRow_length,hLn]
     obtain⟨g,hg⟩:∃ g,g=i+k:=⟨_,rfl⟩
     have hgN:g<N:=by have:=HNm.out;omega
     obtain⟨o,ho⟩:∃ o,o=L2.getD g 0:=⟨_,rfl⟩
     have hLlt:∀ x∈L2,x<p:=by rw[hL2];exact mulRow_lt (by omega) _ _ _ _ HLl.out _
     have hop:o<p:=by rw[ho];exact getD_lt (by omega) hLlt g
     obtain⟨t,ht⟩:∃ t,t=v*c%p:=⟨_,rfl⟩
     have htp:t<p:=by rw[ht];exact Nat.mod_lt _ (by omega)
     obtain⟨z,hz⟩:∃ z,z=(o+t)%p:=⟨_,rfl⟩
     have hst:mulRow p v us i L (List.range (k+1))=L2.set g z:=by rw[List.range_succ,mulRow_snoc,<-HN2.out,Nat.mod_eq_of_lt hlt2,<-hL2,<-hg,<-ho,hfc,<-ht,<-hz]
     have hoj:L2[g]?=some o:=by rw[ho,List.getD_eq_getElem?_getD,List.getElem?_eq_getElem (by omega)];rfl
     obtain⟨L1,hL1⟩:∃ L1,L1=L2:=⟨_,rfl⟩
     rw[<-hL2,<-hL1]at hA
     rw[<-hL1]at hst hoj hL2n
     have HMu:=hid (show ∀ W,Calls Tryz.prog 53 #[V p,V v,V c] W fun e w'=>e=.returned (V t)/\Off (fun _=>False) W w' from fun W=>by rw[ht];exact HMl.out v c hvp hcp W)
     have HAd:=hid (show ∀ W,Calls Tryz.prog 32 #[V p,V o,V t] W fun e w'=>e=.returned (V z)/\Off (fun _=>False) W w' from fun W=>by rw[hz];exact HA.out o t hop htp W)
     have HOj:=hid hoj
     have HPt:=hid (show ∀ W:World,W.heap[arr]?=some (.cells (flat4 L1).toArray 63 (0,0))->(W.setCells arr (g*4) (words4 z)).heap[arr]?=some (.cells (flat4 (L1.set g z)).toArray 63 (0,0)) from fun W h=>NumsAt.store h (by omega) z)
     have HAr:=hid (show wr.heap[arr]?=some (.cells (flat4 L1).toArray 63 (0,0)) from hA)
     have HST:=hid hst
     have HK:Hid (∀ W',Off (fun k=>k=arr) wr W'->(W'.cell? ⟨bp,0,none⟩=some (.int .u64 (wd p 0))/\W'.cell? ⟨bp,1,none⟩=some (.int .u64 (wd p 1))/\W'.cell? ⟨bp,2,none⟩=some (.int .u64 (wd p 2))/\W'.cell? ⟨bp,3,none⟩=some (.int .u64 (wd p 3)))/\(W'.cell? ⟨b,off+i*4,none⟩=some (.int .u64 (wd v 0))/\W'.cell? ⟨b,off+i*4+1,none⟩=some (.int .u64 (wd v 1))/\W'.cell? ⟨b,off+i*4+2,none⟩=some (.int .u64 (wd v 2))/\W'.cell? ⟨b,off+i*4+3,none⟩=some (.int .u64 (wd v 3)))/\(W'.cell? ⟨b2,off2+k*4,none⟩=some (.int .u64 (wd c 0))/\W'.cell? ⟨b2,off2+k*4+1,none⟩=some (.int .u64 (wd c 1))/\W'.cell? ⟨b2,off2+k*4+2,none⟩=some (.int .u64 (wd c 2))/\W'.cell? ⟨b2,off2+k*4+3,none⟩=some (.int .u64 (wd c 3)))/\Off (fun k=>k=arr) wr W'):=hid (fun W' h=>by
      have hb:=HB.out
      have hbw:=HBw.out
      obtain⟨e0,e1,e2,e3⟩:=HC.out.off hO (fun c=>c)
      exact⟨cells4 (h.heap hP (by omega)),⟨h.cell e0 (by show ¬b=arr;omega),h.cell e1 (by show ¬b=arr;omega),h.cell e2 (by show ¬b=arr;omega),h.cell e3 (by show ¬b=arr;omega)⟩,⟨h.cell (hO.cell d0 (fun c=>c)) (by show ¬b2=arr;omega),h.cell (hO.cell d1 (fun c=>c)) (by show ¬b2=arr;omega),h.cell (hO.cell d2 (fun c=>c)) (by show ¬b2=arr;omega),h.cell (hO.cell d3 (fun c=>c)) (by show ¬b2=arr;omega)⟩,h⟩)
     have HP:=hid hP
     have HO:=hid hO
     have hkn:(k:Int)<(m:Int):=by omega
     have hgI:(g:Int)<(N:Int):=by omega
     have hwg:IntKind.i64.wrap ((i:Int)+(k:Int))=(g:Int):=by rw[IntKind.wrap_i64];omega
     have hwk:IntKind.i64.wrap ((k:Int)+1)=(k:Int)+1:=by rw[IntKind.wrap_i64];omega
     clear hP hA hO hck hfc hcp ho hop hz ht htp hL1 hst hoj d0 d1 d2 d3 hL2 hg hLlt hb2w
     go_upto_region 10 with fail
     refine wp_region_inv (fun a0 l a' w'=>∃ (u37:Value) (u38:Value) (u39:Value) (u40:Value) (u41:Value) (u42:Value) (u43:Value) (u44:Value) (u45:Value) (u46:Value) (u47:Value) (u48:Value) (u49:Value) (u50:Value) (u51:Value) (u52:Value) (u53:Value) (u54:Value) (u55:Value) (u56:Value) (u57:Value) (u58:Value) (u59:Value),a'=(Act.put (Act.put (Act.put (Act.put (Act.put (Act.put (Act.put (Act.put (Act.put (Act.put (Act.put (Act.put (Act.put (Act.put (Act.put (Act.put (Act.put (Act.put (Act.put (Act.put (Act.put (Act.put (Act.put a0 (some 37) u37) (some 38) u38) (some 39) u39) (some 40) u40) (some 41) u41) (some 42) u42) (some 43) u43) (some 44) u44) (some 45) u45) (some 46) u46) (some 47) u47) (some 48) u48) (some 49) u49) (some 50) u50) (some 51) u51) (some 52) u52) (some 53) u53) (some 54) u54) (some 55) u55) (some 56) u56) (some 57) u57) (some 58) u58) (some 59) u59)/\Slot l 0 u37 (.slice (some ⟨arr,0,none⟩) N N)/\Slot l 1 u38 (.int .i64 i)/\Slot l 2 u39 (.int .i64 k)/\Slot l 3 u40 (.int .i64 g)/\Slot l 4 u41 (V p)/\Slot l 5 u42 (.slice (some ⟨arr,0,none⟩) N N)/\Slot l 6 u43 (.int .i64 i)/\Slot l 7 u44 (.int .i64 k)/\Slot l 8 u45 (.int .i64 g)/\Slot l 9 u46 (.pointer (some ⟨arr,g*4,none⟩))/\Slot l 10 u47 (V o)/\Slot l 11 u48 (V p)/\Slot l 12 u49 (.slice (some ⟨b,off,none⟩) n cap)/\Slot l 13 u50 (.int .i64 i)/\Slot l 14 u51 (.pointer (some ⟨b,off+i*4,none⟩))/\Slot l 15 u52 (V v)/\Slot l 16 u53 (.slice (some ⟨b2,off2,none⟩) m cap2)/\Slot l 17 u54 (.int .i64 k)/\Slot l 18 u55 (.pointer (some ⟨b2,off2+k*4,none⟩))/\Slot l 19 u56 (V c)/\Slot l 20 u57 (V t)/\Slot l 21 u58 (V z)/\Slot l 22 u59 (.pointer (some ⟨arr,g*4,none⟩))/\Old l 23 arr wr w' (.cells (flat4 L1).toArray 63) (.cells (flat4 (L1.set g z)).toArray 63)/\Dep l 10 23/\Off (fun k=>k=arr) wr w') (by kernel_rfl) (by kernel_rfl) ?_ ⟨?_,?_,?_,?_,?_,?_,?_,?_,?_,?_,?_,?_,?_,?_,?_,?_,?_,?_,?_,?_,?_,?_,?_,?_,trivial⟩ ?_
     ·refine⟨?z37,?z38,?z39,?z40,?z41,?z42,?z43,?z44,?z45,?z46,?z47,?z48,?z49,?z50,?z51,?z52,?z53,?z54,?z55,?z56,?z57,?z58,?z59,?fr,Slot.start _ _ _,Slot.start _ _ _,Slot.start _ _ _,Slot.start _ _ _,Slot.start _ _ _,Slot.start _ _ _,Slot.start _ _ _,Slot.start _ _ _,Slot.start _ _ _,Slot.start _ _ _,Slot.start _ _ _,Slot.start _ _ _,Slot.start _ _ _,Slot.start _ _ _,Slot.start _ _ _,Slot.start _ _ _,Slot.start _ _ _,Slot.start _ _ _,Slot.start _ _ _,Slot.start _ _ _,Slot.start _ _ _,Slot.start _ _ _,Slot.start _ _ _,Old.start HAr.out _ _,Dep.start _ _,(Off.refl _ wr).drew⟩
      case fr=>first | (simp only[XP];rfl) | simp only[XP]
     all_goals try (intro l a wr hI hl hd K' hK;obtain⟨u37,u38,u39,u40,u41,u42,u43,u44,u45,u46,u47,u48,u49,u50,u51,u52,u53,u54,u55,u56,u57,u58,u59,ha,s0,s1,s2,s3,s4,s5,s6,s7,s8,s9,s10,s11,s12,s13,s14,s15,s16,s17,s18,s19,s20,s21,s22,O0,P10_23,hO⟩:=hI;simp only[XP]at ha)
     ·subst ha
      go_simp
      refine hK.out _ _ ⟨_,_,_,_,_,_,_,_,_,_,_,_,_,_,_,_,_,_,_,_,_,_,_,?_,Slot.new _ _ _,s1.keep rfl,s2.keep rfl,s3.keep rfl,s4.keep rfl,s5.keep rfl,s6.keep rfl,s7.keep rfl,s8.keep rfl,s9.keep rfl,s10.keep rfl,s11.keep rfl,s12.keep rfl,s13.keep rfl,s14.keep rfl,s15.keep rfl,s16.keep rfl,s17.keep rfl,s18.keep rfl,s19.keep rfl,s20.keep rfl,s21.keep rfl,s22.keep rfl,O0.keep (Off.refl _ wr) rfl,P10_23.keep rfl,hO⟩
      simp only[XP]
     ·subst ha
      go_simp
      refine hK.out _ _ ⟨_,_,_,_,_,_,_,_,_,_,_,_,_,_,_,_,_,_,_,_,_,_,_,?_,s0.keep rfl,Slot.new _ _ _,s2.keep rfl,s3.keep rfl,s4.keep rfl,s5.keep rfl,s6.keep rfl,s7.keep rfl,s8.keep rfl,s9.keep rfl,s10.keep rfl,s11.keep rfl,s12.keep rfl,s13.keep rfl,s14.keep rfl,s15.keep rfl,s16.keep rfl,s17.keep rfl,s18.keep rfl,s19.keep rfl,s20.keep rfl,s21.keep rfl,s22.keep rfl,O0.keep (Off.refl _ wr) rfl,P10_23.keep rfl,hO⟩
      simp only[XP]
     ·subst ha
      go_simp
      refine hK.out _ _ ⟨_,_,_,_,_,_,_,_,_,_,_,_,_,_,_,_,_,_,_,_,_,_,_,?_,s0.keep rfl,s1.keep rfl,Slot.new _ _ _,s3.keep rfl,s4.keep rfl,s5.keep rfl,s6.keep rfl,s7.keep rfl,s8.keep rfl,s9.keep rfl,s10.keep rfl,s11.keep rfl,s12.keep rfl,s13.keep rfl,s14.keep rfl,s15.keep rfl,s16.keep rfl,s17.keep rfl,s18.keep rfl,s19.keep rfl,s20.keep rfl,s21.keep rfl,s22.keep rfl,O0.keep (Off.refl _ wr) rfl,P10_23.keep rfl,hO⟩
      simp only[XP]
     ·have q1:=s1 (hd 1 (by decide))
      have q2:=s2 (hd 2 (by decide))
      subst ha q1 q2
      go_simp
      refine hK.out _ _ ⟨_,_,_,_,_,_,_,_,_,_,_,_,_,_,_,_,_,_,_,_,_,_,_,?_,s0.keep rfl,s1.keep rfl,s2.keep rfl,Slot.new _ _ _,s4.keep rfl,s5.keep rfl,s6.keep rfl,s7.keep rfl,s8.keep rfl,s9.keep rfl,s10.keep rfl,s11.keep rfl,s12.keep rfl,s13.keep rfl,s14.keep rfl,s15.keep rfl,s16.keep rfl,s17.keep rfl,s18.keep rfl,s19.keep rfl,s20.keep rfl,s21.keep rfl,s22.keep rfl,O0.keep (Off.refl _ wr) rfl,P10_23.keep rfl,hO⟩
      simp only[XP]
     ·subst ha
      have hc:=HK.out wr hO
      have p0:=hc.1.1
      have p1:=hc.1.2.1
      have p2:=hc.1.2.2.1
      have p3:=hc.1.2.2.2
      clear hc
      go_simp
      refine hK.out _ _ ⟨_,_,_,_,_,_,_,_,_,_,_,_,_,_,_,_,_,_,_,_,_,_,_,?_,s0.keep rfl,s1.keep rfl,s2.keep rfl,s3.keep rfl,Slot.new _ _ _,s5.keep rfl,s6.keep rfl,s7.keep rfl,s8.keep rfl,s9.keep rfl,s10.keep rfl,s11.keep rfl,s12.keep rfl,s13.keep rfl,s14.keep rfl,s15.keep rfl,s16.keep rfl,s17.keep rfl,s18.keep rfl,s19.keep rfl,s20.keep rfl,s21.keep rfl,s22.keep rfl,O0.keep (Off.refl _ wr) rfl,P10_23.keep rfl,hO⟩
      simp only[XP]
     ·subst ha
      go_simp
      refine hK.out _ _ ⟨_,_,_,_,_,_,_,_,_,_,_,_,_,_,_,_,_,_,_,_,_,_,_,?_,s0.keep rfl,s1.keep rfl,s2.keep rfl,s3.keep rfl,s4.keep rfl,Slot.new _ _ _,s6.keep rfl,s7.keep rfl,s8.keep rfl,s9.keep rfl,s10.keep rfl,s11.keep rfl,s12.keep rfl,s13.keep rfl,s14.keep rfl,s15.keep rfl,s16.keep rfl,s17.keep rfl,s18.keep rfl,s19.keep rfl,s20.keep rfl,s21.keep rfl,s22.keep rfl,O0.keep (Off.refl _ wr) rfl,P10_23.keep rfl,hO⟩
      simp only[XP]
     ·subst ha
      go_simp
      refine hK.out _ _ ⟨_,_,_,_,_,_,_,_,_,_,_,_,_,_,_,_,_,_,_,_,_,_,_,?_,s0.keep rfl,s1.keep rfl,s2.keep rfl,s3.keep rfl,s4.keep rfl,s5.keep rfl,Slot.new _ _ _,s7.keep rfl,s8.keep rfl,s9.keep rfl,s10.keep rfl,s11.keep rfl,s12.keep rfl,s13.keep rfl,s14.keep rfl,s15.keep rfl,s16.keep rfl,s17.keep rfl,s18.keep rfl,s19.keep rfl,s20.keep rfl,s21.keep rfl,s22.keep rfl,O0.keep (Off.refl _ wr) rfl,P10_23.keep rfl,hO⟩
      simp only[XP]
     ·subst ha
      go_simp
      refine hK.out _ _ ⟨_,_,_,_,_,_,_,_,_,_,_,_,_,_,_,_,_,_,_,_,_,_,_,?_,s0.keep rfl,s1.keep rfl,s2.keep rfl,s3.keep rfl,s4.keep rfl,s5.keep rfl,s6.keep rfl,Slot.new _ _ _,s8.keep rfl,s9.keep rfl,s10.keep rfl,s11.keep rfl,s12.keep rfl,s13.keep rfl,s14.keep rfl,s15.keep rfl,s16.keep rfl,s17.keep rfl,s18.keep rfl,s19.keep rfl,s20.keep rfl,s21.keep rfl,s22.keep rfl,O0.keep (Off.refl _ wr) rfl,P10_23.keep rfl,hO⟩
      simp only[XP]
     ·have q6:=s6 (hd 6 (by decide))
      have q7:=s7 (hd 7 (by decide))
      subst ha q6 q7
      go_simp
      refine hK.out _ _ ⟨_,_,_,_,_,_,_,_,_,_,_,_,_,_,_,_,_,_,_,_,_,_,_,?_,s0.keep rfl,s1.keep rfl,s2.keep rfl,s3.keep rfl,s4.keep rfl,s5.keep rfl,s6.keep rfl,s7.keep rfl,Slot.new _ _ _,s9.keep rfl,s10.keep rfl,s11.keep rfl,s12.keep rfl,s13.keep rfl,s14.keep rfl,s15.keep rfl,s16.keep rfl,s17.keep rfl,s18.keep rfl,s19.keep rfl,s20.keep rfl,s21.keep rfl,s22.keep rfl,O0.keep (Off.refl _ wr) rfl,P10_23.keep rfl,hO⟩
      simp only[XP]
     ·have q5:=s5 (hd 5 (by decide))
      have q8:=s8 (hd 8 (by decide))
      subst ha q5 q8
      go_simp
      refine hK.out _ _ ⟨_,_,_,_,_,_,_,_,_,_,_,_,_,_,_,_,_,_,_,_,_,_,_,?_,s0.keep rfl,s1.keep rfl,s2.keep rfl,s3.keep rfl,s4.keep rfl,s5.keep rfl,s6.keep rfl,s7.keep rfl,s8.keep rfl,Slot.new _ _ _,s10.keep rfl,s11.keep rfl,s12.keep rfl,s13.keep rfl,s14.keep rfl,s15.keep rfl,s16.keep rfl,s17.keep rfl,s18.keep rfl,s19.keep rfl,s20.keep rfl,s21.keep rfl,s22.keep rfl,O0.keep (Off.refl _ wr) rfl,P10_23.keep rfl,hO⟩
      simp only[XP]
     ·have q9:=s9 (hd 9 (by decide))
      subst ha q9
      have hZ:=O0.was (P10_23 hl)
      obtain⟨p0,p1,p2,p3⟩:=NumsAt.cell hZ HOj.out
      clear hZ
      go_simp
      refine hK.out _ _ ⟨_,_,_,_,_,_,_,_,_,_,_,_,_,_,_,_,_,_,_,_,_,_,_,?_,s0.keep rfl,s1.keep rfl,s2.keep rfl,s3.keep rfl,s4.keep rfl,s5.keep rfl,s6.keep rfl,s7.keep rfl,s8.keep rfl,s9.keep rfl,Slot.new _ _ _,s11.keep rfl,s12.keep rfl,s13.keep rfl,s14.keep rfl,s15.keep rfl,s16.keep rfl,s17.keep rfl,s18.keep rfl,s19.keep rfl,s20.keep rfl,s21.keep rfl,s22.keep rfl,O0.keep (Off.refl _ wr) rfl,P10_23.keep rfl,hO⟩
      simp only[XP]
     ·subst ha
      have hc:=HK.out wr hO
      have p0:=hc.1.1
      have p1:=hc.1.2.1
      have p2:=hc.1.2.2.1
      have p3:=hc.1.2.2.2
      clear hc
      go_simp
      refine hK.out _ _ ⟨_,_,_,_,_,_,_,_,_,_,_,_,_,_,_,_,_,_,_,_,_,_,_,?_,s0.keep rfl,s1.keep rfl,s2.keep rfl,s3.keep rfl,s4.keep rfl,s5.keep rfl,s6.keep rfl,s7.keep rfl,s8.keep rfl,s9.keep rfl,s10.keep rfl,Slot.new _ _ _,s12.keep rfl,s13.keep rfl,s14.keep rfl,s15.keep rfl,s16.keep rfl,s17.keep rfl,s18.keep rfl,s19.keep rfl,s20.keep rfl,s21.keep rfl,s22.keep rfl,O0.keep (Off.refl _ wr) rfl,P10_23.keep rfl,hO⟩
      simp only[XP]
     ·subst ha
      go_simp
      refine hK.out _ _ ⟨_,_,_,_,_,_,_,_,_,_,_,_,_,_,_,_,_,_,_,_,_,_,_,?_,s0.keep rfl,s1.keep rfl,s2.keep rfl,s3.keep rfl,s4.keep rfl,s5.keep rfl,s6.keep rfl,s7.keep rfl,s8.keep rfl,s9.keep rfl,s10.keep rfl,s11.keep rfl,Slot.new _ _ _,s13.keep rfl,s14.keep rfl,s15.keep rfl,s16.keep rfl,s17.keep rfl,s18.keep rfl,s19.keep rfl,s20.keep rfl,s21.keep rfl,s22.keep rfl,O0.keep (Off.refl _ wr) rfl,P10_23.keep rfl,hO⟩
      simp only[XP]
     ·subst ha
      go_simp
      refine hK.out _ _ ⟨_,_,_,_,_,_,_,_,_,_,_,_,_,_,_,_,_,_,_,_,_,_,_,?_,s0.keep rfl,s1.keep rfl,s2.keep rfl,s3.keep rfl,s4.keep rfl,s5.keep rfl,s6.keep rfl,s7.keep rfl,s8.keep rfl,s9.keep rfl,s10.keep rfl,s11.keep rfl,s12.keep rfl,Slot.new _ _ _,s14.keep rfl,s15.keep rfl,s16.keep rfl,s17.keep rfl,s18.keep rfl,s19.keep rfl,s20.keep rfl,s21.keep rfl,s22.keep rfl,O0.keep (Off.refl _ wr) rfl,P10_23.keep rfl,hO⟩
      simp only[XP]
     ·have q12:=s12 (hd 12 (by decide))
      have q13:=s13 (hd 13 (by decide))
      subst ha q12 q13
      go_simp
      refine hK.out _ _ ⟨_,_,_,_,_,_,_,_,_,_,_,_,_,_,_,_,_,_,_,_,_,_,_,?_,s0.keep rfl,s1.keep rfl,s2.keep rfl,s3.keep rfl,s4.keep rfl,s5.keep rfl,s6.keep rfl,s7.keep rfl,s8.keep rfl,s9.keep rfl,s10.keep rfl,s11.keep rfl,s12.keep rfl,s13.keep rfl,Slot.new _ _ _,s15.keep rfl,s16.keep rfl,s17.keep rfl,s18.keep rfl,s19.keep rfl,s20.keep rfl,s21.keep rfl,s22.keep rfl,O0.keep (Off.refl _ wr) rfl,P10_23.keep rfl,hO⟩
      simp only[XP]
     ·have q14:=s14 (hd 14 (by decide))
      subst ha q14
      have hc:=HK.out wr hO
      have p0:=hc.2.1.1
      have p1:=hc.2.1.2.1
      have p2:=hc.2.1.2.2.1
      have p3:=hc.2.1.2.2.2
      clear hc
      go_simp
      refine hK.out _ _ ⟨_,_,_,_,_,_,_,_,_,_,_,_,_,_,_,_,_,_,_,_,_,_,_,?_,s0.keep rfl,s1.keep rfl,s2.keep rfl,s3.keep rfl,s4.keep rfl,s5.keep rfl,s6.keep rfl,s7.keep rfl,s8.keep rfl,s9.keep rfl,s10.keep rfl,s11.keep rfl,s12.keep rfl,s13.keep rfl,s14.keep rfl,Slot.new _ _ _,s16.keep rfl,s17.keep rfl,s18.keep rfl,s19.keep rfl,s20.keep rfl,s21.keep rfl,s22.keep rfl,O0.keep (Off.refl _ wr) rfl,P10_23.keep rfl,hO⟩
      simp only[XP]
     ·subst ha
      go_simp
      refine hK.out _ _ ⟨_,_,_,_,_,_,_,_,_,_,_,_,_,_,_,_,_,_,_,_,_,_,_,?_,s0.keep rfl,s1.keep rfl,s2.keep rfl,s3.keep rfl,s4.keep rfl,s5.keep rfl,s6.keep rfl,s7.keep rfl,s8.keep rfl,s9.keep rfl,s10.keep rfl,s11.keep rfl,s12.keep rfl,s13.keep rfl,s14.keep rfl,s15.keep rfl,Slot.new _ _ _,s17.keep rfl,s18.keep rfl,s19.keep rfl,s20.keep rfl,s21.keep rfl,s22.keep rfl,O0.keep (Off.refl _ wr) rfl,P10_23.keep rfl,hO⟩
      simp only[XP]
     ·subst ha
      go_simp
      refine hK.out _ _ ⟨_,_,_,_,_,_,_,_,_,_,_,_,_,_,_,_,_,_,_,_,_,_,_,?_,s0.keep rfl,s1.keep rfl,s2.keep rfl,s3.keep rfl,s4.keep rfl,s5.keep rfl,s6.keep rfl,s7.keep rfl,s8.keep rfl,s9.keep rfl,s10.keep rfl,s11.keep rfl,s12.keep rfl,s13.keep rfl,s14.keep rfl,s15.keep rfl,s16.keep rfl,Slot.new _ _ _,s18.keep rfl,s19.keep rfl,s20.keep rfl,s21.keep rfl,s22.keep rfl,O0.keep (Off.refl _ wr) rfl,P10_23.keep rfl,hO⟩
      simp only[XP]
     ·have q16:=s16 (hd 16 (by decide))
      have q17:=s17 (hd 17 (by decide))
      subst ha q16 q17
      go_simp
      refine hK.out _ _ ⟨_,_,_,_,_,_,_,_,_,_,_,_,_,_,_,_,_,_,_,_,_,_,_,?_,s0.keep rfl,s1.keep rfl,s2.keep rfl,s3.keep rfl,s4.keep rfl,s5.keep rfl,s6.keep rfl,s7.keep rfl,s8.keep rfl,s9.keep rfl,s10.keep rfl,s11.keep rfl,s12.keep rfl,s13.keep rfl,s14.keep rfl,s15.keep rfl,s16.keep rfl,s17.keep rfl,Slot.new _ _ _,s19.keep rfl,s20.keep rfl,s21.keep rfl,s22.keep rfl,O0.keep (Off.refl _ wr) rfl,P10_23.keep rfl,hO⟩
      simp only[XP]
     ·have q18:=s18 (hd 18 (by decide))
      subst ha q18
      have hc:=HK.out wr hO
      have p0:=hc.2.2.1.1
      have p1:=hc.2.2.1.2.1
      have p2:=hc.2.2.1.2.2.1
      have p3:=hc.2.2.1.2.2.2
      clear hc
      go_simp
      refine hK.out _ _ ⟨_,_,_,_,_,_,_,_,_,_,_,_,_,_,_,_,_,_,_,_,_,_,_,?_,s0.keep rfl,s1.keep rfl,s2.keep rfl,s3.keep rfl,s4.keep rfl,s5.keep rfl,s6.keep rfl,s7.keep rfl,s8.keep rfl,s9.keep rfl,s10.keep rfl,s11.keep rfl,s12.keep rfl,s13.keep rfl,s14.keep rfl,s15.keep rfl,s16.keep rfl,s17.keep rfl,s18.keep rfl,Slot.new _ _ _,s20.keep rfl,s21.keep rfl,s22.keep rfl,O0.keep (Off.refl _ wr) rfl,P10_23.keep rfl,hO⟩
      simp only[XP]
     ·have q11:=s11 (hd 11 (by decide))
      have q15:=s15 (hd 15 (by decide))
      have q19:=s19 (hd 19 (by decide))
      subst ha q11 q15 q19
      go_simp
      refine(held_inv (HMu.out wr) hO).mono ?_
      rintro e w1 ⟨rfl,hO1,hOW⟩
      go_wp2_with fail
      refine hK.out _ _ ⟨_,_,_,_,_,_,_,_,_,_,_,_,_,_,_,_,_,_,_,_,_,_,_,?_,s0.keep rfl,s1.keep rfl,s2.keep rfl,s3.keep rfl,s4.keep rfl,s5.keep rfl,s6.keep rfl,s7.keep rfl,s8.keep rfl,s9.keep rfl,s10.keep rfl,s11.keep rfl,s12.keep rfl,s13.keep rfl,s14.keep rfl,s15.keep rfl,s16.keep rfl,s17.keep rfl,s18.keep rfl,s19.keep rfl,Slot.new _ _ _,s21.keep rfl,s22.keep rfl,O0.keep hOW rfl,P10_23.keep rfl,hO1⟩
      simp only[XP]
     ·have q4:=s4 (hd 4 (by decide))
      have q10:=s10 (hd 10 (by decide))
      have q20:=s20 (hd 20 (by decide))
      subst ha q4 q10 q20
      go_simp
      refine(held_inv (HAd.out wr) hO).mono ?_
      rintro e w1 ⟨rfl,hO1,hOW⟩
      go_wp2_with fail
      refine hK.out _ _ ⟨_,_,_,_,_,_,_,_,_,_,_,_,_,_,_,_,_,_,_,_,_,_,_,?_,s0.keep rfl,s1.keep rfl,s2.keep rfl,s3.keep rfl,s4.keep rfl,s5.keep rfl,s6.keep rfl,s7.keep rfl,s8.keep rfl,s9.keep rfl,s10.keep rfl,s11.keep rfl,s12.keep rfl,s13.keep rfl,s14.keep rfl,s15.keep rfl,s16.keep rfl,s17.keep rfl,s18.keep rfl,s19.keep rfl,s20.keep rfl,Slot.new _ _ _,s22.keep rfl,O0.keep hOW rfl,P10_23.keep rfl,hO1⟩
      simp only[XP]
     ·have q0:=s0 (hd 0 (by decide))
      have q3:=s3 (hd 3 (by decide))
      subst ha q0 q3
      go_simp
      refine hK.out _ _ ⟨_,_,_,_,_,_,_,_,_,_,_,_,_,_,_,_,_,_,_,_,_,_,_,?_,s0.keep rfl,s1.keep rfl,s2.keep rfl,s3.keep rfl,s4.keep rfl,s5.keep rfl,s6.keep rfl,s7.keep rfl,s8.keep rfl,s9.keep rfl,s10.keep rfl,s11.keep rfl,s12.keep rfl,s13.keep rfl,s14.keep rfl,s15.keep rfl,s16.keep rfl,s17.keep rfl,s18.keep rfl,s19.keep rfl,s20.keep rfl,s21.keep rfl,Slot.new _ _ _,O0.keep (Off.refl _ wr) rfl,P10_23.keep rfl,hO⟩
      simp only[XP]
     ·have q22:=s22 (hd 22 (by decide))
      have q21:=s21 (hd 21 (by decide))
      subst ha q22 q21
      have hZ:=(O0.was hl)
      obtain⟨m0,m1,m2,m3⟩:=NumsAt.cell hZ HOj.out
      have fz:=fun j=>NumsAt.frozen hZ j
      have lt:=heap_lt hZ
      clear hZ
      go_simp
      refine hK.out _ _ ⟨_,_,_,_,_,_,_,_,_,_,_,_,_,_,_,_,_,_,_,_,_,_,_,?_,s0.keep rfl,s1.keep rfl,s2.keep rfl,s3.keep rfl,s4.keep rfl,s5.keep rfl,s6.keep rfl,s7.keep rfl,s8.keep rfl,s9.keep rfl,s10.keep rfl,s11.keep rfl,s12.keep rfl,s13.keep rfl,s14.keep rfl,s15.keep rfl,s16.keep rfl,s17.keep rfl,s18.keep rfl,s19.keep rfl,s20.keep rfl,s21.keep rfl,s22.keep rfl,O0.putAt (HPt.out wr) hl,Dep.at (hd 10 (by decide)),setCells_in_at hO (fun _=>rfl) (words4 z)⟩
      simp only[XP]
     intro l a wc hI hd
     obtain⟨u37,u38,u39,u40,u41,u42,u43,u44,u45,u46,u47,u48,u49,u50,u51,u52,u53,u54,u55,u56,u57,u58,u59,ha,s0,s1,s2,s3,s4,s5,s6,s7,s8,s9,s10,s11,s12,s13,s14,s15,s16,s17,s18,s19,s20,s21,s22,O0,P10_23,hO⟩:=hI
     simp only[XP]at ha
     have q0:=s0 (hd 0 (by decide))
     have q1:=s1 (hd 1 (by decide))
     have q2:=s2 (hd 2 (by decide))
     have q3:=s3 (hd 3 (by decide))
     have q4:=s4 (hd 4 (by decide))
     have q5:=s5 (hd 5 (by decide))
     have q6:=s6 (hd 6 (by decide))
     have q7:=s7 (hd 7 (by decide))
     have q8:=s8 (hd 8 (by decide))
     have q9:=s9 (hd 9 (by decide))
     have q10:=s10 (hd 10 (by decide))
     have q11:=s11 (hd 11 (by decide))
     have q12:=s12 (hd 12 (by decide))
     have q13:=s13 (hd 13 (by decide))
     have q14:=s14 (hd 14 (by decide))
     have q15:=s15 (hd 15 (by decide))
     have q16:=s16 (hd 16 (by decide))
     have q17:=s17 (hd 17 (by decide))
     have q18:=s18 (hd 18 (by decide))
     have q19:=s19 (hd 19 (by decide))
     have q20:=s20 (hd 20 (by decide))
     have q21:=s21 (hd 21 (by decide))
     have q22:=s22 (hd 22 (by decide))
     have r0:wc.heap[arr]?=some (.cells (flat4 (L1.set g z)).toArray 63):=O0.now (hd 23 (by decide))
     subst ha q0 q1 q2 q3 q4 q5 q6 q7 q8 q9 q10 q11 q12 q13 q14 q15 q16 q17 q18 q19 q20 q21 q22
     clear hd s0 s1 s2 s3 s4 s5 s6 s7 s8 s9 s10 s11 s12 s13 s14 s15 s16 s17 s18 s19 s20 s21 s22 O0 P10_23
     have hb:=HB.out
     have HP2:=hid (hO.heap HP.out (by omega))
     have HO2:=hid (HO.out.trans hO (fun j hj e=>by omega))
     rw[<-HST.out]at r0
     have R0:=hid r0
     clear hO r0 hb
     go_wp2
     go_roundw
     case rel=>exact⟨k+1,by omega,by simp,HP2.out,R0.out,HO2.out⟩
     case measure=>simp[intOf] <;> omega
    obtain rfl:k=m:=by omega
    rw[<-HSn.out]at hA
    have HP:=hid hP
    have HAr:=hid hA
    have HO:=hid hO
    clear hP hA hO
    go_wp2
    go_roundw
    case rel=>exact⟨i+1,by omega,by simp,HP.out,HAr.out,HO.out⟩
    case measure=>simp[intOf] <;> omega
  obtain rfl:i=n:=by omega
  have hz:mulAll p vs us (List.range i)=mulL p vs us:=by unfold mulL;rw[if_neg (by have:=HN.out;have:=HN2.out;omega),HN.out]
  have hsl:(mulL p vs us).length=N:=by rw[<-hz,mulAll_length,<-HN.out,<-HN2.out,HNm.out]
  rw[hz]at hA
  have hLs:=Ls.of_all (cap:=N) hA (by omega)
  rw[hsl]at hLs
  have HLs:=hid hLs
  have HO:=hid hO
  clear hP hA hO hz hLs
  go_wp2
  go_ret
  exact⟨_,rfl,HLs.out,HO.out⟩
theorem refmul_any {p:Nat} (hp:p<R256) (h1:1<p) (vs us:List Nat) (hvs:∀ v∈vs,v<p) (hus:∀ v∈us,v<p) (hl1:vs.length<=10000) (hl2:us.length<=10000) (v u:Value) (w:World) (hV:Ls w v vs) (hU:Ls w u us) :
  Calls Tryz.prog 91 #[V p,v,u] w fun e w'=>∃ z,e=.returned z/\Ls w' z (mulL p vs us)/\Off (fun _=>False) w w':=by
 obtain⟨a,cap,rfl,hL⟩:=hV.open
 obtain⟨a2,cap2,rfl,hM⟩:=hU.open
 by_cases h:vs.length=0\/us.length=0
 ·refine(refmul_nil p _ cap _ cap2 a a2 h w).mono ?_
  rintro e w' ⟨rfl,hO⟩
  exact⟨_,rfl,by unfold mulL;rw[if_pos h];exact Ls.nil w',hO⟩
 exact refmul_some hp h1 vs us hvs hus _ cap _ cap2 a a2 rfl rfl (by omega) (by omega) hl1 hl2 w hL hM
end
section
open Go.RowKit
attribute [local go_sem ↓] Go.wp_at_zero Go.wp_at_succ
theorem point_any (m:Nat) (hm:m<256) (w:World) :
  Calls Tryz.prog 72 #[.int .i64 m] w fun e w'=>e=.returned (V m)/\Off (fun _=>False) w w':=by
 have hwm:IntKind.u64.wrap (m:Int)=(m:Int):=by rw[IntKind.wrap_u64];omega
 have hs:=lit_small m (by omega)
 go_enter Tryz.func72,Tryz.ntmps72
 go_wp2
 rw[hs]
 refine bodyPost_ret (v:=.agg #[.int .u64 m,.int .u64 0,.int .u64 0,.int .u64 0]) (by simp[results,Tryz.results72,go_sem]) rfl ⟨rfl,?_⟩
 exact(Off.refl _ w).alloc _
theorem ints_at {xs:List Int} {a2:Option Addr} {n cap2:Nat} {W:World} {S:Nat->Prop} (hL:IvAt W (.slice a2 n cap2) xs S) (hr:∀ x∈xs,1<=x/\x<=255) {k:Nat} (hk:k<n) :
  ∃ b off m,a2=some ⟨b,off,none⟩/\W.cell? ⟨b,off+k,none⟩=some (.int .i64 ((m:Nat):Int))/\m<256/\(ptV xs).getD k 0=m:=by
 obtain⟨x,b,off,hx,ha,hc,_,_⟩:=hL.at hk
 have h:=hr x (List.mem_of_getElem? hx)
 refine⟨b,off,x.toNat,ha,?_,by omega,ptV_at hx⟩
 rw[show((x.toNat:Nat):Int)=x by omega];exact hc
theorem own_new {w:World} {base size n:Nat} {T:TypeId} {v:Value} {xs:List Value} (h:w.ownsRow base T size v n xs) {b:Nat} (hb:w.heap.size<=b):v.ownBlock=none\/v.ownBlock≠some b:=by
 rcases h.2 with ⟨rfl,_⟩ | ⟨g,cap,cur,rfl,_,hg,_⟩
 ·exact .inl rfl
 exact .inr (fun e=>by have:g=b:=(by simpa[Value.ownBlock]using e);have:=heap_lt hg;omega)
theorem off_grown {w w':World} {b:Nat} (h:Off (fun k=>k=b) w w'):w.grownBy w' (some b):=⟨h.os,h.tape,h.output,h.size,fun k hk hne=>h.block k hk (fun e=>hne (by rw[e]))⟩
theorem own_put {w w':World} {base size n b:Nat} {T:TypeId} {v:Value} {xs:List Value} (h:w.ownsRow base T size v n xs) (ho:Off (fun k=>k=b) w w') (hne:v.ownBlock=none\/v.ownBlock≠some b):w'.ownsRow base T size v n xs:=h.kept (off_grown ho) hne
set_option maxRecDepth 100000 in
set_option maxHeartbeats 4000000 in
theorem refwts_any {p:Nat} (hp:p<R256) (hbig:256<=p) (xs:List Int) (hr:∀ x∈xs,1<=x/\x<=255) (hl:xs.length<=10000) (v:Value) (w:World) (hV:Iv w v xs) :
  Calls Tryz.prog 90 #[V p,v] w fun e w'=>∃ a c B,e=.returned (.slice a xs.length c)/\w.heap.size<=B/\w'.ownsRow B 63 4 (.slice a xs.length c) xs.length (flat4 (wgtL p (ptV xs)))/\Off (fun _=>False) w w':=by
 have hmx:Tryz.prog.follows .mixedOrders=true:=by kernel_rfl
 have h1:1<p:=by omega
 obtain⟨a2,cap2,rfl,hL⟩:=hV.open
 obtain⟨ps,hps⟩:∃ ps,ps=ptV xs:=⟨_,rfl⟩
 have hpp:∀ x∈ps,x<p:=by rw[hps];exact ptV_lt hbig hr
 obtain⟨n,hn⟩:∃ n,n=xs.length:=⟨_,rfl⟩
 have hpn:ps.length=n:=by rw[hps,ptV_length,hn]
 have HAt:=hid (fun W h k hk=>by have g:=ints_at (IvAt.off hL h (fun _ _ _ c=>c)) hr hk;rw[<-hps]at g;exact g:∀ W,Off (fun _=>False) w W->∀ k,k<xs.length->∃ b off m,a2=some ⟨b,off,none⟩/\W.cell? ⟨b,off+k,none⟩=some (.int .i64 ((m:Nat):Int))/\m<256/\ps.getD k 0=m)
 rw[<-hn]at HAt hl ⊢
 rw[<-hps]
 obtain⟨Ys,hYs⟩:∃ Y,Y=wgtL p ps:=⟨_,rfl⟩
 have hYn:Ys.length=n:=by rw[hYs,wgtL_length,hpn]
 rw[<-hYs]
 have HSu:=hid (fun a b ha hb W=>mod_diff p a b hp ha hb W:∀ a b,a<p->b<p->∀ W,_)
 have HMl:=hid (fun a b ha hb W=>mod_mul p a b hp h1 ha (Nat.lt_trans hb hp) W:∀ a b,a<p->b<p->∀ W,_)
 have HIn:=hid (fun a ha W=>mod_inverse p a hp h1 ha W:∀ a,a<p->∀ W,_)
 have HOne:=hid (fun W=>mod_one W)
 obtain⟨j0,hj0',hj0,hj1,hj2⟩:=info_parts vec_info
 have HYs:=hid hYs
 have HYn:=hid hYn
 have HPn:=hid hpn
 have HPp:=hid hpp
 clear hV hL hr hn hps hYs hYn hpn hpp
 go_enter Tryz.func90,Tryz.ntmps90
 go_wp2_with fail
 obtain⟨W0,hW0⟩:∃ W0,W0=w.alloc (.cells #[.int .u64 (wd p 0),.int .u64 (wd p 1),.int .u64 (wd p 2),.int .u64 (wd p 3)] 63):=⟨_,rfl⟩
 obtain⟨pb,hpb⟩:∃ pb,pb=w.heap.size:=⟨_,rfl⟩
 rw[<-hW0,<-hpb]
 have hO0:Off (fun _=>False) w W0:=by rw[hW0];exact(Off.refl _ w).alloc _
 have hP0:W0.heap[pb]?=some (.cells #[.int .u64 (wd p 0),.int .u64 (wd p 1),.int .u64 (wd p 2),.int .u64 (wd p 3)] 63 (0,0)):=by rw[hW0,hpb];exact heap_new' rfl _
 have HO0:=hid hO0
 have HP0:=hid hP0
 have hw0:w.heap.size<=W0.heap.size:=hO0.size
 clear hW0 hpb hO0 hP0
 go_loopw [5,6] (fun v i wr=>∃ k:Nat,k<=n/\i=.int .i64 k/\(∃ a c,v=.slice a k c/\wr.ownsRow W0.heap.size 63 4 v k (flat4 (Ys.take k)))/\Off (fun _=>False) W0 wr) (fun _ i _=>n-(intOf i).toNat)
 case atStart=>exact⟨0,Nat.zero_le _,rfl,⟨none,0,rfl,World.ownsRow_nil _ _ _ _⟩,Off.refl _ _⟩
 case round =>
  obtain⟨k,hk,rfl,⟨va,vc,rfl,hown⟩,hO⟩:=hrel
  by_cases hlt:k<n
  ·have hkn:(k:Int)<(n:Int):=by omega
   have H1:=hid hown
   have H3:=hid hO
   clear hown hO
   go_wp2_with fail
   refine(HOne.out _).mono ?_
   rintro e u0 ⟨rfl,hOu⟩
   have H1u:=hid (own_off H1.out hOu)
   have H3u:=hid (H3.out.trans hOu (fun _ _ c=>c))
   clear hOu H1 H3
   go_wp2_with fail
   obtain⟨W1,hW1⟩:∃ W1,W1=u0.alloc (.cells #[.int .u64 (wd 1 0),.int .u64 (wd 1 1),.int .u64 (wd 1 2),.int .u64 (wd 1 3)] 63):=⟨_,rfl⟩
   obtain⟨db,hdb⟩:∃ db,db=u0.heap.size:=⟨_,rfl⟩
   rw[<-hW1,<-hdb]
   have ho1:Off (fun _=>False) u0 W1:=by rw[hW1];exact(Off.refl _ u0).alloc _
   have hD1:W1.heap[db]?=some (.cells #[.int .u64 (wd 1 0),.int .u64 (wd 1 1),.int .u64 (wd 1 2),.int .u64 (wd 1 3)] 63 (0,0)):=by rw[hW1,hdb];exact heap_new' rfl _
   have hne:=own_new H1u.out (show u0.heap.size<=db by omega)
   have hw0db:W0.heap.size<=db:=by rw[hdb];exact H3u.out.size
   have HD1:=hid hD1
   have HR1:=hid (own_off H1u.out ho1)
   have HO1:=hid (H3u.out.trans ho1 (fun _ _ c=>c))
   clear hD1 ho1 hW1 hdb H1u H3u
   go_loopw [8] (fun jx wr=>∃ j:Nat,j<=n/\jx=.int .i64 j/\wr.heap[db]?=some (.cells #[.int .u64 (wd (dfF p ps k 1 (oth j k)) 0:Int),.int .u64 (wd (dfF p ps k 1 (oth j k)) 1:Int),.int .u64 (wd (dfF p ps k 1 (oth j k)) 2:Int),.int .u64 (wd (dfF p ps k 1 (oth j k)) 3:Int)] 63 (0,0))/\wr.ownsRow W0.heap.size 63 4 (.slice va k vc) k (flat4 (Ys.take k))/\Off (fun _=>False) W0 wr) (fun jx _=>n-(intOf jx).toNat)
   case atStart=>exact⟨0,Nat.zero_le _,rfl,HD1.out,HR1.out,HO1.out⟩
   case round =>
    obtain⟨j,hj,rfl,hD,hR,hO⟩:=hrel
    by_cases hlt2:j<n
    ·have hjn:(j:Int)<(n:Int):=by omega
     by_cases hjk:j=k
     ·have HD:=hid (show wr.heap[db]?=some (.cells #[.int .u64 (wd (dfF p ps k 1 (oth (j+1) k)) 0:Int),.int .u64 (wd (dfF p ps k 1 (oth (j+1) k)) 1:Int),.int .u64 (wd (dfF p ps k 1 (oth (j+1) k)) 2:Int),.int .u64 (wd (dfF p ps k 1 (oth (j+1) k)) 3:Int)] 63 (0,0)) by rw[oth_next,if_pos hjk];exact hD)
      have HR:=hid hR
      have HO:=hid hO
      clear hD hR hO
      subst hjk
      go_wp2
      go_roundw
      case rel=>exact⟨j+1,by omega,by simp,HD.out,HR.out,HO.out⟩
      case measure=>simp[intOf] <;> omega
     have hne1:((j:Int) != (k:Int))=true:=by simp;omega
     obtain⟨A0,rfl⟩:∃ A0,A0=wr:=⟨_,rfl⟩
     have hOw:=HO0.out.trans hO (fun _ _ c=>c)
     obtain⟨b,off,m,hab,ck,hm,hpk⟩:=HAt.out A0 hOw k hlt
     obtain⟨b',off',t,hab',cj,ht,hpj⟩:=HAt.out A0 hOw j hlt2
     obtain⟨b3,off3,m3,hab3,ck3,_,_⟩:=HAt.out w (Off.refl _ w) k hlt
     subst hab
     cases hab'
     cases hab3
     have hbw:b<w.heap.size:=World.block_lt_of_cell? w _ ck3
     obtain⟨d,hd⟩:∃ d,d=dfF p ps k 1 (oth j k):=⟨_,rfl⟩
     have hdp:d<p:=by rw[hd];exact dfF_lt (by omega) ps k h1 _
     obtain⟨s,hs⟩:∃ s,s=(m+(p-t))%p:=⟨_,rfl⟩
     have hsp:s<p:=by rw[hs];exact Nat.mod_lt _ (by omega)
     obtain⟨z,hz⟩:∃ z,z=d*s%p:=⟨_,rfl⟩
     have hzn:dfF p ps k 1 (oth (j+1) k)=z:=by rw[oth_next,if_neg hjk,dfF_snoc,<-hd,hpk,hpj,hz,hs]
     have HPm:=hid (fun W=>point_any m hm W)
     have HPt2:=hid (fun W=>point_any t ht W)
     have HSb:=hid (show ∀ W,Calls Tryz.prog 92 #[V p,V m,V t] W fun e w'=>e=.returned (V s)/\Off (fun _=>False) W w' from fun W=>by rw[hs];exact HSu.out m t (by omega) (by omega) W)
     have HMu:=hid (show ∀ W,Calls Tryz.prog 53 #[V p,V d,V s] W fun e w'=>e=.returned (V z)/\Off (fun _=>False) W w' from fun W=>by rw[hz];exact HMl.out d s hdp hsp W)
     rw[<-hd]at hD
     have hpbl:=heap_lt HP0.out
     have HDb:=hid hD
     have HK:Hid (∀ B,Off (fun k=>k=db) A0 B->(B.cell? ⟨pb,0,none⟩=some (.int .u64 (wd p 0))/\B.cell? ⟨pb,1,none⟩=some (.int .u64 (wd p 1))/\B.cell? ⟨pb,2,none⟩=some (.int .u64 (wd p 2))/\B.cell? ⟨pb,3,none⟩=some (.int .u64 (wd p 3)))/\B.cell? ⟨b,off+k,none⟩=some (.int .i64 m)/\B.cell? ⟨b,off+j,none⟩=some (.int .i64 t)/\Off (fun k=>k=db) A0 B):=hid (fun B h=>⟨cells4 (h.heap (hO.heap HP0.out (fun c=>c)) (by omega)),h.cell ck (by show ¬b=db;omega),h.cell cj (by show ¬b=db;omega),h⟩)
     have HR:=hid hR
     have HO:=hid hO
     have Hzn:=hid hzn
     have hkn2:(k:Int)<(n:Int):=hkn
     clear hD hR hO hOw ck cj ck3 hd hdp hs hsp hz hzn hpk hpj
     go_upto_region 10 with fail
     refine wp_region_inv (fun a0 l a' w'=>∃ (u25:Value) (u26:Value) (u27:Value) (u28:Value) (u29:Value) (u30:Value) (u31:Value) (u32:Value) (u33:Value) (u34:Value) (u35:Value) (u36:Value) (u37:Value) (u38:Value) (u39:Value),a'=(Act.put (Act.put (Act.put (Act.put (Act.put (Act.put (Act.put (Act.put (Act.put (Act.put (Act.put (Act.put (Act.put (Act.put (Act.put a0 (some 25) u25) (some 26) u26) (some 27) u27) (some 28) u28) (some 29) u29) (some 30) u30) (some 31) u31) (some 32) u32) (some 33) u33) (some 34) u34) (some 35) u35) (some 36) u36) (some 37) u37) (some 38) u38) (some 39) u39)/\Slot l 0 u25 (V p)/\Slot l 1 u26 (V d)/\Slot l 2 u27 (V p)/\Slot l 3 u28 (.slice (some ⟨b,off,none⟩) n cap2)/\Slot l 4 u29 (.int .i64 k)/\Slot l 5 u30 (.pointer (some ⟨b,off+k,none⟩))/\Slot l 6 u31 (.int .i64 m)/\Slot l 7 u32 (V m)/\Slot l 8 u33 (.slice (some ⟨b,off,none⟩) n cap2)/\Slot l 9 u34 (.int .i64 j)/\Slot l 10 u35 (.pointer (some ⟨b,off+j,none⟩))/\Slot l 11 u36 (.int .i64 t)/\Slot l 12 u37 (V t)/\Slot l 13 u38 (V s)/\Slot l 14 u39 (V z)/\Old l 15 db A0 w' (.cells #[.int .u64 (wd d 0),.int .u64 (wd d 1),.int .u64 (wd d 2),.int .u64 (wd d 3)] 63) (.cells #[.int .u64 (wd z 0),.int .u64 (wd z 1),.int .u64 (wd z 2),.int .u64 (wd z 3)] 63)/\Dep l 1 15/\Off (fun k=>k=db) A0 w') (by kernel_rfl) (by kernel_rfl) ?_ ⟨?_,?_,?_,?_,?_,?_,?_,?_,?_,?_,?_,?_,?_,?_,?_,?_,trivial⟩ ?_
     ·refine⟨?z25,?z26,?z27,?z28,?z29,?z30,?z31,?z32,?z33,?z34,?z35,?z36,?z37,?z38,?z39,?fr,Slot.start _ _ _,Slot.start _ _ _,Slot.start _ _ _,Slot.start _ _ _,Slot.start _ _ _,Slot.start _ _ _,Slot.start _ _ _,Slot.start _ _ _,Slot.start _ _ _,Slot.start _ _ _,Slot.start _ _ _,Slot.start _ _ _,Slot.start _ _ _,Slot.start _ _ _,Slot.start _ _ _,Old.start HDb.out _ _,Dep.start _ _,(Off.refl _ A0).drew⟩
      case fr=>first | (simp only[XP];rfl) | simp only[XP]
     all_goals try (intro l a wr hI hl hd K' hK;obtain⟨u25,u26,u27,u28,u29,u30,u31,u32,u33,u34,u35,u36,u37,u38,u39,ha,s0,s1,s2,s3,s4,s5,s6,s7,s8,s9,s10,s11,s12,s13,s14,O0,P1_15,hO⟩:=hI;simp only[XP]at ha)
     ·subst ha
      have hc:=HK.out wr hO
      have p0:=hc.1.1
      have p1:=hc.1.2.1
      have p2:=hc.1.2.2.1
      have p3:=hc.1.2.2.2
      clear hc
      go_simp
      refine hK.out _ _ ⟨_,_,_,_,_,_,_,_,_,_,_,_,_,_,_,?_,Slot.new _ _ _,s1.keep rfl,s2.keep rfl,s3.keep rfl,s4.keep rfl,s5.keep rfl,s6.keep rfl,s7.keep rfl,s8.keep rfl,s9.keep rfl,s10.keep rfl,s11.keep rfl,s12.keep rfl,s13.keep rfl,s14.keep rfl,O0.keep (Off.refl _ wr) rfl,P1_15.keep rfl,hO⟩
      simp only[XP]
     ·subst ha
      have hZ:=O0.was (P1_15 hl)
      obtain⟨p0,p1,p2,p3⟩:=cells4 hZ
      clear hZ
      go_simp
      refine hK.out _ _ ⟨_,_,_,_,_,_,_,_,_,_,_,_,_,_,_,?_,s0.keep rfl,Slot.new _ _ _,s2.keep rfl,s3.keep rfl,s4.keep rfl,s5.keep rfl,s6.keep rfl,s7.keep rfl,s8.keep rfl,s9.keep rfl,s10.keep rfl,s11.keep rfl,s12.keep rfl,s13.keep rfl,s14.keep rfl,O0.keep (Off.refl _ wr) rfl,P1_15.keep rfl,hO⟩
      simp only[XP]
     ·subst ha
      have hc:=HK.out wr hO
      have p0:=hc.1.1
      have p1:=hc.1.2.1
      have p2:=hc.1.2.2.1
      have p3:=hc.1.2.2.2
      clear hc
      go_simp
      refine hK.out _ _ ⟨_,_,_,_,_,_,_,_,_,_,_,_,_,_,_,?_,s0.keep rfl,s1.keep rfl,Slot.new _ _ _,s3.keep rfl,s4.keep rfl,s5.keep rfl,s6.keep rfl,s7.keep rfl,s8.keep rfl,s9.keep rfl,s10.keep rfl,s11.keep rfl,s12.keep rfl,s13.keep rfl,s14.keep rfl,O0.keep (Off.refl _ wr) rfl,P1_15.keep rfl,hO⟩
      simp only[XP]
     ·subst ha
      go_simp
      refine hK.out _ _ ⟨_,_,_,_,_,_,_,_,_,_,_,_,_,_,_,?_,s0.keep rfl,s1.keep rfl,s2.keep rfl,Slot.new _ _ _,s4.keep rfl,s5.keep rfl,s6.keep rfl,s7.keep rfl,s8.keep rfl,s9.keep rfl,s10.keep rfl,s11.keep rfl,s12.keep rfl,s13.keep rfl,s14.keep rfl,O0.keep (Off.refl _ wr) rfl,P1_15.keep rfl,hO⟩
      simp only[XP]
     ·subst ha
      go_simp
      refine hK.out _ _ ⟨_,_,_,_,_,_,_,_,_,_,_,_,_,_,_,?_,s0.keep rfl,s1.keep rfl,s2.keep rfl,s3.keep rfl,Slot.new _ _ _,s5.keep rfl,s6.keep rfl,s7.keep rfl,s8.keep rfl,s9.keep rfl,s10.keep rfl,s11.keep rfl,s12.keep rfl,s13.keep rfl,s14.keep rfl,O0.keep (Off.refl _ wr) rfl,P1_15.keep rfl,hO⟩
      simp only[XP]
     ·have q3:=s3 (hd 3 (by decide))
      have q4:=s4 (hd 4 (by decide))
      subst ha q3 q4
      go_simp
      refine hK.out _ _ ⟨_,_,_,_,_,_,_,_,_,_,_,_,_,_,_,?_,s0.keep rfl,s1.keep rfl,s2.keep rfl,s3.keep rfl,s4.keep rfl,Slot.new _ _ _,s6.keep rfl,s7.keep rfl,s8.keep rfl,s9.keep rfl,s10.keep rfl,s11.keep rfl,s12.keep rfl,s13.keep rfl,s14.keep rfl,O0.keep (Off.refl _ wr) rfl,P1_15.keep rfl,hO⟩
      simp only[XP]
     ·have q5:=s5 (hd 5 (by decide))
      subst ha q5
      have hc:=HK.out wr hO
      have p0:=hc.2.1
      clear hc
      go_simp
      refine hK.out _ _ ⟨_,_,_,_,_,_,_,_,_,_,_,_,_,_,_,?_,s0.keep rfl,s1.keep rfl,s2.keep rfl,s3.keep rfl,s4.keep rfl,s5.keep rfl,Slot.new _ _ _,s7.keep rfl,s8.keep rfl,s9.keep rfl,s10.keep rfl,s11.keep rfl,s12.keep rfl,s13.keep rfl,s14.keep rfl,O0.keep (Off.refl _ wr) rfl,P1_15.keep rfl,hO⟩
      simp only[XP]
     ·have q6:=s6 (hd 6 (by decide))
      subst ha q6
      go_simp
      refine(held_inv (HPm.out wr) hO).mono ?_
      rintro e w1 ⟨rfl,hO1,hOW⟩
      go_wp2_with fail
      refine hK.out _ _ ⟨_,_,_,_,_,_,_,_,_,_,_,_,_,_,_,?_,s0.keep rfl,s1.keep rfl,s2.keep rfl,s3.keep rfl,s4.keep rfl,s5.keep rfl,s6.keep rfl,Slot.new _ _ _,s8.keep rfl,s9.keep rfl,s10.keep rfl,s11.keep rfl,s12.keep rfl,s13.keep rfl,s14.keep rfl,O0.keep hOW rfl,P1_15.keep rfl,hO1⟩
      simp only[XP]
     ·subst ha
      go_simp
      refine hK.out _ _ ⟨_,_,_,_,_,_,_,_,_,_,_,_,_,_,_,?_,s0.keep rfl,s1.keep rfl,s2.keep rfl,s3.keep rfl,s4.keep rfl,s5.keep rfl,s6.keep rfl,s7.keep rfl,Slot.new _ _ _,s9.keep rfl,s10.keep rfl,s11.keep rfl,s12.keep rfl,s13.keep rfl,s14.keep rfl,O0.keep (Off.refl _ wr) rfl,P1_15.keep rfl,hO⟩
      simp only[XP]
     ·subst ha
      go_simp
      refine hK.out _ _ ⟨_,_,_,_,_,_,_,_,_,_,_,_,_,_,_,?_,s0.keep rfl,s1.keep rfl,s2.keep rfl,s3.keep rfl,s4.keep rfl,s5.keep rfl,s6.keep rfl,s7.keep rfl,s8.keep rfl,Slot.new _ _ _,s10.keep rfl,s11.keep rfl,s12.keep rfl,s13.keep rfl,s14.keep rfl,O0.keep (Off.refl _ wr) rfl,P1_15.keep rfl,hO⟩
      simp only[XP]
     ·have q8:=s8 (hd 8 (by decide))
      have q9:=s9 (hd 9 (by decide))
      subst ha q8 q9
      go_simp
      refine hK.out _ _ ⟨_,_,_,_,_,_,_,_,_,_,_,_,_,_,_,?_,s0.keep rfl,s1.keep rfl,s2.keep rfl,s3.keep rfl,s4.keep rfl,s5.keep rfl,s6.keep rfl,s7.keep rfl,s8.keep rfl,s9.keep rfl,Slot.new _ _ _,s11.keep rfl,s12.keep rfl,s13.keep rfl,s14.keep rfl,O0.keep (Off.refl _ wr) rfl,P1_15.keep rfl,hO⟩
      simp only[XP]
     ·have q10:=s10 (hd 10 (by decide))
      subst ha q10
      have hc:=HK.out wr hO
      have p0:=hc.2.2.1
      clear hc
      go_simp
      refine hK.out _ _ ⟨_,_,_,_,_,_,_,_,_,_,_,_,_,_,_,?_,s0.keep rfl,s1.keep rfl,s2.keep rfl,s3.keep rfl,s4.keep rfl,s5.keep rfl,s6.keep rfl,s7.keep rfl,s8.keep rfl,s9.keep rfl,s10.keep rfl,Slot.new _ _ _,s12.keep rfl,s13.keep rfl,s14.keep rfl,O0.keep (Off.refl _ wr) rfl,P1_15.keep rfl,hO⟩
      simp only[XP]
     ·have q11:=s11 (hd 11 (by decide))
      subst ha q11
      go_simp
      refine(held_inv (HPt2.out wr) hO).mono ?_
      rintro e w1 ⟨rfl,hO1,hOW⟩
      go_wp2_with fail
      refine hK.out _ _ ⟨_,_,_,_,_,_,_,_,_,_,_,_,_,_,_,?_,s0.keep rfl,s1.keep rfl,s2.keep rfl,s3.keep rfl,s4.keep rfl,s5.keep rfl,s6.keep rfl,s7.keep rfl,s8.keep rfl,s9.keep rfl,s10.keep rfl,s11.keep rfl,Slot.new _ _ _,s13.keep rfl,s14.keep rfl,O0.keep hOW rfl,P1_15.keep rfl,hO1⟩
      simp only[XP]
     ·have q2:=s2 (hd 2 (by decide))
      have q7:=s7 (hd 7 (by decide))
      have q12:=s12 (hd 12 (by decide))
      subst ha q2 q7 q12
      go_simp
      refine(held_inv (HSb.out wr) hO).mono ?_
      rintro e w1 ⟨rfl,hO1,hOW⟩
      go_wp2_with fail
      refine hK.out _ _ ⟨_,_,_,_,_,_,_,_,_,_,_,_,_,_,_,?_,s0.keep rfl,s1.keep rfl,s2.keep rfl,s3.keep rfl,s4.keep rfl,s5.keep rfl,s6.keep rfl,s7.keep rfl,s8.keep rfl,s9.keep rfl,s10.keep rfl,s11.keep rfl,s12.keep rfl,Slot.new _ _ _,s14.keep rfl,O0.keep hOW rfl,P1_15.keep rfl,hO1⟩
      simp only[XP]
     ·have q0:=s0 (hd 0 (by decide))
      have q1:=s1 (hd 1 (by decide))
      have q13:=s13 (hd 13 (by decide))
      subst ha q0 q1 q13
      go_simp
      refine(held_inv (HMu.out wr) hO).mono ?_
      rintro e w1 ⟨rfl,hO1,hOW⟩
      go_wp2_with fail
      refine hK.out _ _ ⟨_,_,_,_,_,_,_,_,_,_,_,_,_,_,_,?_,s0.keep rfl,s1.keep rfl,s2.keep rfl,s3.keep rfl,s4.keep rfl,s5.keep rfl,s6.keep rfl,s7.keep rfl,s8.keep rfl,s9.keep rfl,s10.keep rfl,s11.keep rfl,s12.keep rfl,s13.keep rfl,Slot.new _ _ _,O0.keep hOW rfl,P1_15.keep rfl,hO1⟩
      simp only[XP]
     ·have q14:=s14 (hd 14 (by decide))
      subst ha q14
      have hZ:=(O0.was hl)
      obtain⟨m0,m1,m2,m3⟩:=cells4 hZ
      have fz:=fun j=>frozen_of_heap hZ j
      have lt:=heap_lt hZ
      clear hZ
      go_simp
      refine hK.out _ _ ⟨_,_,_,_,_,_,_,_,_,_,_,_,_,_,_,?_,s0.keep rfl,s1.keep rfl,s2.keep rfl,s3.keep rfl,s4.keep rfl,s5.keep rfl,s6.keep rfl,s7.keep rfl,s8.keep rfl,s9.keep rfl,s10.keep rfl,s11.keep rfl,s12.keep rfl,s13.keep rfl,s14.keep rfl,O0.put hl rfl,Dep.at (hd 1 (by decide)),setCells_in hO (fun _=>rfl) [.int .u64 (wd z 0),.int .u64 (wd z 1),.int .u64 (wd z 2),.int .u64 (wd z 3)]⟩
      simp only[XP]
     intro l a wc hI hd
     obtain⟨u25,u26,u27,u28,u29,u30,u31,u32,u33,u34,u35,u36,u37,u38,u39,ha,s0,s1,s2,s3,s4,s5,s6,s7,s8,s9,s10,s11,s12,s13,s14,O0,P1_15,hO⟩:=hI
     simp only[XP]at ha
     have q0:=s0 (hd 0 (by decide))
     have q1:=s1 (hd 1 (by decide))
     have q2:=s2 (hd 2 (by decide))
     have q3:=s3 (hd 3 (by decide))
     have q4:=s4 (hd 4 (by decide))
     have q5:=s5 (hd 5 (by decide))
     have q6:=s6 (hd 6 (by decide))
     have q7:=s7 (hd 7 (by decide))
     have q8:=s8 (hd 8 (by decide))
     have q9:=s9 (hd 9 (by decide))
     have q10:=s10 (hd 10 (by decide))
     have q11:=s11 (hd 11 (by decide))
     have q12:=s12 (hd 12 (by decide))
     have q13:=s13 (hd 13 (by decide))
     have q14:=s14 (hd 14 (by decide))
     have r0:wc.heap[db]?=some (.cells #[.int .u64 (wd z 0),.int .u64 (wd z 1),.int .u64 (wd z 2),.int .u64 (wd z 3)] 63):=O0.now (hd 15 (by decide))
     subst ha q0 q1 q2 q3 q4 q5 q6 q7 q8 q9 q10 q11 q12 q13 q14
     clear hd s0 s1 s2 s3 s4 s5 s6 s7 s8 s9 s10 s11 s12 s13 s14 O0 P1_15
     have hR2:=own_put HR.out hO hne
     have hO2:Off (fun _=>False) W0 wc:=HO.out.trans hO (fun k hk e=>by omega)
     rw[<-Hzn.out]at r0
     have H1:=hid r0
     have H2:=hid hR2
     have H3:=hid hO2
     clear r0 hR2 hO2 hO
     go_wp2
     go_roundw
     case rel=>exact⟨j+1,by omega,by simp,H1.out,H2.out,H3.out⟩
     case measure=>simp[intOf] <;> omega
    obtain rfl:n=j:=by omega
    obtain⟨d,hd⟩:∃ d,d=dfF p ps k 1 (oth n k):=⟨_,rfl⟩
    have hdp:d<p:=by rw[hd];exact dfF_lt (by omega) ps k h1 _
    obtain⟨z,hz⟩:∃ z,z=d^(p-2)%p:=⟨_,rfl⟩
    have hYk:Ys[k]?=some z:=by
     rw[HYs.out,wgtL,List.getElem?_map,List.getElem?_range (by have:=HPn.out;omega),hz,hd]
     unfold wgt;rw[HPn.out];rfl
    have HFI:=hid (show ∀ W,Calls Tryz.prog 112 #[V p,V d] W fun e w'=>e=.returned (V z)/\Off (fun _=>False) W w' from fun W=>by rw[hz];exact HIn.out d hdp W)
    rw[<-hd]at hD
    obtain⟨d0,d1,d2,d3⟩:=cells4 hD
    obtain⟨p0,p1,p2,p3⟩:=cells4 (hO.heap HP0.out (fun c=>c))
    have ltd:=heap_lt hD
    have HYt:=hid (show flat4 (Ys.take k)++words4 z=flat4 (Ys.take (k+1)) by
     obtain⟨hlk,hxk⟩:=List.getElem?_eq_some_iff.1 hYk
     rw[List.take_succ_eq_append_getElem hlk,hxk,flat4_append];rfl)
    have HR:=hid hR
    have HO:=hid hO
    clear hD hR hO hd hz hYk hdp
    go_wp2_with fail
    refine(HFI.out _).mono ?_
    rintro e u1 ⟨rfl,hO1⟩
    have HR2:=hid (own_off HR.out hO1)
    have HO2:=hid (HO.out.trans hO1 (fun _ _ c=>c))
    clear d0 d1 d2 d3 p0 p1 p2 p3 ltd hO1
    go_wp2_with (at_builtin;refine wpList_append_own _ rfl _ _ 76 rfl W0.heap.size 63 j0 _ 4 32 Tryz.underlying76 hj0' hj0 hj1 hj2 rfl (by decide) _ k _ rfl (HR2.out.alloc _) ⟨u1.heap.size,0,none⟩ 1 1 (words4 z) rfl rfl ?q1 (words4_one _) ?q2 ?q3 ?q4 ?_)
    case q1=>exact words4_at (heap_new' rfl _)
    case q2=>unfold maxLen;omega
    case q3=>omega
    case q4=>have:=HO2.out.size;simp;omega
    intro v' w1 hown' hgrow hnil
    obtain⟨g6,c6,rfl⟩:=ownsRow_succ hown'
    have hO3:Off (fun _=>False) W0 w1:=grown_off (HO2.out.alloc _) (Nat.le_refl _) (HR2.out.alloc _) hgrow
    rw[HYt.out]at hown'
    have H1:=hid hown'
    have H2:=hid hO3
    clear hown' hgrow hnil hO3
    go_wp2
    go_roundw
    case rel=>exact⟨k+1,by omega,by simp,⟨_,_,rfl,H1.out⟩,H2.out⟩
    case measure=>simp[intOf] <;> omega
  obtain rfl:n=k:=by omega
  rw[List.take_of_length_le (by rw[HYn.out];exact Nat.le_refl _)]at hown
  have H1:=hid hown
  have H3:=hid (HO0.out.trans hO (fun _ _ c=>c))
  clear hown hO
  go_wp2_with fail
  refine bodyPost_ret (results_tmp rfl _ _ _) rfl ?_
  exact⟨va,vc,W0.heap.size,rfl,hw0,H1.out,H3.out⟩
end
section
open Go.RowKit
attribute [local go_sem ↓] Go.wp_at_zero Go.wp_at_succ
set_option maxRecDepth 100000
set_option maxHeartbeats 4000000
theorem own_offB {w w':World} {base size n bx:Nat} {T:TypeId} {v:Value} {xs:List Value} (h:w.ownsRow base T size v n xs) (ho:Off (fun j=>j=bx) w w') (hd:∀ g,v.ownBlock=some g->g≠bx):w'.ownsRow base T size v n xs:=by
 obtain⟨hl,h⟩:=h
 refine⟨hl,?_⟩
 rcases h with hn | ⟨g,cap,cur,rfl,hb,hg,r⟩
 ·exact .inl hn
 exact .inr ⟨g,cap,cur,rfl,hb,ho.heap hg (hd g (by simp[Value.ownBlock])),r⟩
theorem refcolumn_any (l:List Sh) (a:Option Addr) (n cap:Nat) (hn:n=l.length) (hl:n<=100000) (c:Int) (S:Nat->Prop) (w:World) (h:ShsAt w (.slice a n cap) l S) :
  Calls Tryz.prog 41 #[.slice a n cap,.int .i64 c] w fun e w'=>∃ a2 c2,e=.returned (.slice a2 n c2)/\w'.ownsRow w.heap.size 63 4 (.slice a2 n c2) n (flat4 (colN l c))/\Off (fun _=>False) w w':=by
 obtain⟨j0,hj,hj0,hj1,hj2⟩:=info_parts vec_info
 have HN:=hid hn
 have HL:=hid h
 clear hn h
 go_enter Tryz.func41,Tryz.ntmps41
 go_wp2
 go_loopw [5,6] (fun v i wr=>∃ k:Nat,k<=n/\i=.int .i64 k/\(∃ a c2,v=.slice a k c2/\wr.ownsRow w.heap.size 63 4 v k (flat4 (colN (l.take k) c)))/\Off (fun _=>False) w wr) (fun _ i _=>n-(intOf i).toNat)
 case atStart=>exact⟨0,Nat.zero_le _,rfl,⟨none,0,rfl,World.ownsRow_nil _ _ _ _⟩,Off.refl _ w⟩
 case round =>
  obtain⟨k,hk,rfl,⟨va,vc,rfl,hov⟩,hO⟩:=hrel
  by_cases hlt:k<n
  ·obtain⟨s,b,off,hx,hok,rfl,_,c0,c1,c2,c3,pa,pc,c4,hpc,hV⟩:=(HL.out.off hO (fun _ _ _ c=>c)).at hlt
   have HX:=hid hx
   have HKb:=hid (show k+1<=100000/\k<n from⟨by omega,hlt⟩)
   have HO:=hid hO
   have HOv:=hid hov
   have HV:=hid hV
   have hlb:b<wr.heap.size:=World.block_lt_of_cell? wr _ c0
   have hkn:(k:Int)<(n:Int):=by omega
   obtain⟨m,hm⟩:∃ m,m=s.pl.length:=⟨_,rfl⟩
   rw[<-hm]at c4
   have HM:=hid hm
   obtain⟨W1,hW1⟩:∃ W1,W1=wr.alloc (.cells #[.int .u64 0,.int .u64 0,.int .u64 0,.int .u64 0] 63):=⟨_,rfl⟩
   have HO1:=hid (show Off (fun _=>False) w W1 by rw[hW1];exact hO.alloc _)
   have HOw:=hid (show Off (fun _=>False) wr W1 by rw[hW1];exact(Off.refl _ wr).alloc _)
   have HOv1:=hid (show W1.ownsRow w.heap.size 63 4 (.slice va k vc) k (flat4 (colN (l.take k) c)) by rw[hW1];exact hov.alloc _)
   have HG1:=hid (show W1.heap[wr.heap.size]?=some (.cells #[.int .u64 0,.int .u64 0,.int .u64 0,.int .u64 0] 63 (0,0)) by rw[hW1];exact heap_new' rfl _)
   have hsz:W1.heap.size=wr.heap.size+1:=by rw[hW1];simp
   have HS1:=hid hsz
   have HW1:=hid hW1
   have HO0:=hid hO.size
   have HVa:=hid (show ∀ g,(Value.slice va k vc).ownBlock=some g->g≠wr.heap.size from fun g hg e=>by have:=World.ownsRow.lt hov g hg;omega)
   clear hk hov hO hx hok hV hpc hm hW1 hsz
   by_cases hc0:c<0
   ·have HXv:=hid (show(if 0<=c then s.pl.getD c.toNat 0 else 0)=0 from if_neg (by omega))
    have i0:decide (0<=c)=false:=decide_eq_false (by omega)
    have HFl:=hid (show flat4 (colN (l.take k) (c))++words4 0=flat4 (colN (l.take (k+1)) (c)) by
     rw[List.take_add_one,HX.out]
     unfold colN
     rw[List.map_append,flat4_append]
     show _=_++flat4 [if 0<=(c) then s.pl.getD (c).toNat 0 else 0]
     rw[HXv.out]
     rfl)
    obtain⟨x,hx0⟩:∃ x:Nat,x=0:=⟨_,rfl⟩
    rw[<-hx0]at HFl
    have HGx:=hid (show W1.heap[wr.heap.size]?=some (.cells #[.int .u64 (wd x 0),.int .u64 (wd x 1),.int .u64 (wd x 2),.int .u64 (wd x 3)] 63 (0,0)) by rw[hx0];exact HG1.out)
    clear HXv hx0 HG1
    have c4':=HOw.out.cell c4 (fun c=>c)
    have hlb2:b<wr.heap.size+1:=by omega
    go_upto_region 6 with fail
    rw[<-HW1.out]
    go_upto_region 8 with fail
    clear c4 c4'
    obtain⟨p0,p1,p2,p3⟩:=cells4 HGx.out
    have lt:=heap_lt HGx.out
    go_wp2_with (at_builtin;refine wpList_append_own _ rfl _ _ 76 rfl w.heap.size 63 j0 _ 4 32 Tryz.underlying76 hj hj0 hj1 hj2 rfl (by decide) _ k _ rfl (HOv1.out.alloc _) ⟨W1.heap.size,0,none⟩ 1 1 (words4 x) rfl rfl ?aq1 (words4_one _) ?aq2 ?aq3 ?aq4 ?_)
    case aq1=>exact words4_at (heap_new' rfl _)
    case aq2=>have:=HKb.out;unfold maxLen;omega
    case aq3=>have:=HKb.out;omega
    case aq4=>have:=HO1.out.size;simp;omega
    intro v' w1 hown' hgrow hnil
    obtain⟨g6,c6,rfl⟩:=ownsRow_succ hown'
    have hO3:Off (fun _=>False) w w1:=grown_off (HO1.out.alloc _) (Nat.le_refl _) (HOv1.out.alloc _) hgrow
    rw[HFl.out]at hown'
    have w2:IntKind.i64.wrap ((k:Int)+1)=(k:Int)+1:=by rw[IntKind.wrap_i64];have:=HKb.out;omega
    go_wp2
    go_roundw
    case rel=>exact⟨k+1,by have:=HKb.out;omega,by simp,⟨_,_,rfl,hown'⟩,hO3⟩
    case measure=>simp[intOf];omega
   obtain⟨q,rfl⟩:∃ q:Nat,c=(q:Int):=Int.eq_ofNat_of_zero_le (by omega)
   have i0:decide ((0:Int)<=(q:Int))=true:=decide_eq_true (by omega)
   by_cases hqm:q<m
   ·have hx2:∃ x,s.pl[q]?=some x:=⟨_,List.getElem?_eq_getElem (by rw[<-HM.out];omega)⟩
    obtain⟨x,hx2⟩:=hx2
    have HXv:=hid (show(if 0<=(q:Int) then s.pl.getD (q:Int).toNat 0 else 0)=x by
     rw[if_pos (by omega),Int.toNat_natCast,List.getD_eq_getElem?_getD,hx2];rfl)
    have i2:decide ((q:Int)<(m:Int))=true:=decide_eq_true (by omega)
    have i3:(q:Int)<(m:Int):=by omega
    have hv:=(HV.out.off HOw.out (fun _ _ _ c=>c))
    rw[<-HM.out]at hv
    obtain⟨eb,eo,rfl,_,e0,e1,e2,e3⟩:=hv.get hx2
    have hleb:eb<W1.heap.size:=World.block_lt_of_cell? W1 _ e0
    have HFl:=hid (show flat4 (colN (l.take k) (q:Int))++words4 x=flat4 (colN (l.take (k+1)) (q:Int)) by
     rw[List.take_add_one,HX.out]
     unfold colN
     rw[List.map_append,flat4_append]
     show _=_++flat4 [if 0<=(q:Int) then s.pl.getD (q:Int).toNat 0 else 0]
     rw[HXv.out]
     rfl)
    clear HXv hx2 hv
    have c4':=HOw.out.cell c4 (fun c=>c)
    obtain⟨⟨m0,m1,m2,m3⟩,fz,lt⟩:=zero_cells HG1.out
    have hlb2:b<W1.heap.size:=by rw[HS1.out];omega
    go_upto_region 6 with fail
    rw[<-HW1.out]
    go_upto_region 8 with fail
    obtain⟨W2,hW2⟩:∃ W2,W2=(((W1.setCell ⟨wr.heap.size,0,none⟩ (.int .u64 (wd x 0))).setCell ⟨wr.heap.size,1,none⟩ (.int .u64 (wd x 1))).setCell ⟨wr.heap.size,2,none⟩ (.int .u64 (wd x 2))).setCell ⟨wr.heap.size,3,none⟩ (.int .u64 (wd x 3)):=⟨_,rfl⟩
    rw[<-hW2]
    have HGx:=hid (show W2.heap[wr.heap.size]?=some (.cells #[.int .u64 (wd x 0),.int .u64 (wd x 1),.int .u64 (wd x 2),.int .u64 (wd x 3)] 63 (0,0)) by rw[hW2];exact setCells_at (vs:=words4 x) HG1.out rfl)
    have hOb:Off (fun j=>j=wr.heap.size) W1 W2:=by rw[hW2];exact setCells_off wr.heap.size (words4 x) 0 W1
    have hO2:Off (fun _=>False) w W2:=by rw[hW2];exact off4 HO1.out HO0.out _ _ _ _
    have HOv2:=hid (own_offB HOv1.out hOb HVa.out)
    have HO2:=hid hO2
    clear m0 m1 m2 m3 fz lt e0 e1 e2 e3 hleb hW2 hO2 hOb c4 c4' HG1
    obtain⟨p0,p1,p2,p3⟩:=cells4 HGx.out
    have lt:=heap_lt HGx.out
    go_wp2_with (at_builtin;refine wpList_append_own _ rfl _ _ 76 rfl w.heap.size 63 j0 _ 4 32 Tryz.underlying76 hj hj0 hj1 hj2 rfl (by decide) _ k _ rfl (HOv2.out.alloc _) ⟨W2.heap.size,0,none⟩ 1 1 (words4 x) rfl rfl ?bq1 (words4_one _) ?bq2 ?bq3 ?bq4 ?_)
    case bq2=>have:=HKb.out;unfold maxLen;omega
    case bq3=>have:=HKb.out;omega
    case bq4=>have:=HO2.out.size;simp;omega
    intro v' w1 hown' hgrow hnil
    obtain⟨g6,c6,rfl⟩:=ownsRow_succ hown'
    have hO3:Off (fun _=>False) w w1:=grown_off (HO2.out.alloc _) (Nat.le_refl _) (HOv2.out.alloc _) hgrow
    rw[HFl.out]at hown'
    have w2:IntKind.i64.wrap ((k:Int)+1)=(k:Int)+1:=by rw[IntKind.wrap_i64];have:=HKb.out;omega
    go_wp2
    go_roundw
    case rel=>exact⟨k+1,by have:=HKb.out;omega,by simp,⟨_,_,rfl,hown'⟩,hO3⟩
    case measure=>simp[intOf];omega
   have HXv:=hid (show(if 0<=(q:Int) then s.pl.getD (q:Int).toNat 0 else 0)=0 by
    rw[if_pos (by omega),Int.toNat_natCast,List.getD_eq_getElem?_getD,List.getElem?_eq_none (by rw[<-HM.out];omega)];rfl)
   have i2:decide ((q:Int)<(m:Int))=false:=decide_eq_false (by omega)
   have HFl:=hid (show flat4 (colN (l.take k) (q:Int))++words4 0=flat4 (colN (l.take (k+1)) (q:Int)) by
    rw[List.take_add_one,HX.out]
    unfold colN
    rw[List.map_append,flat4_append]
    show _=_++flat4 [if 0<=(q:Int) then s.pl.getD (q:Int).toNat 0 else 0]
    rw[HXv.out]
    rfl)
   obtain⟨x,hx0⟩:∃ x:Nat,x=0:=⟨_,rfl⟩
   rw[<-hx0]at HFl
   have HGx:=hid (show W1.heap[wr.heap.size]?=some (.cells #[.int .u64 (wd x 0),.int .u64 (wd x 1),.int .u64 (wd x 2),.int .u64 (wd x 3)] 63 (0,0)) by rw[hx0];exact HG1.out)
   clear HXv hx0 HG1
   have c4':=HOw.out.cell c4 (fun c=>c)
   have hlb2:b<wr.heap.size+1:=by omega
   go_upto_region 6 with fail
   rw[<-HW1.out]
   go_upto_region 8 with fail
   clear c4 c4'
   obtain⟨p0,p1,p2,p3⟩:=cells4 HGx.out
   have lt:=heap_lt HGx.out
   go_wp2_with (at_builtin;refine wpList_append_own _ rfl _ _ 76 rfl w.heap.size 63 j0 _ 4 32 Tryz.underlying76 hj hj0 hj1 hj2 rfl (by decide) _ k _ rfl (HOv1.out.alloc _) ⟨W1.heap.size,0,none⟩ 1 1 (words4 x) rfl rfl ?cq1 (words4_one _) ?cq2 ?cq3 ?cq4 ?_)
   case cq2=>have:=HKb.out;unfold maxLen;omega
   case cq3=>have:=HKb.out;omega
   case cq4=>have:=HO1.out.size;simp;omega
   intro v' w1 hown' hgrow hnil
   obtain⟨g6,c6,rfl⟩:=ownsRow_succ hown'
   have hO3:Off (fun _=>False) w w1:=grown_off (HO1.out.alloc _) (Nat.le_refl _) (HOv1.out.alloc _) hgrow
   rw[HFl.out]at hown'
   have w2:IntKind.i64.wrap ((k:Int)+1)=(k:Int)+1:=by rw[IntKind.wrap_i64];have:=HKb.out;omega
   go_wp2
   go_roundw
   case rel=>exact⟨k+1,by have:=HKb.out;omega,by simp,⟨_,_,rfl,hown'⟩,hO3⟩
   case measure=>simp[intOf];omega
  obtain rfl:n=k:=by omega
  have i1:¬(n:Int)<(n:Int):=by omega
  rw[List.take_of_length_le (by rw[<-HN.out];exact Nat.le_refl _)]at hov
  have HOv:=hid hov
  have HO:=hid hO
  clear hov hO
  go_wp2
  exact bodyPost_ret (v:=.slice va n vc) (by simp[results,Tryz.results41,go_sem]) rfl ⟨_,_,rfl,HOv.out,HO.out⟩
end
section
open Go.RowKit
section
variable {s0:Sh} {l:List Sh}
end
theorem jys_lt {p:Nat} (h:Mp p) (u:List Sh) (k:Nat):∀ y∈jys p u k,y<p:=by
 intro y hy
 obtain⟨x,_,rfl⟩:=List.mem_map.1 hy
 exact mm_lt h _ _
end
end Go.Proofs.YtbkgghhngeibhaaGreatDoor
