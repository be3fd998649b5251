/-
  Facts and contracts that some statements of layer 17 need.
-/
import Derived.Test.YtpfjgifcjengkaaGreatDoorDealPlain
import Derived.Test.YtpfjgifcjengkaaGreatDoorPolLists
import Derived.Test.YtpfjgifcjengkaaGreatDoorDealB
import Derived.Test.YtpfjgifcjengkaaGreatDoorInvAll
import Derived.Test.YtpfjgifcjengkaaGreatDoorPolCore
import Derived.Lib.AppendZeros
namespace Go.Proofs.YtpfjgifcjengkaaGreatDoor
open Lib (hid)
section


/-! Eval and Quotient: from the last coefficient on. -/
/-! Add and Scale: each entry by itself. -/
/-! Mul: for each index of the one,each index of the other. -/
theorem sg_step (f:Nat->Nat) (p a k:Nat):(sg f k a%p+f k*(a^k%p)%p)%p=sg f (k+1) a%p:=by
 simp only[sg]
 refine md_add (md_self _ _) ?_
 rw[md_self];exact md_mul rfl (md_self _ _)
theorem pow_step (p a k:Nat):a^k%p*a%p=a^(k+1)%p:=by rw[Nat.pow_succ];exact md_mul (md_self _ _) rfl
end
section
open Go.RowKit
attribute [local go_sem ↓] Go.wp_at_zero Go.wp_at_succ
structure EvW (w W:World) (bp p bx x rb b7 u b8 pw:Nat):Prop where
 fp:W.heap[bp]?=some (.cells #[.int .u64 (wd p 0),.int .u64 (wd p 1),.int .u64 (wd p 2),.int .u64 (wd p 3)] 33 (0,0))
 fx:W.heap[bx]?=some (.cells #[.int .u64 (wd x 0),.int .u64 (wd x 1),.int .u64 (wd x 2),.int .u64 (wd x 3)] 33 (0,0))
 fr:W.heap[rb]?=some (.cells #[.int .u64 0,.int .u64 0,.int .u64 0,.int .u64 0] 33 (0,0))
 fo:W.heap[b7]?=some (.cells #[.int .u64 (wd u 0),.int .u64 (wd u 1),.int .u64 (wd u 2),.int .u64 (wd u 3)] 33 (0,0))
 fw:W.heap[b8]?=some (.cells #[.int .u64 (wd pw 0),.int .u64 (wd pw 1),.int .u64 (wd pw 2),.int .u64 (wd pw 3)] 33 (0,0))
 off:Off (fun _=>False) w W
set_option maxRecDepth 100000 in
set_option maxHeartbeats 4000000 in
theorem refeval_any {p:Nat} (hp:p<R256) (h1:1<p) (xs:List Nat) (hx:∀ v∈xs,v<p) (x:Nat) (hxp:x<p) (v:Value) (w:World) (hV:Ls w v xs) :
  Calls Tryz.prog 51 #[V p,v,V x] w fun e w'=>e=.returned (V (pv xs x%p))/\Off (fun _=>False) w w':=by
 obtain⟨a,cap,rfl,hL⟩:=hV.open
 clear hV
 obtain⟨n,hn⟩:∃ n,n=xs.length:=⟨_,rfl⟩
 rw[<-hn]at hL ⊢
 have HM:=hid (fun a b ha hb W=>mod_mul p a b hp h1 ha (Nat.lt_trans hb hp) W:∀ a b,a<p->b<p->∀ W,_)
 have HA:=hid (fun a b ha hb W=>mod_add p a b hp ha hb W:∀ a b,a<p->b<p->∀ W,_)
 obtain⟨o1,ho1⟩:∃ o1,o1=1:=⟨_,rfl⟩
 have HO1:=hid (fun W=>by have h:=mod_one W;rw[<-ho1]at h;exact h)
 have Ho1:=hid ho1
 clear ho1
 have HN:=hid hn
 have HL:=hid hL
 have hn2:=hL.len.2
 clear hn hL
 go_enter Tryz.func51,Tryz.ntmps51
 go_wp2_with fail
 refine(HO1.out _).mono ?_
 rintro e u0 ⟨rfl,hO⟩
 have hOa:Off (fun _=>False) w u0:=((((Off.refl _ w).alloc _).alloc _).alloc _).alloc _ |>.trans hO (fun _ _ c=>c)
 have g_p:u0.heap[w.heap.size]?=some (.cells #[.int .u64 (wd p 0),.int .u64 (wd p 1),.int .u64 (wd p 2),.int .u64 (wd p 3)] 33):=hO.heap (heap_old' (heap_old' (heap_old' (heap_new' rfl _) _) _) _) (fun c=>c)
 have g_x:u0.heap[w.heap.size+1]?=some (.cells #[.int .u64 (wd x 0),.int .u64 (wd x 1),.int .u64 (wd x 2),.int .u64 (wd x 3)] 33):=hO.heap (heap_old' (heap_old' (heap_new' (by simp) _) _) _) (fun c=>c)
 have g_r:u0.heap[w.heap.size+1+1]?=some (.cells #[.int .u64 0,.int .u64 0,.int .u64 0,.int .u64 0] 33):=hO.heap (heap_old' (heap_new' (by simp) _) _) (fun c=>c)
 have g_o:u0.heap[w.heap.size+1+1+1]?=some (.cells #[.int .u64 0,.int .u64 0,.int .u64 0,.int .u64 0] 33):=hO.heap (heap_new' (by simp) _) (fun c=>c)
 obtain⟨b7,hb7⟩:∃ b7,b7=w.heap.size+1+1+1:=⟨_,rfl⟩
 obtain⟨rb,hrb⟩:∃ rb,rb=w.heap.size+1+1:=⟨_,rfl⟩
 obtain⟨bx,hbx⟩:∃ bx,bx=w.heap.size+1:=⟨_,rfl⟩
 obtain⟨bp,hbp⟩:∃ bp,bp=w.heap.size:=⟨_,rfl⟩
 have hlt:=heap_lt g_o
 obtain⟨b8,hb8⟩:∃ b8,b8=u0.heap.size:=⟨_,rfl⟩
 have HB:=hid (show bp=w.heap.size/\bx=w.heap.size+1/\rb=w.heap.size+2/\b7=w.heap.size+3/\w.heap.size+3<b8 by omega)
 rw[<-hb7]at g_o
 rw[<-hrb]at g_r
 rw[<-hbx]at g_x
 rw[<-hbp]at g_p
 have HI:=hid (show ∀ W,W=u0.alloc (.cells #[.int .u64 (wd o1 0),.int .u64 (wd o1 1),.int .u64 (wd o1 2),.int .u64 (wd o1 3)] 33)->EvW w W bp p bx x rb b7 (sg (fun i=>xs.getD i 0) 0 x%p) b8 (x^0%p) from by
  rintro W rfl
  have h0:sg (fun i=>xs.getD i 0) 0 x%p=0:=Nat.zero_mod _
  have h1':x^0%p=o1:=by rw[Nat.pow_zero,Nat.mod_eq_of_lt h1,Ho1.out]
  rw[h0,h1']
  refine⟨heap_old' g_p _,heap_old' g_x _,heap_old' g_r _,by simp only[wd_zero];exact heap_old' g_o _,?_,hOa.alloc _⟩
  rw[hb8];exact heap_new' rfl _)
 clear hO hOa g_p g_x g_r g_o
 go_wp2_with fail
 rw[<-hb8,<-hb7,<-hrb,<-hbx,<-hbp]
 clear hb7 hrb hbx hbp hlt hb8
 go_loopw [9] (fun i wr=>∃ k:Nat,k<=n/\i=.int .i64 k/\EvW w wr bp p bx x rb b7 (sg (fun i=>xs.getD i 0) k x%p) b8 (x^k%p)) (fun i _=>n-(intOf i).toNat)
 case atStart=>exact⟨0,Nat.zero_le _,rfl,HI.out _ rfl⟩
 case round =>
  obtain⟨k,hk,rfl,hE⟩:=hrel
  by_cases hlt:k<n
  ·obtain⟨c,b,off,hck,rfl,c0,c1,c2,c3⟩:=(HL.out.off hE.off (fun _ _ _ c=>c)).at hlt
   have hcp:c<p:=hx c (List.mem_of_getElem? hck)
   have hfc:xs.getD k 0=c:=by rw[List.getD_eq_getElem?_getD,hck];rfl
   obtain⟨u,hu⟩:∃ u,u=sg (fun i=>xs.getD i 0) k x%p:=⟨_,rfl⟩
   obtain⟨pw,hpw⟩:∃ pw,pw=x^k%p:=⟨_,rfl⟩
   have hup:u<p:=by rw[hu];exact Nat.mod_lt _ (by omega)
   have hpp:pw<p:=by rw[hpw];exact Nat.mod_lt _ (by omega)
   obtain⟨m,hm⟩:∃ m,m=c*pw%p:=⟨_,rfl⟩
   obtain⟨z,hz⟩:∃ z,z=(u+m)%p:=⟨_,rfl⟩
   obtain⟨p2,hp2⟩:∃ p2,p2=pw*x%p:=⟨_,rfl⟩
   have hmp:m<p:=by rw[hm];exact Nat.mod_lt _ (by omega)
   have HMu:=hid (show ∀ W,Calls Tryz.prog 42 #[V p,V c,V pw] W fun e w'=>e=.returned (V m)/\Off (fun _=>False) W w' from fun W=>by rw[hm];exact HM.out c pw hcp hpp W)
   have HAd:=hid (show ∀ W,Calls Tryz.prog 75 #[V p,V u,V m] W fun e w'=>e=.returned (V z)/\Off (fun _=>False) W w' from fun W=>by rw[hz];exact HA.out u m hup hmp W)
   have HM2:=hid (show ∀ W,Calls Tryz.prog 42 #[V p,V pw,V x] W fun e w'=>e=.returned (V p2)/\Off (fun _=>False) W w' from fun W=>by rw[hp2];exact HM.out pw x hpp hxp W)
   have HZ:=hid (show z=sg (fun i=>xs.getD i 0) (k+1) x%p by rw[hz,hm,hpw,hu,<-sg_step,hfc])
   have HP2:=hid (show p2=x^(k+1)%p by rw[hp2,hpw,pow_step])
   rw[<-hu,<-hpw]at hE
   obtain⟨W1,hW1⟩:∃ W1,W1=wr:=⟨_,rfl⟩
   have HE:=hid hE
   have HPr:=hid hE.fo
   have HK:Hid (∀ W',Off (fun k=>k=b7) wr W'->(W'.cell? ⟨bp,0,none⟩=some (.int .u64 (wd p 0))/\W'.cell? ⟨bp,1,none⟩=some (.int .u64 (wd p 1))/\W'.cell? ⟨bp,2,none⟩=some (.int .u64 (wd p 2))/\W'.cell? ⟨bp,3,none⟩=some (.int .u64 (wd p 3)))/\(W'.cell? ⟨b8,0,none⟩=some (.int .u64 (wd pw 0))/\W'.cell? ⟨b8,1,none⟩=some (.int .u64 (wd pw 1))/\W'.cell? ⟨b8,2,none⟩=some (.int .u64 (wd pw 2))/\W'.cell? ⟨b8,3,none⟩=some (.int .u64 (wd pw 3)))/\(W'.cell? ⟨b,off+k*4,none⟩=some (.int .u64 (wd c 0))/\W'.cell? ⟨b,off+k*4+1,none⟩=some (.int .u64 (wd c 1))/\W'.cell? ⟨b,off+k*4+2,none⟩=some (.int .u64 (wd c 2))/\W'.cell? ⟨b,off+k*4+3,none⟩=some (.int .u64 (wd c 3)))/\Off (fun k=>k=b7) wr W'):=hid (fun W' h=>by
    have hb:=HB.out
    have hbn:b≠b7:=fun e=>by
     have:=(HL.out.at hlt);obtain⟨_,b2,off2,_,e2,d0,_⟩:=this
     cases e2;have:=World.block_lt_of_cell? w _ d0;simp at this;omega
    exact⟨cells4 (h.heap hE.fp (by omega)),cells4 (h.heap hE.fw (by omega)),⟨h.cell c0 hbn,h.cell c1 hbn,h.cell c2 hbn,h.cell c3 hbn⟩,h⟩)
   have hkn:(k:Int)<(n:Int):=by omega
   have hwk:IntKind.i64.wrap ((k:Int)+1)=(k:Int)+1:=by rw[IntKind.wrap_i64];omega
   clear hE hW1 W1 hck hcp hfc hu hpw hup hpp hm hz hp2 hmp c0 c1 c2 c3 HM HA
   go_upto_region 6 with fail
   refine wp_region_inv (fun a0 l a' w'=>∃ (u17:Value) (u18:Value) (u19:Value) (u20:Value) (u21:Value) (u22:Value) (u23:Value) (u24:Value) (u25:Value) (u26:Value),a'=(Act.put (Act.put (Act.put (Act.put (Act.put (Act.put (Act.put (Act.put (Act.put (Act.put a0 (some 17) u17) (some 18) u18) (some 19) u19) (some 20) u20) (some 21) u21) (some 22) u22) (some 23) u23) (some 24) u24) (some 25) u25) (some 26) u26)/\Slot l 0 u17 (V p)/\Slot l 1 u18 (V u)/\Slot l 2 u19 (V p)/\Slot l 3 u20 (.slice (some ⟨b,off,none⟩) n cap)/\Slot l 4 u21 (.int .i64 k)/\Slot l 5 u22 (.pointer (some ⟨b,off+k*4,none⟩))/\Slot l 6 u23 (V c)/\Slot l 7 u24 (V pw)/\Slot l 8 u25 (V m)/\Slot l 9 u26 (V z)/\Old l 10 b7 wr w' (.cells #[.int .u64 (wd u 0),.int .u64 (wd u 1),.int .u64 (wd u 2),.int .u64 (wd u 3)] 33) (.cells #[.int .u64 (wd z 0),.int .u64 (wd z 1),.int .u64 (wd z 2),.int .u64 (wd z 3)] 33)/\Dep l 1 10/\Off (fun k=>k=b7) wr w') (by kernel_rfl) (by kernel_rfl) ?_ ⟨?_,?_,?_,?_,?_,?_,?_,?_,?_,?_,?_,trivial⟩ ?_
   ·refine⟨?z17,?z18,?z19,?z20,?z21,?z22,?z23,?z24,?z25,?z26,?fr,Slot.start _ _ _,Slot.start _ _ _,Slot.start _ _ _,Slot.start _ _ _,Slot.start _ _ _,Slot.start _ _ _,Slot.start _ _ _,Slot.start _ _ _,Slot.start _ _ _,Slot.start _ _ _,Old.start HPr.out _ _,Dep.start _ _,(Off.refl _ wr).drew⟩
    case fr=>first | (simp only[XP];rfl) | simp only[XP]
   all_goals try (intro l a wr hI hl hd K' hK;obtain⟨u17,u18,u19,u20,u21,u22,u23,u24,u25,u26,ha,s0,s1,s2,s3,s4,s5,s6,s7,s8,s9,O0,P1_10,hO⟩:=hI;simp only[XP]at ha)
   ·subst ha
    have hc:=HK.out wr hO
    have p0:=hc.1.1
    have p1:=hc.1.2.1
    have p2:=hc.1.2.2.1
    have p3:=hc.1.2.2.2
    clear hc
    go_simp
    refine hK.out _ _ ⟨_,_,_,_,_,_,_,_,_,_,?_,Slot.new _ _ _,s1.keep rfl,s2.keep rfl,s3.keep rfl,s4.keep rfl,s5.keep rfl,s6.keep rfl,s7.keep rfl,s8.keep rfl,s9.keep rfl,O0.keep (Off.refl _ wr) rfl,P1_10.keep rfl,hO⟩
    simp only[XP]
   ·subst ha
    have hZ:=O0.was (P1_10 hl)
    obtain⟨p0,p1,p2,p3⟩:=cells4 hZ
    clear hZ
    go_simp
    refine hK.out _ _ ⟨_,_,_,_,_,_,_,_,_,_,?_,s0.keep rfl,Slot.new _ _ _,s2.keep rfl,s3.keep rfl,s4.keep rfl,s5.keep rfl,s6.keep rfl,s7.keep rfl,s8.keep rfl,s9.keep rfl,O0.keep (Off.refl _ wr) rfl,P1_10.keep rfl,hO⟩
    simp only[XP]
   ·subst ha
    have hc:=HK.out wr hO
    have p0:=hc.1.1
    have p1:=hc.1.2.1
    have p2:=hc.1.2.2.1
    have p3:=hc.1.2.2.2
    clear hc
    go_simp
    refine hK.out _ _ ⟨_,_,_,_,_,_,_,_,_,_,?_,s0.keep rfl,s1.keep rfl,Slot.new _ _ _,s3.keep rfl,s4.keep rfl,s5.keep rfl,s6.keep rfl,s7.keep rfl,s8.keep rfl,s9.keep rfl,O0.keep (Off.refl _ wr) rfl,P1_10.keep rfl,hO⟩
    simp only[XP]
   ·subst ha
    go_simp
    refine hK.out _ _ ⟨_,_,_,_,_,_,_,_,_,_,?_,s0.keep rfl,s1.keep rfl,s2.keep rfl,Slot.new _ _ _,s4.keep rfl,s5.keep rfl,s6.keep rfl,s7.keep rfl,s8.keep rfl,s9.keep rfl,O0.keep (Off.refl _ wr) rfl,P1_10.keep rfl,hO⟩
    simp only[XP]
   ·subst ha
    go_simp
    refine hK.out _ _ ⟨_,_,_,_,_,_,_,_,_,_,?_,s0.keep rfl,s1.keep rfl,s2.keep rfl,s3.keep rfl,Slot.new _ _ _,s5.keep rfl,s6.keep rfl,s7.keep rfl,s8.keep rfl,s9.keep rfl,O0.keep (Off.refl _ wr) rfl,P1_10.keep rfl,hO⟩
    simp only[XP]
   ·have q3:=s3 (hd 3 (by decide))
    have q4:=s4 (hd 4 (by decide))
    subst ha q3 q4
    go_simp
    refine hK.out _ _ ⟨_,_,_,_,_,_,_,_,_,_,?_,s0.keep rfl,s1.keep rfl,s2.keep rfl,s3.keep rfl,s4.keep rfl,Slot.new _ _ _,s6.keep rfl,s7.keep rfl,s8.keep rfl,s9.keep rfl,O0.keep (Off.refl _ wr) rfl,P1_10.keep rfl,hO⟩
    simp only[XP]
   ·have q5:=s5 (hd 5 (by decide))
    subst ha q5
    have hc:=HK.out wr hO
    have p0:=hc.2.2.1.1
    have p1:=hc.2.2.1.2.1
    have p2:=hc.2.2.1.2.2.1
    have p3:=hc.2.2.1.2.2.2
    clear hc
    go_simp
    refine hK.out _ _ ⟨_,_,_,_,_,_,_,_,_,_,?_,s0.keep rfl,s1.keep rfl,s2.keep rfl,s3.keep rfl,s4.keep rfl,s5.keep rfl,Slot.new _ _ _,s7.keep rfl,s8.keep rfl,s9.keep rfl,O0.keep (Off.refl _ wr) rfl,P1_10.keep rfl,hO⟩
    simp only[XP]
   ·subst ha
    have hc:=HK.out wr hO
    have p0:=hc.2.1.1
    have p1:=hc.2.1.2.1
    have p2:=hc.2.1.2.2.1
    have p3:=hc.2.1.2.2.2
    clear hc
    go_simp
    refine hK.out _ _ ⟨_,_,_,_,_,_,_,_,_,_,?_,s0.keep rfl,s1.keep rfl,s2.keep rfl,s3.keep rfl,s4.keep rfl,s5.keep rfl,s6.keep rfl,Slot.new _ _ _,s8.keep rfl,s9.keep rfl,O0.keep (Off.refl _ wr) rfl,P1_10.keep rfl,hO⟩
    simp only[XP]
   ·have q2:=s2 (hd 2 (by decide))
    have q6:=s6 (hd 6 (by decide))
    have q7:=s7 (hd 7 (by decide))
    subst ha q2 q6 q7
    go_simp
    refine(held_inv (HMu.out wr) hO).mono ?_
    rintro e w1 ⟨rfl,hO1,hOW⟩
    go_wp2_with fail
    refine hK.out _ _ ⟨_,_,_,_,_,_,_,_,_,_,?_,s0.keep rfl,s1.keep rfl,s2.keep rfl,s3.keep rfl,s4.keep rfl,s5.keep rfl,s6.keep rfl,s7.keep rfl,Slot.new _ _ _,s9.keep rfl,O0.keep hOW rfl,P1_10.keep rfl,hO1⟩
    simp only[XP]
   ·have q0:=s0 (hd 0 (by decide))
    have q1:=s1 (hd 1 (by decide))
    have q8:=s8 (hd 8 (by decide))
    subst ha q0 q1 q8
    go_simp
    refine(held_inv (HAd.out wr) hO).mono ?_
    rintro e w1 ⟨rfl,hO1,hOW⟩
    go_wp2_with fail
    refine hK.out _ _ ⟨_,_,_,_,_,_,_,_,_,_,?_,s0.keep rfl,s1.keep rfl,s2.keep rfl,s3.keep rfl,s4.keep rfl,s5.keep rfl,s6.keep rfl,s7.keep rfl,s8.keep rfl,Slot.new _ _ _,O0.keep hOW rfl,P1_10.keep rfl,hO1⟩
    simp only[XP]
   ·have q9:=s9 (hd 9 (by decide))
    subst ha q9
    have hZ:=(O0.was hl)
    obtain⟨m0,m1,m2,m3⟩:=cells4 hZ
    have fz:=fun j=>frozen_of_heap hZ j
    have lt:=heap_lt hZ
    clear hZ
    go_simp
    refine hK.out _ _ ⟨_,_,_,_,_,_,_,_,_,_,?_,s0.keep rfl,s1.keep rfl,s2.keep rfl,s3.keep rfl,s4.keep rfl,s5.keep rfl,s6.keep rfl,s7.keep rfl,s8.keep rfl,s9.keep rfl,O0.put hl rfl,Dep.at (hd 1 (by decide)),setCells_in hO (fun _=>rfl) [.int .u64 (wd z 0),.int .u64 (wd z 1),.int .u64 (wd z 2),.int .u64 (wd z 3)]⟩
    simp only[XP]
   intro l a wc hI hd
   obtain⟨u17,u18,u19,u20,u21,u22,u23,u24,u25,u26,ha,s0,s1,s2,s3,s4,s5,s6,s7,s8,s9,O0,P1_10,hO⟩:=hI
   simp only[XP]at ha
   have q0:=s0 (hd 0 (by decide))
   have q1:=s1 (hd 1 (by decide))
   have q2:=s2 (hd 2 (by decide))
   have q3:=s3 (hd 3 (by decide))
   have q4:=s4 (hd 4 (by decide))
   have q5:=s5 (hd 5 (by decide))
   have q6:=s6 (hd 6 (by decide))
   have q7:=s7 (hd 7 (by decide))
   have q8:=s8 (hd 8 (by decide))
   have q9:=s9 (hd 9 (by decide))
   have r0:wc.heap[b7]?=some (.cells #[.int .u64 (wd z 0),.int .u64 (wd z 1),.int .u64 (wd z 2),.int .u64 (wd z 3)] 33):=O0.now (hd 10 (by decide))
   subst ha q0 q1 q2 q3 q4 q5 q6 q7 q8 q9
   clear hd s0 s1 s2 s3 s4 s5 s6 s7 s8 s9 O0 P1_10
   have hb:=HB.out
   have q1:=hO.heap HE.out.fp (by omega)
   have q2:=hO.heap HE.out.fx (by omega)
   have q3:=hO.heap HE.out.fr (by omega)
   have q4:=hO.heap HE.out.fw (by omega)
   obtain⟨p0,p1,p2',p3⟩:=cells4 q1
   obtain⟨x0,x1,x2,x3⟩:=cells4 q2
   obtain⟨w0,w1,w2,w3⟩:=cells4 q4
   have hO5:=HE.out.off.trans hO (fun k hk e=>by omega)
   have Q1:=hid q1
   have Q2:=hid q2
   have Q3:=hid q3
   have Q4:=hid q4
   have R0:=hid r0
   have HO5:=hid hO5
   clear q1 q2 q3 q4 r0 hO hO5 hb
   go_wp2_with fail
   clear p0 p1 p2' p3 x0 x1 x2 x3 w0 w1 w2 w3
   refine(HM2.out _).mono ?_
   rintro e u2 ⟨rfl,hO6⟩
   have s4:=hO6.heap Q4.out (fun c=>c)
   obtain⟨m0,m1,m2,m3⟩:=cells4 s4
   have fz:=fun j=>frozen_of_heap s4 j
   have lt:=heap_lt s4
   have HO6:=hid hO6
   have S4:=hid s4
   clear hO6 s4
   go_wp2_with fail
   go_roundw
   case rel =>
    have hO7:Off (fun k=>k=b8) u2 (u2.setCells b8 0 (words4 p2)):=setCells_off b8 (words4 p2) 0 u2
    refine⟨k+1,by omega,by simp,?_⟩
    rw[<-HZ.out,<-HP2.out]
    have hb:=HB.out
    exact⟨hO7.heap (HO6.out.heap Q1.out (fun c=>c)) (by omega),hO7.heap (HO6.out.heap Q2.out (fun c=>c)) (by omega),hO7.heap (HO6.out.heap Q3.out (fun c=>c)) (by omega),hO7.heap (HO6.out.heap R0.out (fun c=>c)) (by omega),setCells_at (vs:=words4 p2) S4.out rfl,(HO5.out.trans HO6.out (fun _ _ c=>c)).trans hO7 (fun k hk e=>by omega)⟩
   case measure=>simp[intOf] <;> omega
  obtain rfl:k=n:=by omega
  have hv:sg (fun i=>xs.getD i 0) k x%p=pv xs x%p:=by rw[pv_sg xs x (Nat.le_refl _),HN.out]
  rw[hv]at hE
  obtain⟨z,hz⟩:∃ z,z=pv xs x%p:=⟨_,rfl⟩
  rw[<-hz]at hE
  have HZ:=hid hz
  obtain⟨o0,o1,o2,o3⟩:=cells4 hE.fo
  obtain⟨m0,m1,m2,m3⟩:=cells4 hE.fr
  have fz:=fun j=>frozen_of_heap hE.fr j
  have lt:=heap_lt hE.fr
  have HE:=hid hE
  clear hE hz hv
  go_wp2_with fail
  refine bodyPost_ret (v:=V z) (by simp[results,Tryz.results51,go_sem,m0,m1,m2,m3]) rfl ⟨by rw[HZ.out],?_⟩
  exact off4 HE.out.off (by have hb:=HB.out;omega) _ _ _ _
end
section
open Go.RowKit
attribute [local go_sem ↓] Go.wp_at_zero Go.wp_at_succ
set_option maxRecDepth 100000
set_option maxHeartbeats 4000000
theorem own_base5 {w:World} {B B' size n:Nat} {T:TypeId} {v:Value} {xs:List Value} (h:w.ownsRow B T size v n xs) (hb:B'<=B):w.ownsRow B' T size v n xs :=
 ⟨h.1,h.2.imp id (fun⟨g,cap,cur,e,hB,r⟩=>⟨g,cap,cur,e,Nat.le_trans hb hB,r⟩)⟩
theorem point16 (m:Nat) (hm:m<256) (w:World) :
  Calls Tryz.prog 52 #[.int .i64 m] w fun e w'=>e=.returned (V m)/\Off (fun _=>False) w w':=by
 have hwm:IntKind.u64.wrap (m:Int)=(m:Int):=by rw[IntKind.wrap_u64];omega
 have hs:=lit_small m (by omega)
 go_enter Tryz.func52,Tryz.ntmps52
 go_wp2
 rw[hs]
 refine bodyPost_ret (v:=.agg #[.int .u64 m,.int .u64 0,.int .u64 0,.int .u64 0]) (by simp[results,Tryz.results52,go_sem]) rfl ⟨rfl,?_⟩
 exact(Off.refl _ w).alloc _
theorem refpay_any (p:Nat) (hp:p<R256) (h1p:1<p) (cs:List (List Nat)) (hcs:∀ c∈cs,∀ x∈c,x<p) (i:Nat) (hi:i<256) (hip:i<p) (v:Value) (w:World) (hL:LLs w v cs) :
  Calls Tryz.prog 21 #[V p,v,.int .i64 i] w fun e w'=>∃ a2 c2,e=.returned (.slice a2 cs.length c2)/\w'.ownsRow w.heap.size 34 4 (.slice a2 cs.length c2) cs.length (flat4 (payN p cs i))/\Off (fun _=>False) w w':=by
 obtain⟨j0,hj,hj0,hj1,hj2⟩:=info_parts elem_info
 have hz:=hL
 obtain⟨a,cap,rfl,hm1,_⟩:=hz
 obtain⟨m,hm⟩:∃ m,m=cs.length:=⟨_,rfl⟩
 rw[<-hm]at hL hm1 ⊢
 obtain⟨w0,hw0⟩:∃ w0,w0=w.alloc (.cells #[.int .u64 (wd p 0),.int .u64 (wd p 1),.int .u64 (wd p 2),.int .u64 (wd p 3)] 33):=⟨_,rfl⟩
 have hO0:Off (fun _=>False) w w0:=by rw[hw0];exact(Off.refl _ w).alloc _
 have g0:w0.heap[w.heap.size]?=some (.cells #[.int .u64 (wd p 0),.int .u64 (wd p 1),.int .u64 (wd p 2),.int .u64 (wd p 3)] 33 (0,0)):=by rw[hw0];exact heap_new' rfl _
 have HL:=hid hL
 have HO0:=hid hO0
 have HG0:=hid g0
 have HM:=hid hm
 have HCS:=hid hcs
 have HW0:=hid hw0
 have FP:=hid (fun W=>point16 i hi W)
 clear hL hO0 g0 hm hcs hw0
 go_enter Tryz.func21,Tryz.ntmps21
 go_wp2
 rw[<-HW0.out]
 go_loopw [7,8] (fun u j wr=>∃ k:Nat,k<=m/\j=.int .i64 k/\(∃ a c2,u=.slice a k c2/\wr.ownsRow (w.heap.size+1) 34 4 u k (flat4 (payN p (cs.take k) i)))/\wr.heap[w.heap.size]?=some (.cells #[.int .u64 (wd p 0),.int .u64 (wd p 1),.int .u64 (wd p 2),.int .u64 (wd p 3)] 33 (0,0))/\Off (fun _=>False) w wr) (fun _ j _=>m-(intOf j).toNat)
 case atStart=>exact⟨0,Nat.zero_le _,rfl,⟨none,0,rfl,World.ownsRow_nil _ _ _ _⟩,HG0.out,HO0.out⟩
 case round =>
  obtain⟨k,hk,rfl,⟨va,vc,rfl,hov⟩,hg,hO⟩:=hrel
  obtain⟨wq,hwq⟩:∃ wq,wq=wr:=⟨_,rfl⟩
  subst hwq
  by_cases hlt:k<m
  ·obtain⟨c,hc⟩:∃ c,cs[k]?=some c:=⟨_,List.getElem?_eq_getElem (by rw[<-HM.out];exact hlt)⟩
   have hcp:=HCS.out c (List.mem_of_getElem? hc)
   obtain⟨b,off,a1,c1,rfl,_,u0,hl1⟩:=(LLsAt.get (HL.out.off hO) hc)
   obtain⟨n1,hn1⟩:∃ n1,n1=c.length:=⟨_,rfl⟩
   obtain⟨v,hv⟩:∃ v,v=pv c i%p:=⟨_,rfl⟩
   have FE:=hid (fun W (h:Off (fun _=>False) wq W)=>refeval_any hp h1p c hcp i hip (.slice a1 c.length c1) W ((Ls.of hl1).off h))
   rw[<-hn1]at u0
   rw[<-hn1,<-hv]at FE
   have hvR:v<R256:=by rw[hv];exact Nat.lt_trans (Nat.mod_lt _ (by omega)) hp
   obtain⟨z,hz⟩:∃ z,z=fm p v:=⟨_,rfl⟩
   have FF:=hid (fun W=>form_any p v hp h1p hvR W)
   rw[<-hz]at FF
   have HFl:=hid (show flat4 (payN p (cs.take k) i)++words4 z=flat4 (payN p (cs.take (k+1)) i) by
    rw[List.take_add_one,hc]
    unfold payN
    rw[List.map_append,flat4_append,hz,hv]
    rfl)
   have HK:Hid (∀ W,Off (fun _=>False) wq W->(W.cell? ⟨w.heap.size,0,none⟩=some (.int .u64 (wd p 0))/\W.cell? ⟨w.heap.size,1,none⟩=some (.int .u64 (wd p 1))/\W.cell? ⟨w.heap.size,2,none⟩=some (.int .u64 (wd p 2))/\W.cell? ⟨w.heap.size,3,none⟩=some (.int .u64 (wd p 3)))/\W.cell? ⟨b,off+k,none⟩=some (.slice a1 n1 c1)/\Off (fun _=>False) wq W) :=
    hid (fun W h=>⟨cells4 (h.heap hg (fun c=>c)),h.cell u0 (fun c=>c),h⟩)
   have HKb:=hid (show k+1<=1000/\k<m from⟨by omega,hlt⟩)
   have HO:=hid hO
   have HG:=hid hg
   have HOv:=hid hov
   have hkm:(k:Int)<(m:Int):=by omega
   have hHp:=hp
   clear hc hcp u0 hl1 hn1 hv hz hO hov hk hg
   go_upto_region 5 with fail
   refine wp_region_inv (fun a0 l a' w'=>∃ (u16:Value) (u17:Value) (u18:Value) (u19:Value) (u20:Value) (u21:Value) (u22:Value) (u23:Value) (u9:Value) (b9:Nat),a'=(Act.put (Act.put (Act.put (Act.put (Act.put (Act.put (Act.put (Act.put (Act.put a0 (some 16) u16) (some 17) u17) (some 18) u18) (some 19) u19) (some 20) u20) (some 21) u21) (some 22) u22) (some 23) u23) (some 9) u9)/\Slot l 0 u16 (V p)/\Slot l 1 u17 (.slice (some ⟨b,off,none⟩) m cap)/\Slot l 2 u18 (.int .i64 k)/\Slot l 3 u19 (.pointer (some ⟨b,off+k,none⟩))/\Slot l 4 u20 (.slice a1 n1 c1)/\Slot l 5 u21 (.int .i64 i)/\Slot l 6 u22 (V i)/\Slot l 7 u23 (V v)/\Blk l 8 9 u9 b9 wq w' (.cells #[.int .u64 0,.int .u64 0,.int .u64 0,.int .u64 0] 33) (.cells #[.int .u64 (wd v 0),.int .u64 (wd v 1),.int .u64 (wd v 2),.int .u64 (wd v 3)] 33)/\Off (fun _=>False) wq w') (by kernel_rfl) (by kernel_rfl) ?_ ⟨?_,?_,?_,?_,?_,?_,?_,?_,?_,?_,trivial⟩ ?_
   ·refine⟨?z16,?z17,?z18,?z19,?z20,?z21,?z22,?z23,?z9,0,?fr,Slot.start _ _ _,Slot.start _ _ _,Slot.start _ _ _,Slot.start _ _ _,Slot.start _ _ _,Slot.start _ _ _,Slot.start _ _ _,Slot.start _ _ _,Blk.start _ _ _ _ _ _ _ _,(Off.refl _ wq).drew⟩
    case fr=>first | (simp only[XP];rfl) | simp only[XP]
   all_goals try (intro l a wr hI hl hd K' hK;obtain⟨u16,u17,u18,u19,u20,u21,u22,u23,u9,b9,ha,s0,s1,s2,s3,s4,s5,s6,s7,B8,hO⟩:=hI;simp only[XP]at ha)
   ·subst ha
    have hc:=HK.out wr hO
    have p0:=hc.1.1
    have p1:=hc.1.2.1
    have p2:=hc.1.2.2.1
    have p3:=hc.1.2.2.2
    clear hc
    go_simp
    refine hK.out _ _ ⟨_,_,_,_,_,_,_,_,_,_,?_,Slot.new _ _ _,s1.keep rfl,s2.keep rfl,s3.keep rfl,s4.keep rfl,s5.keep rfl,s6.keep rfl,s7.keep rfl,B8.keep (Off.refl _ wr) rfl rfl,hO⟩
    simp only[XP]
   ·subst ha
    go_simp
    refine hK.out _ _ ⟨_,_,_,_,_,_,_,_,_,_,?_,s0.keep rfl,Slot.new _ _ _,s2.keep rfl,s3.keep rfl,s4.keep rfl,s5.keep rfl,s6.keep rfl,s7.keep rfl,B8.keep (Off.refl _ wr) rfl rfl,hO⟩
    simp only[XP]
   ·subst ha
    go_simp
    refine hK.out _ _ ⟨_,_,_,_,_,_,_,_,_,_,?_,s0.keep rfl,s1.keep rfl,Slot.new _ _ _,s3.keep rfl,s4.keep rfl,s5.keep rfl,s6.keep rfl,s7.keep rfl,B8.keep (Off.refl _ wr) rfl rfl,hO⟩
    simp only[XP]
   ·have q1:=s1 (hd 1 (by decide))
    have q2:=s2 (hd 2 (by decide))
    subst ha q1 q2
    go_simp
    refine hK.out _ _ ⟨_,_,_,_,_,_,_,_,_,_,?_,s0.keep rfl,s1.keep rfl,s2.keep rfl,Slot.new _ _ _,s4.keep rfl,s5.keep rfl,s6.keep rfl,s7.keep rfl,B8.keep (Off.refl _ wr) rfl rfl,hO⟩
    simp only[XP]
   ·have q3:=s3 (hd 3 (by decide))
    subst ha q3
    have hc:=HK.out wr hO
    have p0:=hc.2.1
    clear hc
    go_simp
    refine hK.out _ _ ⟨_,_,_,_,_,_,_,_,_,_,?_,s0.keep rfl,s1.keep rfl,s2.keep rfl,s3.keep rfl,Slot.new _ _ _,s5.keep rfl,s6.keep rfl,s7.keep rfl,B8.keep (Off.refl _ wr) rfl rfl,hO⟩
    simp only[XP]
   ·subst ha
    go_simp
    refine hK.out _ _ ⟨_,_,_,_,_,_,_,_,_,_,?_,s0.keep rfl,s1.keep rfl,s2.keep rfl,s3.keep rfl,s4.keep rfl,Slot.new _ _ _,s6.keep rfl,s7.keep rfl,B8.keep (Off.refl _ wr) rfl rfl,hO⟩
    simp only[XP]
   ·have q5:=s5 (hd 5 (by decide))
    subst ha q5
    go_simp
    refine(held_inv (FP.out wr) hO).mono ?_
    rintro e w1 ⟨rfl,hO1,hOW⟩
    go_wp2_with fail
    refine hK.out _ _ ⟨_,_,_,_,_,_,_,_,_,_,?_,s0.keep rfl,s1.keep rfl,s2.keep rfl,s3.keep rfl,s4.keep rfl,s5.keep rfl,Slot.new _ _ _,s7.keep rfl,B8.keep hOW rfl rfl,hO1⟩
    simp only[XP]
   ·have q0:=s0 (hd 0 (by decide))
    have q4:=s4 (hd 4 (by decide))
    have q6:=s6 (hd 6 (by decide))
    subst ha q0 q4 q6
    go_simp
    refine(held_inv (FE.out wr hO) hO).mono ?_
    rintro e w1 ⟨rfl,hO1,hOW⟩
    go_wp2_with fail
    refine hK.out _ _ ⟨_,_,_,_,_,_,_,_,_,_,?_,s0.keep rfl,s1.keep rfl,s2.keep rfl,s3.keep rfl,s4.keep rfl,s5.keep rfl,s6.keep rfl,Slot.new _ _ _,B8.keep hOW rfl rfl,hO1⟩
    simp only[XP]
   ·subst ha
    go_simp
    refine hK.out _ _ ⟨_,_,_,_,_,_,_,_,_,_,?_,s0.keep rfl,s1.keep rfl,s2.keep rfl,s3.keep rfl,s4.keep rfl,s5.keep rfl,s6.keep rfl,s7.keep rfl,B8.make hl rfl hO,hO.alloc _⟩
    simp only[XP]
   ·have h8:=hd 8 (by decide)
    have q8:=B8.ptr h8
    have q7:=s7 (hd 7 (by decide))
    subst ha q8 q7
    obtain⟨⟨m0,m1,m2,m3⟩,fz,lt⟩:=zero_cells (B8.was h8 hl)
    go_simp
    refine hK.out _ _ ⟨_,_,_,_,_,_,_,_,_,_,?_,s0.keep rfl,s1.keep rfl,s2.keep rfl,s3.keep rfl,s4.keep rfl,s5.keep rfl,s6.keep rfl,s7.keep rfl,B8.put hl h8 rfl rfl,setCells_in hO (fun c=>absurd c (Nat.not_lt.2 (B8.new h8))) [.int .u64 (wd v 0),.int .u64 (wd v 1),.int .u64 (wd v 2),.int .u64 (wd v 3)]⟩
    simp only[XP]
   intro l a wc hI hd
   obtain⟨u16,u17,u18,u19,u20,u21,u22,u23,u9,b9,ha,s0,s1,s2,s3,s4,s5,s6,s7,B8,hO⟩:=hI
   simp only[XP]at ha
   have q0:=s0 (hd 0 (by decide))
   have q1:=s1 (hd 1 (by decide))
   have q2:=s2 (hd 2 (by decide))
   have q3:=s3 (hd 3 (by decide))
   have q4:=s4 (hd 4 (by decide))
   have q5:=s5 (hd 5 (by decide))
   have q6:=s6 (hd 6 (by decide))
   have q7:=s7 (hd 7 (by decide))
   have q8:=B8.ptr (hd 8 (by decide))
   have n9:wc.heap[b9]?=some (.cells #[.int .u64 (wd v 0),.int .u64 (wd v 1),.int .u64 (wd v 2),.int .u64 (wd v 3)] 33):=B8.now (hd 8 (by decide)) (hd 9 (by decide))
   have v9:=B8.new (hd 8 (by decide))
   subst ha q0 q1 q2 q3 q4 q5 q6 q7 q8
   clear hd s0 s1 s2 s3 s4 s5 s6 s7 B8
   have HO1:=hid hO
   clear hO
   obtain⟨W1,hW1⟩:∃ W1,W1=wc:=⟨_,rfl⟩
   rw[<-hW1]
   rw[<-hW1]at n9 HO1
   clear hW1
   obtain⟨q0,q1,q2,q3⟩:=cells4 n9
   obtain⟨p0,p1,p2,p3⟩:=(HK.out _ HO1.out).1
   have lb:=heap_lt n9
   have lp:=World.block_lt_of_cell? W1 _ p0
   clear n9
   go_wp2_with fail
   refine(FF.out _).mono ?_
   rintro e u2 ⟨rfl,hO⟩
   have HO2:=hid (HO.out.trans (HO1.out.trans hO (fun _ _ c=>c)) (fun _ _ c=>c))
   have HOv2:=hid (own_off HOv.out (HO1.out.trans hO (fun _ _ c=>c)))
   have HO21:=hid (HO1.out.trans hO (fun _ _ c=>c))
   clear hO q0 q1 q2 q3 p0 p1 p2 p3 lb lp
   go_wp2_with (at_builtin;refine wpList_append_own _ rfl _ _ 25 rfl (w.heap.size+1) 34 j0 _ 4 32 Tryz.underlying25 hj hj0 hj1 hj2 rfl (by decide) _ k _ rfl (HOv2.out.alloc _) ⟨u2.heap.size,0,none⟩ 1 1 (words4 z) rfl rfl ?q1 (words4_one _) ?q2 ?q3 ?q4 ?_)
   case q1=>exact words4_at (heap_new' rfl _)
   case q2=>have:=HKb.out;unfold maxLen;omega
   case q3=>have:=HKb.out;omega
   case q4=>have:=Nat.lt_of_lt_of_le (heap_lt HG.out) HO21.out.size;simp;omega
   intro v' w1 hown' hgrow hnil
   obtain⟨g6,c6,rfl⟩:=ownsRow_succ hown'
   have hO3:Off (fun _=>False) w w1:=grown_off (HO2.out.alloc _) (Nat.le_succ _) (HOv2.out.alloc _) hgrow
   rw[HFl.out]at hown'
   have w2:IntKind.i64.wrap ((k:Int)+1)=(k:Int)+1:=by rw[IntKind.wrap_i64];have:=HKb.out;omega
   have HG4:=hid (show w1.heap[w.heap.size]?=some (.cells #[.int .u64 (wd p 0),.int .u64 (wd p 1),.int .u64 (wd p 2),.int .u64 (wd p 3)] 33 (0,0)) from(hgrow.block w.heap.size (heap_lt (heap_old' (HO21.out.heap HG.out (fun c=>c)) _)) (fun e=>by have:=(World.ownsRow.lt HOv2.out _ e.symm).1;omega)).trans (heap_old' (HO21.out.heap HG.out (fun c=>c)) _))
   have HO4:=hid hO3
   clear hO3
   go_wp2
   go_roundw
   case rel=>exact⟨k+1,by have:=HKb.out;omega,by simp,⟨_,_,rfl,hown'⟩,HG4.out,HO4.out⟩
   case measure=>simp[intOf];have:=HKb.out;omega
  obtain rfl:m=k:=by omega
  have i1:¬(m:Int)<(m:Int):=by omega
  rw[List.take_of_length_le (by rw[<-HM.out];exact Nat.le_refl _)]at hov
  have HOv:=hid hov
  have HO:=hid hO
  clear hov hO hg
  go_wp2
  exact bodyPost_ret (v:=.slice va m vc) (by simp[results,Tryz.results21,go_sem]) rfl ⟨_,_,rfl,own_base5 HOv.out (Nat.le_succ _),HO.out⟩
end
end Go.Proofs.YtpfjgifcjengkaaGreatDoor
