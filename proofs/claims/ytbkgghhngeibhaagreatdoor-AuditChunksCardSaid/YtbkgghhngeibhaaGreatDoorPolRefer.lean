/-
  Lists of numbers or elements that lie somewhere; the statements' same; the reference's Eval of layer 8. Conditions: the modulus is a number above 1 of four words, the numbers lie below it.
  The reference's Add of layer 8. Conditions: the modulus is a number above 1 of four words, the numbers lie below it, the lists are short.
-/
import Derived.Test.YtbkgghhngeibhaaGreatDoorNumsT
import Derived.Test.YtbkgghhngeibhaaGreatDoorFieldGrp
import Derived.Test.YtbkgghhngeibhaaGreatDoorPolCore
import Derived.Test.YtbkgghhngeibhaaGreatDoorInvAll
import Derived.Deep.DeepCutAuto
import Derived.Deep.DrawnRows
import Derived.Deep.RegionHeld3
import Derived.Laws.AppendOwnNone
import Derived.Lib.Hide
import Derived.Lib.LaidTab
import Derived.Lib.Walk
import Derived.LoopIn
import Derived.LoopNIn
import Derived.MakeChecks
import Derived.OpenShut
import Derived.OwnWalkIn
import Derived.ProofKit
import Derived.RangeFuncBound
import Derived.RangeFuncNested
import Derived.Shelf.RegionOpen
import Derived.Shelf.Spec.BitsCarry
import Derived.StillTailTactics
import Derived.Test.YtbkgghhngeibhaaGreatDoorChecked
import Derived.WalkLawsBesides
import Derived.WalkSpells
namespace Go.Proofs.YtbkgghhngeibhaaGreatDoor
open Lib (hid)
section
open Go.RowKit
attribute [local go_sem ↓] Go.wp_at_zero Go.wp_at_succ
def Ls (w:World) (v:Value) (xs:List Nat):Prop:=LsAt w v xs (fun _=>True)
theorem Ls.off {w w':World} {v:Value} {xs:List Nat} (h:Ls w v xs) (ho:Off (fun _=>False) w w'):Ls w' v xs:=LsAt.off h ho (fun _ _ _ c=>c)
theorem Ls.lt {w:World} {v:Value} {xs:List Nat} (h:Ls w v xs):LsAt w v xs (fun k=>k<w.heap.size/\¬False):=LsAt.mono h (fun _ hk _=>⟨hk,fun c=>c⟩)
theorem Ls.of {w:World} {v:Value} {xs:List Nat} {S:Nat->Prop} (h:LsAt w v xs S):Ls w v xs:=h.mono (fun _ _ _=>trivial)
theorem Ls.open {w:World} {v:Value} {xs:List Nat} (h:Ls w v xs):∃ a cap,v=.slice a xs.length cap/\LsAt w (.slice a xs.length cap) xs (fun k=>k<w.heap.size/\¬False):=by
 have h2:=Ls.lt h
 obtain⟨a,cap,hv,_⟩:=h
 exact⟨a,cap,hv,hv▸h2⟩
theorem Ls.nil (w:World):Ls w (.slice none 0 0) []:=⟨none,0,rfl,Nat.zero_le _,fun h=>by simp at h⟩
theorem Slot.void {l:Nat->Bool} {i j:Nat} {u v:Value} (h:l j=false) (hk:(i==j)=false):Slot (upd l i) j u v:=fun hl=>by
 rw[upd_k l hk,h]at hl;cases hl
theorem Dep.via {l:Nat->Bool} {i s:Nat} (h:Dep l i s) (hs:l s=true):l i=true:=by
 cases hi:l i with
 | true=>rfl
 | false=>rw[h hi]at hs;cases hs
theorem LsAt.at {w:World} {a:Option Addr} {n cap:Nat} {xs:List Nat} {S:Nat->Prop} (h:LsAt w (.slice a n cap) xs S) {k:Nat} (hk:k<n):∃ x b off,xs[k]?=some x/\a=some ⟨b,off,none⟩/\elAt w b (off+k*4) x:=by
 obtain⟨hl,_⟩:=h.len
 have hx:xs[k]?=some xs[k]:=List.getElem?_eq_getElem (by omega)
 obtain⟨b,off,ha,_,hc⟩:=h.get hx
 exact⟨_,b,off,hx,ha,hc⟩
structure EvW (w W:World) (bp p bx x rb b7 u b8 pw:Nat):Prop where
 fp:W.heap[bp]?=some (.cells #[.int .u64 (wd p 0),.int .u64 (wd p 1),.int .u64 (wd p 2),.int .u64 (wd p 3)] 63 (0,0))
 fx:W.heap[bx]?=some (.cells #[.int .u64 (wd x 0),.int .u64 (wd x 1),.int .u64 (wd x 2),.int .u64 (wd x 3)] 63 (0,0))
 fr:W.heap[rb]?=some (.cells #[.int .u64 0,.int .u64 0,.int .u64 0,.int .u64 0] 63 (0,0))
 fo:W.heap[b7]?=some (.cells #[.int .u64 (wd u 0),.int .u64 (wd u 1),.int .u64 (wd u 2),.int .u64 (wd u 3)] 63 (0,0))
 fw:W.heap[b8]?=some (.cells #[.int .u64 (wd pw 0),.int .u64 (wd pw 1),.int .u64 (wd pw 2),.int .u64 (wd pw 3)] 63 (0,0))
 off:Off (fun _=>False) w W
set_option maxRecDepth 100000 in
set_option maxHeartbeats 4000000 in
theorem refeval_any {p:Nat} (hp:p<R256) (h1:1<p) (xs:List Nat) (hx:∀ v∈xs,v<p) (x:Nat) (hxp:x<p) (v:Value) (w:World) (hV:Ls w v xs) :
  Calls Tryz.prog 71 #[V p,v,V x] w fun e w'=>e=.returned (V (pv xs x%p))/\Off (fun _=>False) w w':=by
 obtain⟨a,cap,rfl,hL⟩:=hV.open
 clear hV
 obtain⟨n,hn⟩:∃ n,n=xs.length:=⟨_,rfl⟩
 rw[<-hn]at hL ⊢
 have HM:=hid (fun a b ha hb W=>mod_mul p a b hp h1 ha (Nat.lt_trans hb hp) W:∀ a b,a<p->b<p->∀ W,_)
 have HA:=hid (fun a b ha hb W=>mod_add p a b hp ha hb W:∀ a b,a<p->b<p->∀ W,_)
 obtain⟨o1,ho1⟩:∃ o1,o1=1:=⟨_,rfl⟩
 have HO1:=hid (fun W=>by have h:=mod_one W;rw[<-ho1]at h;exact h)
 have Ho1:=hid ho1
 clear ho1
 have HN:=hid hn
 have HL:=hid hL
 have hn2:=hL.len.2
 clear hn hL
 go_enter Tryz.func71,Tryz.ntmps71
 go_wp2_with fail
 refine(HO1.out _).mono ?_
 rintro e u0 ⟨rfl,hO⟩
 have hOa:Off (fun _=>False) w u0:=((((Off.refl _ w).alloc _).alloc _).alloc _).alloc _ |>.trans hO (fun _ _ c=>c)
 have g_p:u0.heap[w.heap.size]?=some (.cells #[.int .u64 (wd p 0),.int .u64 (wd p 1),.int .u64 (wd p 2),.int .u64 (wd p 3)] 63):=hO.heap (heap_old' (heap_old' (heap_old' (heap_new' rfl _) _) _) _) (fun c=>c)
 have g_x:u0.heap[w.heap.size+1]?=some (.cells #[.int .u64 (wd x 0),.int .u64 (wd x 1),.int .u64 (wd x 2),.int .u64 (wd x 3)] 63):=hO.heap (heap_old' (heap_old' (heap_new' (by simp) _) _) _) (fun c=>c)
 have g_r:u0.heap[w.heap.size+1+1]?=some (.cells #[.int .u64 0,.int .u64 0,.int .u64 0,.int .u64 0] 63):=hO.heap (heap_old' (heap_new' (by simp) _) _) (fun c=>c)
 have g_o:u0.heap[w.heap.size+1+1+1]?=some (.cells #[.int .u64 0,.int .u64 0,.int .u64 0,.int .u64 0] 63):=hO.heap (heap_new' (by simp) _) (fun c=>c)
 obtain⟨b7,hb7⟩:∃ b7,b7=w.heap.size+1+1+1:=⟨_,rfl⟩
 obtain⟨rb,hrb⟩:∃ rb,rb=w.heap.size+1+1:=⟨_,rfl⟩
 obtain⟨bx,hbx⟩:∃ bx,bx=w.heap.size+1:=⟨_,rfl⟩
 obtain⟨bp,hbp⟩:∃ bp,bp=w.heap.size:=⟨_,rfl⟩
 have hlt:=heap_lt g_o
 obtain⟨b8,hb8⟩:∃ b8,b8=u0.heap.size:=⟨_,rfl⟩
 have HB:=hid (show bp=w.heap.size/\bx=w.heap.size+1/\rb=w.heap.size+2/\b7=w.heap.size+3/\w.heap.size+3<b8 by omega)
 rw[<-hb7]at g_o
 rw[<-hrb]at g_r
 rw[<-hbx]at g_x
 rw[<-hbp]at g_p
 have HI:=hid (show ∀ W,W=u0.alloc (.cells #[.int .u64 (wd o1 0),.int .u64 (wd o1 1),.int .u64 (wd o1 2),.int .u64 (wd o1 3)] 63)->EvW w W bp p bx x rb b7 (sg (fun i=>xs.getD i 0) 0 x%p) b8 (x^0%p) from by
  rintro W rfl
  have h0:sg (fun i=>xs.getD i 0) 0 x%p=0:=Nat.zero_mod _
  have h1':x^0%p=o1:=by rw[Nat.pow_zero,Nat.mod_eq_of_lt h1,Ho1.out]
  rw[h0,h1']
  refine⟨heap_old' g_p _,heap_old' g_x _,heap_old' g_r _,by simp only[wd_zero];exact heap_old' g_o _,?_,hOa.alloc _⟩
  rw[hb8];exact heap_new' rfl _)
 clear hO hOa g_p g_x g_r g_o
 go_wp2_with fail
 rw[<-hb8,<-hb7,<-hrb,<-hbx,<-hbp]
 clear hb7 hrb hbx hbp hlt hb8
 go_loopw [9] (fun i wr=>∃ k:Nat,k<=n/\i=.int .i64 k/\EvW w wr bp p bx x rb b7 (sg (fun i=>xs.getD i 0) k x%p) b8 (x^k%p)) (fun i _=>n-(intOf i).toNat)
 case atStart=>exact⟨0,Nat.zero_le _,rfl,HI.out _ rfl⟩
 case round =>
  obtain⟨k,hk,rfl,hE⟩:=hrel
  by_cases hlt:k<n
  ·obtain⟨c,b,off,hck,rfl,c0,c1,c2,c3⟩:=(HL.out.off hE.off (fun _ _ _ c=>c)).at hlt
   have hcp:c<p:=hx c (List.mem_of_getElem? hck)
   have hfc:xs.getD k 0=c:=by rw[List.getD_eq_getElem?_getD,hck];rfl
   obtain⟨u,hu⟩:∃ u,u=sg (fun i=>xs.getD i 0) k x%p:=⟨_,rfl⟩
   obtain⟨pw,hpw⟩:∃ pw,pw=x^k%p:=⟨_,rfl⟩
   have hup:u<p:=by rw[hu];exact Nat.mod_lt _ (by omega)
   have hpp:pw<p:=by rw[hpw];exact Nat.mod_lt _ (by omega)
   obtain⟨m,hm⟩:∃ m,m=c*pw%p:=⟨_,rfl⟩
   obtain⟨z,hz⟩:∃ z,z=(u+m)%p:=⟨_,rfl⟩
   obtain⟨p2,hp2⟩:∃ p2,p2=pw*x%p:=⟨_,rfl⟩
   have hmp:m<p:=by rw[hm];exact Nat.mod_lt _ (by omega)
   have HMu:=hid (show ∀ W,Calls Tryz.prog 53 #[V p,V c,V pw] W fun e w'=>e=.returned (V m)/\Off (fun _=>False) W w' from fun W=>by rw[hm];exact HM.out c pw hcp hpp W)
   have HAd:=hid (show ∀ W,Calls Tryz.prog 32 #[V p,V u,V m] W fun e w'=>e=.returned (V z)/\Off (fun _=>False) W w' from fun W=>by rw[hz];exact HA.out u m hup hmp W)
   have HM2:=hid (show ∀ W,Calls Tryz.prog 53 #[V p,V pw,V x] W fun e w'=>e=.returned (V p2)/\Off (fun _=>False) W w' from fun W=>by rw[hp2];exact HM.out pw x hpp hxp W)
   have HZ:=hid (show z=sg (fun i=>xs.getD i 0) (k+1) x%p by rw[hz,hm,hpw,hu,<-sg_step,hfc])
   have HP2:=hid (show p2=x^(k+1)%p by rw[hp2,hpw,pow_step])
   rw[<-hu,<-hpw]at hE
   obtain⟨W1,hW1⟩:∃ W1,W1=wr:=⟨_,rfl⟩
   have HE:=hid hE
   have HPr:=hid hE.fo
   have HK:Hid (∀ W',Off (fun k=>k=b7) wr W'->(W'.cell? ⟨bp,0,none⟩=some (.int .u64 (wd p 0))/\W'.cell? ⟨bp,1,none⟩=some (.int .u64 (wd p 1))/\W'.cell? ⟨bp,2,none⟩=some (.int .u64 (wd p 2))/\W'.cell? ⟨bp,3,none⟩=some (.int .u64 (wd p 3)))/\(W'.cell? ⟨b8,0,none⟩=some (.int .u64 (wd pw 0))/\W'.cell? ⟨b8,1,none⟩=some (.int .u64 (wd pw 1))/\W'.cell? ⟨b8,2,none⟩=some (.int .u64 (wd pw 2))/\W'.cell? ⟨b8,3,none⟩=some (.int .u64 (wd pw 3)))/\(W'.cell? ⟨b,off+k*4,none⟩=some (.int .u64 (wd c 0))/\W'.cell? ⟨b,off+k*4+1,none⟩=some (.int .u64 (wd c 1))/\W'.cell? ⟨b,off+k*4+2,none⟩=some (.int .u64 (wd c 2))/\W'.cell? ⟨b,off+k*4+3,none⟩=some (.int .u64 (wd c 3)))/\Off (fun k=>k=b7) wr W'):=hid (fun W' h=>by
    have hb:=HB.out
    have hbn:b≠b7:=fun e=>by
     have:=(HL.out.at hlt);obtain⟨_,b2,off2,_,e2,d0,_⟩:=this
     cases e2;have:=World.block_lt_of_cell? w _ d0;simp at this;omega
    exact⟨cells4 (h.heap hE.fp (by omega)),cells4 (h.heap hE.fw (by omega)),⟨h.cell c0 hbn,h.cell c1 hbn,h.cell c2 hbn,h.cell c3 hbn⟩,h⟩)
   have hkn:(k:Int)<(n:Int):=by omega
   have hwk:IntKind.i64.wrap ((k:Int)+1)=(k:Int)+1:=by rw[IntKind.wrap_i64];omega
   clear hE hW1 W1 hck hcp hfc hu hpw hup hpp hm hz hp2 hmp c0 c1 c2 c3 HM HA
   go_upto_region 6 with fail
   refine wp_region_inv (fun a0 l a' w'=>∃ (u17:Value) (u18:Value) (u19:Value) (u20:Value) (u21:Value) (u22:Value) (u23:Value) (u24:Value) (u25:Value) (u26:Value),a'=(Act.put (Act.put (Act.put (Act.put (Act.put (Act.put (Act.put (Act.put (Act.put (Act.put a0 (some 17) u17) (some 18) u18) (some 19) u19) (some 20) u20) (some 21) u21) (some 22) u22) (some 23) u23) (some 24) u24) (some 25) u25) (some 26) u26)/\Slot l 0 u17 (V p)/\Slot l 1 u18 (V u)/\Slot l 2 u19 (V p)/\Slot l 3 u20 (.slice (some ⟨b,off,none⟩) n cap)/\Slot l 4 u21 (.int .i64 k)/\Slot l 5 u22 (.pointer (some ⟨b,off+k*4,none⟩))/\Slot l 6 u23 (V c)/\Slot l 7 u24 (V pw)/\Slot l 8 u25 (V m)/\Slot l 9 u26 (V z)/\Old l 10 b7 wr w' (.cells #[.int .u64 (wd u 0),.int .u64 (wd u 1),.int .u64 (wd u 2),.int .u64 (wd u 3)] 63) (.cells #[.int .u64 (wd z 0),.int .u64 (wd z 1),.int .u64 (wd z 2),.int .u64 (wd z 3)] 63)/\Dep l 1 10/\Off (fun k=>k=b7) wr w') (by kernel_rfl) (by kernel_rfl) ?_ ⟨?_,?_,?_,?_,?_,?_,?_,?_,?_,?_,?_,trivial⟩ ?_
   ·refine⟨?z17,?z18,?z19,?z20,?z21,?z22,?z23,?z24,?z25,?z26,?fr,Slot.start _ _ _,Slot.start _ _ _,Slot.start _ _ _,Slot.start _ _ _,Slot.start _ _ _,Slot.start _ _ _,Slot.start _ _ _,Slot.start _ _ _,Slot.start _ _ _,Slot.start _ _ _,Old.start HPr.out _ _,Dep.start _ _,(Off.refl _ wr).drew⟩
    case fr=>first | (simp only[XP];rfl) | simp only[XP]
   all_goals try (intro l a wr hI hl hd K' hK;obtain⟨u17,u18,u19,u20,u21,u22,u23,u24,u25,u26,ha,s0,s1,s2,s3,s4,s5,s6,s7,s8,s9,O0,P1_10,hO⟩:=hI;simp only[XP]at ha)
   ·subst ha
    have hc:=HK.out wr hO
    have p0:=hc.1.1
    have p1:=hc.1.2.1
    have p2:=hc.1.2.2.1
    have p3:=hc.1.2.2.2
    clear hc
    go_simp
    refine hK.out _ _ ⟨_,_,_,_,_,_,_,_,_,_,?_,Slot.new _ _ _,s1.keep rfl,s2.keep rfl,s3.keep rfl,s4.keep rfl,s5.keep rfl,s6.keep rfl,s7.keep rfl,s8.keep rfl,s9.keep rfl,O0.keep (Off.refl _ wr) rfl,P1_10.keep rfl,hO⟩
    simp only[XP]
   ·subst ha
    have hZ:=O0.was (P1_10 hl)
    obtain⟨p0,p1,p2,p3⟩:=cells4 hZ
    clear hZ
    go_simp
    refine hK.out _ _ ⟨_,_,_,_,_,_,_,_,_,_,?_,s0.keep rfl,Slot.new _ _ _,s2.keep rfl,s3.keep rfl,s4.keep rfl,s5.keep rfl,s6.keep rfl,s7.keep rfl,s8.keep rfl,s9.keep rfl,O0.keep (Off.refl _ wr) rfl,P1_10.keep rfl,hO⟩
    simp only[XP]
   ·subst ha
    have hc:=HK.out wr hO
    have p0:=hc.1.1
    have p1:=hc.1.2.1
    have p2:=hc.1.2.2.1
    have p3:=hc.1.2.2.2
    clear hc
    go_simp
    refine hK.out _ _ ⟨_,_,_,_,_,_,_,_,_,_,?_,s0.keep rfl,s1.keep rfl,Slot.new _ _ _,s3.keep rfl,s4.keep rfl,s5.keep rfl,s6.keep rfl,s7.keep rfl,s8.keep rfl,s9.keep rfl,O0.keep (Off.refl _ wr) rfl,P1_10.keep rfl,hO⟩
    simp only[XP]
   ·subst ha
    go_simp
    refine hK.out _ _ ⟨_,_,_,_,_,_,_,_,_,_,?_,s0.keep rfl,s1.keep rfl,s2.keep rfl,Slot.new _ _ _,s4.keep rfl,s5.keep rfl,s6.keep rfl,s7.keep rfl,s8.keep rfl,s9.keep rfl,O0.keep (Off.refl _ wr) rfl,P1_10.keep rfl,hO⟩
    simp only[XP]
   ·subst ha
    go_simp
    refine hK.out _ _ ⟨_,_,_,_,_,_,_,_,_,_,?_,s0.keep rfl,s1.keep rfl,s2.keep rfl,s3.keep rfl,Slot.new _ _ _,s5.keep rfl,s6.keep rfl,s7.keep rfl,s8.keep rfl,s9.keep rfl,O0.keep (Off.refl _ wr) rfl,P1_10.keep rfl,hO⟩
    simp only[XP]
   ·have q3:=s3 (hd 3 (by decide))
    have q4:=s4 (hd 4 (by decide))
    subst ha q3 q4
    go_simp
    refine hK.out _ _ ⟨_,_,_,_,_,_,_,_,_,_,?_,s0.keep rfl,s1.keep rfl,s2.keep rfl,s3.keep rfl,s4.keep rfl,Slot.new _ _ _,s6.keep rfl,s7.keep rfl,s8.keep rfl,s9.keep rfl,O0.keep (Off.refl _ wr) rfl,P1_10.keep rfl,hO⟩
    simp only[XP]
   ·have q5:=s5 (hd 5 (by decide))
    subst ha q5
    have hc:=HK.out wr hO
    have p0:=hc.2.2.1.1
    have p1:=hc.2.2.1.2.1
    have p2:=hc.2.2.1.2.2.1
    have p3:=hc.2.2.1.2.2.2
    clear hc
    go_simp
    refine hK.out _ _ ⟨_,_,_,_,_,_,_,_,_,_,?_,s0.keep rfl,s1.keep rfl,s2.keep rfl,s3.keep rfl,s4.keep rfl,s5.keep rfl,Slot.new _ _ _,s7.keep rfl,s8.keep rfl,s9.keep rfl,O0.keep (Off.refl _ wr) rfl,P1_10.keep rfl,hO⟩
    simp only[XP]
   ·subst ha
    have hc:=HK.out wr hO
    have p0:=hc.2.1.1
    have p1:=hc.2.1.2.1
    have p2:=hc.2.1.2.2.1
    have p3:=hc.2.1.2.2.2
    clear hc
    go_simp
    refine hK.out _ _ ⟨_,_,_,_,_,_,_,_,_,_,?_,s0.keep rfl,s1.keep rfl,s2.keep rfl,s3.keep rfl,s4.keep rfl,s5.keep rfl,s6.keep rfl,Slot.new _ _ _,s8.keep rfl,s9.keep rfl,O0.keep (Off.refl _ wr) rfl,P1_10.keep rfl,hO⟩
    simp only[XP]
   ·have q2:=s2 (hd 2 (by decide))
    have q6:=s6 (hd 6 (by decide))
    have q7:=s7 (hd 7 (by decide))
    subst ha q2 q6 q7
    go_simp
    refine(held_inv (HMu.out wr) hO).mono ?_
    rintro e w1 ⟨rfl,hO1,hOW⟩
    go_wp2_with fail
    refine hK.out _ _ ⟨_,_,_,_,_,_,_,_,_,_,?_,s0.keep rfl,s1.keep rfl,s2.keep rfl,s3.keep rfl,s4.keep rfl,s5.keep rfl,s6.keep rfl,s7.keep rfl,Slot.new _ _ _,s9.keep rfl,O0.keep hOW rfl,P1_10.keep rfl,hO1⟩
    simp only[XP]
   ·have q0:=s0 (hd 0 (by decide))
    have q1:=s1 (hd 1 (by decide))
    have q8:=s8 (hd 8 (by decide))
    subst ha q0 q1 q8
    go_simp
    refine(held_inv (HAd.out wr) hO).mono ?_
    rintro e w1 ⟨rfl,hO1,hOW⟩
    go_wp2_with fail
    refine hK.out _ _ ⟨_,_,_,_,_,_,_,_,_,_,?_,s0.keep rfl,s1.keep rfl,s2.keep rfl,s3.keep rfl,s4.keep rfl,s5.keep rfl,s6.keep rfl,s7.keep rfl,s8.keep rfl,Slot.new _ _ _,O0.keep hOW rfl,P1_10.keep rfl,hO1⟩
    simp only[XP]
   ·have q9:=s9 (hd 9 (by decide))
    subst ha q9
    have hZ:=(O0.was hl)
    obtain⟨m0,m1,m2,m3⟩:=cells4 hZ
    have fz:=fun j=>frozen_of_heap hZ j
    have lt:=heap_lt hZ
    clear hZ
    go_simp
    refine hK.out _ _ ⟨_,_,_,_,_,_,_,_,_,_,?_,s0.keep rfl,s1.keep rfl,s2.keep rfl,s3.keep rfl,s4.keep rfl,s5.keep rfl,s6.keep rfl,s7.keep rfl,s8.keep rfl,s9.keep rfl,O0.put hl rfl,Dep.at (hd 1 (by decide)),setCells_in hO (fun _=>rfl) [.int .u64 (wd z 0),.int .u64 (wd z 1),.int .u64 (wd z 2),.int .u64 (wd z 3)]⟩
    simp only[XP]
   intro l a wc hI hd
   obtain⟨u17,u18,u19,u20,u21,u22,u23,u24,u25,u26,ha,s0,s1,s2,s3,s4,s5,s6,s7,s8,s9,O0,P1_10,hO⟩:=hI
   simp only[XP]at ha
   have q0:=s0 (hd 0 (by decide))
   have q1:=s1 (hd 1 (by decide))
   have q2:=s2 (hd 2 (by decide))
   have q3:=s3 (hd 3 (by decide))
   have q4:=s4 (hd 4 (by decide))
   have q5:=s5 (hd 5 (by decide))
   have q6:=s6 (hd 6 (by decide))
   have q7:=s7 (hd 7 (by decide))
   have q8:=s8 (hd 8 (by decide))
   have q9:=s9 (hd 9 (by decide))
   have r0:wc.heap[b7]?=some (.cells #[.int .u64 (wd z 0),.int .u64 (wd z 1),.int .u64 (wd z 2),.int .u64 (wd z 3)] 63):=O0.now (hd 10 (by decide))
   subst ha q0 q1 q2 q3 q4 q5 q6 q7 q8 q9
   clear hd s0 s1 s2 s3 s4 s5 s6 s7 s8 s9 O0 P1_10
   have hb:=HB.out
   have q1:=hO.heap HE.out.fp (by omega)
   have q2:=hO.heap HE.out.fx (by omega)
   have q3:=hO.heap HE.out.fr (by omega)
   have q4:=hO.heap HE.out.fw (by omega)
   obtain⟨p0,p1,p2',p3⟩:=cells4 q1
   obtain⟨x0,x1,x2,x3⟩:=cells4 q2
   obtain⟨w0,w1,w2,w3⟩:=cells4 q4
   have hO5:=HE.out.off.trans hO (fun k hk e=>by omega)
   have Q1:=hid q1
   have Q2:=hid q2
   have Q3:=hid q3
   have Q4:=hid q4
   have R0:=hid r0
   have HO5:=hid hO5
   clear q1 q2 q3 q4 r0 hO hO5 hb
   go_wp2_with fail
   clear p0 p1 p2' p3 x0 x1 x2 x3 w0 w1 w2 w3
   refine(HM2.out _).mono ?_
   rintro e u2 ⟨rfl,hO6⟩
   have s4:=hO6.heap Q4.out (fun c=>c)
   obtain⟨m0,m1,m2,m3⟩:=cells4 s4
   have fz:=fun j=>frozen_of_heap s4 j
   have lt:=heap_lt s4
   have HO6:=hid hO6
   have S4:=hid s4
   clear hO6 s4
   go_wp2_with fail
   go_roundw
   case rel =>
    have hO7:Off (fun k=>k=b8) u2 (u2.setCells b8 0 (words4 p2)):=setCells_off b8 (words4 p2) 0 u2
    refine⟨k+1,by omega,by simp,?_⟩
    rw[<-HZ.out,<-HP2.out]
    have hb:=HB.out
    exact⟨hO7.heap (HO6.out.heap Q1.out (fun c=>c)) (by omega),hO7.heap (HO6.out.heap Q2.out (fun c=>c)) (by omega),hO7.heap (HO6.out.heap Q3.out (fun c=>c)) (by omega),hO7.heap (HO6.out.heap R0.out (fun c=>c)) (by omega),setCells_at (vs:=words4 p2) S4.out rfl,(HO5.out.trans HO6.out (fun _ _ c=>c)).trans hO7 (fun k hk e=>by omega)⟩
   case measure=>simp[intOf] <;> omega
  obtain rfl:k=n:=by omega
  have hv:sg (fun i=>xs.getD i 0) k x%p=pv xs x%p:=by rw[pv_sg xs x (Nat.le_refl _),HN.out]
  rw[hv]at hE
  obtain⟨z,hz⟩:∃ z,z=pv xs x%p:=⟨_,rfl⟩
  rw[<-hz]at hE
  have HZ:=hid hz
  obtain⟨o0,o1,o2,o3⟩:=cells4 hE.fo
  obtain⟨m0,m1,m2,m3⟩:=cells4 hE.fr
  have fz:=fun j=>frozen_of_heap hE.fr j
  have lt:=heap_lt hE.fr
  have HE:=hid hE
  clear hE hz hv
  go_wp2_with fail
  refine bodyPost_ret (v:=V z) (by simp[results,Tryz.results71,go_sem,m0,m1,m2,m3]) rfl ⟨by rw[HZ.out],?_⟩
  exact off4 HE.out.off (by have hb:=HB.out;omega) _ _ _ _
end
section
open Go.RowKit
attribute [local go_sem ↓] Go.wp_at_zero Go.wp_at_succ
theorem vec_info:(Tryz.prog.info? 63).map (fun i=>(i.zero,i.size,i.bytes))=some (some (.agg #[.int .u64 0,.int .u64 0,.int .u64 0,.int .u64 0]),4,32):=by kernel_rfl
end
end Go.Proofs.YtbkgghhngeibhaaGreatDoor
