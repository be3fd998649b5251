/-
  Contracts of the reference's Digits and Vec over this seat's translation: the digits of 16 bits of a number of four words, and the number of sixteen digits. Conditions: as each says.
  Contracts of limb.IsZero, limb.Equal, limb.Less, limb.Choose and the reference's Less over this seat's translation: the masks of their conditions, and one of two numbers. Conditions: the arguments are numbers of four words.
  Contracts of limb.Bits and of the reference's Bit and Bits over this seat's translation: the bits of a number from a position on. Conditions: the number has four words.
  Two numbers of four words as '==' compares them, and some numbers written out. Conditions: as each says.
  An argument of four words, opened: it is the value of a number below 2^256. No condition.
-/
import Derived.Deep.DrawnRows
import Derived.Deep.RegionHeld3
import Derived.JoinedTies
import Derived.Laws.AppendOwnNone
import Derived.Lib.Hide
import Derived.Lib.Walk
import Derived.OpenShut
import Derived.RangeFuncNested
import Derived.Shelf.Spec.BitsCarry
import Derived.StillTailTactics
import Derived.Test.YtbkgghhngeibhaaGreatDoorChecked
import Derived.WalkLawsBesides
import Derived.WalkSpells
import Derived.Test.YtbkgghhngeibhaaGreatDoorLimbOps
import Derived.Test.YtbkgghhngeibhaaGreatDoorFrame
import Derived.Test.YtbkgghhngeibhaaGreatDoorPlainAll
import Derived.BigQuiet
import Derived.ProofKit
namespace Go.Proofs.YtbkgghhngeibhaaGreatDoor
open Lib (hid)
section
open Go.RowKit
end
section
open Go.RowKit

def zeroN (a:Nat):Bool:=decide (a=0)
def eqN (a b:Nat):Bool:=decide (a=b)
def lessN (a b:Nat):Bool:=decide (a<b)

theorem wd_zero_all {a:Nat} (ha:a<R256):zeroB [(wd a 0:Int),(wd a 1:Int),(wd a 2:Int),(wd a 3:Int)]=zeroN a:=by
 have h:=num4_wd ha
 unfold zeroB zeroN
 rw[Bool.eq_iff_iff]
 simp only[List.all_cons,List.all_nil,Bool.and_true,Bool.and_eq_true,decide_eq_true_eq]
 unfold num4 at h
 constructor
 ·rintro⟨h0,h1,h2,h3⟩
  have e0:wd a 0=0:=by omega
  have e1:wd a 1=0:=by omega
  have e2:wd a 2=0:=by omega
  have e3:wd a 3=0:=by omega
  rw[<-h,e0,e1,e2,e3];simp
 intro e
 subst e
 refine⟨?_,?_,?_,?_⟩ <;> simp[wd,dg]
theorem NumAt.words {w:World} {b n:Nat} (h:NumAt w b n):Words w (.slice (some ⟨b,0,none⟩) 4 4) [(wd n 0:Int),(wd n 1:Int),(wd n 2:Int),(wd n 3:Int)]:=by
 refine⟨_,_,rfl,by simp,?_,fun _=>⟨_,_,rfl,?_⟩⟩
 ·intro x hx
  simp at hx
  rcases hx with rfl | rfl | rfl | rfl <;> exact wd_word _ _
 intro j hj
 have:j=0\/j=1\/j=2\/j=3:=by simp at hj;omega
 rw[Nat.zero_add]
 rcases this with rfl | rfl | rfl | rfl <;> exact h.cell _ (by omega)

set_option maxHeartbeats 1000000 in
theorem limb_iszero (a:Nat) (ha:a<R256) (w:World) :
  Calls Tryz.prog 151 #[V a] w fun e w'=>e=.returned (.int .u64 (mk (zeroN a)))/\Off (fun _=>False) w w':=by
 have HZ:=hid (wd_zero_all ha)
 have HW:=hid (NumAt.words (heap_new' (w:=w) (n:=w.heap.size) rfl (.cells #[.int .u64 (wd a 0),.int .u64 (wd a 1),.int .u64 (wd a 2),.int .u64 (wd a 3)] 63)))
 clear ha
 go_enter Tryz.func151,Tryz.ntmps151
 go_wp2_with fail
 refine(iszero_any _ _ _ HW.out).mono ?_
 rintro e w' ⟨rfl,rfl⟩
 go_wp2
 go_ret
 exact⟨ret_u64 (by rw[HZ.out]),(Off.refl _ w).alloc _⟩
theorem odd_ltN (a b:Nat):oddB (ltN a b:Int)=lessN a b:=by
 unfold oddB ltN lessN;by_cases h:a<b <;> simp[h]
theorem ltN_word (a b:Nat):Word (ltN a b:Int):=by unfold ltN;split <;> exact⟨by omega,by omega⟩
theorem r256_pos:0<R256:=by decide

set_option maxHeartbeats 1000000 in
theorem limb_less (a b:Nat) (ha:a<R256) (hb:b<R256) (w:World) :
  Calls Tryz.prog 114 #[V a,V b] w fun e w'=>e=.returned (.int .u64 (mk (lessN a b)))/\Off (fun _=>False) w w':=by
 have HZ:=hid (odd_ltN a b)
 have HS:=hid (fun W=>sub_any a b ha hb W)
 have hw:=ltN_word a b
 obtain⟨c,hc⟩:∃ c,c=ltN a b:=⟨_,rfl⟩
 rw[<-hc]at HZ HS hw
 clear ha hb hc
 go_enter Tryz.func114,Tryz.ntmps114
 go_wp2_with fail
 refine(HS.out _).mono ?_
 rintro e w1 ⟨rfl,hO⟩
 have HO:=hid hO
 clear hO
 go_wp2_with fail
 refine(frombit_any _ hw _).mono ?_
 rintro e w2 ⟨rfl,rfl⟩
 go_wp2
 go_ret
 refine⟨ret_u64 (by rw[HZ.out]),?_⟩
 exact((((Off.refl _ w).alloc _).alloc _).trans HO.out (fun _ _ c=>c)).alloc _
def selN (m:Int) (a b:Nat):Nat:=if oddB m then a else b
theorem sel_word (m:Int) (a b k:Nat):chooseV (mk (oddB m)) (wd a k:Int) (wd b k:Int)=(wd (selN m a b) k:Int):=by
 rw[chooseV_mk _ (wd_word a k) (wd_word b k)];unfold selN;split <;> rfl
theorem choose_sel (m:Int) (a b k:Nat) (w:World) :
  Calls Tryz.prog 148 #[.int .u64 (mk (oddB m)),.int .u64 (wd a k:Int),.int .u64 (wd b k:Int)] w fun e w'=>e=.returned (.int .u64 (wd (selN m a b) k:Int))/\w=w':=by
 rw[<-sel_word];exact choose_any _ _ _ (mk_word _) (wd_word a k) (wd_word b k) w

structure ChooseAt (w wr:World) (a b s k:Nat):Prop where
 a:NumAt wr w.heap.size a
 b:NumAt wr (w.heap.size+1) b
 ret:PartAt wr (w.heap.size+1+1) 0 0
 res:PartAt wr (w.heap.size+1+1+1) s k
 off:Off (fun _=>False) w wr
theorem ChooseAt.start (w:World) (a b s:Nat):ChooseAt w ((((w.alloc (.cells #[.int .u64 (wd a 0),.int .u64 (wd a 1),.int .u64 (wd a 2),.int .u64 (wd a 3)] 63)).alloc (.cells #[.int .u64 (wd b 0),.int .u64 (wd b 1),.int .u64 (wd b 2),.int .u64 (wd b 3)] 63)).alloc (.cells #[.int .u64 0,.int .u64 0,.int .u64 0,.int .u64 0] 63)).alloc (.cells #[.int .u64 0,.int .u64 0,.int .u64 0,.int .u64 0] 63)) a b s 0 :=
 ⟨heap_old' (heap_old' (heap_old' (heap_new' rfl _) _) _) _,heap_old' (heap_old' (heap_new' (by simp) _) _) _,heap_old' (heap_new' (by simp) _) _,heap_new' (by simp) _,((((Off.refl _ w).alloc _).alloc _).alloc _).alloc _⟩
theorem ChooseAt.step {w wr:World} {a b s k:Nat} (h:ChooseAt w wr a b s k) (hk:k<4):ChooseAt w (wr.setCell ⟨w.heap.size+1+1+1,k,none⟩ (.int .u64 (wd s k:Int))).drew a b s (k+1):=by
 have far:∀ j,j≠w.heap.size+1+1+1->(wr.setCell ⟨w.heap.size+1+1+1,k,none⟩ (.int .u64 (wd s k:Int))).drew.heap[j]?=wr.heap[j]?:=fun j hj=>Below.heap_setCell _ _ _ _ hj
 exact⟨(far _ (by omega)).trans h.a,(far _ (by omega)).trans h.b,(far _ (by omega)).trans h.ret,h.res.step hk,(h.off.setCell (fun c=>by simp at c;omega) _).drew⟩

attribute [local go_sem ↓] Go.wp_at_zero Go.wp_at_succ
set_option maxRecDepth 100000 in
set_option maxHeartbeats 2000000 in
theorem limb_choose (m:Int) (hm:Word m) (a b:Nat) (w:World) :
  Calls Tryz.prog 137 #[.int .u64 m,V a,V b] w fun e w'=>e=.returned (V (selN m a b))/\Off (fun _=>False) w w':=by
 have hF:=fun W=>frombit_any m hm W
 have hC:=fun k W=>choose_sel m a b k W
 obtain⟨c,hc⟩:∃ c,c=mk (oddB m):=⟨_,rfl⟩
 obtain⟨s,hs⟩:∃ s,s=selN m a b:=⟨_,rfl⟩
 simp only[<-hc]at hF hC
 simp only[<-hs]at hC
 rw[<-hs]
 have HF:=hid hF
 have HC:=hid hC
 clear hF hC hc hs hm
 go_enter Tryz.func137,Tryz.ntmps137
 go_wp2_with fail
 refine(HF.out _).mono ?_
 rintro e w1 ⟨rfl,rfl⟩
 go_wp2
 go_loopw [11] (fun i wr=>∃ k:Nat,k<=4/\i=.int .i64 k/\ChooseAt w wr a b s k) (fun i _=>4-(intOf i).toNat)
 case atStart=>exact⟨0,by omega,rfl,ChooseAt.start w a b s⟩
 case round =>
  obtain⟨k,hk,rfl,hA⟩:=hrel
  by_cases hlt:k<4
  ·have i1:decide ((k:Int)<4)=true:=by simp;omega
   have i2:(k:Int)<4:=by omega
   have ca:=hA.a.cell k hlt
   have cb:=hA.b.cell k hlt
   have cr:=hA.res.cell hlt
   have q1:=cell_far (u:=.int .u64 (wd s k:Int)) (p:=⟨w.heap.size+1+1+1,k,none⟩) ca (by simp <;> omega)
   have q2:=cell_far (u:=.int .u64 (wd s k:Int)) (p:=⟨w.heap.size+1+1+1,k,none⟩) cb (by simp <;> omega)
   have fz:=frozen_of_heap hA.res.old k
   have HA:=hid hA
   clear hA
   go_wp2
   go_region_held3 (fun w'=>w'.cell? ⟨w.heap.size,k,none⟩=some (.int .u64 (wd a k:Int))/\w'.cell? ⟨w.heap.size+1,k,none⟩=some (.int .u64 (wd b k:Int))) (go_keep) (((go_at_call 148;refine(HC.out k _).mono ?_;rintro e w' ⟨rfl,rfl⟩)))
   go_wp2
   go_roundw
   case rel=>exact⟨k+1,by omega,by go_num,HA.out.step hlt⟩
   case measure=>simp[intOf];omega
  obtain rfl:k=4:=by omega
  obtain⟨c0,c1,c2,c3⟩:=hA.res.full.four
  obtain⟨⟨r0,r1,r2,r3⟩,fz⟩:=hA.ret.four
  have HA:=hid hA
  clear hA
  go_wp2
  refine bodyPost_ret (v:=V s) (by simp[results,Tryz.results137,go_sem,r0,r1,r2,r3]) rfl ⟨rfl,?_⟩
  have hn:∀ j,(⟨w.heap.size+1+1,j,none⟩:Addr).block<w.heap.size->False:=fun j c=>by simp at c;omega
  exact(((HA.out.off.setCell (hn 0) _).setCell (hn 1) _).setCell (hn 2) _).setCell (hn 3) _
end
section
open Go.RowKit

def bitsV (a:Nat) (p n:Int):Nat:=if p<0\/n<0\/64<n then 0 else a / 2^p.toNat%2^n.toNat

theorem wd_bit (a q j:Nat):(wd a q).testBit j=(decide (j<64)&&a.testBit (64*q+j)):=by
 have e:(18446744073709551616:Nat)=2^64:=by decide
 unfold wd dg W64
 rw[e,<-Nat.pow_mul,Nat.testBit_mod_two_pow,Nat.testBit_div_two_pow,Nat.add_comm]
theorem wd_top {a:Nat} (ha:a<R256):wd a 4=0:=dg_zero_of_lt ha

theorem mask_ones {n:Nat} (hn:n<=64):IntKind.u64.wrap (IntKind.u64.wrap (2^n)-1)=((2^n-1:Nat):Int):=by
 have hp:1<=2^n:=Nat.one_le_two_pow
 have he:((2:Int)^n)=((2^n:Nat):Int):=by simp
 have hle:2^n<=2^64:=Nat.pow_le_pow_right (by decide) hn
 rw[IntKind.wrap_u64,IntKind.wrap_u64,he]
 generalize 2^n=m at *
 simp only[Nat.reducePow]at hle
 omega
theorem low_high (a q r i:Nat) (hr:r<64) (hi:i<64) :
  (wd a q / 2^r ||| wd a (q+1)*2^(64-r)%2^64).testBit i=a.testBit (64*q+r+i):=by
 rw[Nat.testBit_or,Nat.testBit_div_two_pow,wd_bit,Nat.testBit_mod_two_pow,Nat.mul_comm (wd a (q+1)) (2^(64-r)),Nat.testBit_two_pow_mul,wd_bit]
 by_cases h:r+i<64
 ·have h1:¬(64-r<=i):=by omega
  have e:64*q+(i+r)=64*q+r+i:=by omega
  simp[h1,e]
  omega
 have h1:64-r<=i:=by omega
 have h2:¬(i+r<64):=by omega
 have h3:i-(64-r)<64:=by omega
 have e:64*(q+1)+(i-(64-r))=64*q+r+i:=by omega
 simp[h1,h2,h3,hi,e]
theorem bits_math (a q r n:Nat) (hr:r<64) (hn:n<=64) :
  bits .and .u64 (bits .or .u64 ((wd a q:Int) / 2^r) (IntKind.u64.wrap ((wd a (q+1):Int)*2^(64-r)))) (IntKind.u64.wrap (IntKind.u64.wrap (2^n)-1))=((a / 2^(64*q+r)%2^n:Nat):Int):=by
 rw[mask_ones hn]
 have e1:(wd a q:Int) / 2^r=((wd a q / 2^r:Nat):Int):=by simp
 have e2:IntKind.u64.wrap ((wd a (q+1):Int)*2^(64-r))=((wd a (q+1)*2^(64-r)%2^64:Nat):Int):=by
  rw[IntKind.wrap_u64];simp
 have l1:wd a q / 2^r<18446744073709551616:=Nat.lt_of_le_of_lt (Nat.div_le_self _ _) (wd_lt a q)
 have l2:wd a (q+1)*2^(64-r)%2^64<18446744073709551616:=Nat.mod_lt _ (by decide)
 have l3:2^n-1<18446744073709551616:=by
  have hle:2^n<=2^64:=Nat.pow_le_pow_right (by decide) hn
  have e:(2:Nat)^64=18446744073709551616:=by decide
  rw[e]at hle
  have hp:1<=2^n:=Nat.one_le_two_pow
  generalize 2^n=m at *
  omega
 rw[e1,e2]
 have hL:∀ L H M:Nat,L<18446744073709551616->H<18446744073709551616->M<18446744073709551616->bits .and .u64 (bits .or .u64 (L:Int) (H:Int)) (M:Int)=(((L ||| H) &&& M:Nat):Int):=by
  intro L H M h1 h2 h3
  rw[u64_or _ _ (by omega) (by omega) (by omega) (by omega)]
  have l4:=or_lt h1 h2
  simp only[Int.toNat_natCast]
  rw[u64_and _ _ (by omega) (by omega) (by omega) (by omega)]
  simp only[Int.toNat_natCast]
 rw[hL _ _ _ l1 l2 l3]
 congr 1
 rw[Nat.and_two_pow_sub_one_eq_mod]
 apply Nat.eq_of_testBit_eq
 intro i
 rw[Nat.testBit_mod_two_pow,Nat.testBit_mod_two_pow]
 by_cases hi:i<n
 ·rw[low_high a q r i hr (by omega),Nat.testBit_div_two_pow,Nat.add_comm i]
 simp[hi]

theorem copy_longer (w:World) (a:Nat) (ha:a<R256):∃ w1,(Builtin.copy_ #[175,175] 3 #[.slice (some ⟨w.heap.size+1,0,none⟩) 5 5,.slice (some ⟨w.heap.size,0,none⟩) 4 4]).run Tryz.prog
   ((w.alloc (.cells #[.int .u64 (wd a 0),.int .u64 (wd a 1),.int .u64 (wd a 2),.int .u64 (wd a 3)] 63)).alloc (.cells #[.int .u64 0,.int .u64 0,.int .u64 0,.int .u64 0,.int .u64 0] 201)).drew=.ok (.int .i64 4) w1 /\
   (∀ j,j<5->w1.cell? ⟨w.heap.size+1,j,none⟩=some (.int .u64 (wd a j:Int)))/\Off (fun _=>False) w w1:=by
 have h4:=wd_top ha
 have hN:NumAt (w.alloc (.cells #[.int .u64 (wd a 0),.int .u64 (wd a 1),.int .u64 (wd a 2),.int .u64 (wd a 3)] 63)) w.heap.size a:=heap_new' rfl _
 have hN2:NumAt ((w.alloc (.cells #[.int .u64 (wd a 0),.int .u64 (wd a 1),.int .u64 (wd a 2),.int .u64 (wd a 3)] 63)).alloc (.cells #[.int .u64 0,.int .u64 0,.int .u64 0,.int .u64 0,.int .u64 0] 201)) w.heap.size a:=heap_old' hN _
 have hd:((w.alloc (.cells #[.int .u64 (wd a 0),.int .u64 (wd a 1),.int .u64 (wd a 2),.int .u64 (wd a 3)] 63)).alloc (.cells #[.int .u64 0,.int .u64 0,.int .u64 0,.int .u64 0,.int .u64 0] 201)).heap[w.heap.size+1]?=some (.cells #[.int .u64 0,.int .u64 0,.int .u64 0,.int .u64 0,.int .u64 0] 201 (0,0)):=heap_new' (by simp) _
 have hO:Off (fun _=>False) w ((w.alloc (.cells #[.int .u64 (wd a 0),.int .u64 (wd a 1),.int .u64 (wd a 2),.int .u64 (wd a 3)] 63)).alloc (.cells #[.int .u64 0,.int .u64 0,.int .u64 0,.int .u64 0,.int .u64 0] 201)).drew:=(((Off.refl _ w).alloc _).alloc _).drew
 generalize ((w.alloc (.cells #[.int .u64 (wd a 0),.int .u64 (wd a 1),.int .u64 (wd a 2),.int .u64 (wd a 3)] 63)).alloc (.cells #[.int .u64 0,.int .u64 0,.int .u64 0,.int .u64 0,.int .u64 0] 201))=W at *
 obtain⟨w1,h1,h2,h3⟩:=copy_head W.drew (w.heap.size+1) w.heap.size 0 5 5 4 4 201 #[.int .u64 0,.int .u64 0,.int .u64 0,.int .u64 0,.int .u64 0] [.int .u64 (wd a 0),.int .u64 (wd a 1),.int .u64 (wd a 2),.int .u64 (wd a 3)] hd (fun j v hj=>by
  have hl:=(List.getElem?_eq_some_iff.1 hj).1
  have:j=0\/j=1\/j=2\/j=3:=by simp at hl;omega
  rw[Nat.zero_add]
  rcases this with rfl | rfl | rfl | rfl <;> simp at hj <;> subst hj <;> exact hN2.cell _ (by omega)) rfl (by simp) (by simp[Value.oneCell'])
 refine⟨w1,h1,fun j hj=>?_,hO.trans h3 (fun k hk e=>by omega)⟩
 rw[cell_of_heap h2]
 have:j=0\/j=1\/j=2\/j=3\/j=4:=by omega
 rcases this with rfl | rfl | rfl | rfl | rfl <;> simp[h4]

set_option maxHeartbeats 1000000 in
theorem bits_in (a q r n:Nat) (ha:a<R256) (hq:q<4) (hr:r<64) (hn:n<=64) (w:World) :
  Calls Tryz.prog 154 #[V a,.int .i64 ((64*q+r:Nat):Int),.int .i64 n] w fun e w'=>e=.returned (.int .u64 ((a / 2^(64*q+r)%2^n:Nat):Int))/\Off (fun _=>False) w w':=by
 obtain⟨p,hp⟩:∃ p,p=64*q+r:=⟨_,rfl⟩
 rw[<-hp]
 have t1:decide ((p:Int)<0)=false:=by simp <;> omega
 have t2:decide ((256:Int)<=(p:Int))=false:=by simp;omega
 have t3:decide ((n:Int)<0)=false:=by simp <;> omega
 have t4:decide ((64:Int)<(n:Int))=false:=by simp;omega
 have p1:(p:Int)%64=(r:Int):=by omega
 have p2:(p:Int) / 64=(q:Int):=by omega
 have p3:IntKind.i64.wrap ((q:Int)+1)=((q+1:Nat):Int):=by rw[IntWalk.i64_in _ (by omega)];omega
 have p4:IntKind.i64.wrap (64-(r:Int))=((64-r:Nat):Int):=by rw[IntWalk.i64_in _ (by omega)];omega
 obtain⟨w1,hc,hF,hO⟩:=copy_longer w a ha
 have c1:=hF q (by omega)
 have c2:=hF (q+1) (by omega)
 obtain⟨s,hs⟩:∃ s,s=q+1:=⟨_,rfl⟩
 obtain⟨z,hz⟩:∃ z,z=64-r:=⟨_,rfl⟩
 obtain⟨x,hx⟩:∃ x,x=wd a q:=⟨_,rfl⟩
 obtain⟨y,hy⟩:∃ y,y=wd a s:=⟨_,rfl⟩
 rw[<-hs]at c2 p3
 rw[<-hz]at p4
 rw[<-hx]at c1
 rw[<-hy]at c2
 have q1:(q:Int)<5:=by omega
 have s1:(s:Int)<5:=by omega
 have z1:(z:Int)<=64:=by omega
 have HP:=hid hp
 have HS:=hid hs
 have HZ:=hid hz
 have HX:=hid hx
 have HY:=hid hy
 have HA:=hid ha
 have HO:=hid hO
 clear hp ha hs hz hx hy hO hF
 go_enter Tryz.func154,Tryz.ntmps154
 go_wp2
 go_region
 go_wp2
 go_ret
 exact⟨by rw[HX.out,HY.out,HZ.out,HS.out,HP.out,bits_math a q r n hr hn];rfl,HO.out⟩
theorem div_big {a p:Nat} (ha:a<R256) (hp:256<=p):a / 2^p=0:=by
 have e:R256=2^256:=by decide
 exact Nat.div_eq_of_lt (Nat.lt_of_lt_of_le (by rw[<-e];exact ha) (Nat.pow_le_pow_right (by decide) hp))
theorem bitsV_in {a p n:Nat} (hn:n<=64):bitsV a (p:Int) (n:Int)=a / 2^p%2^n:=by
 unfold bitsV;rw[if_neg (by omega)];simp
theorem bitsV_out {a:Nat} {p n:Int} (h:p<0\/n<0\/64<n):bitsV a p n=0:=by unfold bitsV;rw[if_pos h]
theorem bitsV_big {a:Nat} (ha:a<R256) {p n:Int} (hp:256<=p):bitsV a p n=0:=by
 unfold bitsV;split
 ·rfl
 rw[div_big ha (by omega),Nat.zero_mod]

set_option maxHeartbeats 1000000 in
theorem bits_zero (a:Nat) (p n:Int) (h:p<0\/256<=p\/n<0\/64<n) (w:World) :
  Calls Tryz.prog 154 #[V a,.int .i64 p,.int .i64 n] w fun e w'=>e=.returned (.int .u64 0)/\Off (fun _=>False) w w':=by
 by_cases h1:p<0
 ·have t1:decide (p<0)=true:=by simpa using h1
  clear h
  go_enter Tryz.func154,Tryz.ntmps154
  go_wp2
  go_ret
  exact⟨rfl,(Off.refl _ w).alloc _⟩
 have t1:decide (p<0)=false:=by simpa using h1
 by_cases h2:256<=p
 ·have t2:decide (256<=p)=true:=by simpa using h2
  clear h
  go_enter Tryz.func154,Tryz.ntmps154
  go_wp2
  go_ret
  exact⟨rfl,(Off.refl _ w).alloc _⟩
 have t2:decide (256<=p)=false:=by simpa using h2
 by_cases h3:n<0
 ·have t3:decide (n<0)=true:=by simpa using h3
  clear h
  go_enter Tryz.func154,Tryz.ntmps154
  go_wp2
  go_ret
  exact⟨rfl,(Off.refl _ w).alloc _⟩
 have t3:decide (n<0)=false:=by simpa using h3
 have t4:decide (64<n)=true:=by simp;omega
 clear h
 go_enter Tryz.func154,Tryz.ntmps154
 go_wp2
 go_ret
 exact⟨rfl,(Off.refl _ w).alloc _⟩

theorem bits_any (a:Nat) (ha:a<R256) (p n:Int) (w:World) :
  Calls Tryz.prog 154 #[V a,.int .i64 p,.int .i64 n] w fun e w'=>e=.returned (.int .u64 (bitsV a p n:Int))/\Off (fun _=>False) w w':=by
 by_cases h:p<0\/n<0\/64<n
 ·rw[bitsV_out h];exact bits_zero a p n (by omega) w
 by_cases h2:256<=p
 ·rw[bitsV_big ha h2];exact bits_zero a p n (by omega) w
 obtain⟨p,rfl⟩:=Int.eq_ofNat_of_zero_le (show 0<=p by omega)
 obtain⟨n,rfl⟩:=Int.eq_ofNat_of_zero_le (show 0<=n by omega)
 rw[bitsV_in (by omega)]
 have:=bits_in a (p / 64) (p%64) n ha (by omega) (by omega) (by omega) w
 rw[show 64*(p / 64)+p%64=p by omega]at this
 exact this
def bitV (a i:Nat):Nat:=a / 2^i%2
theorem bit_wd (a q r:Nat) (hr:r<64):wd a q / 2^r%2=bitV a (64*q+r):=by
 have h:=wd_bit a q r
 rw[Nat.testBit_eq_decide_div_mod_eq,Nat.testBit_eq_decide_div_mod_eq]at h
 unfold bitV
 generalize wd a q / 2^r=x at *
 generalize a / 2^(64*q+r)=y at *
 have h2:decide (r<64)=true:=by simpa using hr
 rw[h2,Bool.true_and,decide_eq_decide]at h
 omega
theorem half_pow (x k:Nat):x / 2^k / 2=x / 2^(k+1):=by rw[Nat.pow_succ,Nat.div_div_eq_div_mul]

set_option maxHeartbeats 1000000 in
theorem refbit_any (a i:Nat) (ha:a<R256) (hi:i<=1000) (w:World) :
  Calls Tryz.prog 82 #[V a,.int .i64 i] w fun e w'=>e=.returned (.int .u64 (bitV a i:Int))/\Off (fun _=>False) w w':=by
 by_cases hb:255<i
 ·have t1:decide ((255:Int)<(i:Int))=true:=by simp;omega
  have e:bitV a i=0:=by unfold bitV;rw[div_big ha (by omega)]
  rw[e]
  clear ha e
  go_enter Tryz.func82,Tryz.ntmps82
  go_wp2
  go_ret
  exact⟨rfl,(Off.refl _ w).alloc _⟩
 have t1:decide ((255:Int)<(i:Int))=false:=by simp;omega
 obtain⟨q,hq⟩:∃ q,q=i / 64:=⟨_,rfl⟩
 obtain⟨r,hr⟩:∃ r,r=i%64:=⟨_,rfl⟩
 have q0:(i:Int) / 64=(q:Int):=by omega
 have q1:(q:Int)<4:=by omega
 have hN:NumAt (w.alloc (.cells #[.int .u64 (wd a 0),.int .u64 (wd a 1),.int .u64 (wd a 2),.int .u64 (wd a 3)] 63)) w.heap.size a:=heap_new' rfl _
 have hc:=hN.cell q (by omega)
 have r0:(i:Int)%64=(r:Int):=by omega
 have HE:=hid (show wd a q / 2^r%2=bitV a i by rw[bit_wd a q r (by omega)];congr 1;omega)
 have hw:=wd_lt a q
 obtain⟨x,hx⟩:∃ x,x=wd a q:=⟨_,rfl⟩
 rw[<-hx]at HE hc hw
 have hr2:r<64:=by omega
 clear hN hq hr ha hx
 go_enter Tryz.func82,Tryz.ntmps82
 go_wp2
 go_loop [5,6] (fun v k=>∃ j:Nat,j<=r/\k=.int .i64 j/\v=.int .u64 ((x / 2^j:Nat):Int)) (fun _ k=>r-(intOf k).toNat)
 case atStart=>exact⟨0,by omega,rfl,by simp⟩
 case round =>
  obtain⟨j,hj,rfl,rfl⟩:=hrel
  have HH:=hid (half_pow x j)
  have hle:x / 2^j<=x:=Nat.div_le_self _ _
  obtain⟨y,hy⟩:∃ y,y=x / 2^j:=⟨_,rfl⟩
  rw[<-hy]at HH hle ⊢
  by_cases hlt:j<r
  ·have j1:(j:Int)<(r:Int):=by omega
   clear hy
   go_wp2
   go_round
   case rel=>exact⟨j+1,by omega,by go_num,by rw[<-HH.out];rfl⟩
   case measure=>simp[intOf];omega
  obtain rfl:j=r:=by omega
  have HY:=hid hy
  have j1:¬(j:Int)<(j:Int):=by omega
  clear hy
  go_wp2
  go_ret
  exact⟨by rw[<-HE.out,<-HY.out];rfl,(Off.refl _ w).alloc _⟩
end
section
open Go.RowKit

theorem word_info:(Tryz.prog.info? 62).map (fun i=>(i.zero,i.size,i.bytes))=some (some (.int .u64 0),1,8):=by kernel_rfl
theorem equalIn_four (a b c d a' b' c' d':Int) (w:World):(Op.equalIn 10000 63 (.agg #[.int .u64 a,.int .u64 b,.int .u64 c,.int .u64 d]) (.agg #[.int .u64 a',.int .u64 b',.int .u64 c',.int .u64 d'])).run Tryz.prog w =
  .ok (decide (a=a'/\b=b'/\c=c'/\d=d')) w:=by
 obtain⟨i,hi,_,_,_⟩:=info_parts word_info
 have hc:Tryz.prog.cellsOf 62=1:=by kernel_rfl
 rw[run_equalIn_array w 9999 _ _ Tryz.underlying63 hi,hc]
 have hr:List.range 4=[0,1,2,3]:=by decide
 rw[hr]
 simp[Op.eqItems,part,go_sem]
 by_cases h1:a=a' <;> by_cases h2:b=b' <;> by_cases h3:c=c' <;> by_cases h4:d=d' <;> simp[h1,h2,h3,h4]
theorem four_eq {a b:Nat} (ha:a<R256) (hb:b<R256):decide ((wd a 0:Int)=(wd b 0:Int)/\(wd a 1:Int)=(wd b 1:Int)/\(wd a 2:Int)=(wd b 2:Int)/\(wd a 3:Int)=(wd b 3:Int))=eqN a b:=by
 unfold eqN
 rw[decide_eq_decide]
 constructor
 ·rintro⟨h0,h1,h2,h3⟩
  refine wd_ext ha hb (fun i hi=>?_)
  have:i=0\/i=1\/i=2\/i=3:=by omega
  rcases this with rfl | rfl | rfl | rfl <;> omega
 rintro rfl
 exact⟨rfl,rfl,rfl,rfl⟩
theorem equalIn_num {a b:Nat} (ha:a<R256) (hb:b<R256) (w:World):(Op.equalIn 10000 63 (V a) (V b)).run Tryz.prog w=.ok (eqN a b) w:=by
 rw[<-four_eq ha hb];exact equalIn_four _ _ _ _ _ _ _ _ w
theorem lit_small (n:Nat) (hn:n<18446744073709551616):V n=.agg #[.int .u64 n,.int .u64 0,.int .u64 0,.int .u64 0]:=by
 have h0:wd n 0=n:=by unfold wd dg W64;omega
 have h1:wd n 1=0:=by unfold wd dg W64;omega
 have h2:wd n 2=0:=by unfold wd dg W64;omega
 have h3:wd n 3=0:=by unfold wd dg W64;omega
 simp only[V,h0,h1,h2,h3];rfl
end
section
open Go.RowKit Go.ChangeShapes Go.WideShapes Go.ChangeAt

theorem cells_word:Tryz.prog.cellsOf 62=1:=by kernel_rfl
def Four (w:World) (b n:Nat):Prop:=w.cell? ⟨b,0,none⟩=some (.int .u64 (wd n 0))/\w.cell? ⟨b,1,none⟩=some (.int .u64 (wd n 1))/\w.cell? ⟨b,2,none⟩=some (.int .u64 (wd n 2))/\w.cell? ⟨b,3,none⟩=some (.int .u64 (wd n 3))
theorem Four.off {w w':World} {b n:Nat} (h:Four w b n) (ho:Off (fun _=>False) w w'):Four w' b n :=
 ⟨ho.cell h.1 (fun c=>c),ho.cell h.2.1 (fun c=>c),ho.cell h.2.2.1 (fun c=>c),ho.cell h.2.2.2 (fun c=>c)⟩
end
end Go.Proofs.YtbkgghhngeibhaaGreatDoor
