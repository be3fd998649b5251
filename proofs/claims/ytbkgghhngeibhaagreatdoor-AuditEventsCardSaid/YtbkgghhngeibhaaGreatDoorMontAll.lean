/-
  Montgomery forms as plain numbers: the form of a sum, a difference, a product; the product of two forms; one step of the word-by-word reduction. Conditions: as each says.
  Contracts of the reference of layer 5 (Form) and of the reference's Sub of layer 4 over this seat's translation. Conditions: the arguments are numbers of four words; the modulus is above 1; the numbers lie below it where said.
  The contract of the method add of package mont's sums over this seat's translation: a multiple of a number is added to a sum of nine words. Conditions: the numbers are words and numbers of four words, and the sum does not pass the words above those that the number is added to.
  The contract of mont.Mul over this seat's translation: the Montgomery product. Conditions: the field's constants are those of its modulus, the second factor lies below it.
  Contracts of package mont but Mul over this seat's translation: Square, Add, Sub, Neg, To, From, Choose, IsZero. Conditions: the field's constants are those of its modulus, the elements lie below it.
-/
import Derived.Test.YtbkgghhngeibhaaGreatDoorModGet
import Derived.Test.YtbkgghhngeibhaaGreatDoorModAll
import Derived.Test.YtbkgghhngeibhaaGreatDoorInvAll
import Derived.Test.YtbkgghhngeibhaaGreatDoorBitsMul
import Derived.Test.YtbkgghhngeibhaaGreatDoorLimbOps
import Derived.StillTailTactics
import Derived.Test.YtbkgghhngeibhaaGreatDoorFieldGrp
namespace Go.Proofs.YtbkgghhngeibhaaGreatDoor
open Lib (hid)
section

def fm (p v:Nat):Nat:=radV p 256*v%p
def rinv (p:Nat):Nat:=R256^(p-2)%p
def mm (p a b:Nat):Nat:=a*b%p*rinv p%p

theorem r256_eq:R256=2^256:=by decide +kernel
theorem fm_eq (p v:Nat):fm p v=R256*v%p:=by
 unfold fm radV;rw[<-r256_eq,Nat.mod_mul_mod]
theorem fm_lt {p:Nat} (h:0<p) (v:Nat):fm p v<p:=Nat.mod_lt _ h
theorem fm_mod (p v:Nat):fm p (v%p)=fm p v:=by
 unfold fm;rw[Nat.mul_mod,Nat.mod_mod,<-Nat.mul_mod]
theorem fm_zero (p:Nat):fm p 0=0:=by unfold fm;simp
theorem getD_fm (p:Nat) (vs:List Nat) (i:Nat):(vs.map (fm p)).getD i 0=fm p (vs.getD i 0):=by
 rw[List.getD_eq_getElem?_getD,List.getD_eq_getElem?_getD,List.getElem?_map]
 cases h:vs[i]? with
 | none=>simp[fm_zero]
 | some v=>simp
theorem fm_one (p:Nat):fm p 1=radV p 256:=by unfold fm radV;rw[Nat.mul_one,Nat.mod_mod]
theorem fm_add (p x y:Nat):(fm p x+fm p y)%p=fm p ((x+y)%p):=by
 rw[fm_mod];unfold fm;rw[<-Nat.add_mod,<-Nat.mul_add]
theorem add_cancel {p a b c:Nat} (ha:a<p) (hb:b<p) (h:(a+c)%p=(b+c)%p):a=b:=by
 have h1:(a+(c%p))%p=(b+(c%p))%p:=by rw[Nat.add_mod_mod,Nat.add_mod_mod];exact h
 have hc:c%p<p:=Nat.mod_lt _ (by omega)
 generalize c%p=d at h1 hc
 have e1:(a+d)%p=if a+d<p then a+d else a+d-p:=by
  split
  ·exact Nat.mod_eq_of_lt (by assumption)
  rw[Nat.mod_eq_sub_mod (by omega)];exact Nat.mod_eq_of_lt (by omega)
 have e2:(b+d)%p=if b+d<p then b+d else b+d-p:=by
  split
  ·exact Nat.mod_eq_of_lt (by assumption)
  rw[Nat.mod_eq_sub_mod (by omega)];exact Nat.mod_eq_of_lt (by omega)
 rw[e1,e2]at h1
 split at h1 <;> split at h1 <;> omega
theorem fm_neg {p x:Nat} (h:0<p) (hx:x<p):(p-fm p x)%p=fm p ((p-x)%p):=by
 refine add_cancel (c:=fm p x) (Nat.mod_lt _ h) (fm_lt h _) ?_
 rw[fm_add,Nat.mod_add_mod,Nat.mod_add_mod,show p-x+x=p by omega,Nat.mod_self,fm_zero]
 have:=fm_lt h x
 rw[show p-fm p x+fm p x=p by omega,Nat.mod_self]
theorem fm_sub {p x y:Nat} (h:0<p) (hy:y<p):(fm p x+(p-fm p y))%p=fm p ((x+(p-y))%p):=by
 refine add_cancel (c:=fm p y) (Nat.mod_lt _ h) (fm_lt h _) ?_
 have:=fm_lt h y
 rw[fm_add,Nat.mod_add_mod,Nat.mod_add_mod,show fm p x+(p-fm p y)+fm p y=fm p x+p by omega,show x+(p-y)+y=x+p by omega,Nat.add_mod_right,Nat.add_mod_right,fm_mod]
 exact Nat.mod_eq_of_lt (fm_lt h x)

structure Mp (p:Nat):Prop where
 lt:p<R256
 one:1<p
 inv:R256*rinv p%p=1
theorem mp_of {p:Nat} (hp:p<R256) (h1:1<p) (hf:∀ x,x%p≠0->x^(p-1)%p=1) (hr:R256%p≠0):Mp p :=
 ⟨hp,h1,by unfold rinv;exact inverse_of h1 hf R256 hr⟩
theorem mp1:Mp P1:=mp_of p1_lt p1_one fermat_p1 (by decide +kernel)
theorem mp2:Mp P2:=mp_of p2_lt p2_one fermat_p2 (by decide +kernel)

theorem Mp.pos {p:Nat} (h:Mp p):0<p:=by have:=h.one;omega
theorem Mp.cancel {p:Nat} (h:Mp p) (c:Nat):c*(R256*rinv p)%p=c%p:=by
 rw[Nat.mul_mod,h.inv,Nat.mul_one,Nat.mod_mod]
theorem mm_lt {p:Nat} (h:Mp p) (a b:Nat):mm p a b<p:=Nat.mod_lt _ h.pos
theorem r_cancel {p:Nat} (h:Mp p) {a b:Nat} (ha:a<p) (hb:b<p) (e:a*R256%p=b*R256%p):a=b:=by
 have k:∀ c,c<p->c*R256%p*rinv p%p=c:=fun c hc=>by
  rw[Nat.mod_mul_mod,Nat.mul_assoc,h.cancel]
  exact Nat.mod_eq_of_lt hc
 rw[<-k a ha,<-k b hb,e]
theorem mm_of {p:Nat} (h:Mp p) {r a b:Nat} (hr:r<p) (e:r*R256%p=a*b%p):r=mm p a b:=by
 refine r_cancel h hr (mm_lt h a b) ?_
 rw[e]
 unfold mm
 rw[Nat.mod_mul_mod,Nat.mul_assoc,Nat.mul_comm (rinv p),h.cancel,Nat.mod_mod]
theorem mm_r {p:Nat} (h:Mp p) (a b:Nat):mm p a b*R256%p=a*b%p:=by
 unfold mm
 rw[Nat.mod_mul_mod,Nat.mul_assoc,Nat.mul_comm (rinv p),h.cancel,Nat.mod_mod]
theorem mm_fm {p:Nat} (h:Mp p) (x y:Nat):mm p (fm p x) (fm p y)=fm p (x*y%p):=by
 symm
 refine mm_of h (fm_lt h.pos _) ?_
 rw[fm_mod,fm_eq,fm_eq,fm_eq,Nat.mod_mul_mod,<-Nat.mul_mod]
 congr 1
 ac_rfl
theorem mm_one {p:Nat} (h:Mp p) (x:Nat):mm p (fm p x) 1=x%p:=by
 symm
 refine mm_of h (Nat.mod_lt _ h.pos) ?_
 rw[fm_eq,Nat.mul_one,Nat.mod_mul_mod,Nat.mod_mod,Nat.mul_comm]
theorem mm_square {p:Nat} (h:Mp p) (a:Nat):mm p a (radV p 256*radV p 256%p)=fm p (a%p):=by
 symm
 refine mm_of h (fm_lt h.pos _) ?_
 have e:radV p 256*radV p 256%p=R256*R256%p:=by
  unfold radV;rw[<-r256_eq,<-Nat.mul_mod]
 rw[fm_mod,fm_eq,Nat.mod_mul_mod,e,Nat.mul_mod_mod,Nat.mul_comm R256 a,Nat.mul_assoc]
theorem step_zero {W p i s:Nat} (hi:(i*p+1)%W=0):(s+s%W*i%W*p)%W=0:=by
 have e:(s+s%W*i%W*p)%W=(s*(i*p+1))%W:=by
  rw[Nat.add_mod,Nat.mod_mul_mod,Nat.mul_assoc,Nat.mod_mul_mod,<-Nat.add_mod,Nat.mul_add,Nat.mul_one,Nat.add_comm]
 rw[e,Nat.mul_mod,hi,Nat.mul_zero,Nat.zero_mod]
structure Redc (p b A t Wk:Nat):Prop where
 cong:t*Wk%p=A*b%p
 bound:t<p+b
theorem Redc.start (p b:Nat) (h:0<p):Redc p b 0 0 1:=⟨by simp,by omega⟩
theorem Redc.step {W p b A t Wk a m:Nat} (hW:0<W) (h:Redc p b A t Wk) (ha:a<W) (hm:m<W) (hz:(t+a*b+m*p)%W=0) :
  Redc p b (A+a*Wk) ((t+a*b+m*p) / W) (Wk*W):=by
 obtain⟨q,hq⟩:∃ q,t+a*b+m*p=W*q:=⟨(t+a*b+m*p) / W,by have:=Nat.div_add_mod (t+a*b+m*p) W;omega⟩
 have e:(t+a*b+m*p) / W=q:=by rw[hq,Nat.mul_div_cancel_left _ hW]
 rw[e]
 constructor
 ·have e1:q*(Wk*W)=t*Wk+a*Wk*b+p*(m*Wk):=by
   calc q*(Wk*W)=(W*q)*Wk:=by rw[Nat.mul_comm Wk W,<-Nat.mul_assoc,Nat.mul_comm q W]
    _=(t+a*b+m*p)*Wk:=by rw[hq]
    _=t*Wk+a*Wk*b+p*(m*Wk):=by
     rw[Nat.add_mul,Nat.add_mul]
     congr 1
     ·congr 1
      rw[Nat.mul_assoc,Nat.mul_comm b Wk,<-Nat.mul_assoc]
     rw[Nat.mul_comm m p,Nat.mul_assoc]
  rw[e1,Nat.add_mul_mod_self_left,Nat.add_mod,h.cong,<-Nat.add_mod,<-Nat.add_mul]
 have h1:a*b<=(W-1)*b:=Nat.mul_le_mul_right b (by omega)
 have h2:m*p<=(W-1)*p:=Nat.mul_le_mul_right p (by omega)
 have h3:(W-1)*b+b=W*b:=by
  rw[<-Nat.succ_mul];congr 1;omega
 have h4:(W-1)*p+p=W*p:=by
  rw[<-Nat.succ_mul];congr 1;omega
 have h5:=h.bound
 have h6:W*q<W*(p+b):=by rw[Nat.mul_add];omega
 exact Nat.lt_of_mul_lt_mul_left h6
end
section
open Go.RowKit

attribute [local go_sem ↓] Go.wp_at_zero Go.wp_at_succ
set_option maxRecDepth 100000 in
set_option maxHeartbeats 2000000 in
theorem form_any (p v:Nat) (hp:p<R256) (h1:1<p) (hv:v<R256) (w:World) :
  Calls Tryz.prog 35 #[V p,V v] w fun e w'=>e=.returned (V (fm p v))/\Off (fun _=>False) w w':=by
 have hr:radV p 256<p:=Nat.mod_lt _ (by omega)
 have qR:=fun W=>mod_radix p hp h1 W
 have qM:=fun W=>mod_mul p (radV p 256) v hp h1 hr hv W
 obtain⟨m,hm⟩:∃ m,m=fm p v:=⟨_,rfl⟩
 rw[show radV p 256*v%p=fm p v from rfl,<-hm]at qM
 obtain⟨r,hr2⟩:∃ r,r=radV p 256:=⟨_,rfl⟩
 rw[<-hr2]at qR qM
 rw[<-hm]
 have FR:=hid qR
 have FM:=hid qM
 clear qR qM hm hr hr2 hp h1 hv
 obtain⟨W0,hW0⟩:∃ W0,W0=((w.alloc (.cells #[.int .u64 (wd p 0),.int .u64 (wd p 1),.int .u64 (wd p 2),.int .u64 (wd p 3)] 63)).alloc (.cells #[.int .u64 (wd v 0),.int .u64 (wd v 1),.int .u64 (wd v 2),.int .u64 (wd v 3)] 63)).alloc (.cells #[.int .u64 0,.int .u64 0,.int .u64 0,.int .u64 0] 63):=⟨_,rfl⟩
 have hP:NumAt W0 w.heap.size p:=by rw[hW0];exact heap_old' (heap_old' (heap_new' rfl _) _) _
 have hV:NumAt W0 (w.heap.size+1) v:=by rw[hW0];exact heap_old' (heap_new' (by simp) _) _
 have HR:=hid (show W0.heap[w.heap.size+1+1]?=some (.cells #[.int .u64 0,.int .u64 0,.int .u64 0,.int .u64 0] 63) by rw[hW0];exact heap_new' (by simp) _)
 have HO:=hid (show Off (fun _=>False) w W0 by rw[hW0];exact(((Off.refl _ w).alloc _).alloc _).alloc _)
 have HK:Hid (∀ W,Off (fun k=>k=(w.heap.size+1+1)) W0 W->(W.cell? ⟨w.heap.size,0,none⟩=some (.int .u64 (wd p 0))/\W.cell? ⟨w.heap.size,1,none⟩=some (.int .u64 (wd p 1))/\W.cell? ⟨w.heap.size,2,none⟩=some (.int .u64 (wd p 2))/\W.cell? ⟨w.heap.size,3,none⟩=some (.int .u64 (wd p 3)))/\(W.cell? ⟨w.heap.size+1,0,none⟩=some (.int .u64 (wd v 0))/\W.cell? ⟨w.heap.size+1,1,none⟩=some (.int .u64 (wd v 1))/\W.cell? ⟨w.heap.size+1,2,none⟩=some (.int .u64 (wd v 2))/\W.cell? ⟨w.heap.size+1,3,none⟩=some (.int .u64 (wd v 3)))/\Off (fun k=>k=(w.heap.size+1+1)) W0 W):=hid (fun W h=>⟨NumAt.four (w:=W) (h.heap hP (show ¬w.heap.size=w.heap.size+1+1 by omega)),NumAt.four (w:=W) (h.heap hV (show ¬w.heap.size+1=w.heap.size+1+1 by omega)),h⟩)
 have HW0:=hid hW0
 clear hP hV hW0
 go_enter Tryz.func35,Tryz.ntmps35
 go_upto_region 1 with fail
 rw[<-HW0.out]
 refine wp_region_inv (fun a0 l a' w'=>∃ (u5:Value) (u6:Value) (u7:Value) (u8:Value) (u9:Value),a'=(Act.put (Act.put (Act.put (Act.put (Act.put a0 (some 5) u5) (some 6) u6) (some 7) u7) (some 8) u8) (some 9) u9)/\Slot l 0 u5 (V p)/\Slot l 1 u6 (V p)/\Slot l 2 u7 (V r)/\Slot l 3 u8 (V v)/\Slot l 4 u9 (V m)/\Old l 5 (w.heap.size+1+1) W0 w' (.cells #[.int .u64 0,.int .u64 0,.int .u64 0,.int .u64 0] 63) (.cells #[.int .u64 (wd m 0),.int .u64 (wd m 1),.int .u64 (wd m 2),.int .u64 (wd m 3)] 63)/\Off (fun k=>k=(w.heap.size+1+1)) W0 w') (by kernel_rfl) (by kernel_rfl) ?_ ⟨?_,?_,?_,?_,?_,?_,trivial⟩ ?_
 ·refine⟨undef,undef,undef,undef,undef,?_,Slot.start _ _ _,Slot.start _ _ _,Slot.start _ _ _,Slot.start _ _ _,Slot.start _ _ _,Old.start HR.out _ _,(Off.refl _ W0).drew⟩
  simp only[XP]
 all_goals try (intro l a wr hI hl hd K' hK;obtain⟨u5,u6,u7,u8,u9,ha,s0,s1,s2,s3,s4,O0,hO⟩:=hI;simp only[XP]at ha)
 ·subst ha
  have hc:=HK.out wr hO
  have p0:=hc.1.1
  have p1:=hc.1.2.1
  have p2:=hc.1.2.2.1
  have p3:=hc.1.2.2.2
  clear hc
  go_simp
  refine hK.out _ _ ⟨_,_,_,_,_,?_,Slot.new _ _ _,s1.keep rfl,s2.keep rfl,s3.keep rfl,s4.keep rfl,O0.keep (Off.refl _ wr) rfl,hO⟩
  simp only[XP]
 ·subst ha
  have hc:=HK.out wr hO
  have p0:=hc.1.1
  have p1:=hc.1.2.1
  have p2:=hc.1.2.2.1
  have p3:=hc.1.2.2.2
  clear hc
  go_simp
  refine hK.out _ _ ⟨_,_,_,_,_,?_,s0.keep rfl,Slot.new _ _ _,s2.keep rfl,s3.keep rfl,s4.keep rfl,O0.keep (Off.refl _ wr) rfl,hO⟩
  simp only[XP]
 ·have q1:=s1 (hd 1 (by decide))
  subst ha q1
  go_simp
  refine(held_inv (FR.out wr) hO).mono ?_
  rintro e w1 ⟨rfl,hO1,hOW⟩
  go_wp2_with fail
  refine hK.out _ _ ⟨_,_,_,_,_,?_,s0.keep rfl,s1.keep rfl,Slot.new _ _ _,s3.keep rfl,s4.keep rfl,O0.keep hOW rfl,hO1⟩
  simp only[XP]
 ·subst ha
  have hc:=HK.out wr hO
  have p0:=hc.2.1.1
  have p1:=hc.2.1.2.1
  have p2:=hc.2.1.2.2.1
  have p3:=hc.2.1.2.2.2
  clear hc
  go_simp
  refine hK.out _ _ ⟨_,_,_,_,_,?_,s0.keep rfl,s1.keep rfl,s2.keep rfl,Slot.new _ _ _,s4.keep rfl,O0.keep (Off.refl _ wr) rfl,hO⟩
  simp only[XP]
 ·have q0:=s0 (hd 0 (by decide))
  have q2:=s2 (hd 2 (by decide))
  have q3:=s3 (hd 3 (by decide))
  subst ha q0 q2 q3
  go_simp
  refine(held_inv (FM.out wr) hO).mono ?_
  rintro e w1 ⟨rfl,hO1,hOW⟩
  go_wp2_with fail
  refine hK.out _ _ ⟨_,_,_,_,_,?_,s0.keep rfl,s1.keep rfl,s2.keep rfl,s3.keep rfl,Slot.new _ _ _,O0.keep hOW rfl,hO1⟩
  simp only[XP]
 ·have q4:=s4 (hd 4 (by decide))
  subst ha q4
  obtain⟨⟨m0,m1,m2,m3⟩,fz,lt⟩:=zero_cells (O0.was hl)
  go_simp
  refine hK.out _ _ ⟨_,_,_,_,_,?_,s0.keep rfl,s1.keep rfl,s2.keep rfl,s3.keep rfl,s4.keep rfl,O0.put hl rfl,setCells_in hO (fun _=>rfl) [.int .u64 (wd m 0),.int .u64 (wd m 1),.int .u64 (wd m 2),.int .u64 (wd m 3)]⟩
  simp only[XP]
 intro l a wc hI hd
 obtain⟨u5,u6,u7,u8,u9,ha,s0,s1,s2,s3,s4,O0,hO⟩:=hI
 simp only[XP]at ha
 have q0:=s0 (hd 0 (by decide))
 have q1:=s1 (hd 1 (by decide))
 have q2:=s2 (hd 2 (by decide))
 have q3:=s3 (hd 3 (by decide))
 have q4:=s4 (hd 4 (by decide))
 have r0:wc.heap[(w.heap.size+1+1)]?=some (.cells #[.int .u64 (wd m 0),.int .u64 (wd m 1),.int .u64 (wd m 2),.int .u64 (wd m 3)] 63):=O0.now (hd 5 (by decide))
 subst ha q0 q1 q2 q3 q4
 clear hd s0 s1 s2 s3 s4 O0
 have hm:=NumAt.four (show NumAt wc (w.heap.size+1+1) m from r0)
 obtain⟨m0,m1,m2,m3⟩:=hm
 have HOc:=hid hO
 clear r0 hO
 go_wp2
 refine bodyPost_ret (v:=V m) (by simp[results,Tryz.results35,go_sem,m0,m1,m2,m3]) rfl ⟨rfl,?_⟩
 exact HO.out.trans HOc.out (fun k hk e=>by omega)
structure Fld (id:Int) (p i r s:Nat):Prop where
 mp:Mp p
 mod:modN id=p
 ii:i=negInv (wd p 0)
 inv:(i*wd p 0+1)%18446744073709551616=0
 rr:r=radV p 256
 ss:s=radV p 256*radV p 256%p
theorem fld1:Fld 1 P1 (negInv (wd P1 0)) (radV P1 256) (radV P1 256*radV P1 256%P1):=⟨mp1,rfl,rfl,by decide +kernel,rfl,rfl⟩
theorem fld2:Fld 2 P2 (negInv (wd P2 0)) (radV P2 256) (radV P2 256*radV P2 256%P2):=⟨mp2,rfl,rfl,by decide +kernel,rfl,rfl⟩
end
section
open Go.RowKit

theorem mmul_bound {a b:Nat} (ha:a<18446744073709551616) (hb:b<18446744073709551616):a*b<=340282366920938463426481119284349108225:=by
 have:=Nat.mul_le_mul (show a<=18446744073709551615 by omega) (show b<=18446744073709551615 by omega)
 simpa using this

set_option maxHeartbeats 1000000 in
theorem mmuladd_any (a b c d:Nat) (ha:a<18446744073709551616) (hb:b<18446744073709551616) (hc:c<18446744073709551616) (hd:d<18446744073709551616) (w:World) :
  Calls Tryz.prog 138 #[.int .u64 a,.int .u64 b,.int .u64 c,.int .u64 d] w fun e w'=>e=.returned (.tuple #[.int .u64 (((a*b+c+d)%18446744073709551616:Nat):Int),.int .u64 (((a*b+c+d) / 18446744073709551616:Nat):Int)])/\w=w':=by
 have hP:=mmul_bound ha hb
 have hM:=mul64_any a b ha hb w
 obtain⟨P,hPe⟩:∃ P,P=a*b:=⟨_,rfl⟩
 rw[<-hPe]at hM hP ⊢
 obtain⟨h,hh⟩:∃ h,h=P / 18446744073709551616:=⟨_,rfl⟩
 obtain⟨l,hl⟩:∃ l,l=P%18446744073709551616:=⟨_,rfl⟩
 rw[<-hh,<-hl]at hM
 obtain⟨l1,hl1⟩:∃ l1,l1=(l+c)%18446744073709551616:=⟨_,rfl⟩
 obtain⟨c1,hc1⟩:∃ c1,c1=(l+c) / 18446744073709551616:=⟨_,rfl⟩
 obtain⟨h1,hh1⟩:∃ h1,h1=h+c1:=⟨_,rfl⟩
 obtain⟨l2,hl2⟩:∃ l2,l2=(l1+d)%18446744073709551616:=⟨_,rfl⟩
 obtain⟨c2,hc2⟩:∃ c2,c2=(l1+d) / 18446744073709551616:=⟨_,rfl⟩
 obtain⟨h2,hh2⟩:∃ h2,h2=h1+c2:=⟨_,rfl⟩
 have r1:∀ w,(callFunc 139 #[.int .u64 l,.int .u64 c,.int .u64 0]).run Tryz.prog w=.ok (.value (.tuple #[.int .u64 l1,.int .u64 c1])) w:=fun w=>by
  rw[run_add64_at _ _ _ ⟨by omega,by omega⟩ ⟨by omega,by omega⟩ (by omega) (by omega) w,show((l:Int)+(c:Int)+0)%18446744073709551616=(l1:Int) by omega,show((l:Int)+(c:Int)+0) / 18446744073709551616=(c1:Int) by omega]
 have r2:∀ w,(callFunc 139 #[.int .u64 l1,.int .u64 d,.int .u64 0]).run Tryz.prog w=.ok (.value (.tuple #[.int .u64 l2,.int .u64 c2])) w:=fun w=>by
  rw[run_add64_at _ _ _ ⟨by omega,by omega⟩ ⟨by omega,by omega⟩ (by omega) (by omega) w,show((l1:Int)+(d:Int)+0)%18446744073709551616=(l2:Int) by omega,show((l1:Int)+(d:Int)+0) / 18446744073709551616=(c2:Int) by omega]
 have w1:IntKind.u64.wrap ((h:Int)+(c1:Int))=(h1:Int):=by rw[IntKind.wrap_u64];omega
 have w2:IntKind.u64.wrap ((h1:Int)+(c2:Int))=(h2:Int):=by rw[IntKind.wrap_u64];omega
 have e1:(P+c+d)%18446744073709551616=l2:=by omega
 have e2:(P+c+d) / 18446744073709551616=h2:=by omega
 rw[e1,e2]
 have HM:=hid hM
 clear hM e1 e2 hh hl hl1 hc1 hh1 hl2 hc2 hh2 hPe hP ha hb hc hd
 go_enter Tryz.func138,Tryz.ntmps138
 go_wp2_with fail
 refine HM.out.mono ?_
 rintro e w' ⟨rfl,rfl⟩
 go_wp2
 go_ret2
 exact⟨rfl,rfl⟩

def midN (B N x b i k p:Nat):Nat:=if p<i+k then dg B (mulT B N x b i k) p else dg B N p
theorem midN_zero (B N x b i p:Nat):midN B N x b i 0 p=dg B N p:=by unfold midN;rw[mulT_zero];split <;> rfl
theorem midN_here (B N x b i k:Nat):midN B N x b i k (i+k)=dg B N (i+k):=by unfold midN;rw[if_neg (by omega)]
theorem midN_new {B:Nat} (hB:0<B) (N x b i k:Nat):midN B N x b i (k+1) (i+k)=(x*dg B b k+dg B N (i+k)+mulC B N x b i k)%B:=by
 unfold midN;rw[if_pos (by omega),mulT_dg hB,Nat.add_comm (dg B N (i+k))]
theorem midNC_new {B:Nat} (hB:0<B) (N x b i k:Nat):mulC B N x b i (k+1)=(x*dg B b k+dg B N (i+k)+mulC B N x b i k) / B:=by
 rw[mulC_succ hB,Nat.add_comm (dg B N (i+k))]
theorem midN_other {B:Nat} (hB:0<B) (N x b i k p:Nat) (hp:p≠i+k):midN B N x b i k p=midN B N x b i (k+1) p:=by
 unfold midN
 by_cases h:p<i+k
 ·rw[if_pos h,if_pos (by omega),mulT_low hB _ _ _ _ _ _ h]
 rw[if_neg h,if_neg (by omega)]
theorem midN_done {B N x b i n p:Nat} (hB:0<B) (hb:b<B^n) (hN:N+x*b*B^i<B^(i+n)):midN B N x b i n p=dg B (N+x*b*B^i) p:=by
 have e:mulT B N x b i n=N+x*b*B^i:=by unfold mulT;rw[Nat.mod_eq_of_lt hb]
 unfold midN
 rw[e]
 by_cases h:p<i+n
 ·rw[if_pos h]
 rw[if_neg h]
 have p1:B^(i+n)<=B^p:=Nat.pow_le_pow_right hB (by omega)
 rw[dg_zero_of_lt (Nat.lt_of_lt_of_le hN p1),dg_zero_of_lt (Nat.lt_of_le_of_lt (Nat.le_add_right _ _) (Nat.lt_of_lt_of_le hN p1))]

def SumW (w:World) (B:Nat) (f:Nat->Nat):Prop:=w.heap[B]?=some (.cells #[.int .u64 (f 0:Int),.int .u64 (f 1:Int),.int .u64 (f 2:Int),.int .u64 (f 3:Int),.int .u64 (f 4:Int),.int .u64 (f 5:Int),.int .u64 (f 6:Int),.int .u64 (f 7:Int),.int .u64 (f 8:Int)] 173 (0,0))
theorem below9 {p:Nat} (h:p<9):p=0\/p=1\/p=2\/p=3\/p=4\/p=5\/p=6\/p=7\/p=8:=by omega
theorem SumW.cell {w:World} {B:Nat} {f:Nat->Nat} (h:SumW w B f) (k:Nat) (hk:k<9):w.cell? ⟨B,k,none⟩=some (.int .u64 (f k:Int)):=by
 rw[cell_of_heap h]
 rcases below9 hk with rfl | rfl | rfl | rfl | rfl | rfl | rfl | rfl | rfl <;> rfl
theorem SumW.congr {w:World} {B:Nat} {f f':Nat->Nat} (h:SumW w B f) (hf:∀ p,p<9->f p=f' p):SumW w B f':=by
 unfold SumW at *
 rw[h,hf 0 (by omega),hf 1 (by omega),hf 2 (by omega),hf 3 (by omega),hf 4 (by omega),hf 5 (by omega),hf 6 (by omega),hf 7 (by omega),hf 8 (by omega)]
theorem SumW.store {w:World} {B k x:Nat} {f f':Nat->Nat} (h:SumW w B f) (hk:k<9) (hx:f' k=x) (hf:∀ p,p<9->p≠k->f p=f' p):SumW (w.setCell ⟨B,k,none⟩ (.int .u64 x)) B f':=by
 have h2:=heap_set h k (.int .u64 x)
 unfold SumW
 rw[h2,<-hx]
 have g:=fun p (h1:p<9) (h2:p≠k)=>hf p h1 h2
 rcases below9 hk with rfl | rfl | rfl | rfl | rfl | rfl | rfl | rfl | rfl
 ·simp[g 1 (by omega) (by omega),g 2 (by omega) (by omega),g 3 (by omega) (by omega),g 4 (by omega) (by omega),g 5 (by omega) (by omega),g 6 (by omega) (by omega),g 7 (by omega) (by omega),g 8 (by omega) (by omega)]
 ·simp[g 0 (by omega) (by omega),g 2 (by omega) (by omega),g 3 (by omega) (by omega),g 4 (by omega) (by omega),g 5 (by omega) (by omega),g 6 (by omega) (by omega),g 7 (by omega) (by omega),g 8 (by omega) (by omega)]
 ·simp[g 0 (by omega) (by omega),g 1 (by omega) (by omega),g 3 (by omega) (by omega),g 4 (by omega) (by omega),g 5 (by omega) (by omega),g 6 (by omega) (by omega),g 7 (by omega) (by omega),g 8 (by omega) (by omega)]
 ·simp[g 0 (by omega) (by omega),g 1 (by omega) (by omega),g 2 (by omega) (by omega),g 4 (by omega) (by omega),g 5 (by omega) (by omega),g 6 (by omega) (by omega),g 7 (by omega) (by omega),g 8 (by omega) (by omega)]
 ·simp[g 0 (by omega) (by omega),g 1 (by omega) (by omega),g 2 (by omega) (by omega),g 3 (by omega) (by omega),g 5 (by omega) (by omega),g 6 (by omega) (by omega),g 7 (by omega) (by omega),g 8 (by omega) (by omega)]
 ·simp[g 0 (by omega) (by omega),g 1 (by omega) (by omega),g 2 (by omega) (by omega),g 3 (by omega) (by omega),g 4 (by omega) (by omega),g 6 (by omega) (by omega),g 7 (by omega) (by omega),g 8 (by omega) (by omega)]
 ·simp[g 0 (by omega) (by omega),g 1 (by omega) (by omega),g 2 (by omega) (by omega),g 3 (by omega) (by omega),g 4 (by omega) (by omega),g 5 (by omega) (by omega),g 7 (by omega) (by omega),g 8 (by omega) (by omega)]
 ·simp[g 0 (by omega) (by omega),g 1 (by omega) (by omega),g 2 (by omega) (by omega),g 3 (by omega) (by omega),g 4 (by omega) (by omega),g 5 (by omega) (by omega),g 6 (by omega) (by omega),g 8 (by omega) (by omega)]
 simp[g 0 (by omega) (by omega),g 1 (by omega) (by omega),g 2 (by omega) (by omega),g 3 (by omega) (by omega),g 4 (by omega) (by omega),g 5 (by omega) (by omega),g 6 (by omega) (by omega),g 7 (by omega) (by omega)]
def SumAt (w:World) (B N:Nat):Prop:=SumW w B (wd N)

structure AddAt (w wr:World) (B b:Nat) (f:Nat->Nat):Prop where
 num:NumAt wr w.heap.size b
 sum:SumW wr B f
 lt:B<w.heap.size
 off:Off (fun k=>k=B) w wr
theorem AddAt.congr {w wr:World} {B b:Nat} {f f':Nat->Nat} (h:AddAt w wr B b f) (hf:∀ p,p<9->f p=f' p):AddAt w wr B b f':=⟨h.num,h.sum.congr hf,h.lt,h.off⟩
theorem AddAt.store {w wr:World} {B b k x:Nat} {f f':Nat->Nat} (h:AddAt w wr B b f) (hk:k<9) (hx:f' k=x) (hf:∀ p,p<9->p≠k->f p=f' p):AddAt w (wr.setCell ⟨B,k,none⟩ (.int .u64 x)) B b f' :=
 ⟨(Below.heap_setCell _ _ _ _ (show w.heap.size≠B from Nat.ne_of_gt h.lt)).trans h.num,h.sum.store hk hx hf,h.lt,h.off.setCell (fun _=>rfl) _⟩
theorem AddAt.drew {w wr:World} {B b:Nat} {f:Nat->Nat} (h:AddAt w wr B b f):AddAt w wr.drew B b f:=⟨h.num,h.sum,h.lt,h.off.drew⟩
theorem AddAt.start {w:World} {B:Nat} (b:Nat) {f:Nat->Nat} (h:SumW w B f):AddAt w (w.alloc (.cells #[.int .u64 (wd b 0),.int .u64 (wd b 1),.int .u64 (wd b 2),.int .u64 (wd b 3)] 63)) B b f :=
 ⟨heap_new' rfl _,heap_old' h _,heap_lt h,(Off.refl _ w).alloc _⟩

attribute [local go_sem ↓] Go.wp_at_zero Go.wp_at_succ
set_option maxRecDepth 100000 in
set_option maxHeartbeats 4000000 in
theorem sumadd_any (N x b i B:Nat) (hx:x<18446744073709551616) (hb:b<R256) (hi:i<4) (hN:N+x*b*W64^i<W64^(i+6)) (w:World) (hA:SumAt w B N) :
  Calls Tryz.prog 123 #[.pointer (some ⟨B,0,none⟩),.int .i64 i,.int .u64 x,V b] w fun e w'=>e=.returned (.tuple #[])/\SumAt w' B (N+x*b*W64^i)/\Off (fun k=>k=B) w w':=by
 have HB:=hid hb
 have HN:=hid hN
 have HX:=hid hx
 have HA:=hid hA
 clear hb hN hA
 go_enter Tryz.func123,Tryz.ntmps123
 go_wp2
 go_loopw [8,10] (fun c i' wr=>∃ k:Nat,k<=4/\i'=.int .i64 k/\c=.int .u64 (mulC W64 N x b i k:Int)/\AddAt w wr B b (midN W64 N x b i k)) (fun _ i' _=>4-(intOf i').toNat)
 case atStart=>exact⟨0,by omega,rfl,by rw[mulC_zero];rfl,AddAt.start b (SumW.congr HA.out (fun p _=>(midN_zero _ _ _ _ _ _).symm))⟩
 case round =>
  obtain⟨k,hk,rfl,rfl,hA⟩:=hrel
  by_cases hlt2:k<4
  ·have j1:decide ((k:Int)<4)=true:=by simp;omega
   have cb:=hA.num.cell k hlt2
   have cp:=hA.sum.cell (i+k) (by omega)
   rw[midN_here]at cp
   have hn:=midN_new w64_pos N x b i k
   have hm:=midNC_new w64_pos N x b i k
   have hcl:=mulC_lt (B:=W64) (by decide) N x b i k hx
   have fz:=frozen_of_heap hA.sum (i+k)
   obtain⟨y,hy⟩:∃ y,y=wd b k:=⟨_,rfl⟩
   obtain⟨z,hz⟩:∃ z,z=dg W64 N (i+k):=⟨_,rfl⟩
   obtain⟨c,hc⟩:∃ c,c=mulC W64 N x b i k:=⟨_,rfl⟩
   have hyl:y<18446744073709551616:=by rw[hy];exact wd_lt _ _
   have hzl:z<18446744073709551616:=by rw[hz];exact dg_lt w64_pos _ _
   have hcl':c<18446744073709551616:=by rw[hc];exact hcl
   have hn':midN W64 N x b i (k+1) (i+k)=(x*y+z+c)%18446744073709551616:=by rw[hn,hy,hz,hc];rfl
   have hm':mulC W64 N x b i (k+1)=(x*y+z+c) / 18446744073709551616:=by rw[hm,hy,hz,hc];rfl
   have hM:=fun w=>mmuladd_any x y z c hx hyl hzl hcl' w
   simp only[<-hn',<-hm']at hM
   rw[<-hy]at cb
   rw[<-hz]at cp
   rw[<-hc]
   obtain⟨s,hs⟩:∃ s,s=i+k:=⟨_,rfl⟩
   simp only[<-hs]at cp fz hM
   have s0:IntKind.i64.wrap ((i:Int)+(k:Int))=(s:Int):=by rw[IntWalk.i64_in _ (by omega)];omega
   have s1:(s:Int)<9:=by omega
   have s2:(0:Int)<=(s:Int):=by omega
   have HS:=hid hs
   have HA':=hid hA
   obtain⟨p,hp⟩:∃ p,p=midN W64 N x b i (k+1) s:=⟨_,rfl⟩
   obtain⟨c',hc'⟩:∃ c',c'=mulC W64 N x b i (k+1):=⟨_,rfl⟩
   simp only[<-hp,<-hc']at hM
   have HP:=hid hp
   have HC':=hid hc'
   have HM:=hid hM
   clear hA hn hm hcl hy hz hc hn' hm' hs hp hc' hM hx HA HN HB
   go_wp2
   go_region_with (go_at_call 138;refine(HM.out _).mono ?_;rintro e w' ⟨rfl,rfl⟩)
   all_goals
    go_wp2
    go_roundw
    case rel=>exact⟨k+1,by omega,by go_num,by rw[HC'.out],(HA'.out.store (k:=s) (x:=p) (by omega) HP.out.symm (fun j _ hj=>midN_other w64_pos N x b i k j (by rw[<-HS.out];exact hj))).drew⟩
    case measure=>simp[intOf];omega
  obtain rfl:k=4:=by omega
  have cp:=hA.sum.cell (i+4) (by omega)
  have fz:=fun j=>frozen_of_heap hA.sum j
  rw[midN_here]at cp
  have hb0:dg W64 b 4=0:=dg_zero_of_lt HB.out
  have hb1:dg W64 b 5=0:=dg_zero_of_lt (Nat.lt_of_lt_of_le HB.out (Nat.pow_le_pow_right w64_pos (by omega)))
  have hn:=midN_new w64_pos N x b i 4
  have hm:=midNC_new w64_pos N x b i 4
  have hn2:=midN_new w64_pos N x b i 5
  rw[hb0,Nat.mul_zero,Nat.zero_add]at hn hm
  rw[hb1,Nat.mul_zero,Nat.zero_add]at hn2
  have hcl:=mulC_lt (B:=W64) (by decide) N x b i 4 hx
  have hcl2:=mulC_lt (B:=W64) (by decide) N x b i 5 hx
  have hzl:dg W64 N (i+4)<18446744073709551616:=dg_lt w64_pos _ _
  have hyl:dg W64 N (i+5)<18446744073709551616:=dg_lt w64_pos _ _
  obtain⟨c,hc⟩:∃ c,c=mulC W64 N x b i 4:=⟨_,rfl⟩
  obtain⟨d,hd⟩:∃ d,d=mulC W64 N x b i 5:=⟨_,rfl⟩
  obtain⟨z,hz⟩:∃ z,z=dg W64 N (i+4):=⟨_,rfl⟩
  obtain⟨y,hy⟩:∃ y,y=dg W64 N (i+5):=⟨_,rfl⟩
  obtain⟨p,hp⟩:∃ p,p=midN W64 N x b i 5 (i+4):=⟨_,rfl⟩
  obtain⟨q,hq⟩:∃ q,q=midN W64 N x b i 6 (i+5):=⟨_,rfl⟩
  have hA1:=hA.store (k:=i+4) (x:=p) (f':=midN W64 N x b i 5) (by omega) hp.symm (fun j _ hj=>midN_other w64_pos N x b i 4 j hj)
  have cq:=hA1.drew.sum.cell (i+5) (by omega)
  rw[midN_here,<-hy]at cq
  have hA2:=hA1.drew.store (k:=i+5) (x:=q) (f':=midN W64 N x b i 6) (by omega) hq.symm (fun j _ hj=>midN_other w64_pos N x b i 5 j hj)
  have fz2:=fun j=>frozen_of_heap hA1.drew.sum j
  rw[<-hz,<-hc]at hn hm
  rw[<-hy,<-hd]at hn2
  rw[<-hp]at hn
  rw[<-hd]at hm
  rw[<-hq]at hn2
  rw[<-hz]at cp hzl
  rw[<-hy]at hyl
  rw[<-hc]at hcl ⊢
  rw[<-hd]at hcl2
  have r1:∀ w,(callFunc 139 #[.int .u64 z,.int .u64 c,.int .u64 0]).run Tryz.prog w=.ok (.value (.tuple #[.int .u64 p,.int .u64 d])) w:=fun w=>by
   unfold W64 at hn hm hcl
   rw[run_add64_at _ _ _ ⟨by omega,by omega⟩ ⟨by omega,by omega⟩ (by omega) (by omega) w,show((z:Int)+(c:Int)+0)%18446744073709551616=(p:Int) by omega,show((z:Int)+(c:Int)+0) / 18446744073709551616=(d:Int) by omega]
  have w1:IntKind.u64.wrap ((y:Int)+(d:Int))=(q:Int):=by unfold W64 at hn2;rw[IntKind.wrap_u64];omega
  have hdone:∀ j,midN W64 N x b i 6 j=wd (N+x*b*W64^i) j:=fun j=>midN_done w64_pos (Nat.lt_of_lt_of_le HB.out (Nat.pow_le_pow_right w64_pos (by omega))) HN.out
  have HS:=hid (hA2.congr (f':=wd (N+x*b*W64^i)) (fun j _=>hdone j))
  obtain⟨s,hs⟩:∃ s,s=i+4:=⟨_,rfl⟩
  obtain⟨t,ht⟩:∃ t,t=i+5:=⟨_,rfl⟩
  rw[<-hs]at cp cq HS
  rw[<-ht]at cq HS
  have s0:IntKind.i64.wrap ((i:Int)+4)=(s:Int):=by rw[IntWalk.i64_in _ (by omega)];omega
  have t0:IntKind.i64.wrap ((s:Int)+1)=(t:Int):=by rw[IntWalk.i64_in _ (by omega)];omega
  have s1:(s:Int)<9:=by omega
  have s2:(0:Int)<=(s:Int):=by omega
  have t1:(t:Int)<9:=by omega
  have t2:(0:Int)<=(t:Int):=by omega
  have fs:=fz s
  have fu:=fz2 t
  rw[<-hs]at fu
  clear hA hA1 hA2 hdone hn hm hn2 hcl hcl2 hzl hyl hc hd hz hy hp hq hs ht HA HN HB hx HX fz fz2 hb0 hb1
  go_wp2
  go_region_with (fail)
  all_goals
   go_wp2
   go_region
   all_goals
    go_wp2
    go_end0
    exact⟨rfl,HS.out.sum,HS.out.off.os,HS.out.off.tape,HS.out.off.output,HS.out.off.size,HS.out.off.block,HS.out.off.others⟩
end
section
open Go.RowKit

theorem redV_two {p t:Nat} (hp:p<R256) (ht:t<2*p):V (redV p (t%R256) ((t / R256:Nat):Int))=V (t%p):=by
 rw[<-V_mod (redV _ _ _)]
 congr 1
 have h1:t%p=if t<p then t else t-p:=by
  split
  ·exact Nat.mod_eq_of_lt (by omega)
  rw[Nat.mod_eq_sub_mod (by omega)];exact Nat.mod_eq_of_lt (by omega)
 rw[h1]
 unfold redV subV R256 W64 at *
 simp only[Nat.reducePow]at *
 split <;> split <;> omega
theorem wd_low {i p:Nat} (h:(i*wd p 0+1)%18446744073709551616=0):(i*p+1)%W64=0:=by
 have e:wd p 0=p%18446744073709551616:=by unfold wd dg W64;simp
 rw[e]at h
 unfold W64
 rw[Nat.add_mod,Nat.mul_mod_mod,<-Nat.add_mod]at h
 exact h
theorem wd_shift (t k j:Nat):wd (t*W64^k) (k+j)=wd t j:=by
 unfold wd dg
 rw[Nat.pow_add,<-Nat.div_div_eq_div_mul,Nat.mul_div_cancel _ (Nat.pow_pos w64_pos)]
theorem mont_round {p v u t k i:Nat} (hp:p<R256) (hv:v<p) (hinv:(i*p+1)%W64=0) (hR:Redc p v (u%W64^k) t (W64^k)) :
  ∃ N m t',N=t*W64^k+wd u k*v*W64^k/\N<W64^(k+6)/\m=wd N k*i%18446744073709551616/\N+m*p*W64^k<W64^(k+6)/\N+m*p*W64^k=t'*W64^(k+1)/\Redc p v (u%W64^(k+1)) t' (W64^(k+1)):=by
 have hx:wd u k<W64:=wd_lt u k
 have eN:t*W64^k+wd u k*v*W64^k=(t+wd u k*v)*W64^k:=by rw[Nat.add_mul]
 have hw:wd ((t+wd u k*v)*W64^k) k=(t+wd u k*v)%W64:=by
  have:=wd_shift (t+wd u k*v) k 0
  rw[Nat.add_zero]at this
  rw[this];unfold wd dg;rw[Nat.pow_zero,Nat.div_one]
 have hm:(t+wd u k*v)%W64*i%W64<W64:=Nat.mod_lt _ w64_pos
 have hz:=step_zero (s:=t+wd u k*v) hinv
 have hS:=Redc.step w64_pos hR hx hm hz
 have hb:=hS.bound
 have hdiv:=Nat.div_add_mod (t+wd u k*v+(t+wd u k*v)%W64*i%W64*p) W64
 rw[hz,Nat.add_zero]at hdiv
 have hfull:(t+wd u k*v+(t+wd u k*v)%W64*i%W64*p)*W64^k<W64^(k+6):=by
  have h6:t+wd u k*v+(t+wd u k*v)%W64*i%W64*p<W64^6:=by
   rw[<-hdiv]
   generalize (t+wd u k*v+(t+wd u k*v)%W64*i%W64*p) / W64=q at hb
   have:q<2*R256:=by omega
   unfold R256 W64 at *
   simp only[Nat.reducePow]at *
   omega
  rw[Nat.pow_add,Nat.mul_comm]
  exact Nat.mul_lt_mul_of_pos_left h6 (Nat.pow_pos w64_pos)
 refine⟨_,(t+wd u k*v)%W64*i%W64,(t+wd u k*v+(t+wd u k*v)%W64*i%W64*p) / W64,eN.symm,?_,?_,?_,?_,?_⟩
 ·exact Nat.lt_of_le_of_lt (Nat.mul_le_mul_right _ (Nat.le_add_right _ _)) hfull
 ·rw[hw];rfl
 ·rw[<-Nat.add_mul];exact hfull
 ·rw[<-Nat.add_mul,<-hdiv,Nat.pow_succ]
  generalize (t+wd u k*v+(t+wd u k*v)%W64*i%W64*p) / W64=q
  rw[Nat.mul_div_cancel_left _ w64_pos,Nat.mul_comm W64 q,Nat.mul_assoc,Nat.mul_comm W64]
 have e:u%W64^(k+1)=u%W64^k+wd u k*W64^k:=by rw[mod_succ,Nat.mul_comm (W64^k)];rfl
 rw[e]
 exact hS
theorem mont_last {p v u t:Nat} (h:Mp p) (hu:u<R256) (hv:v<p) (hR:Redc p v (u%W64^4) t (W64^4)):V (redV p (t%R256) ((t / R256:Nat):Int))=V (mm p u v):=by
 have hb:=hR.bound
 have hc:=hR.cong
 rw[show W64^4=R256 from rfl,Nat.mod_eq_of_lt hu]at hc
 rw[redV_two h.lt (by omega),mm_of (r:=t%p) (a:=u) (b:=v) h (Nat.mod_lt _ h.pos) (by rw[Nat.mod_mul_mod];exact hc)]

structure MMAt (w wr:World) (id:Int) (p i r s u v N:Nat):Prop where
 f:wr.heap[w.heap.size]?=some (.cells #[.int .i64 id,.int .u64 (wd p 0),.int .u64 (wd p 1),.int .u64 (wd p 2),.int .u64 (wd p 3),.int .u64 i,.int .u64 (wd r 0),.int .u64 (wd r 1),.int .u64 (wd r 2),.int .u64 (wd r 3),.int .u64 (wd s 0),.int .u64 (wd s 1),.int .u64 (wd s 2),.int .u64 (wd s 3)] 104)
 a:wr.heap[w.heap.size+1]?=some (.cells #[.int .u64 (wd u 0),.int .u64 (wd u 1),.int .u64 (wd u 2),.int .u64 (wd u 3)] 66)
 b:wr.heap[w.heap.size+1+1]?=some (.cells #[.int .u64 (wd v 0),.int .u64 (wd v 1),.int .u64 (wd v 2),.int .u64 (wd v 3)] 66)
 ret:wr.heap[w.heap.size+1+1+1]?=some (.cells #[.int .u64 0,.int .u64 0,.int .u64 0,.int .u64 0] 66)
 sum:SumAt wr (w.heap.size+1+1+1+1) N
 off:Off (fun _=>False) w wr
theorem MMAt.start (w:World) (id:Int) (p i r s u v:Nat):MMAt w (((((w.alloc (.cells #[.int .i64 id,.int .u64 (wd p 0),.int .u64 (wd p 1),.int .u64 (wd p 2),.int .u64 (wd p 3),.int .u64 i,.int .u64 (wd r 0),.int .u64 (wd r 1),.int .u64 (wd r 2),.int .u64 (wd r 3),.int .u64 (wd s 0),.int .u64 (wd s 1),.int .u64 (wd s 2),.int .u64 (wd s 3)] 104)).alloc (.cells #[.int .u64 (wd u 0),.int .u64 (wd u 1),.int .u64 (wd u 2),.int .u64 (wd u 3)] 66)).alloc (.cells #[.int .u64 (wd v 0),.int .u64 (wd v 1),.int .u64 (wd v 2),.int .u64 (wd v 3)] 66)).alloc (.cells #[.int .u64 0,.int .u64 0,.int .u64 0,.int .u64 0] 66)).alloc (.cells #[.int .u64 0,.int .u64 0,.int .u64 0,.int .u64 0,.int .u64 0,.int .u64 0,.int .u64 0,.int .u64 0,.int .u64 0] 173)) id p i r s u v 0:=by
 refine⟨heap_old' (heap_old' (heap_old' (heap_old' (heap_new' rfl _) _) _) _) _,heap_old' (heap_old' (heap_old' (heap_new' (by simp) _) _) _) _,heap_old' (heap_old' (heap_new' (by simp) _) _) _,heap_old' (heap_new' (by simp) _) _,?_,(((((Off.refl _ w).alloc _).alloc _).alloc _).alloc _).alloc _⟩
 unfold SumAt SumW
 simp only[wd_zero]
 exact heap_new' (by simp) _
theorem MMAt.drew {w wr:World} {id:Int} {p i r s u v N:Nat} (h:MMAt w wr id p i r s u v N):MMAt w wr.drew id p i r s u v N:=⟨h.f,h.a,h.b,h.ret,h.sum,h.off.drew⟩
theorem MMAt.step {w wr wr':World} {id:Int} {p i r s u v N N':Nat} (h:MMAt w wr id p i r s u v N) (hS:SumAt wr' (w.heap.size+1+1+1+1) N') (hO:Off (fun k=>k=w.heap.size+1+1+1+1) wr wr'):MMAt w wr' id p i r s u v N' :=
 ⟨hO.heap h.f (by omega),hO.heap h.a (by omega),hO.heap h.b (by omega),hO.heap h.ret (by omega),hS,h.off.trans hO (fun k hk e=>by omega)⟩
theorem elem_cell {w:World} {b n:Nat} {T:TypeId} (h:w.heap[b]?=some (.cells #[.int .u64 (wd n 0),.int .u64 (wd n 1),.int .u64 (wd n 2),.int .u64 (wd n 3)] T)) (k:Nat) (hk:k<4):w.cell? ⟨b,k,none⟩=some (.int .u64 (wd n k:Int)):=by
 rw[cell_of_heap h]
 have:k=0\/k=1\/k=2\/k=3:=by omega
 rcases this with rfl | rfl | rfl | rfl <;> rfl

attribute [local go_sem ↓] Go.wp_at_zero Go.wp_at_succ
set_option maxRecDepth 100000 in
set_option maxHeartbeats 4000000 in
theorem mmul_any {id:Int} {p i r s:Nat} (hF:Fld id p i r s) (u v:Nat) (hu:u<R256) (hv:v<p) (w:World) :
  Calls Tryz.prog 109 #[FV id p i r s,V u,V v] w fun e w'=>e=.returned (V (mm p u v))/\Off (fun _=>False) w w':=by
 have hp:=hF.mp.lt
 have hinv:=wd_low hF.inv
 have HROUND:=hid (fun k t (hR:Redc p v (u%W64^k) t (W64^k))=>mont_round (i:=i) (k:=k) hp hv hinv hR)
 have HLAST:=hid (fun t (hR:Redc p v (u%W64^4) t (W64^4))=>mont_last hF.mp hu hv hR)
 have HB:=hid (fun t (hR:Redc p v (u%W64^4) t (W64^4))=>hR.bound)
 have HADD1:=hid (fun N k B W hk hN hA=>sumadd_any N (wd u k) v k B (wd_lt u k) (by omega) hk hN W hA)
 have HADD2:=hid (fun N m k B W hm hk hN hA=>sumadd_any N m p k B hm hp hk hN W hA)
 have HSUB:=hid (fun a (c:Nat) (ha:a<R256) (hc:c<2) W=>subtract_any id p i r s a (c:Int) hp ha ⟨by omega,by omega⟩ W)
 have HVP:=hid hv
 have HPP:=hid hp
 have HSTART:=hid (Redc.start p v hF.mp.pos)
 obtain⟨x,hx⟩:∃ x,x=mm p u v:=⟨_,rfl⟩
 rw[<-hx]at HLAST ⊢
 clear hF hinv hp hu hv hx
 go_enter Tryz.func109,Tryz.ntmps109
 go_wp2
 go_loopw [10] (fun i' wr=>∃ k t:Nat,k<=4/\i'=.int .i64 k/\Redc p v (u%W64^k) t (W64^k)/\MMAt w wr id p i r s u v (t*W64^k)) (fun i' _=>4-(intOf i').toNat)
 case atStart=>exact⟨0,0,by omega,rfl,by rw[Nat.pow_zero,Nat.mod_one];exact HSTART.out,by rw[Nat.zero_mul];exact MMAt.start w id p i r s u v⟩
 case round =>
  obtain⟨k,t,hk,rfl,hR,hA⟩:=hrel
  by_cases hlt:k<4
  ·have j1:decide ((k:Int)<4)=true:=by simp;omega
   obtain⟨N,m,t',hN,hb1,hm,hb2,hN2,hR2⟩:=HROUND.out k t hR
   have HC1:=hid (fun W hW=>HADD1.out (t*W64^k) k (w.heap.size+1+1+1+1) W hlt (by rw[<-hN];exact hb1) hW)
   rw[<-hN]at HC1
   have hml:m<18446744073709551616:=by rw[hm];exact Nat.mod_lt _ (by decide)
   have HC2:=hid (fun W hW=>HADD2.out N m k (w.heap.size+1+1+1+1) W hml hlt hb2 hW)
   rw[hN2]at HC2
   have ca:=elem_cell hA.a k hlt
   obtain⟨b0,b1,b2,b3⟩:=cells4 hA.b
   obtain⟨y,hy⟩:∃ y,y=wd u k:=⟨_,rfl⟩
   rw[<-hy]at ca HC1
   obtain⟨z,hz⟩:∃ z,z=wd N k:=⟨_,rfl⟩
   rw[<-hz]at hm
   have wm:IntKind.u64.wrap ((z:Int)*(i:Int))=(m:Int):=by
    rw[IntKind.wrap_u64,hm,<-Int.natCast_mul];omega
   have HZ:=hid hz
   have HR2:=hid hR2
   have HA:=hid hA
   have HK:=hid hk
   clear hN hb1 hm hb2 hN2 hR2 hR hA hy hz hml hk
   go_wp2
   go_region_with (go_at_call 123;refine(HC1.out _ HA.out.drew.sum).mono ?_;rintro e w1 ⟨rfl,hS1,hO1⟩)
   all_goals
    have hA1:=HA.out.drew.step hS1 hO1
    have cz:=hS1.cell k (by omega)
    rw[<-HZ.out]at cz
    obtain⟨_,p0,p1,p2,p3,ci,_⟩:=fv_cells hA1.f
    have HA1:=hid hA1
    clear hA1 hS1 hO1 ca b0 b1 b2 b3
    go_wp2
    go_region_with (go_at_call 123;refine(HC2.out _ HA1.out.drew.sum).mono ?_;rintro e w2 ⟨rfl,hS2,hO2⟩)
    all_goals
     go_wp2
     go_roundw
     case rel=>exact⟨k+1,t',by omega,by go_num,HR2.out,HA1.out.drew.step hS2 hO2⟩
     case measure=>simp[intOf];omega
  obtain rfl:k=4:=by omega
  have hlast:=HLAST.out t hR
  have hbd:=HB.out t hR
  obtain⟨c,hc⟩:∃ c,c=t / R256:=⟨_,rfl⟩
  have hc2:c<2:=by
   have h1:=HVP.out
   have h2:=HPP.out
   rw[hc];exact(Nat.div_lt_iff_lt_mul (by decide)).2 (by omega)
  have hc8:wd (t*W64^4) 8=c:=by
   have h:=wd_shift t 4 4
   rw[show 4+4=8 from rfl]at h
   have h2:=wd_div t 0
   rw[Nat.zero_add]at h2
   rw[h,<-h2,<-hc]
   unfold wd dg W64
   rw[Nat.pow_zero,Nat.div_one]
   exact Nat.mod_eq_of_lt (by omega)
  have s4:=hA.sum.cell 4 (by omega)
  have s5:=hA.sum.cell 5 (by omega)
  have s6:=hA.sum.cell 6 (by omega)
  have s7:=hA.sum.cell 7 (by omega)
  have s8:=hA.sum.cell 8 (by omega)
  rw[hc8]at s8
  rw[show wd (t*W64^4) 4=wd t 0 from wd_shift t 4 0]at s4
  rw[show wd (t*W64^4) 5=wd t 1 from wd_shift t 4 1]at s5
  rw[show wd (t*W64^4) 6=wd t 2 from wd_shift t 4 2]at s6
  rw[show wd (t*W64^4) 7=wd t 3 from wd_shift t 4 3]at s7
  have HC:=hid (fun W=>by
   have h:=HSUB.out (t%R256) c (Nat.mod_lt _ (by decide)) hc2 W
   rw[V_mod,hc,hlast]at h
   rw[<-hc]at h
   exact h)
  obtain⟨f0,f1,f2,f3,f4,f5,f6,f7,f8,f9,f10,f11,f12,f13⟩:=fv_cells hA.f
  have hat:∀ W,(Instr.arrayAt 63 (.slice (some ⟨w.heap.size+1+1+1+1,4,none⟩) 4 5)).run Tryz.prog W=.ok (.pointer (some ⟨w.heap.size+1+1+1+1,4,none⟩)) W:=fun W=>run_arrayAt (w:=W) 63 _ 4 _ 4 5 Tryz.underlying63 (by omega)
  have hmf:∀ (fn:Fn) (first cap:Array Value) (W:World),(Instr.makeFunc fn first cap).run Tryz.prog W=.ok (.func fn first cap) W:=fun _ _ _ _=>rfl
  have HA:=hid hA
  clear hlast hbd hc hc2 hc8 hA hR
  go_wp2
  go_region_with (go_at_call 122;refine(HC.out _).mono ?_;rintro e w2 ⟨rfl,hO2⟩;obtain⟨⟨r0,r1,r2,r3⟩,fz,lt⟩:=zero_cells (hO2.heap HA.out.drew.ret (fun c=>c)))
  all_goals
   go_wp2
   refine bodyPost_ret (v:=V x) (by simp[results,Tryz.results109,go_sem,r0,r1,r2,r3]) rfl ⟨rfl,?_⟩
   exact off4 (HA.out.off.drew.trans hO2 (fun _ _ c=>c)) (by omega) _ _ _ _
end
section
open Go.RowKit

attribute [local go_sem ↓] Go.wp_at_zero Go.wp_at_succ
set_option maxRecDepth 100000 in
set_option maxHeartbeats 2000000 in
theorem msquare_any {id:Int} {p i r s:Nat} (hF:Fld id p i r s) (u:Nat) (hu:u<p) (w:World):Calls Tryz.prog 153 #[FV id p i r s,V u] w fun e w'=>e=.returned (V (mm p u u))/\Off (fun _=>False) w w':=by
 have hp:=hF.mp.lt
 have HC:=hid (fun W=>mmul_any hF u u (by omega) hu W)
 obtain⟨x,hx⟩:∃ x,x=mm p u u:=⟨_,rfl⟩
 rw[<-hx]at HC ⊢
 clear hF hu hp hx
 go_enter Tryz.func153,Tryz.ntmps153
 go_wp2_with fail
 refine(HC.out _).mono ?_
 rintro e u1 ⟨rfl,hO⟩
 have hR:u1.heap[w.heap.size+1+1]?=some (.cells #[.int .u64 0,.int .u64 0,.int .u64 0,.int .u64 0] 66):=hO.heap (heap_new' (by simp) _) (fun c=>c)
 obtain⟨⟨r0,r1,r2,r3⟩,fz,lt⟩:=zero_cells hR
 have HO:=hid (((((Off.refl _ w).alloc _).alloc _).alloc _).trans hO (fun _ _ c=>c))
 clear hR hO
 go_wp2
 refine bodyPost_ret (v:=V x) (by simp[results,Tryz.results153,go_sem,r0,r1,r2,r3]) rfl ⟨rfl,?_⟩
 exact off4 HO.out (by omega) _ _ _ _
set_option maxRecDepth 100000 in
set_option maxHeartbeats 2000000 in
theorem mto_any {id:Int} {p i r s:Nat} (hF:Fld id p i r s) (a:Nat) (ha:a<R256) (w:World):Calls Tryz.prog 115 #[FV id p i r s,V a] w fun e w'=>e=.returned (V (fm p (a%p)))/\Off (fun _=>False) w w':=by
 have hsp:s<p:=by rw[hF.ss];exact Nat.mod_lt _ hF.mp.pos
 have HC:=hid (fun W=>by have h:=mmul_any hF a s ha hsp W;rw[show mm p a s=fm p (a%p) by rw[hF.ss];exact mm_square hF.mp a]at h;exact h)
 obtain⟨x,hx⟩:∃ x,x=fm p (a%p):=⟨_,rfl⟩
 rw[<-hx]at HC ⊢
 clear hF ha hsp hx
 go_enter Tryz.func115,Tryz.ntmps115
 go_wp2_with fail
 refine(HC.out _).mono ?_
 rintro e u1 ⟨rfl,hO⟩
 have hR:u1.heap[w.heap.size+1+1]?=some (.cells #[.int .u64 0,.int .u64 0,.int .u64 0,.int .u64 0] 66):=hO.heap (heap_new' (by simp) _) (fun c=>c)
 obtain⟨⟨r0,r1,r2,r3⟩,fz,lt⟩:=zero_cells hR
 have HO:=hid (((((Off.refl _ w).alloc _).alloc _).alloc _).trans hO (fun _ _ c=>c))
 clear hR hO
 go_wp2
 refine bodyPost_ret (v:=V x) (by simp[results,Tryz.results115,go_sem,r0,r1,r2,r3]) rfl ⟨rfl,?_⟩
 exact off4 HO.out (by omega) _ _ _ _
set_option maxRecDepth 100000 in
set_option maxHeartbeats 2000000 in
theorem mchoose_any (m:Int) (hm:Word m) (a b:Nat) (w:World):Calls Tryz.prog 143 #[.int .u64 m,V a,V b] w fun e w'=>e=.returned (V (selN m a b))/\Off (fun _=>False) w w':=by
 have HC:=hid (fun W=>limb_choose m hm a b W)
 obtain⟨x,hx⟩:∃ x,x=selN m a b:=⟨_,rfl⟩
 rw[<-hx]at HC ⊢
 clear hm hx
 go_enter Tryz.func143,Tryz.ntmps143
 go_wp2_with fail
 refine(HC.out _).mono ?_
 rintro e u1 ⟨rfl,hO⟩
 have hR:u1.heap[w.heap.size+1+1]?=some (.cells #[.int .u64 0,.int .u64 0,.int .u64 0,.int .u64 0] 66):=hO.heap (heap_new' (by simp) _) (fun c=>c)
 obtain⟨⟨r0,r1,r2,r3⟩,fz,lt⟩:=zero_cells hR
 have HO:=hid (((((Off.refl _ w).alloc _).alloc _).alloc _).trans hO (fun _ _ c=>c))
 clear hR hO
 go_wp2
 refine bodyPost_ret (v:=V x) (by simp[results,Tryz.results143,go_sem,r0,r1,r2,r3]) rfl ⟨rfl,?_⟩
 exact off4 HO.out (by omega) _ _ _ _
set_option maxHeartbeats 1000000 in
theorem miszero_any (a:Nat) (ha:a<R256) (w:World):Calls Tryz.prog 144 #[V a] w fun e w'=>e=.returned (.int .u64 (mk (zeroN a)))/\Off (fun _=>False) w w':=by
 have HC:=hid (fun W=>limb_iszero a ha W)
 obtain⟨c,hc⟩:∃ c,c=zeroN a:=⟨_,rfl⟩
 rw[<-hc]at HC ⊢
 clear ha hc
 go_enter Tryz.func144,Tryz.ntmps144
 go_wp2_with fail
 refine(HC.out _).mono ?_
 rintro e w1 ⟨rfl,hO⟩
 have HO:=hid hO
 clear hO
 go_wp2
 go_ret
 exact⟨rfl,((Off.refl _ w).alloc _).trans HO.out (fun _ _ c=>c)⟩
set_option maxRecDepth 100000 in
set_option maxHeartbeats 2000000 in
theorem rsum_any {id:Int} {p i r s:Nat} (hF:Fld id p i r s) (a b:Nat) (ha:a<R256) (hb:b<R256) (hab:a+b<2*p) (w:World):Calls Tryz.prog 121 #[.func (.func 122) #[FV id p i r s] #[],V a,V b] w fun e w'=>e=.returned (V ((a+b)%p))/\Off (fun _=>False) w w':=by
 have hp:=hF.mp.lt
 have hc2:(a+b) / R256<2:=(Nat.div_lt_iff_lt_mul (by decide)).2 (by omega)
 have HS:=hid (fun W=>add_any a b ha hb W)
 have HC:=hid (fun W=>by
  have h:=subtract_any id p i r s ((a+b)%R256) (((a+b) / R256:Nat):Int) hp (Nat.mod_lt _ (by decide)) (word_cast (Nat.lt_trans hc2 (by decide))) W
  rw[V_mod,redV_two hp hab]at h
  exact h)
 obtain⟨x,hx⟩:∃ x,x=(a+b)%p:=⟨_,rfl⟩
 obtain⟨c,hc⟩:∃ c,c=(a+b) / R256:=⟨_,rfl⟩
 obtain⟨t,ht⟩:∃ t,t=a+b:=⟨_,rfl⟩
 rw[<-hx]at HC ⊢
 rw[<-hc]at HC HS
 rw[<-ht]at HC HS
 clear hF ha hb hab hp hc2 hx hc ht
 go_enter Tryz.func121,Tryz.ntmps121
 go_wp2_with fail
 refine(HS.out _).mono ?_
 rintro e u1 ⟨rfl,hO⟩
 have HR1:=hid (show u1.heap[w.heap.size+1+1]?=some (.cells #[.int .u64 0,.int .u64 0,.int .u64 0,.int .u64 0] 66) from hO.heap (heap_new' (by simp) _) (fun c=>c))
 have HO1:=hid (((((Off.refl _ w).alloc _).alloc _).alloc _).trans hO (fun _ _ c=>c))
 clear hO
 go_wp2_with fail
 refine(HC.out _).mono ?_
 rintro e u2 ⟨rfl,hO⟩
 have hR:u2.heap[w.heap.size+1+1]?=some (.cells #[.int .u64 0,.int .u64 0,.int .u64 0,.int .u64 0] 66):=hO.heap HR1.out (fun c=>c)
 obtain⟨⟨r0,r1,r2,r3⟩,fz,lt⟩:=zero_cells hR
 have HO:=hid (HO1.out.trans hO (fun _ _ c=>c))
 clear hR hO
 go_wp2
 refine bodyPost_ret (v:=V x) (by simp[results,Tryz.results121,go_sem,r0,r1,r2,r3]) rfl ⟨rfl,?_⟩
 exact off4 HO.out (by omega) _ _ _ _
set_option maxRecDepth 100000 in
set_option maxHeartbeats 2000000 in
theorem madd_any {id:Int} {p i r s:Nat} (hF:Fld id p i r s) (u v:Nat) (hu:u<p) (hv:v<p) (w:World):Calls Tryz.prog 108 #[FV id p i r s,V u,V v] w fun e w'=>e=.returned (V ((u+v)%p))/\Off (fun _=>False) w w':=by
 have hp:=hF.mp.lt
 have HC:=hid (fun W=>rsum_any hF u v (by omega) (by omega) (by omega) W)
 obtain⟨x,hx⟩:∃ x,x=(u+v)%p:=⟨_,rfl⟩
 rw[<-hx]at HC ⊢
 clear hF hu hv hp hx
 have hmf:∀ (fn:Fn) (first cap:Array Value) (W:World),(Instr.makeFunc fn first cap).run Tryz.prog W=.ok (.func fn first cap) W:=fun _ _ _ _=>rfl
 go_enter Tryz.func108,Tryz.ntmps108
 go_wp2_with fail
 refine(HC.out _).mono ?_
 rintro e u1 ⟨rfl,hO⟩
 have hR:u1.heap[w.heap.size+1+1+1]?=some (.cells #[.int .u64 0,.int .u64 0,.int .u64 0,.int .u64 0] 66):=hO.heap (heap_new' (by simp) _) (fun c=>c)
 obtain⟨⟨r0,r1,r2,r3⟩,fz,lt⟩:=zero_cells hR
 have HO:=hid ((((((Off.refl _ w).alloc _).alloc _).alloc _).alloc _).trans hO (fun _ _ c=>c))
 clear hR hO
 go_wp2
 refine bodyPost_ret (v:=V x) (by simp[results,Tryz.results108,go_sem,r0,r1,r2,r3]) rfl ⟨rfl,?_⟩
 exact off4 HO.out (by omega) _ _ _ _
set_option maxRecDepth 100000 in
set_option maxHeartbeats 2000000 in
theorem msub_any {id:Int} {p i r s:Nat} (hF:Fld id p i r s) (u v:Nat) (hu:u<p) (hv:v<p) (w:World):Calls Tryz.prog 125 #[FV id p i r s,V u,V v] w fun e w'=>e=.returned (V ((u+(p-v))%p))/\Off (fun _=>False) w w':=by
 have hp:=hF.mp.lt
 have HS:=hid (fun W=>by
  have h:=sub_any p v hp (by omega) W
  rw[show V (subV p v)=V (p-v) by rw[<-V_mod (subV p v)];congr 1;unfold subV R256 W64 at *;simp only[Nat.reducePow]at *;omega]at h
  exact h)
 have HC:=hid (fun W=>rsum_any hF u (p-v) (by omega) (by omega) (by omega) W)
 obtain⟨x,hx⟩:∃ x,x=(u+(p-v))%p:=⟨_,rfl⟩
 obtain⟨d,hd⟩:∃ d,d=p-v:=⟨_,rfl⟩
 obtain⟨c,hc⟩:∃ c,c=ltN p v:=⟨_,rfl⟩
 rw[<-hx]at HC ⊢
 rw[<-hd]at HC HS
 rw[<-hc]at HS
 clear hF hu hv hp hx hd hc
 have hmf:∀ (fn:Fn) (first cap:Array Value) (W:World),(Instr.makeFunc fn first cap).run Tryz.prog W=.ok (.func fn first cap) W:=fun _ _ _ _=>rfl
 go_enter Tryz.func125,Tryz.ntmps125
 go_wp2_with fail
 refine(HS.out _).mono ?_
 rintro e u1 ⟨rfl,hO⟩
 have hFb:u1.heap[w.heap.size]?=some (.cells #[.int .i64 id,.int .u64 (wd p 0),.int .u64 (wd p 1),.int .u64 (wd p 2),.int .u64 (wd p 3),.int .u64 i,.int .u64 (wd r 0),.int .u64 (wd r 1),.int .u64 (wd r 2),.int .u64 (wd r 3),.int .u64 (wd s 0),.int .u64 (wd s 1),.int .u64 (wd s 2),.int .u64 (wd s 3)] 104):=hO.heap (heap_old' (heap_old' (heap_old' (heap_new' rfl _) _) _) _) (fun c=>c)
 have hU:u1.heap[w.heap.size+1]?=some (.cells #[.int .u64 (wd u 0),.int .u64 (wd u 1),.int .u64 (wd u 2),.int .u64 (wd u 3)] 66):=hO.heap (heap_old' (heap_old' (heap_new' (by simp) _) _) _) (fun c=>c)
 have hZ:u1.heap[w.heap.size+1+1+1]?=some (.cells #[.int .u64 0,.int .u64 0,.int .u64 0,.int .u64 0] 66):=hO.heap (heap_new' (by simp) _) (fun c=>c)
 have lt:=heap_lt hZ
 have lf:=heap_lt hFb
 have la:=heap_lt hU
 obtain⟨f0,f1,f2,f3,f4,f5,f6,f7,f8,f9,f10,f11,f12,f13⟩:=fv_cells hFb
 obtain⟨a0,a1,a2,a3⟩:=cells4 hU
 have HR1:=hid hZ
 have HO1:=hid ((((((Off.refl _ w).alloc _).alloc _).alloc _).alloc _).trans hO (fun _ _ c=>c))
 clear hO hFb hU hZ
 go_wp2_with fail
 refine(HC.out _).mono ?_
 rintro e u2 ⟨rfl,hO⟩
 have hR:u2.heap[w.heap.size+1+1+1]?=some (.cells #[.int .u64 0,.int .u64 0,.int .u64 0,.int .u64 0] 66):=hO.heap (heap_old' HR1.out _) (fun c=>c)
 obtain⟨⟨r0,r1,r2,r3⟩,fz,lt2⟩:=zero_cells hR
 have HO:=hid ((HO1.out.alloc _).trans hO (fun _ _ c=>c))
 clear hR hO
 go_wp2
 refine bodyPost_ret (v:=V x) (by simp[results,Tryz.results125,go_sem,r0,r1,r2,r3]) rfl ⟨rfl,?_⟩
 exact off4 HO.out (by omega) _ _ _ _
set_option maxRecDepth 100000 in
set_option maxHeartbeats 2000000 in
theorem mneg_any {id:Int} {p i r s:Nat} (hF:Fld id p i r s) (u:Nat) (hu:u<p) (w:World):Calls Tryz.prog 117 #[FV id p i r s,V u] w fun e w'=>e=.returned (V ((p-u)%p))/\Off (fun _=>False) w w':=by
 have hp:=hF.mp.lt
 have HC:=hid (fun W=>by have h:=msub_any hF 0 u (by omega) hu W;rw[lit_small 0 (by decide),Nat.zero_add]at h;exact h)
 obtain⟨x,hx⟩:∃ x,x=(p-u)%p:=⟨_,rfl⟩
 rw[<-hx]at HC ⊢
 clear hF hu hp hx
 go_enter Tryz.func117,Tryz.ntmps117
 go_wp2_with fail
 refine(HC.out _).mono ?_
 rintro e u1 ⟨rfl,hO⟩
 have hR:u1.heap[w.heap.size+1+1]?=some (.cells #[.int .u64 0,.int .u64 0,.int .u64 0,.int .u64 0] 66):=hO.heap (heap_new' (by simp) _) (fun c=>c)
 obtain⟨⟨r0,r1,r2,r3⟩,fz,lt⟩:=zero_cells hR
 have HO:=hid (((((Off.refl _ w).alloc _).alloc _).alloc _).trans hO (fun _ _ c=>c))
 clear hR hO
 go_wp2
 refine bodyPost_ret (v:=V x) (by simp[results,Tryz.results117,go_sem,r0,r1,r2,r3]) rfl ⟨rfl,?_⟩
 exact off4 HO.out (by omega) _ _ _ _
end
end Go.Proofs.YtbkgghhngeibhaaGreatDoor
