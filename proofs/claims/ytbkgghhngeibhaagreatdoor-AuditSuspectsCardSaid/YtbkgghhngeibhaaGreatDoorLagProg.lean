/-
  The contract of lagrange's Zero: the coefficients of the value at zero, newly made, or nothing and the error of Check; the tape notes weights' events and the positions. Conditions: the field's constants are those of its modulus; there are at most 90 points.
  The contract of lagrange's polynomialOf: the product of the variable minus each point, newly made. Conditions: the field's constants are those of its modulus, the points are forms of values below it; there are at most 90.
  The contract of the closure in lagrange's Interpolate: a numerator times a factor is added to the result; the tape notes the pairs. Conditions: the field's constants are those of its modulus, the blocks that it reads lie as Env says.
  The contract of lagrange's Interpolate: the interpolated polynomial, newly made, or nothing and an error; the tape notes weights' events and all pairs. Conditions: the field's constants are those of its modulus; there are at most 90 points; the values lie outside the tape.
-/
import Derived.Test.YtbkgghhngeibhaaGreatDoorPolCore
import Derived.Test.YtbkgghhngeibhaaGreatDoorTapeCore
import Derived.Shelf.Bits.Mul64
import Derived.Test.YtbkgghhngeibhaaGreatDoorProg
import Derived.Test.YtbkgghhngeibhaaGreatDoorLagBase
import Derived.Test.YtbkgghhngeibhaaGreatDoorLagMath
import Derived.Test.YtbkgghhngeibhaaGreatDoorPolEnd
import Derived.Test.YtbkgghhngeibhaaGreatDoorPolRefer
import Derived.Test.YtbkgghhngeibhaaGreatDoorPolLists
namespace Go.Proofs.YtbkgghhngeibhaaGreatDoor
open Lib (hid)
section
open Go.RowKit
attribute [local go_sem] Oper.semAt_some wide_fn
def upG (f g:Nat->Nat) (n k:Nat):List Nat:=(List.range n).map (fun j=>if j<k then f j else g j)
theorem upG_length (f g:Nat->Nat) (n k:Nat):(upG f g n k).length=n:=by simp[upG]
theorem upG_zero (f g:Nat->Nat) (n:Nat):upG f g n 0=(List.range n).map g:=by simp[upG]
theorem upG_full (f g:Nat->Nat) (n:Nat):upG f g n n=(List.range n).map f:=by
 unfold upG
 exact List.map_congr_left (fun j hj=>if_pos (List.mem_range.1 hj))
theorem upG_next (f g:Nat->Nat) {n k:Nat} (hk:k<n):(upG f g n k).set k (f k)=upG f g n (k+1):=by
 apply ext_getD (by simp[upG])
 intro i hi
 rw[List.length_set,upG_length]at hi
 rw[getD_set _ _ _ _ (by rw[upG_length];exact hk),upG,upG,getD_range,getD_range,if_pos hi,if_pos hi]
 by_cases e:i=k
 ·subst e;rw[if_pos rfl,if_pos (by omega)]
 rw[if_neg e]
 by_cases h:i<k
 ·rw[if_pos h,if_pos (by omega)]
 rw[if_neg h,if_neg (by omega)]
end
section
open Go.RowKit
def Ow (B:Nat) (l:Nat->Bool) (i:Nat) (u:Value) (w:World) (xs:List Nat):Prop:=l i=true->OwnL B w u xs
theorem Ow.start {B:Nat} (i:Nat) (u:Value) (w:World) (xs:List Nat):Ow B (fun _=>false) i u w xs:=fun h=>by cases h
theorem Ow.new {B:Nat} {l:Nat->Bool} {i:Nat} {u:Value} {w:World} {xs:List Nat} (h:OwnL B w u xs):Ow B (upd l i) i u w xs:=fun _=>h
theorem Ow.keep {B:Nat} {l:Nat->Bool} {i:Nat} {u:Value} {w w':World} {xs:List Nat} (h:Ow B l i u w xs) (ho:Off (fun _=>False) w w') {k:Nat} (hk:(k==i)=false):Ow B (upd l k) i u w' xs:=fun hl=>by
 rw[upd_k l hk]at hl;exact(h hl).off ho (fun _ _ _ _ c=>c)
def Was (l:Nat->Bool) (i:Nat) (u v:Value):Prop:=l i=false->u=v
theorem Was.start (i:Nat) (v:Value):Was (fun _=>false) i v v:=fun _=>rfl
theorem Was.keep {l:Nat->Bool} {i:Nat} {u v:Value} (h:Was l i u v) {k:Nat} (hk:(k==i)=false):Was (upd l k) i u v:=fun hl=>by
 rw[upd_k l hk]at hl;exact h hl
theorem Was.gone (l:Nat->Bool) (i:Nat) (u v:Value):Was (upd l i) i u v:=fun hl=>by
 rw[upd_same]at hl;cases hl
theorem own_2 {B:Nat} (w:World) (m r:Nat) (hB:B<=w.heap.size):OwnL B (w.alloc (.cells #[.int .u64 (wd m 0),.int .u64 (wd m 1),.int .u64 (wd m 2),.int .u64 (wd m 3),.int .u64 (wd r 0),.int .u64 (wd r 1),.int .u64 (wd r 2),.int .u64 (wd r 3)] 66 (0,0))) (.slice (some ⟨w.heap.size,0,none⟩) 2 2) [m,r] :=
 .inr ⟨w.heap.size,rfl,hB,heap_new' rfl _⟩
theorem mul_own {id:Int} {p i0 r s:Nat} (hF:Fld id p i0 r s) {B B2:Nat} (vs us:List Nat) (hl:vs.length<=100) (hl2:us.length<=100) (h0:0<vs.length) (h02:0<us.length) (v u:Value) (w:World) (h:OwnL B w v (vs.map (fm p))) (k:OwnL B2 w u (us.map (fm p))) :
  Calls Tryz.prog 116 #[.pointer none,FV id p i0 r s,v,u] w fun e w'=>∃ z,e=.returned z/\OwnL w.heap.size w' z ((mulL p vs us).map (fm p))/\Off (fun _=>False) w w':=by
 obtain⟨a,cap,rfl,hL⟩:=(Ls.of (h.ls (by rw[List.length_map];omega))).open
 obtain⟨a2,cap2,rfl,hM⟩:=(Ls.of (k.ls (by rw[List.length_map];omega))).open
 rw[List.length_map]at hL hM ⊢
 rw[List.length_map]
 have hln:((mulL p vs us).map (fm p)).length=vs.length+us.length-1:=by rw[List.length_map,mulL_length p vs us (by omega) (by omega)]
 refine(mul_some hF vs us _ cap _ cap2 a a2 rfl rfl (by omega) (by omega) (Nat.le_trans (Nat.mul_le_mul hl hl2) (by decide)) (by omega) none [] (fun _=>False) _ _ w hL none_lst hM none_lst (Tp.none w) (by simp)).mono ?_
 rintro e w' ⟨b,rfl,hb,hN,_,hO⟩
 exact⟨_,rfl,.inr ⟨b,by rw[hln],hb,hN⟩,hO⟩
set_option maxRecDepth 100000 in
set_option maxHeartbeats 4000000 in
theorem pof_any {id:Int} {p i0 r s:Nat} (hF:Fld id p i0 r s) (xs:List Nat) (hx:∀ x∈xs,x<p) (n cap:Nat) (a:Option Addr) (hn:n=xs.length) (hn2:n<=90) (Sl:Nat->Prop) (w:World) (hL:LsAt w (.slice a n cap) (xs.map (fm p)) Sl) :
  Calls Tryz.prog 105 #[FV id p i0 r s,.slice a n cap] w fun e w'=>∃ z,e=.returned z/\OwnL w.heap.size w' z ((wholeL p xs).map (fm p))/\Off (fun _=>False) w w':=by
 have HF:=hid hF
 have HN:=hid hn
 have HL:=hid hL
 have HX:=hid hx
 have hmx:Tryz.prog.follows .mixedOrders=true:=by kernel_rfl
 have HNg:=hid (fun x hx W=>by have h:=mneg_any hF (fm p x) (fm_lt hF.mp.pos _) W;rw[fm_neg hF.mp.pos hx]at h;exact h:∀ x,x<p->∀ W,Calls Tryz.prog 117 #[FV id p i0 r s,V (fm p x)] W fun x' w'=>x'=.returned (V (fm p (ng p x)))/\Off (fun _=>False) W w')
 have HMu:=hid (fun vs us h1 h2 h3 h4 v u W=>mul_own hF (B:=w.heap.size) (B2:=w.heap.size) vs us h1 h2 h3 h4 v u W)
 obtain⟨Z,hZ⟩:∃ Z,Z=(wholeL p xs).map (fm p):=⟨_,rfl⟩
 rw[<-hZ]
 have HZ:=hid hZ
 clear hF hn hL hx hZ
 go_enter Tryz.func105,Tryz.ntmps105
 go_wp2_with fail
 obtain⟨W2,hW2⟩:∃ W2,W2=(w.alloc (.cells #[.int .i64 id,.int .u64 (wd p 0),.int .u64 (wd p 1),.int .u64 (wd p 2),.int .u64 (wd p 3),.int .u64 i0,.int .u64 (wd r 0),.int .u64 (wd r 1),.int .u64 (wd r 2),.int .u64 (wd r 3),.int .u64 (wd s 0),.int .u64 (wd s 1),.int .u64 (wd s 2),.int .u64 (wd s 3)] 104)).alloc (.cells #[.int .u64 (wd r 0),.int .u64 (wd r 1),.int .u64 (wd r 2),.int .u64 (wd r 3)] 66):=⟨_,rfl⟩
 have hOW2:Off (fun _=>False) w W2:=by rw[hW2];exact((Off.refl _ w).alloc _).alloc _
 have g_bf:W2.heap[w.heap.size]?=some (.cells #[.int .i64 id,.int .u64 (wd p 0),.int .u64 (wd p 1),.int .u64 (wd p 2),.int .u64 (wd p 3),.int .u64 i0,.int .u64 (wd r 0),.int .u64 (wd r 1),.int .u64 (wd r 2),.int .u64 (wd r 3),.int .u64 (wd s 0),.int .u64 (wd s 1),.int .u64 (wd s 2),.int .u64 (wd s 3)] 104 (0,0)):=by rw[hW2];exact heap_old' (heap_new' rfl _) _
 have g_eb:W2.heap[w.heap.size+1]?=some (.cells #[.int .u64 (wd r 0),.int .u64 (wd r 1),.int .u64 (wd r 2),.int .u64 (wd r 3)] 66 (0,0)):=by rw[hW2];exact heap_new' (by simp) _
 have hsW2:W2.heap.size=w.heap.size+1+1:=by rw[hW2];simp
 rw[<-hW2]
 obtain⟨eb,e_eb⟩:∃ eb,eb=w.heap.size+1:=⟨_,rfl⟩
 rw[<-e_eb]at g_eb ⊢
 obtain⟨bf,e_bf⟩:∃ bf,bf=w.heap.size:=⟨_,rfl⟩
 rw[<-e_bf]at g_bf ⊢
 have HBk:=hid (show bf=w.heap.size/\eb=w.heap.size+1/\W2.heap.size=w.heap.size+1+1 from⟨e_bf,e_eb,hsW2⟩)
 clear hW2 hsW2 e_bf e_eb
 have hb:=HBk.out
 have HE0:=hid (show OwnL w.heap.size W2 (.slice (some ⟨eb,0,none⟩) 1 1) ((tlF p xs [1] (List.range 0)).map (fm p)) from .inr ⟨eb,rfl,by omega,by
  rw[show(tlF p xs [1] (List.range 0)).map (fm p)=[r] by show [fm p 1]=_;rw[fm_one,<-HF.out.rr]];exact g_eb⟩)
 have HG0:=hid g_bf
 have HO0:=hid hOW2
 clear g_bf g_eb hOW2 hb
 go_loopw [5,13] (fun z i wr=>∃ k:Nat,k<=n/\i=.int .i64 k/\OwnL w.heap.size wr z ((tlF p xs [1] (List.range k)).map (fm p))/\wr.heap[bf]?=some (.cells #[.int .i64 id,.int .u64 (wd p 0),.int .u64 (wd p 1),.int .u64 (wd p 2),.int .u64 (wd p 3),.int .u64 i0,.int .u64 (wd r 0),.int .u64 (wd r 1),.int .u64 (wd r 2),.int .u64 (wd r 3),.int .u64 (wd s 0),.int .u64 (wd s 1),.int .u64 (wd s 2),.int .u64 (wd s 3)] 104 (0,0))/\Off (fun _=>False) w wr) (fun _ i _=>n-(intOf i).toNat)
 case atStart=>exact⟨0,Nat.zero_le _,rfl,HE0.out,HG0.out,HO0.out⟩
 case round =>
  obtain⟨zm,rfl⟩:∃ zm,zm=u5:=⟨_,rfl⟩
  obtain⟨k,hk,rfl,hz,hbf,hO⟩:=hrel
  by_cases hlt:k<n
  ·obtain⟨v,hv⟩:∃ v,xs[k]?=some v:=⟨_,List.getElem?_eq_getElem (by have:=HN.out;omega)⟩
   have hvp:v<p:=HX.out v (List.mem_of_getElem? hv)
   have hgk:xs.getD k 0=v:=by rw[List.getD_eq_getElem?_getD,hv];rfl
   obtain⟨x,hx⟩:∃ x,x=fm p v:=⟨_,rfl⟩
   obtain⟨mx,hmx2⟩:∃ m,m=fm p (ng p v):=⟨_,rfl⟩
   have hxs:(xs.map (fm p))[k]?=some x:=by rw[List.getElem?_map,hv,hx];rfl
   obtain⟨b,off,rfl,hSb,c0,c1,c2,c3⟩:=(HL.out.off hO (fun _ _ _ c=>c)).get hxs
   have hlen:(tlF p xs [1] (List.range k)).length=k+1:=by rw[tlF_length p xs (by decide)];simp;omega
   obtain⟨ml,hml⟩:∃ ml,ml=(tlF p xs [1] (List.range (k+1))).map (fm p):=⟨_,rfl⟩
   obtain⟨A0,hA0⟩:∃ A0,A0=wr.alloc (.cells #[.int .u64 (wd x 0),.int .u64 (wd x 1),.int .u64 (wd x 2),.int .u64 (wd x 3)] 66):=⟨_,rfl⟩
   obtain⟨vb,hvb⟩:∃ vb,vb=wr.heap.size:=⟨_,rfl⟩
   have ho:Off (fun _=>False) wr A0:=by rw[hA0];exact(Off.refl _ wr).alloc _
   have g_vb:A0.heap[vb]?=some (.cells #[.int .u64 (wd x 0),.int .u64 (wd x 1),.int .u64 (wd x 2),.int .u64 (wd x 3)] 66 (0,0)):=by rw[hA0,hvb];exact heap_new' rfl _
   have HNg2:=hid (show ∀ W,Calls Tryz.prog 117 #[FV id p i0 r s,V x] W fun x' w'=>x'=.returned (V mx)/\Off (fun _=>False) W w' from fun W=>by rw[hx,hmx2];exact HNg.out v hvp W)
   have HSz:Hid (∀ W,Off (fun _=>False) A0 W->w.heap.size<=W.heap.size):=hid (fun W h=>Nat.le_trans hO.size (Nat.le_trans ho.size h.size))
   have FM2:Hid (∀ W u,Off (fun _=>False) A0 W->OwnL w.heap.size W u [mx,r]->Calls Tryz.prog 116 #[.pointer none,FV id p i0 r s,zm,u] W fun e w'=>∃ z,e=.returned z/\OwnL w.heap.size w' z ml/\Off (fun _=>False) W w'):=hid (fun W u h hm=>by
    have hz2:OwnL w.heap.size W zm ((tlF p xs [1] (List.range k)).map (fm p)):=hz.off (ho.trans h (fun _ _ c=>c)) (fun _ _ _ _ c=>c)
    have hm2:OwnL w.heap.size W u ([ng p v,1].map (fm p)):=by
     rw[show [ng p v,1].map (fm p)=[mx,r] by show [fm p (ng p v),fm p 1]=_;rw[<-hmx2,fm_one,<-HF.out.rr]];exact hm
    refine(HMu.out _ _ (by omega) (by simp) (by omega) (by simp) _ _ W hz2 hm2).mono ?_
    rintro e w' ⟨z,rfl,hz3,hO3⟩
    refine⟨z,rfl,?_,hO3⟩
    rw[hml,List.range_succ,tlF_snoc,hgk]
    exact hz3.mono (HSz.out W h))
   have HK:Hid (∀ B,Off (fun _=>False) A0 B->(B.cell? ⟨bf,0,none⟩=some (.int .i64 id)/\B.cell? ⟨bf,1,none⟩=some (.int .u64 (wd p 0))/\B.cell? ⟨bf,2,none⟩=some (.int .u64 (wd p 1))/\B.cell? ⟨bf,3,none⟩=some (.int .u64 (wd p 2))/\B.cell? ⟨bf,4,none⟩=some (.int .u64 (wd p 3))/\B.cell? ⟨bf,5,none⟩=some (.int .u64 i0)/\B.cell? ⟨bf,6,none⟩=some (.int .u64 (wd r 0))/\B.cell? ⟨bf,7,none⟩=some (.int .u64 (wd r 1))/\B.cell? ⟨bf,8,none⟩=some (.int .u64 (wd r 2))/\B.cell? ⟨bf,9,none⟩=some (.int .u64 (wd r 3))/\B.cell? ⟨bf,10,none⟩=some (.int .u64 (wd s 0))/\B.cell? ⟨bf,11,none⟩=some (.int .u64 (wd s 1))/\B.cell? ⟨bf,12,none⟩=some (.int .u64 (wd s 2))/\B.cell? ⟨bf,13,none⟩=some (.int .u64 (wd s 3)))/\(B.cell? ⟨vb,0,none⟩=some (.int .u64 (wd x 0))/\B.cell? ⟨vb,1,none⟩=some (.int .u64 (wd x 1))/\B.cell? ⟨vb,2,none⟩=some (.int .u64 (wd x 2))/\B.cell? ⟨vb,3,none⟩=some (.int .u64 (wd x 3)))/\Off (fun _=>False) A0 B):=hid (fun B h=>⟨fv_cells (h.heap (ho.heap hbf (fun c=>c)) (fun c=>c)),cells4 (h.heap g_vb (fun c=>c)),h⟩)
   have hkn:(k:Int)<(n:Int):=by omega
   have HA0:=hid hA0
   have Hvb:=hid hvb
   have Hml:=hid hml
   have HOw:=hid (hO.trans ho (fun _ _ c=>c))
   have HBf:=hid (ho.heap hbf (fun c=>c))
   clear hz hbf hO hv hgk hx hmx2 hxs hlen hml hA0 hvb ho g_vb hvp
   go_upto_region 5 with fail
   rw[<-HA0.out,<-Hvb.out]
   refine wp_region_inv (fun a0 l a' w'=>∃ (u17:Value) (u18:Value) (u19:Value) (u20:Value) (u21:Value) (u22:Value) (u23:Value) (u24:Value) (u25:Value) (u5:Value),a'=(Act.put (Act.put (Act.put (Act.put (Act.put (Act.put (Act.put (Act.put (Act.put (Act.put a0 (some 17) u17) (some 18) u18) (some 19) u19) (some 20) u20) (some 21) u21) (some 22) u22) (some 23) u23) (some 24) u24) (some 25) u25) (some 5) u5)/\Slot l 0 u17 (FV id p i0 r s)/\Slot l 1 u18 (zm)/\Slot l 2 u19 (FV id p i0 r s)/\Slot l 3 u20 (V x)/\Slot l 4 u21 (V mx)/\Slot l 5 u22 (.pointer (some ⟨bf,6,none⟩))/\Slot l 6 u23 (V r)/\Ow w.heap.size l 7 u24 w' ([mx,r])/\Ow w.heap.size l 8 u25 w' (ml)/\Ow w.heap.size l 9 u5 w' (ml)/\Dep l 1 8/\Dep l 1 9/\Was l 9 u5 (zm)/\Off (fun _=>False) A0 w') (by kernel_rfl) (by kernel_rfl) ?_ ⟨?_,?_,?_,?_,?_,?_,?_,?_,?_,?_,trivial⟩ ?_
   ·refine⟨?z17,?z18,?z19,?z20,?z21,?z22,?z23,?z24,?z25,zm,?fr,Slot.start _ _ _,Slot.start _ _ _,Slot.start _ _ _,Slot.start _ _ _,Slot.start _ _ _,Slot.start _ _ _,Slot.start _ _ _,Ow.start _ _ _ _,Ow.start _ _ _ _,Ow.start _ _ _ _,Dep.start _ _,Dep.start _ _,Was.start _ _,(Off.refl _ A0).drew⟩
    case fr=>first | (simp only[XP];rfl) | simp only[XP]
   all_goals try (intro l a wr hI hl hd K' hK;obtain⟨u17,u18,u19,u20,u21,u22,u23,u24,u25,u5,ha,s0,s1,s2,s3,s4,s5,s6,M7,M8,M9,V1_8,V1_9,W9,hO⟩:=hI;simp only[XP]at ha)
   ·subst ha
    have hc:=HK.out wr hO
    have p0:=hc.1.1
    have p1:=hc.1.2.1
    have p2:=hc.1.2.2.1
    have p3:=hc.1.2.2.2.1
    have p4:=hc.1.2.2.2.2.1
    have p5:=hc.1.2.2.2.2.2.1
    have p6:=hc.1.2.2.2.2.2.2.1
    have p7:=hc.1.2.2.2.2.2.2.2.1
    have p8:=hc.1.2.2.2.2.2.2.2.2.1
    have p9:=hc.1.2.2.2.2.2.2.2.2.2.1
    have p10:=hc.1.2.2.2.2.2.2.2.2.2.2.1
    have p11:=hc.1.2.2.2.2.2.2.2.2.2.2.2.1
    have p12:=hc.1.2.2.2.2.2.2.2.2.2.2.2.2.1
    have p13:=hc.1.2.2.2.2.2.2.2.2.2.2.2.2.2
    clear hc
    go_simp
    refine hK.out _ _ ⟨_,_,_,_,_,_,_,_,_,_,?_,Slot.new _ _ _,s1.keep rfl,s2.keep rfl,s3.keep rfl,s4.keep rfl,s5.keep rfl,s6.keep rfl,M7.keep (Off.refl _ wr) rfl,M8.keep (Off.refl _ wr) rfl,M9.keep (Off.refl _ wr) rfl,V1_8.keep rfl,V1_9.keep rfl,W9.keep rfl,hO⟩
    simp only[XP]
   ·have qw:=(W9 (V1_9 hl)).symm
    subst ha qw
    go_simp
    refine hK.out _ _ ⟨_,_,_,_,_,_,_,_,_,_,?_,s0.keep rfl,Slot.new _ _ _,s2.keep rfl,s3.keep rfl,s4.keep rfl,s5.keep rfl,s6.keep rfl,M7.keep (Off.refl _ wr) rfl,M8.keep (Off.refl _ wr) rfl,M9.keep (Off.refl _ wr) rfl,V1_8.keep rfl,V1_9.keep rfl,W9.keep rfl,hO⟩
    simp only[XP]
   ·subst ha
    have hc:=HK.out wr hO
    have p0:=hc.1.1
    have p1:=hc.1.2.1
    have p2:=hc.1.2.2.1
    have p3:=hc.1.2.2.2.1
    have p4:=hc.1.2.2.2.2.1
    have p5:=hc.1.2.2.2.2.2.1
    have p6:=hc.1.2.2.2.2.2.2.1
    have p7:=hc.1.2.2.2.2.2.2.2.1
    have p8:=hc.1.2.2.2.2.2.2.2.2.1
    have p9:=hc.1.2.2.2.2.2.2.2.2.2.1
    have p10:=hc.1.2.2.2.2.2.2.2.2.2.2.1
    have p11:=hc.1.2.2.2.2.2.2.2.2.2.2.2.1
    have p12:=hc.1.2.2.2.2.2.2.2.2.2.2.2.2.1
    have p13:=hc.1.2.2.2.2.2.2.2.2.2.2.2.2.2
    clear hc
    go_simp
    refine hK.out _ _ ⟨_,_,_,_,_,_,_,_,_,_,?_,s0.keep rfl,s1.keep rfl,Slot.new _ _ _,s3.keep rfl,s4.keep rfl,s5.keep rfl,s6.keep rfl,M7.keep (Off.refl _ wr) rfl,M8.keep (Off.refl _ wr) rfl,M9.keep (Off.refl _ wr) rfl,V1_8.keep rfl,V1_9.keep rfl,W9.keep rfl,hO⟩
    simp only[XP]
   ·subst ha
    have hc:=HK.out wr hO
    have p0:=hc.2.1.1
    have p1:=hc.2.1.2.1
    have p2:=hc.2.1.2.2.1
    have p3:=hc.2.1.2.2.2
    clear hc
    go_simp
    refine hK.out _ _ ⟨_,_,_,_,_,_,_,_,_,_,?_,s0.keep rfl,s1.keep rfl,s2.keep rfl,Slot.new _ _ _,s4.keep rfl,s5.keep rfl,s6.keep rfl,M7.keep (Off.refl _ wr) rfl,M8.keep (Off.refl _ wr) rfl,M9.keep (Off.refl _ wr) rfl,V1_8.keep rfl,V1_9.keep rfl,W9.keep rfl,hO⟩
    simp only[XP]
   ·have q2:=s2 (hd 2 (by decide))
    have q3:=s3 (hd 3 (by decide))
    subst ha q2 q3
    go_simp
    refine(held_inv (HNg2.out wr) hO).mono ?_
    rintro e w1 ⟨rfl,hO1,hOW⟩
    go_wp2_with fail
    refine hK.out _ _ ⟨_,_,_,_,_,_,_,_,_,_,?_,s0.keep rfl,s1.keep rfl,s2.keep rfl,s3.keep rfl,Slot.new _ _ _,s5.keep rfl,s6.keep rfl,M7.keep hOW rfl,M8.keep hOW rfl,M9.keep hOW rfl,V1_8.keep rfl,V1_9.keep rfl,W9.keep rfl,hO1⟩
    simp only[XP]
   ·subst ha
    go_simp
    refine hK.out _ _ ⟨_,_,_,_,_,_,_,_,_,_,?_,s0.keep rfl,s1.keep rfl,s2.keep rfl,s3.keep rfl,s4.keep rfl,Slot.new _ _ _,s6.keep rfl,M7.keep (Off.refl _ wr) rfl,M8.keep (Off.refl _ wr) rfl,M9.keep (Off.refl _ wr) rfl,V1_8.keep rfl,V1_9.keep rfl,W9.keep rfl,hO⟩
    simp only[XP]
   ·have q5:=s5 (hd 5 (by decide))
    subst ha q5
    have hc:=HK.out wr hO
    have p0:=hc.1.1
    have p1:=hc.1.2.1
    have p2:=hc.1.2.2.1
    have p3:=hc.1.2.2.2.1
    have p4:=hc.1.2.2.2.2.1
    have p5:=hc.1.2.2.2.2.2.1
    have p6:=hc.1.2.2.2.2.2.2.1
    have p7:=hc.1.2.2.2.2.2.2.2.1
    have p8:=hc.1.2.2.2.2.2.2.2.2.1
    have p9:=hc.1.2.2.2.2.2.2.2.2.2.1
    have p10:=hc.1.2.2.2.2.2.2.2.2.2.2.1
    have p11:=hc.1.2.2.2.2.2.2.2.2.2.2.2.1
    have p12:=hc.1.2.2.2.2.2.2.2.2.2.2.2.2.1
    have p13:=hc.1.2.2.2.2.2.2.2.2.2.2.2.2.2
    clear hc
    go_simp
    refine hK.out _ _ ⟨_,_,_,_,_,_,_,_,_,_,?_,s0.keep rfl,s1.keep rfl,s2.keep rfl,s3.keep rfl,s4.keep rfl,s5.keep rfl,Slot.new _ _ _,M7.keep (Off.refl _ wr) rfl,M8.keep (Off.refl _ wr) rfl,M9.keep (Off.refl _ wr) rfl,V1_8.keep rfl,V1_9.keep rfl,W9.keep rfl,hO⟩
    simp only[XP]
   ·have q4:=s4 (hd 4 (by decide))
    have q6:=s6 (hd 6 (by decide))
    subst ha q4 q6
    go_simp
    refine hK.out _ _ ⟨_,_,_,_,_,_,_,_,_,_,?_,s0.keep rfl,s1.keep rfl,s2.keep rfl,s3.keep rfl,s4.keep rfl,s5.keep rfl,s6.keep rfl,(fun _=>own_2 wr mx r (HSz.out wr hO)),M8.keep ((Off.refl _ wr).alloc _) rfl,M9.keep ((Off.refl _ wr).alloc _) rfl,V1_8.keep rfl,V1_9.keep rfl,W9.keep rfl,hO.alloc _⟩
    simp only[XP]
   ·have q0:=s0 (hd 0 (by decide))
    have q1:=(s1 (hd 1 (by decide))).symm
    have m7:=M7 (hd 7 (by decide))
    subst ha q0 q1
    go_simp
    refine(FM2.out wr u24 hO m7).mono ?_
    rintro e w1 ⟨uv,rfl,hm,hOW⟩
    have hO1:=hO.trans hOW (fun _ _ c=>c.elim)
    go_wp2_with fail
    refine hK.out _ _ ⟨_,_,_,_,_,_,_,_,_,_,?_,s0.keep rfl,s1.keep rfl,s2.keep rfl,s3.keep rfl,s4.keep rfl,s5.keep rfl,s6.keep rfl,M7.keep hOW rfl,Ow.new hm,M9.keep hOW rfl,Dep.at (hd 1 (by decide)),V1_9.keep rfl,W9.keep rfl,hO1⟩
    simp only[XP]
   ·have m8:=M8 (hd 8 (by decide))
    subst ha
    go_simp
    refine hK.out _ _ ⟨_,_,_,_,_,_,_,_,_,_,?_,s0.keep rfl,s1.keep rfl,s2.keep rfl,s3.keep rfl,s4.keep rfl,s5.keep rfl,s6.keep rfl,M7.keep (Off.refl _ wr) rfl,M8.keep (Off.refl _ wr) rfl,Ow.new (m8),V1_8.keep rfl,Dep.at (V1_8.via (hd 8 (by decide))),Was.gone _ _ _ _,hO⟩
    simp only[XP]
   intro l a wc hI hd
   obtain⟨u17,u18,u19,u20,u21,u22,u23,u24,u25,u5,ha,s0,s1,s2,s3,s4,s5,s6,M7,M8,M9,V1_8,V1_9,W9,hO⟩:=hI
   simp only[XP]at ha
   have q0:=s0 (hd 0 (by decide))
   have q1:=(s1 (hd 1 (by decide))).symm
   have q2:=s2 (hd 2 (by decide))
   have q3:=s3 (hd 3 (by decide))
   have q4:=s4 (hd 4 (by decide))
   have q5:=s5 (hd 5 (by decide))
   have q6:=s6 (hd 6 (by decide))
   have m24:=M7 (hd 7 (by decide))
   have m25:=M8 (hd 8 (by decide))
   have m5:=M9 (hd 9 (by decide))
   subst ha q0 q1 q2 q3 q4 q5 q6
   clear hd s0 s1 s2 s3 s4 s5 s6 M7 M8 M9 V1_8 V1_9 W9
   rw[Hml.out]at m5
   have H1:=hid m5
   have H2:=hid (hO.heap HBf.out (fun c=>c))
   have H3:=hid (HOw.out.trans hO (fun _ _ c=>c))
   clear m5 m25 m24 hO
   go_wp2
   go_roundw
   case rel=>exact⟨k+1,by omega,by simp,H1.out,H2.out,H3.out⟩
   case measure=>simp[intOf] <;> omega
  obtain rfl:n=k:=by omega
  have H1:=hid (show OwnL w.heap.size wr zm Z by rw[HZ.out,wholeL,<-HN.out];exact hz)
  have H3:=hid hO
  clear hz hbf hO
  go_wp2
  refine bodyPost_ret (results_tmp rfl _ _ _) rfl ?_
  exact⟨zm,rfl,H1.out,H3.out⟩
end
section
open Go.RowKit
def QAt (P:Nat->Prop) (w:World) (v:Value) (xs:List Nat):Prop:=∃ b c rest,v=.slice (some ⟨b,0,none⟩) xs.length c/\NumsAt w b 66 (xs++rest)/\P b
def Ox (M:Nat) (l:Nat->Bool) (i j:Nat) (u:Value) (b:Nat) (w:World) (xs:List Nat):Prop:=l i=true->QAt (fun k=>M<=k/\(l j=true->k≠b)) w u xs
theorem Ox.start {M:Nat} (i j:Nat) (u:Value) (b:Nat) (w:World) (xs:List Nat):Ox M (fun _=>false) i j u b w xs:=fun h=>by cases h
theorem Ox.new {M:Nat} {l:Nat->Bool} {i j:Nat} {u:Value} {b B:Nat} {w':World} {xs:List Nat} (h:QAt (fun k=>M<=k/\B<=k) w' u xs) (hb:l j=true->b<B) (hij:(i==j)=false):Ox M (upd l i) i j u b w' xs:=fun _=>by
 obtain⟨b',c,rest,h1,h2,h3⟩:=h
 exact⟨b',c,rest,h1,h2,h3.1,fun hj=>by rw[upd_k l hij]at hj;have:=hb hj;omega⟩
theorem Ox.made {M:Nat} {l:Nat->Bool} {i j:Nat} {u:Value} {b:Nat} {w:World} {o:Obj} {xs:List Nat} (h:Ox M l i j u b w xs) (hji:(j==i)=false):Ox M (upd l j) i j u w.heap.size (w.alloc o) xs:=fun hl=>by
 rw[upd_k l hji]at hl
 obtain⟨b',c,rest,h1,h2,h3⟩:=h hl
 exact⟨b',c,rest,h1,heap_old' h2 _,h3.1,fun _=>Nat.ne_of_lt (NumsAt.lt h2)⟩
theorem Ox.stored {M:Nat} {l:Nat->Bool} {i j k:Nat} {u:Value} {b:Nat} {w:World} {vs:List Value} {xs:List Nat} (h:Ox M l i j u b w xs) (hj:l j=true) (hk:(k==i)=false) (_hk2:(k==j)=false):Ox M (upd l k) i j u b (w.setCells b 0 vs) xs:=fun hl=>by
 rw[upd_k l hk]at hl
 obtain⟨b',c,rest,h1,h2,h3⟩:=h hl
 exact⟨b',c,rest,h1,setCells_far_at (h3.2 hj) h2,h3.1,fun _=>h3.2 hj⟩
theorem Ox.keep {M:Nat} {l:Nat->Bool} {i j k:Nat} {u:Value} {b:Nat} {w w':World} {xs:List Nat} (h:Ox M l i j u b w xs) (ho:Off (fun _=>False) w w') (hk:(k==i)=false) (hk2:(k==j)=false):Ox M (upd l k) i j u b w' xs:=fun hl=>by
 rw[upd_k l hk]at hl
 obtain⟨b',c,rest,h1,h2,h3⟩:=h hl
 exact⟨b',c,rest,h1,h2.off ho (fun c=>c),h3.1,fun hj=>by rw[upd_k l hk2]at hj;exact h3.2 hj⟩
theorem quo_own {id:Int} {p i0 r s:Nat} (hF:Fld id p i0 r s) (vs:List Nat) (hl:vs.length<=10000) (h0:0<vs.length) (x:Nat) (wb cap M:Nat) (w:World) (hM:M<=w.heap.size) (h:NumsAt w wb 66 (vs.map (fm p))) :
  Calls Tryz.prog 107 #[.pointer none,FV id p i0 r s,.slice (some ⟨wb,0,none⟩) vs.length cap,V (fm p x)] w fun e w'=>∃ z,e=.returned (.tuple #[z,V (fm p (pv vs x%p))])/\QAt (fun k=>M<=k/\w.heap.size<=k) w' z ((quoL p vs x).map (fm p))/\Off (fun _=>False) w w':=by
 have hL:LsAt w (.slice (some ⟨wb,0,none⟩) vs.length cap) (vs.map (fm p)) (fun k=>k<w.heap.size/\¬False) :=
  ⟨some ⟨wb,0,none⟩,cap,by rw[List.length_map],by rw[List.length_map];omega,fun _=>⟨wb,0,rfl,⟨NumsAt.lt h,fun c=>c⟩,fun j x hx=>by have:=NumsAt.cell h hx;rw[Nat.zero_add];exact this⟩⟩
 refine(quotient_any hF vs _ cap _ rfl hl none [] (fun _=>False) _ w hL none_lst (Tp.none w) (by simp) x).mono ?_
 rintro e w' ⟨b,rfl,hb,hN,_,hO⟩
 have hq:=qls_done p vs x
 refine⟨_,rfl,⟨b,vs.length,((qls p vs x (List.range vs.length)).drop (vs.length-1)).map (fm p),by rw[List.length_map,quoL_length],?_,by omega,hb⟩,hO⟩
 rw[<-hq,<-List.map_append,List.take_append_drop]
 exact hN
set_option maxRecDepth 100000 in
set_option maxHeartbeats 4000000 in
theorem part_any {id:Int} {p i0 r s:Nat} (hF:Fld id p i0 r s) (ps:List Nat) (hp:∀ x∈ps,x<p) (n m wc0:Nat) (hn:n=ps.length) (hm:m=n+1) (hn2:n<=90) (i:Nat) (hi:i<n) (f:Nat) (fx0:List (Nat × Obj)) (bf bw wb bp pb bt br arr:Nat) (R:List Nat) (hR:R.length=n) (v0:Value) (xs0:List Nat) (Sl:Nat->Prop) (q:Option Addr) (es:List Ev) (S:Nat->Prop) (w W:World)
  (m_bf:(bf,Obj.cells #[.int .i64 id,.int .u64 (wd p 0),.int .u64 (wd p 1),.int .u64 (wd p 2),.int .u64 (wd p 3),.int .u64 i0,.int .u64 (wd r 0),.int .u64 (wd r 1),.int .u64 (wd r 2),.int .u64 (wd r 3),.int .u64 (wd s 0),.int .u64 (wd s 1),.int .u64 (wd s 2),.int .u64 (wd s 3)] 104 (0,0))∈fx0) (m_bw:(bw,Obj.cells #[.slice (some ⟨wb,0,none⟩) m wc0] 43 (0,0))∈fx0) (m_wb:(wb,Obj.cells (flat4 ((wholeL p ps).map (fm p))).toArray 66 (0,0))∈fx0) (m_bp:(bp,Obj.cells #[.slice (some ⟨pb,0,none⟩) n n] 43 (0,0))∈fx0) (m_pb:(pb,Obj.cells (flat4 (ps.map (fm p))).toArray 66 (0,0))∈fx0) (m_bt:(bt,Obj.cells #[.pointer q] 40 (0,0))∈fx0) (m_br:(br,Obj.cells #[.slice (some ⟨arr,0,none⟩) n n] 43 (0,0))∈fx0)
  (hE:Env w W fx0 arr (R.map (fm p)) v0 xs0 Sl q es S) (hl:es.length<=90000) :
  Calls Tryz.prog 106 #[.int .i64 i,V (fm p f),.pointer (some ⟨bf,0,none⟩),.pointer (some ⟨bw,0,none⟩),.pointer (some ⟨bp,0,none⟩),.pointer (some ⟨bt,0,none⟩),.pointer (some ⟨br,0,none⟩)] W fun e W'=>e=.returned (.tuple #[])/\Env w W' fx0 arr ((sumL p R (scaL p (numL p ps i) f)).map (fm p)) v0 xs0 Sl q (ext q es (rowE i n)) S:=by
 have hmx:Tryz.prog.follows .mixedOrders=true:=by kernel_rfl
 have hp1:=hF.mp.one
 obtain⟨x,hx⟩:∃ x,x=fm p (ps.getD i 0):=⟨_,rfl⟩
 obtain⟨g,hg⟩:∃ g,g=fm p f:=⟨_,rfl⟩
 obtain⟨rr,hrr⟩:∃ rr,rr=fm p (pv (wholeL p ps) (ps.getD i 0)%p):=⟨_,rfl⟩
 obtain⟨ql,hql⟩:∃ ql,ql=(numL p ps i).map (fm p):=⟨_,rfl⟩
 have hqln:ql.length=n:=by rw[hql,List.length_map,numL_length p ps (by omega),hn]
 have hxs:(ps.map (fm p))[i]?=some x:=by rw[List.getElem?_map,List.getElem?_eq_getElem (by omega),hx,List.getD_eq_getElem?_getD,List.getElem?_eq_getElem (by omega)];rfl
 have hwl:(wholeL p ps).length=m:=by rw[wholeL_length,hm,hn]
 obtain⟨A0,hA0⟩:∃ A0,A0=W.alloc (.cells #[.int .u64 (wd g 0),.int .u64 (wd g 1),.int .u64 (wd g 2),.int .u64 (wd g 3)] 66):=⟨_,rfl⟩
 obtain⟨eb,heb⟩:∃ eb,eb=W.heap.size:=⟨_,rfl⟩
 have ho:Off (fun _=>False) W A0:=by rw[hA0];exact(Off.refl _ W).alloc _
 have g_eb:A0.heap[eb]?=some (.cells #[.int .u64 (wd g 0),.int .u64 (wd g 1),.int .u64 (wd g 2),.int .u64 (wd g 3)] 66 (0,0)):=by rw[hA0,heb];exact heap_new' rfl _
 have hwW:=hE.off.size
 have hla:arr<W.heap.size:=NumsAt.lt hE.ars
 have hE1:=(hE.keep ho).more g_eb ⟨_,_,rfl,by decide,by decide,by decide⟩ (by omega) (by omega)
 have FQ2:=hid (fun Wq (h:Off (fun _=>False) A0 Wq)=>by
  have hk:=quo_own hF (wholeL p ps) (by omega) (by omega) (ps.getD i 0) wb wc0 A0.heap.size Wq h.size (h.heap (ho.heap (hE.get m_wb) (fun c=>c)) (fun c=>c))
  rw[hwl,quo_whole hp1 ps hp (show i<ps.length by omega),<-hql,<-hx,<-hrr]at hk
  exact hk:∀ Wq,Off (fun _=>False) A0 Wq->Calls Tryz.prog 107 #[.pointer none,FV id p i0 r s,.slice (some ⟨wb,0,none⟩) m wc0,V x] Wq fun e w'=>∃ z,e=.returned (.tuple #[z,V rr])/\QAt (fun k=>A0.heap.size<=k/\Wq.heap.size<=k) w' z ql/\Off (fun _=>False) Wq w')
 have HK:Hid (∀ B,Off (fun _=>False) A0 B->(B.cell? ⟨bf,0,none⟩=some (.int .i64 id)/\B.cell? ⟨bf,1,none⟩=some (.int .u64 (wd p 0))/\B.cell? ⟨bf,2,none⟩=some (.int .u64 (wd p 1))/\B.cell? ⟨bf,3,none⟩=some (.int .u64 (wd p 2))/\B.cell? ⟨bf,4,none⟩=some (.int .u64 (wd p 3))/\B.cell? ⟨bf,5,none⟩=some (.int .u64 i0)/\B.cell? ⟨bf,6,none⟩=some (.int .u64 (wd r 0))/\B.cell? ⟨bf,7,none⟩=some (.int .u64 (wd r 1))/\B.cell? ⟨bf,8,none⟩=some (.int .u64 (wd r 2))/\B.cell? ⟨bf,9,none⟩=some (.int .u64 (wd r 3))/\B.cell? ⟨bf,10,none⟩=some (.int .u64 (wd s 0))/\B.cell? ⟨bf,11,none⟩=some (.int .u64 (wd s 1))/\B.cell? ⟨bf,12,none⟩=some (.int .u64 (wd s 2))/\B.cell? ⟨bf,13,none⟩=some (.int .u64 (wd s 3)))/\B.cell? ⟨bw,0,none⟩=some (.slice (some ⟨wb,0,none⟩) m wc0)/\B.cell? ⟨bp,0,none⟩=some (.slice (some ⟨pb,0,none⟩) n n)/\elAt B pb (i*4) x/\Off (fun _=>False) A0 B):=hid (fun B h=>⟨fv_cells (h.heap (hE1.get (List.mem_cons_of_mem _ m_bf)) (fun c=>c)),cell_of_heap (h.heap (hE1.get (List.mem_cons_of_mem _ m_bw)) (fun c=>c)) 0,cell_of_heap (h.heap (hE1.get (List.mem_cons_of_mem _ m_bp)) (fun c=>c)) 0,NumsAt.cell (h.heap (hE1.get (List.mem_cons_of_mem _ m_pb)) (fun c=>c)) hxs,h⟩)
 have HF:=hid hF
 have HM:=hid (fun x y W=>by have h:=mmul_any hF (fm p x) (fm p y) (Nat.lt_trans (fm_lt hF.mp.pos _) hF.mp.lt) (fm_lt hF.mp.pos _) W;rw[mm_fm hF.mp]at h;exact h:∀ x y W,Calls Tryz.prog 109 #[FV id p i0 r s,V (fm p x),V (fm p y)] W fun x' w'=>x'=.returned (V (fm p (x*y%p)))/\Off (fun _=>False) W w')
 have HA:=hid (fun x y W=>by have h:=madd_any hF (fm p x) (fm p y) (fm_lt hF.mp.pos _) (fm_lt hF.mp.pos _) W;rw[fm_add]at h;exact h:∀ x y W,Calls Tryz.prog 108 #[FV id p i0 r s,V (fm p x),V (fm p y)] W fun x' w'=>x'=.returned (V (fm p ((x+y)%p)))/\Off (fun _=>False) W w')
 have HE1:=hid hE1
 have Hg:=hid hg
 have Hql:=hid hql
 have HN:=hid hn
 have Hm:=hid (And.intro m_bf (And.intro m_bt m_br))
 have HmN:=hid hm
 have HA0:=hid hA0
 have Heb:=hid heb
 have hiI:(i:Int)<(n:Int):=by omega
 have HQn:=hid hqln
 clear hqln
 have HAW:=hid (show arr<A0.heap.size/\eb<A0.heap.size/\w.heap.size<=A0.heap.size/\eb≠arr/\w.heap.size<=eb from⟨Nat.lt_of_lt_of_le hla ho.size,heap_lt g_eb,Nat.le_trans hwW ho.size,by omega,by omega⟩)
 rw[<-hg]
 have HRs:Hid (sumL p R (scaL p (numL p ps i) f)=(List.range n).map (fun j=>(R.getD j 0+(numL p ps i).getD j 0*f%p)%p)):=hid (by
  unfold sumL
  rw[show max R.length (scaL p (numL p ps i) f).length=n by simp only[scaL,List.length_map];rw[numL_length p ps (by omega),hR,<-hn,Nat.max_self]]
  exact List.map_congr_left (fun j _=>by
   congr 2
   unfold scaL
   rw[List.getD_eq_getElem?_getD,List.getD_eq_getElem?_getD,List.getElem?_map]
   cases (numL p ps i)[j]? <;> simp))
 have HRl:=hid hR
 obtain⟨RS,hRS⟩:∃ RS,RS=sumL p R (scaL p (numL p ps i) f):=⟨_,rfl⟩
 rw[<-hRS]at HRs ⊢
 clear hRS
 clear hF hE hE1 hx hg hrr hql hxs hwl hA0 heb ho g_eb hwW hla m_bf m_bw m_wb m_bp m_pb m_bt m_br hn hR hm
 go_enter Tryz.func106,Tryz.ntmps106
 go_upto_region 1 with fail
 rw[<-HA0.out,<-Heb.out]
 refine wp_region_inv (fun a0 l a' w'=>∃ (u14:Value) (u15:Value) (u16:Value) (u17:Value) (u18:Value) (u19:Value) (u20:Value) (u13:Value) (u21:Value) (u22:Value) (u10:Value) (u9:Value) (v20:Value) (b10:Nat),a'=(Act.put (Act.put (Act.put (Act.put (Act.put (Act.put (Act.put (Act.put (Act.put (Act.put (Act.put (Act.put a0 (some 14) u14) (some 15) u15) (some 16) u16) (some 17) u17) (some 18) u18) (some 19) u19) (some 20) u20) (some 13) u13) (some 21) u21) (some 22) u22) (some 10) u10) (some 9) u9)/\Slot l 0 u14 (FV id p i0 r s)/\Slot l 1 u15 (.slice (some ⟨wb,0,none⟩) m wc0)/\Slot l 2 u16 (.slice (some ⟨pb,0,none⟩) n n)/\Slot l 3 u17 (.int .i64 i)/\Slot l 4 u18 (.pointer (some ⟨pb,i*4,none⟩))/\Slot l 5 u19 (V x)/\Slot l 6 u20 (.tuple #[v20,V rr])/\Slot l 7 u13 (.tuple #[v20,V rr])/\Slot l 8 u21 (v20)/\Slot l 9 u22 (V rr)/\Slot l 11 u9 (v20)/\Blk l 10 12 u10 b10 A0 w' (.cells #[.int .u64 0,.int .u64 0,.int .u64 0,.int .u64 0] 66) (.cells #[.int .u64 (wd rr 0),.int .u64 (wd rr 1),.int .u64 (wd rr 2),.int .u64 (wd rr 3)] 66)/\Ox A0.heap.size l 6 10 v20 b10 w' (ql)/\Dep l 6 7/\Dep l 6 8/\Dep l 6 11/\Off (fun _=>False) A0 w') (by kernel_rfl) (by kernel_rfl) ?_ ⟨?_,?_,?_,?_,?_,?_,?_,?_,?_,?_,?_,?_,?_,trivial⟩ ?_
 ·refine⟨?z14,?z15,?z16,?z17,?z18,?z19,?z20,?z13,?z21,?z22,?z10,?z9,undef,0,?fr,Slot.start _ _ _,Slot.start _ _ _,Slot.start _ _ _,Slot.start _ _ _,Slot.start _ _ _,Slot.start _ _ _,Slot.start _ _ _,Slot.start _ _ _,Slot.start _ _ _,Slot.start _ _ _,Slot.start _ _ _,Blk.start _ _ _ _ _ _ _ _,Ox.start _ _ _ _ _ _,Dep.start _ _,Dep.start _ _,Dep.start _ _,(Off.refl _ A0).drew⟩
  case fr=>first | (simp only[XP];rfl) | simp only[XP]
 all_goals try (intro l a wr hI hl hd K' hK;obtain⟨u14,u15,u16,u17,u18,u19,u20,u13,u21,u22,u10,u9,v20,b10,ha,s0,s1,s2,s3,s4,s5,s6,s7,s8,s9,s11,B10,M6,V6_7,V6_8,V6_11,hO⟩:=hI;simp only[XP]at ha)
 ·subst ha
  have hc:=HK.out wr hO
  have p0:=hc.1.1
  have p1:=hc.1.2.1
  have p2:=hc.1.2.2.1
  have p3:=hc.1.2.2.2.1
  have p4:=hc.1.2.2.2.2.1
  have p5:=hc.1.2.2.2.2.2.1
  have p6:=hc.1.2.2.2.2.2.2.1
  have p7:=hc.1.2.2.2.2.2.2.2.1
  have p8:=hc.1.2.2.2.2.2.2.2.2.1
  have p9:=hc.1.2.2.2.2.2.2.2.2.2.1
  have p10:=hc.1.2.2.2.2.2.2.2.2.2.2.1
  have p11:=hc.1.2.2.2.2.2.2.2.2.2.2.2.1
  have p12:=hc.1.2.2.2.2.2.2.2.2.2.2.2.2.1
  have p13:=hc.1.2.2.2.2.2.2.2.2.2.2.2.2.2
  clear hc
  go_simp
  refine hK.out _ _ ⟨_,_,_,_,_,_,_,_,_,_,_,_,v20,_,?_,Slot.new _ _ _,s1.keep rfl,s2.keep rfl,s3.keep rfl,s4.keep rfl,s5.keep rfl,s6.keep rfl,s7.keep rfl,s8.keep rfl,s9.keep rfl,s11.keep rfl,B10.keep (Off.refl _ wr) rfl rfl,M6.keep (Off.refl _ wr) rfl rfl,V6_7.keep rfl,V6_8.keep rfl,V6_11.keep rfl,hO⟩
  simp only[XP]
 ·subst ha
  have hc:=HK.out wr hO
  have p0:=hc.2.1
  clear hc
  go_simp
  refine hK.out _ _ ⟨_,_,_,_,_,_,_,_,_,_,_,_,v20,_,?_,s0.keep rfl,Slot.new _ _ _,s2.keep rfl,s3.keep rfl,s4.keep rfl,s5.keep rfl,s6.keep rfl,s7.keep rfl,s8.keep rfl,s9.keep rfl,s11.keep rfl,B10.keep (Off.refl _ wr) rfl rfl,M6.keep (Off.refl _ wr) rfl rfl,V6_7.keep rfl,V6_8.keep rfl,V6_11.keep rfl,hO⟩
  simp only[XP]
 ·subst ha
  have hc:=HK.out wr hO
  have p0:=hc.2.2.1
  clear hc
  go_simp
  refine hK.out _ _ ⟨_,_,_,_,_,_,_,_,_,_,_,_,v20,_,?_,s0.keep rfl,s1.keep rfl,Slot.new _ _ _,s3.keep rfl,s4.keep rfl,s5.keep rfl,s6.keep rfl,s7.keep rfl,s8.keep rfl,s9.keep rfl,s11.keep rfl,B10.keep (Off.refl _ wr) rfl rfl,M6.keep (Off.refl _ wr) rfl rfl,V6_7.keep rfl,V6_8.keep rfl,V6_11.keep rfl,hO⟩
  simp only[XP]
 ·subst ha
  go_simp
  refine hK.out _ _ ⟨_,_,_,_,_,_,_,_,_,_,_,_,v20,_,?_,s0.keep rfl,s1.keep rfl,s2.keep rfl,Slot.new _ _ _,s4.keep rfl,s5.keep rfl,s6.keep rfl,s7.keep rfl,s8.keep rfl,s9.keep rfl,s11.keep rfl,B10.keep (Off.refl _ wr) rfl rfl,M6.keep (Off.refl _ wr) rfl rfl,V6_7.keep rfl,V6_8.keep rfl,V6_11.keep rfl,hO⟩
  simp only[XP]
 ·have q2:=s2 (hd 2 (by decide))
  have q3:=s3 (hd 3 (by decide))
  subst ha q2 q3
  go_simp
  refine hK.out _ _ ⟨_,_,_,_,_,_,_,_,_,_,_,_,v20,_,?_,s0.keep rfl,s1.keep rfl,s2.keep rfl,s3.keep rfl,Slot.new _ _ _,s5.keep rfl,s6.keep rfl,s7.keep rfl,s8.keep rfl,s9.keep rfl,s11.keep rfl,B10.keep (Off.refl _ wr) rfl rfl,M6.keep (Off.refl _ wr) rfl rfl,V6_7.keep rfl,V6_8.keep rfl,V6_11.keep rfl,hO⟩
  simp only[XP]
 ·have q4:=s4 (hd 4 (by decide))
  subst ha q4
  have hc:=HK.out wr hO
  have p0:=hc.2.2.2.1.1
  have p1:=hc.2.2.2.1.2.1
  have p2:=hc.2.2.2.1.2.2.1
  have p3:=hc.2.2.2.1.2.2.2
  clear hc
  go_simp
  refine hK.out _ _ ⟨_,_,_,_,_,_,_,_,_,_,_,_,v20,_,?_,s0.keep rfl,s1.keep rfl,s2.keep rfl,s3.keep rfl,s4.keep rfl,Slot.new _ _ _,s6.keep rfl,s7.keep rfl,s8.keep rfl,s9.keep rfl,s11.keep rfl,B10.keep (Off.refl _ wr) rfl rfl,M6.keep (Off.refl _ wr) rfl rfl,V6_7.keep rfl,V6_8.keep rfl,V6_11.keep rfl,hO⟩
  simp only[XP]
 ·have q0:=s0 (hd 0 (by decide))
  have q1:=s1 (hd 1 (by decide))
  have q5:=s5 (hd 5 (by decide))
  subst ha q0 q1 q5
  go_simp
  refine(FQ2.out wr hO).mono ?_
  rintro e w1 ⟨uv,rfl,hm,hOW⟩
  have hO1:=hO.trans hOW (fun _ _ c=>c.elim)
  go_wp2_with fail
  refine hK.out _ _ ⟨_,_,_,_,_,_,_,_,_,_,_,_,uv,_,?_,s0.keep rfl,s1.keep rfl,s2.keep rfl,s3.keep rfl,s4.keep rfl,s5.keep rfl,Slot.new _ _ _,Slot.void (u:=u13) (V6_7 hl) rfl,Slot.void (u:=u21) (V6_8 hl) rfl,s9.keep rfl,Slot.void (u:=u9) (V6_11 hl) rfl,B10.keep hOW rfl rfl,Ox.new hm (fun h=>B10.lt h) rfl,V6_7.keep rfl,V6_8.keep rfl,V6_11.keep rfl,hO1⟩
  simp only[XP]
 ·have q6:=s6 (hd 6 (by decide))
  subst ha q6
  go_simp
  refine hK.out _ _ ⟨_,_,_,_,_,_,_,_,_,_,_,_,v20,_,?_,s0.keep rfl,s1.keep rfl,s2.keep rfl,s3.keep rfl,s4.keep rfl,s5.keep rfl,s6.keep rfl,Slot.new _ _ _,s8.keep rfl,s9.keep rfl,s11.keep rfl,B10.keep (Off.refl _ wr) rfl rfl,M6.keep (Off.refl _ wr) rfl rfl,Dep.at (hd 6 (by decide)),V6_8.keep rfl,V6_11.keep rfl,hO⟩
  simp only[XP]
 ·have q7:=s7 (hd 7 (by decide))
  subst ha q7
  go_simp
  refine hK.out _ _ ⟨_,_,_,_,_,_,_,_,_,_,_,_,v20,_,?_,s0.keep rfl,s1.keep rfl,s2.keep rfl,s3.keep rfl,s4.keep rfl,s5.keep rfl,s6.keep rfl,s7.keep rfl,Slot.new _ _ _,s9.keep rfl,s11.keep rfl,B10.keep (Off.refl _ wr) rfl rfl,M6.keep (Off.refl _ wr) rfl rfl,V6_7.keep rfl,Dep.at (V6_7.via (hd 7 (by decide))),V6_11.keep rfl,hO⟩
  simp only[XP]
 ·have q7:=s7 (hd 7 (by decide))
  subst ha q7
  go_simp
  refine hK.out _ _ ⟨_,_,_,_,_,_,_,_,_,_,_,_,v20,_,?_,s0.keep rfl,s1.keep rfl,s2.keep rfl,s3.keep rfl,s4.keep rfl,s5.keep rfl,s6.keep rfl,s7.keep rfl,s8.keep rfl,Slot.new _ _ _,s11.keep rfl,B10.keep (Off.refl _ wr) rfl rfl,M6.keep (Off.refl _ wr) rfl rfl,V6_7.keep rfl,V6_8.keep rfl,V6_11.keep rfl,hO⟩
  simp only[XP]
 ·subst ha
  go_simp
  refine hK.out _ _ ⟨_,_,_,_,_,_,_,_,_,_,_,_,v20,_,?_,s0.keep rfl,s1.keep rfl,s2.keep rfl,s3.keep rfl,s4.keep rfl,s5.keep rfl,s6.keep rfl,s7.keep rfl,s8.keep rfl,s9.keep rfl,s11.keep rfl,B10.make hl rfl hO,Ox.made M6 rfl,V6_7.keep rfl,V6_8.keep rfl,V6_11.keep rfl,hO.alloc _⟩
  simp only[XP]
 ·have q8:=(s8 (hd 8 (by decide))).symm
  subst ha q8
  go_simp
  refine hK.out _ _ ⟨_,_,_,_,_,_,_,_,_,_,_,_,v20,_,?_,s0.keep rfl,s1.keep rfl,s2.keep rfl,s3.keep rfl,s4.keep rfl,s5.keep rfl,s6.keep rfl,s7.keep rfl,s8.keep rfl,s9.keep rfl,Slot.new _ _ _,B10.keep (Off.refl _ wr) rfl rfl,M6.keep (Off.refl _ wr) rfl rfl,V6_7.keep rfl,V6_8.keep rfl,Dep.at (V6_8.via (hd 8 (by decide))),hO⟩
  simp only[XP]
 ·have h10:=hd 10 (by decide)
  have q10:=B10.ptr h10
  have q9:=s9 (hd 9 (by decide))
  subst ha q10 q9
  obtain⟨⟨m0,m1,m2,m3⟩,fz,lt⟩:=zero_cells (B10.was h10 hl)
  go_simp
  refine hK.out _ _ ⟨_,_,_,_,_,_,_,_,_,_,_,_,v20,_,?_,s0.keep rfl,s1.keep rfl,s2.keep rfl,s3.keep rfl,s4.keep rfl,s5.keep rfl,s6.keep rfl,s7.keep rfl,s8.keep rfl,s9.keep rfl,s11.keep rfl,B10.put hl h10 rfl rfl,Ox.stored (vs:=[.int .u64 (wd rr 0),.int .u64 (wd rr 1),.int .u64 (wd rr 2),.int .u64 (wd rr 3)]) M6 h10 rfl rfl,V6_7.keep rfl,V6_8.keep rfl,V6_11.keep rfl,setCells_in hO (fun c=>absurd c (Nat.not_lt.2 (B10.new h10))) [.int .u64 (wd rr 0),.int .u64 (wd rr 1),.int .u64 (wd rr 2),.int .u64 (wd rr 3)]⟩
  simp only[XP]
 intro l a wc hI hd
 obtain⟨u14,u15,u16,u17,u18,u19,u20,u13,u21,u22,u10,u9,v20,b10,ha,s0,s1,s2,s3,s4,s5,s6,s7,s8,s9,s11,B10,M6,V6_7,V6_8,V6_11,hO⟩:=hI
 simp only[XP]at ha
 have q0:=s0 (hd 0 (by decide))
 have q1:=s1 (hd 1 (by decide))
 have q2:=s2 (hd 2 (by decide))
 have q3:=s3 (hd 3 (by decide))
 have q4:=s4 (hd 4 (by decide))
 have q5:=s5 (hd 5 (by decide))
 have q6:=s6 (hd 6 (by decide))
 have q7:=s7 (hd 7 (by decide))
 have q8:=(s8 (hd 8 (by decide))).symm
 have q9:=s9 (hd 9 (by decide))
 have q11:=(s11 (hd 11 (by decide))).symm
 have q10:=B10.ptr (hd 10 (by decide))
 have n10:wc.heap[b10]?=some (.cells #[.int .u64 (wd rr 0),.int .u64 (wd rr 1),.int .u64 (wd rr 2),.int .u64 (wd rr 3)] 66):=B10.now (hd 10 (by decide)) (hd 12 (by decide))
 have v10:=B10.new (hd 10 (by decide))
 have m20:=M6 (hd 6 (by decide))
 subst ha q0 q1 q2 q3 q4 q5 q6 q7 q8 q9 q10 q11
 clear hd s0 s1 s2 s3 s4 s5 s6 s7 s8 s9 s11 B10 M6 V6_7 V6_8 V6_11
 obtain⟨qb,qc,rest,rfl,hq,hqb,_⟩:=m20
 have haw:=HAW.out
 have hE2:=(HE1.out.keep hO).more hq ⟨_,_,rfl,by decide,by decide,by decide⟩ (by omega) (by omega)
 obtain⟨fx1,hfx1⟩:∃ fx1:List (Nat × Obj),fx1=((qb,Obj.cells (flat4 (ql++rest)).toArray 66 (0,0))::(eb,Obj.cells #[.int .u64 (wd g 0),.int .u64 (wd g 1),.int .u64 (wd g 2),.int .u64 (wd g 3)] 66 (0,0))::fx0):=⟨_,rfl⟩
 rw[<-hfx1]at hE2
 have Nqb:=hid (show(qb,Obj.cells (flat4 (ql++rest)).toArray 66 (0,0))∈fx1 by rw[hfx1];simp)
 have Neb:=hid (show(eb,Obj.cells #[.int .u64 (wd g 0),.int .u64 (wd g 1),.int .u64 (wd g 2),.int .u64 (wd g 3)] 66 (0,0))∈fx1 by rw[hfx1];simp)
 have Nsub:Hid (∀ y∈fx0,y∈fx1):=hid (fun y hy=>by rw[hfx1];simp[hy])
 obtain⟨fN,hfN⟩:∃ F:Nat->Nat,F=fun j=>(R.getD j 0+(numL p ps i).getD j 0*f%p)%p:=⟨_,rfl⟩
 obtain⟨fR,hfR⟩:∃ F:Nat->Nat,F=fun j=>R.getD j 0:=⟨_,rfl⟩
 have hst:upG fN fR n 0=R:=by
  rw[upG_zero,hfR,<-HRl.out]
  have h:=map_getD_range R (fun x=>x)
  simpa using h
 rw[<-hfN]at HRs
 rw[HQn.out]
 have HE2:=hid hE2
 have HfN:=hid hfN
 have HfR:=hid hfR
 have HSt:=hid hst
 clear hO n10 v10 hq hqb hE2 hfx1 hfN hfR hst haw
 go_wp2
 go_loopw [25] (fun ix wr=>∃ k:Nat,k<=n/\ix=.int .i64 k/\Env w wr fx1 arr ((upG fN fR n k).map (fm p)) v0 xs0 Sl q (ext q es (rowE i k)) S) (fun ix _=>n-(intOf ix).toNat)
 case atStart=>exact⟨0,Nat.zero_le _,rfl,by rw[HSt.out,show rowE i 0=[] from rfl,ext_nil];exact HE2.out⟩
 case round =>
  obtain⟨k,hk,rfl,hE⟩:=hrel
  by_cases hlt:k<n
  ·obtain⟨c,hc⟩:∃ c,c=(numL p ps i).getD k 0:=⟨_,rfl⟩
   obtain⟨y,hy⟩:∃ y,y=fm p c:=⟨_,rfl⟩
   obtain⟨R0,hR0⟩:∃ R0,R0=R.getD k 0:=⟨_,rfl⟩
   obtain⟨u,hu⟩:∃ u,u=fm p R0:=⟨_,rfl⟩
   obtain⟨t,ht⟩:∃ t,t=fm p (c*f%p):=⟨_,rfl⟩
   obtain⟨z,hz⟩:∃ z,z=fm p ((R0+c*f%p)%p):=⟨_,rfl⟩
   have hfz:fm p (fN k)=z:=by rw[HfN.out,hz,hR0,hc]
   have hqy:(ql++rest)[k]?=some y:=by
    rw[List.getElem?_append_left (by have:=HQn.out;omega),Hql.out,List.getElem?_map,hy,hc,List.getD_eq_getElem?_getD]
    have hnl:(numL p ps i).length=n:=by have:=HQn.out;rw[Hql.out,List.length_map]at this;exact this
    rw[List.getElem?_eq_getElem (by omega)];rfl
   obtain⟨L,hL⟩:∃ L,L=(upG fN fR n k).map (fm p):=⟨_,rfl⟩
   have hLk:L[k]?=some u:=by
    rw[hL,List.getElem?_map,List.getElem?_eq_getElem (by rw[upG_length];exact hlt)]
    simp only[upG,List.getElem_map,List.getElem_range,Nat.lt_irrefl,if_false,Option.map_some]
    rw[HfR.out,hu,hR0]
   have hLn:L.length=n:=by rw[hL,List.length_map,upG_length]
   have hLs:L.set k z=(upG fN fR n (k+1)).map (fm p):=by rw[hL,<-hfz,<-List.map_set,upG_next fN fR hlt]
   rw[<-hL]at hE
   have HMu:=hid (show ∀ W,Calls Tryz.prog 109 #[FV id p i0 r s,V y,V g] W fun x' w'=>x'=.returned (V t)/\Off (fun _=>False) W w' from fun W=>by rw[hy,Hg.out,ht];exact HM.out _ _ W)
   have HAd:=hid (show ∀ W,Calls Tryz.prog 108 #[FV id p i0 r s,V u,V t] W fun x' w'=>x'=.returned (V z)/\Off (fun _=>False) W w' from fun W=>by rw[hu,ht,hz];exact HA.out _ _ W)
   obtain⟨S',t1,t2,t3⟩:=hE.tape
   obtain⟨W1,hW1⟩:∃ W1,W1=wr.alloc (.cells #[.int .u64 (wd y 0),.int .u64 (wd y 1),.int .u64 (wd y 2),.int .u64 (wd y 3)] 66):=⟨_,rfl⟩
   obtain⟨vb,hvb⟩:∃ vb,vb=wr.heap.size:=⟨_,rfl⟩
   have ho1:Off (fun _=>False) wr W1:=by rw[hW1];exact(Off.refl _ wr).alloc _
   have g_vb:W1.heap[vb]?=some (.cells #[.int .u64 (wd y 0),.int .u64 (wd y 1),.int .u64 (wd y 2),.int .u64 (wd y 3)] 66 (0,0)):=by rw[hW1,hvb];exact heap_new' rfl _
   have hwW:=hE.off.size
   have hla:arr<wr.heap.size:=NumsAt.lt hE.ars
   obtain⟨c0,c1,c2,c3⟩:=NumsAt.cell (hE.get Nqb.out) hqy
   have ltq:=heap_lt (hE.get Nqb.out)
   have kbt:W1.cell? ⟨bt,0,none⟩=some (.pointer q):=cell_of_heap (ho1.heap (hE.get (Nsub.out _ Hm.out.2.1)) (fun c=>c)) 0
   have hE1:=(hE.keep ho1).more g_vb ⟨_,_,rfl,by decide,by decide,by decide⟩ (by omega) (by omega)
   have hnote:=note_ext q (ext q es (rowE i k)) S' W1 (t1.off0 ho1) (by
    have h1:=ext_le q es (rowE i k);rw[show(rowE i k).length=k by simp[rowE]]at h1;omega) ((3:Int),(i:Int),(k:Int))
   have hkn:(k:Int)<(n:Int):=by omega
   have HE:=hid hE1
   have HT2:=hid t2
   have HT3:=hid (show ∀ b,S' b->Typed W1 b from fun b c=>by obtain⟨c',T,h,hT⟩:=t3 b c;exact⟨c',T,ho1.heap h (fun c=>c),hT⟩)
   have hj1:w.heap.size<=W1.heap.size:=Nat.le_trans hwW ho1.size
   have HW1:=hid hW1
   have Hvb:=hid hvb
   have HLs:=hid hLs
   have HLk:=hid hLk
   have HLn:=hid hLn
   clear hE hE1 t1 t2 t3 g_vb ho1 hla hvb hwW hfz hz ht hu hR0 hy hc hqy hL hLk hLs hLn
   rw[hW1]at kbt hnote
   clear hW1
   go_wp2_with fail
   rw[<-HW1.out]at hnote ⊢
   refine hnote.mono ?_
   rintro r1 A1 ⟨rfl,hN,hO0⟩
   clear c0 c1 c2 c3 hnote kbt ltq
   have hE2:=HE.out.noted HT2.out HT3.out hO0 hj1 hN
   rw[ext_ext,<-rowE_next]at hE2
   rw[<-Hvb.out]
   have HAr:Hid (A1.heap[arr]?=some (.cells (flat4 L).toArray 66 (0,0))):=hid hE2.ars
   have HOk:=HLk
   have HPt:=hid (fun(wr:World) (h:wr.heap[arr]?=some (.cells (flat4 L).toArray 66 (0,0)))=>(NumsAt.store h (show k<L.length by rw[HLn.out];exact hlt) z:NumsAt _ _ _ _))
   have cm:∀ {x:Nat × Obj},x∈fx0->x∈(vb,Obj.cells #[.int .u64 (wd y 0),.int .u64 (wd y 1),.int .u64 (wd y 2),.int .u64 (wd y 3)] 66 (0,0))::fx1:=fun h=>List.mem_cons_of_mem _ (Nsub.out _ h)
   have HK2:Hid (∀ B,Off (fun k=>k=arr) A1 B->(B.cell? ⟨bf,0,none⟩=some (.int .i64 id)/\B.cell? ⟨bf,1,none⟩=some (.int .u64 (wd p 0))/\B.cell? ⟨bf,2,none⟩=some (.int .u64 (wd p 1))/\B.cell? ⟨bf,3,none⟩=some (.int .u64 (wd p 2))/\B.cell? ⟨bf,4,none⟩=some (.int .u64 (wd p 3))/\B.cell? ⟨bf,5,none⟩=some (.int .u64 i0)/\B.cell? ⟨bf,6,none⟩=some (.int .u64 (wd r 0))/\B.cell? ⟨bf,7,none⟩=some (.int .u64 (wd r 1))/\B.cell? ⟨bf,8,none⟩=some (.int .u64 (wd r 2))/\B.cell? ⟨bf,9,none⟩=some (.int .u64 (wd r 3))/\B.cell? ⟨bf,10,none⟩=some (.int .u64 (wd s 0))/\B.cell? ⟨bf,11,none⟩=some (.int .u64 (wd s 1))/\B.cell? ⟨bf,12,none⟩=some (.int .u64 (wd s 2))/\B.cell? ⟨bf,13,none⟩=some (.int .u64 (wd s 3)))/\B.cell? ⟨br,0,none⟩=some (.slice (some ⟨arr,0,none⟩) n n)/\(B.cell? ⟨vb,0,none⟩=some (.int .u64 (wd y 0))/\B.cell? ⟨vb,1,none⟩=some (.int .u64 (wd y 1))/\B.cell? ⟨vb,2,none⟩=some (.int .u64 (wd y 2))/\B.cell? ⟨vb,3,none⟩=some (.int .u64 (wd y 3)))/\(B.cell? ⟨eb,0,none⟩=some (.int .u64 (wd g 0))/\B.cell? ⟨eb,1,none⟩=some (.int .u64 (wd g 1))/\B.cell? ⟨eb,2,none⟩=some (.int .u64 (wd g 2))/\B.cell? ⟨eb,3,none⟩=some (.int .u64 (wd g 3)))/\Off (fun k=>k=arr) A1 B):=hid (fun B h=>⟨fv_cells (h.heap (hE2.get (cm Hm.out.1)) (hE2.ne (cm Hm.out.1))),cell_of_heap (h.heap (hE2.get (cm Hm.out.2.2)) (hE2.ne (cm Hm.out.2.2))) 0,cells4 (h.heap (hE2.get (List.mem_cons_self ..)) (hE2.ne (List.mem_cons_self ..))),cells4 (h.heap (hE2.get (List.mem_cons_of_mem _ Neb.out)) (hE2.ne (List.mem_cons_of_mem _ Neb.out))),h⟩)
   have HE2b:=hid hE2
   clear hE2 hN hO0 cm
   go_upto_region 6 with fail
   refine wp_region_inv (fun a0 l a' w'=>∃ (u34:Value) (u35:Value) (u36:Value) (u37:Value) (u38:Value) (u39:Value) (u40:Value) (u41:Value) (u42:Value) (u43:Value) (u44:Value) (u45:Value) (u46:Value),a'=(Act.put (Act.put (Act.put (Act.put (Act.put (Act.put (Act.put (Act.put (Act.put (Act.put (Act.put (Act.put (Act.put a0 (some 34) u34) (some 35) u35) (some 36) u36) (some 37) u37) (some 38) u38) (some 39) u39) (some 40) u40) (some 41) u41) (some 42) u42) (some 43) u43) (some 44) u44) (some 45) u45) (some 46) u46)/\Slot l 0 u34 (.slice (some ⟨arr,0,none⟩) n n)/\Slot l 1 u35 (.int .i64 k)/\Slot l 2 u36 (FV id p i0 r s)/\Slot l 3 u37 (.slice (some ⟨arr,0,none⟩) n n)/\Slot l 4 u38 (.int .i64 k)/\Slot l 5 u39 (.pointer (some ⟨arr,k*4,none⟩))/\Slot l 6 u40 (V u)/\Slot l 7 u41 (FV id p i0 r s)/\Slot l 8 u42 (V y)/\Slot l 9 u43 (V g)/\Slot l 10 u44 (V t)/\Slot l 11 u45 (V z)/\Slot l 12 u46 (.pointer (some ⟨arr,k*4,none⟩))/\Old l 13 arr A1 w' (.cells (flat4 L).toArray 66) (.cells (flat4 (L.set k z)).toArray 66)/\Dep l 6 13/\Off (fun k=>k=arr) A1 w') (by kernel_rfl) (by kernel_rfl) ?_ ⟨?_,?_,?_,?_,?_,?_,?_,?_,?_,?_,?_,?_,?_,?_,trivial⟩ ?_
   ·refine⟨?z34,?z35,?z36,?z37,?z38,?z39,?z40,?z41,?z42,?z43,?z44,?z45,?z46,?fr,Slot.start _ _ _,Slot.start _ _ _,Slot.start _ _ _,Slot.start _ _ _,Slot.start _ _ _,Slot.start _ _ _,Slot.start _ _ _,Slot.start _ _ _,Slot.start _ _ _,Slot.start _ _ _,Slot.start _ _ _,Slot.start _ _ _,Slot.start _ _ _,Old.start HAr.out _ _,Dep.start _ _,(Off.refl _ A1).drew⟩
    case fr=>first | (simp only[XP];rfl) | simp only[XP]
   all_goals try (intro l a wr hI hl hd K' hK;obtain⟨u34,u35,u36,u37,u38,u39,u40,u41,u42,u43,u44,u45,u46,ha,s0,s1,s2,s3,s4,s5,s6,s7,s8,s9,s10,s11,s12,O0,P6_13,hO⟩:=hI;simp only[XP]at ha)
   ·subst ha
    have hc:=HK2.out wr hO
    have p0:=hc.2.1
    clear hc
    go_simp
    refine hK.out _ _ ⟨_,_,_,_,_,_,_,_,_,_,_,_,_,?_,Slot.new _ _ _,s1.keep rfl,s2.keep rfl,s3.keep rfl,s4.keep rfl,s5.keep rfl,s6.keep rfl,s7.keep rfl,s8.keep rfl,s9.keep rfl,s10.keep rfl,s11.keep rfl,s12.keep rfl,O0.keep (Off.refl _ wr) rfl,P6_13.keep rfl,hO⟩
    simp only[XP]
   ·subst ha
    go_simp
    refine hK.out _ _ ⟨_,_,_,_,_,_,_,_,_,_,_,_,_,?_,s0.keep rfl,Slot.new _ _ _,s2.keep rfl,s3.keep rfl,s4.keep rfl,s5.keep rfl,s6.keep rfl,s7.keep rfl,s8.keep rfl,s9.keep rfl,s10.keep rfl,s11.keep rfl,s12.keep rfl,O0.keep (Off.refl _ wr) rfl,P6_13.keep rfl,hO⟩
    simp only[XP]
   ·subst ha
    have hc:=HK2.out wr hO
    have p0:=hc.1.1
    have p1:=hc.1.2.1
    have p2:=hc.1.2.2.1
    have p3:=hc.1.2.2.2.1
    have p4:=hc.1.2.2.2.2.1
    have p5:=hc.1.2.2.2.2.2.1
    have p6:=hc.1.2.2.2.2.2.2.1
    have p7:=hc.1.2.2.2.2.2.2.2.1
    have p8:=hc.1.2.2.2.2.2.2.2.2.1
    have p9:=hc.1.2.2.2.2.2.2.2.2.2.1
    have p10:=hc.1.2.2.2.2.2.2.2.2.2.2.1
    have p11:=hc.1.2.2.2.2.2.2.2.2.2.2.2.1
    have p12:=hc.1.2.2.2.2.2.2.2.2.2.2.2.2.1
    have p13:=hc.1.2.2.2.2.2.2.2.2.2.2.2.2.2
    clear hc
    go_simp
    refine hK.out _ _ ⟨_,_,_,_,_,_,_,_,_,_,_,_,_,?_,s0.keep rfl,s1.keep rfl,Slot.new _ _ _,s3.keep rfl,s4.keep rfl,s5.keep rfl,s6.keep rfl,s7.keep rfl,s8.keep rfl,s9.keep rfl,s10.keep rfl,s11.keep rfl,s12.keep rfl,O0.keep (Off.refl _ wr) rfl,P6_13.keep rfl,hO⟩
    simp only[XP]
   ·subst ha
    have hc:=HK2.out wr hO
    have p0:=hc.2.1
    clear hc
    go_simp
    refine hK.out _ _ ⟨_,_,_,_,_,_,_,_,_,_,_,_,_,?_,s0.keep rfl,s1.keep rfl,s2.keep rfl,Slot.new _ _ _,s4.keep rfl,s5.keep rfl,s6.keep rfl,s7.keep rfl,s8.keep rfl,s9.keep rfl,s10.keep rfl,s11.keep rfl,s12.keep rfl,O0.keep (Off.refl _ wr) rfl,P6_13.keep rfl,hO⟩
    simp only[XP]
   ·subst ha
    go_simp
    refine hK.out _ _ ⟨_,_,_,_,_,_,_,_,_,_,_,_,_,?_,s0.keep rfl,s1.keep rfl,s2.keep rfl,s3.keep rfl,Slot.new _ _ _,s5.keep rfl,s6.keep rfl,s7.keep rfl,s8.keep rfl,s9.keep rfl,s10.keep rfl,s11.keep rfl,s12.keep rfl,O0.keep (Off.refl _ wr) rfl,P6_13.keep rfl,hO⟩
    simp only[XP]
   ·have q3:=s3 (hd 3 (by decide))
    have q4:=s4 (hd 4 (by decide))
    subst ha q3 q4
    go_simp
    refine hK.out _ _ ⟨_,_,_,_,_,_,_,_,_,_,_,_,_,?_,s0.keep rfl,s1.keep rfl,s2.keep rfl,s3.keep rfl,s4.keep rfl,Slot.new _ _ _,s6.keep rfl,s7.keep rfl,s8.keep rfl,s9.keep rfl,s10.keep rfl,s11.keep rfl,s12.keep rfl,O0.keep (Off.refl _ wr) rfl,P6_13.keep rfl,hO⟩
    simp only[XP]
   ·have q5:=s5 (hd 5 (by decide))
    subst ha q5
    have hZ:=O0.was (P6_13 hl)
    obtain⟨p0,p1,p2,p3⟩:=NumsAt.cell hZ HOk.out
    clear hZ
    go_simp
    refine hK.out _ _ ⟨_,_,_,_,_,_,_,_,_,_,_,_,_,?_,s0.keep rfl,s1.keep rfl,s2.keep rfl,s3.keep rfl,s4.keep rfl,s5.keep rfl,Slot.new _ _ _,s7.keep rfl,s8.keep rfl,s9.keep rfl,s10.keep rfl,s11.keep rfl,s12.keep rfl,O0.keep (Off.refl _ wr) rfl,P6_13.keep rfl,hO⟩
    simp only[XP]
   ·subst ha
    have hc:=HK2.out wr hO
    have p0:=hc.1.1
    have p1:=hc.1.2.1
    have p2:=hc.1.2.2.1
    have p3:=hc.1.2.2.2.1
    have p4:=hc.1.2.2.2.2.1
    have p5:=hc.1.2.2.2.2.2.1
    have p6:=hc.1.2.2.2.2.2.2.1
    have p7:=hc.1.2.2.2.2.2.2.2.1
    have p8:=hc.1.2.2.2.2.2.2.2.2.1
    have p9:=hc.1.2.2.2.2.2.2.2.2.2.1
    have p10:=hc.1.2.2.2.2.2.2.2.2.2.2.1
    have p11:=hc.1.2.2.2.2.2.2.2.2.2.2.2.1
    have p12:=hc.1.2.2.2.2.2.2.2.2.2.2.2.2.1
    have p13:=hc.1.2.2.2.2.2.2.2.2.2.2.2.2.2
    clear hc
    go_simp
    refine hK.out _ _ ⟨_,_,_,_,_,_,_,_,_,_,_,_,_,?_,s0.keep rfl,s1.keep rfl,s2.keep rfl,s3.keep rfl,s4.keep rfl,s5.keep rfl,s6.keep rfl,Slot.new _ _ _,s8.keep rfl,s9.keep rfl,s10.keep rfl,s11.keep rfl,s12.keep rfl,O0.keep (Off.refl _ wr) rfl,P6_13.keep rfl,hO⟩
    simp only[XP]
   ·subst ha
    have hc:=HK2.out wr hO
    have p0:=hc.2.2.1.1
    have p1:=hc.2.2.1.2.1
    have p2:=hc.2.2.1.2.2.1
    have p3:=hc.2.2.1.2.2.2
    clear hc
    go_simp
    refine hK.out _ _ ⟨_,_,_,_,_,_,_,_,_,_,_,_,_,?_,s0.keep rfl,s1.keep rfl,s2.keep rfl,s3.keep rfl,s4.keep rfl,s5.keep rfl,s6.keep rfl,s7.keep rfl,Slot.new _ _ _,s9.keep rfl,s10.keep rfl,s11.keep rfl,s12.keep rfl,O0.keep (Off.refl _ wr) rfl,P6_13.keep rfl,hO⟩
    simp only[XP]
   ·subst ha
    have hc:=HK2.out wr hO
    have p0:=hc.2.2.2.1.1
    have p1:=hc.2.2.2.1.2.1
    have p2:=hc.2.2.2.1.2.2.1
    have p3:=hc.2.2.2.1.2.2.2
    clear hc
    go_simp
    refine hK.out _ _ ⟨_,_,_,_,_,_,_,_,_,_,_,_,_,?_,s0.keep rfl,s1.keep rfl,s2.keep rfl,s3.keep rfl,s4.keep rfl,s5.keep rfl,s6.keep rfl,s7.keep rfl,s8.keep rfl,Slot.new _ _ _,s10.keep rfl,s11.keep rfl,s12.keep rfl,O0.keep (Off.refl _ wr) rfl,P6_13.keep rfl,hO⟩
    simp only[XP]
   ·have q7:=s7 (hd 7 (by decide))
    have q8:=s8 (hd 8 (by decide))
    have q9:=s9 (hd 9 (by decide))
    subst ha q7 q8 q9
    go_simp
    refine(held_inv (HMu.out wr) hO).mono ?_
    rintro e w1 ⟨rfl,hO1,hOW⟩
    go_wp2_with fail
    refine hK.out _ _ ⟨_,_,_,_,_,_,_,_,_,_,_,_,_,?_,s0.keep rfl,s1.keep rfl,s2.keep rfl,s3.keep rfl,s4.keep rfl,s5.keep rfl,s6.keep rfl,s7.keep rfl,s8.keep rfl,s9.keep rfl,Slot.new _ _ _,s11.keep rfl,s12.keep rfl,O0.keep hOW rfl,P6_13.keep rfl,hO1⟩
    simp only[XP]
   ·have q2:=s2 (hd 2 (by decide))
    have q6:=s6 (hd 6 (by decide))
    have q10:=s10 (hd 10 (by decide))
    subst ha q2 q6 q10
    go_simp
    refine(held_inv (HAd.out wr) hO).mono ?_
    rintro e w1 ⟨rfl,hO1,hOW⟩
    go_wp2_with fail
    refine hK.out _ _ ⟨_,_,_,_,_,_,_,_,_,_,_,_,_,?_,s0.keep rfl,s1.keep rfl,s2.keep rfl,s3.keep rfl,s4.keep rfl,s5.keep rfl,s6.keep rfl,s7.keep rfl,s8.keep rfl,s9.keep rfl,s10.keep rfl,Slot.new _ _ _,s12.keep rfl,O0.keep hOW rfl,P6_13.keep rfl,hO1⟩
    simp only[XP]
   ·have q0:=s0 (hd 0 (by decide))
    have q1:=s1 (hd 1 (by decide))
    subst ha q0 q1
    go_simp
    refine hK.out _ _ ⟨_,_,_,_,_,_,_,_,_,_,_,_,_,?_,s0.keep rfl,s1.keep rfl,s2.keep rfl,s3.keep rfl,s4.keep rfl,s5.keep rfl,s6.keep rfl,s7.keep rfl,s8.keep rfl,s9.keep rfl,s10.keep rfl,s11.keep rfl,Slot.new _ _ _,O0.keep (Off.refl _ wr) rfl,P6_13.keep rfl,hO⟩
    simp only[XP]
   ·have q12:=s12 (hd 12 (by decide))
    have q11:=s11 (hd 11 (by decide))
    subst ha q12 q11
    have hZ:=(O0.was hl)
    obtain⟨m0,m1,m2,m3⟩:=NumsAt.cell hZ HOk.out
    have fz:=fun j=>NumsAt.frozen hZ j
    have lt:=heap_lt hZ
    clear hZ
    go_simp
    refine hK.out _ _ ⟨_,_,_,_,_,_,_,_,_,_,_,_,_,?_,s0.keep rfl,s1.keep rfl,s2.keep rfl,s3.keep rfl,s4.keep rfl,s5.keep rfl,s6.keep rfl,s7.keep rfl,s8.keep rfl,s9.keep rfl,s10.keep rfl,s11.keep rfl,s12.keep rfl,O0.putAt (HPt.out wr) hl,Dep.at (hd 6 (by decide)),setCells_in_at hO (fun _=>rfl) (words4 z)⟩
    simp only[XP]
   intro l a wc hI hd
   obtain⟨u34,u35,u36,u37,u38,u39,u40,u41,u42,u43,u44,u45,u46,ha,s0,s1,s2,s3,s4,s5,s6,s7,s8,s9,s10,s11,s12,O0,P6_13,hO⟩:=hI
   simp only[XP]at ha
   have q0:=s0 (hd 0 (by decide))
   have q1:=s1 (hd 1 (by decide))
   have q2:=s2 (hd 2 (by decide))
   have q3:=s3 (hd 3 (by decide))
   have q4:=s4 (hd 4 (by decide))
   have q5:=s5 (hd 5 (by decide))
   have q6:=s6 (hd 6 (by decide))
   have q7:=s7 (hd 7 (by decide))
   have q8:=s8 (hd 8 (by decide))
   have q9:=s9 (hd 9 (by decide))
   have q10:=s10 (hd 10 (by decide))
   have q11:=s11 (hd 11 (by decide))
   have q12:=s12 (hd 12 (by decide))
   have r0:wc.heap[arr]?=some (.cells (flat4 (L.set k z)).toArray 66):=O0.now (hd 13 (by decide))
   subst ha q0 q1 q2 q3 q4 q5 q6 q7 q8 q9 q10 q11 q12
   clear hd s0 s1 s2 s3 s4 s5 s6 s7 s8 s9 s10 s11 s12 O0 P6_13
   have hE3:=(HE2b.out.put hO r0).less
   rw[HLs.out]at hE3
   have HE3:=hid hE3
   clear r0 hO hE3
   go_wp2
   go_roundw
   case rel=>exact⟨k+1,by omega,by simp,HE3.out⟩
   case measure=>simp[intOf] <;> omega
  obtain rfl:n=k:=by omega
  rw[upG_full]at hE
  have HE:=hid (hE.sub Nsub.out)
  clear hE
  go_wp2
  go_end0
  exact⟨rfl,by rw[HRs.out];exact HE.out⟩
end
section
open Go.RowKit
set_option maxRecDepth 100000 in
set_option maxHeartbeats 4000000 in
theorem itp_ok {id:Int} {p i0 r s:Nat} (hF:Fld id p i0 r s) (xs:List Int) (hc:chkV xs=0) (n:Nat) (hn:n=xs.length) (hl:n<=90) (ys:List Nat) (hy:n=ys.length) (q:Option Addr) (es:List Ev) (S Sl:Nat->Prop) (a2 a:Option Addr) (cap2 cap:Nat) (w:World) (hV:Iv w (.slice a2 n cap2) xs)
  (hL:LsAt w (.slice a n cap) (ys.map (fm p)) Sl) (hSl:∀ b,Sl b->b<w.heap.size/\¬S b) (hS:Tp w q es S) (hl2:es.length<=50000) :
  Calls Tryz.prog 88 #[.pointer q,FV id p i0 r s,.slice a2 n cap2,.slice a n cap] w fun e w'=>∃ u,e=.returned (.tuple #[u,.int .i64 0])/\OwnL w.heap.size w' u ((itpL p (ptV xs) ys).map (fm p))/\Noted w.heap.size q es (wpE n n++batE n++prE n n) S w'/\Off S w w':=by
 have hmx:Tryz.prog.follows .mixedOrders=true:=by kernel_rfl
 obtain⟨hr,_⟩:=chkV_zero hc
 obtain⟨_,_,_,hbig⟩:=fld_full hF
 obtain⟨ps,hps⟩:∃ ps,ps=ptV xs:=⟨_,rfl⟩
 have hpp:∀ x∈ps,x<p:=by rw[hps];exact ptV_lt hbig hr
 have hpn:n=ps.length:=by rw[hps,ptV_length,hn]
 obtain⟨v,hv⟩:∃ v,v=Value.slice a2 n cap2:=⟨_,rfl⟩
 have HC:=hid (fun W h=>by have g:=check_any xs (by omega) (.slice a2 n cap2) W (hV.off h);rw[hc]at g;exact g:∀ W,Off (fun _=>False) w W->Calls Tryz.prog 103 #[.slice a2 n cap2] W fun e w'=>e=.returned (.int .i64 0)/\Off (fun _=>False) W w')
 have HP:=hid (fun W h=>by have g:=pts_any hF xs hr (by omega) (.slice a2 n cap2) W (hV.off h);rw[<-hn,<-hps]at g;exact g:∀ W,Off (fun _=>False) w W->Calls Tryz.prog 104 #[FV id p i0 r s,.slice a2 n cap2] W fun e w'=>∃ b,e=.returned (.slice (some ⟨b,0,none⟩) n n)/\W.heap.size<=b/\NumsAt w' b 66 (ps.map (fm p))/\Off (fun _=>False) W w')
 have hls:∀ {W:World} {b:Nat},NumsAt W b 66 (ps.map (fm p))->LsAt W (.slice (some ⟨b,0,none⟩) n n) (ps.map (fm p)) (fun k=>k=b):=fun {W b} hN =>
  ⟨some ⟨b,0,none⟩,n,by rw[List.length_map,hpn],by rw[List.length_map];omega,fun _=>⟨b,0,rfl,rfl,fun j x hx=>by have:=NumsAt.cell hN hx;rw[Nat.zero_add];exact this⟩⟩
 have HQ:=hid (fun W b hN=>pof_any hF ps hpp n n (some ⟨b,0,none⟩) hpn (by omega) (fun k=>k=b) W (hls hN) :
  ∀ W b,NumsAt W b 66 (ps.map (fm p))->Calls Tryz.prog 105 #[FV id p i0 r s,.slice (some ⟨b,0,none⟩) n n] W fun e w'=>∃ z,e=.returned z/\OwnL W.heap.size w' z ((wholeL p ps).map (fm p))/\Off (fun _=>False) W w')
 have HW:=hid (fun W b hO hb hN=>wts_any hF ps hpp n n (some ⟨b,0,none⟩) hpn (by omega) q es S (fun k=>k=b) W (hls hN) (fun k e=>by subst e;exact⟨NumsAt.lt hN,fun c=>by have:=hS.2 _ c;omega⟩) (hS.off0 hO) hl2 :
  ∀ W b,Off (fun _=>False) w W->w.heap.size<=b->NumsAt W b 66 (ps.map (fm p))->Calls Tryz.prog 110 #[.pointer q,FV id p i0 r s,.slice (some ⟨b,0,none⟩) n n] W fun e w'=>∃ v,e=.returned v/\OwnL W.heap.size w' v ((wgtL p ps).map (fm p))/\Noted W.heap.size q es (wpE n n++batE n) S w'/\Off S W w')
 rw[<-hps]
 obtain⟨ls,hls2⟩:∃ ls,ls=wpE n n++batE n:=⟨_,rfl⟩
 have hlsn:ls.length<=10000:=by rw[hls2];have h1:=wpE_length n n;have h2:n*n<=90*90:=Nat.mul_le_mul (by omega) (by omega);have h3:=batE_le n;rw[List.length_append];omega
 rw[<-hls2]at HW ⊢
 obtain⟨m,hm⟩:∃ m,m=n+1:=⟨_,rfl⟩
 have hwl:((wholeL p ps).map (fm p)).length=m:=by rw[List.length_map,wholeL_length,hm,hpn]
 obtain⟨ZZ,hZZ⟩:∃ Z,Z=(itpL p ps ys).map (fm p):=⟨_,rfl⟩
 have hzl:ZZ.length=n:=by rw[hZZ,List.length_map,itpL,itpF_length p ps ys _ (Nat.le_refl _),hpn]
 rw[<-hZZ]
 have hmk:=run_make_el n (by omega)
 have HF:=hid hF
 have HM:=hid (fun x y W=>by have h:=mmul_any hF (fm p x) (fm p y) (Nat.lt_trans (fm_lt hF.mp.pos _) hF.mp.lt) (fm_lt hF.mp.pos _) W;rw[mm_fm hF.mp]at h;exact h:∀ x y W,Calls Tryz.prog 109 #[FV id p i0 r s,V (fm p x),V (fm p y)] W fun x' w'=>x'=.returned (V (fm p (x*y%p)))/\Off (fun _=>False) W w')
 have HPn:=hid hpn
 have HPp:=hid hpp
 have HL:=hid hL
 have HSl:=hid hSl
 have HS:=hid hS
 have HZZ:=hid hZZ
 have HZl:=hid hzl
 have HYn:=hid hy
 have HmN:=hid hm
 have HWl:=hid hwl
 clear hV hc hr hls hls2 hn hps hpn hpp hF hS hL hSl hZZ hzl hy hm hwl hv
 go_enter Tryz.func88,Tryz.ntmps88
 go_wp2_with fail
 obtain⟨W0,hW0⟩:∃ W0,W0=(w.alloc (.cells #[.pointer q] 40)).alloc (.cells #[.int .i64 id,.int .u64 (wd p 0),.int .u64 (wd p 1),.int .u64 (wd p 2),.int .u64 (wd p 3),.int .u64 i0,.int .u64 (wd r 0),.int .u64 (wd r 1),.int .u64 (wd r 2),.int .u64 (wd r 3),.int .u64 (wd s 0),.int .u64 (wd s 1),.int .u64 (wd s 2),.int .u64 (wd s 3)] 104):=⟨_,rfl⟩
 have hOW0:Off (fun _=>False) w W0:=by rw[hW0];exact((Off.refl _ w).alloc _).alloc _
 have g_bt:W0.heap[w.heap.size]?=some (.cells #[.pointer q] 40 (0,0)):=by rw[hW0];exact heap_old' (heap_new' rfl _) _
 have g_bf:W0.heap[w.heap.size+1]?=some (.cells #[.int .i64 id,.int .u64 (wd p 0),.int .u64 (wd p 1),.int .u64 (wd p 2),.int .u64 (wd p 3),.int .u64 i0,.int .u64 (wd r 0),.int .u64 (wd r 1),.int .u64 (wd r 2),.int .u64 (wd r 3),.int .u64 (wd s 0),.int .u64 (wd s 1),.int .u64 (wd s 2),.int .u64 (wd s 3)] 104 (0,0)):=by rw[hW0];exact heap_new' (by simp) _
 have hsW0:W0.heap.size=w.heap.size+1+1:=by rw[hW0];simp
 rw[<-hW0]
 obtain⟨bf,e_bf⟩:∃ bf,bf=w.heap.size+1:=⟨_,rfl⟩
 rw[<-e_bf]at g_bf ⊢
 obtain⟨bt,e_bt⟩:∃ bt,bt=w.heap.size:=⟨_,rfl⟩
 rw[<-e_bt]at g_bt ⊢
 have HBk:=hid (show bt=w.heap.size/\bf=w.heap.size+1/\W0.heap.size=w.heap.size+1+1 from⟨e_bt,e_bf,hsW0⟩)
 clear hW0 hsW0 e_bt e_bf
 have HO0:=hid hOW0
 have Gbt:=hid g_bt
 have Gbf:=hid g_bf
 clear hOW0 g_bt g_bf
 refine(HC.out _ HO0.out).mono ?_
 rintro e w1 ⟨rfl,hO1⟩
 have g_bf:=hO1.heap Gbf.out (fun c=>c)
 obtain⟨f0,f1,f2,f3,f4,f5,f6,f7,f8,f9,f10,f11,f12,f13⟩:=fv_cells g_bf
 have Gbf1:=hid g_bf
 have Gbt1:=hid (hO1.heap Gbt.out (fun c=>c))
 have HO1:=hid (HO0.out.trans hO1 (fun _ _ c=>c))
 clear hO1 g_bf Gbf Gbt HO0
 go_wp2_with fail
 refine(HP.out _ HO1.out).mono ?_
 rintro e w2 ⟨pb,rfl,hpb,hN2,hO2⟩
 clear f0 f1 f2 f3 f4 f5 f6 f7 f8 f9 f10 f11 f12 f13
 have g_bf:=hO2.heap Gbf1.out (fun c=>c)
 obtain⟨f0,f1,f2,f3,f4,f5,f6,f7,f8,f9,f10,f11,f12,f13⟩:=fv_cells g_bf
 have ltf:=heap_lt g_bf
 have Gbf2:=hid g_bf
 have Gbt2:=hid (hO2.heap Gbt1.out (fun c=>c))
 have HO2:=hid (HO1.out.trans hO2 (fun _ _ c=>c))
 have HN2:=hid hN2
 have hwpb:w.heap.size<=pb:=Nat.le_trans HO1.out.size hpb
 clear hO2 g_bf hN2 Gbf1 Gbt1
 go_wp2_with fail
 obtain⟨bp,hbp⟩:∃ bp,bp=w2.heap.size:=⟨_,rfl⟩
 obtain⟨W2,hW2⟩:∃ W2,W2=w2.alloc (.cells #[.slice (some ⟨pb,0,none⟩) n n] 43):=⟨_,rfl⟩
 rw[<-hbp,<-hW2]
 have ho:Off (fun _=>False) w2 W2:=by rw[hW2];exact(Off.refl _ w2).alloc _
 have g_bp:W2.heap[bp]?=some (.cells #[.slice (some ⟨pb,0,none⟩) n n] 43 (0,0)):=by rw[hW2,hbp];exact heap_new' rfl _
 have hN2b:=HN2.out.off ho (fun c=>c)
 refine(HQ.out W2 pb hN2b).mono ?_
 rintro e w3 ⟨zz,rfl,hz,hO3⟩
 clear f0 f1 f2 f3 f4 f5 f6 f7 f8 f9 f10 f11 f12 f13 ltf
 rcases hz with ⟨hnil,_⟩ | ⟨wb,rfl,hwb,hN3⟩
 ·have:=congrArg List.length hnil;rw[HWl.out]at this;have:=HmN.out;simp at *;omega
 rw[HWl.out]
 have hpb2:pb<w2.heap.size:=NumsAt.lt HN2.out
 have hsW2:W2.heap.size=w2.heap.size+1:=by rw[hW2];simp
 have g_bp:=hO3.heap g_bp (fun c=>c)
 have g_bf:=hO3.heap (ho.heap Gbf2.out (fun c=>c)) (fun c=>c)
 have g_bt:=hO3.heap (ho.heap Gbt2.out (fun c=>c)) (fun c=>c)
 have g_pb:=hN2b.off hO3 (fun c=>c)
 have hO3w:=(HO2.out.trans ho (fun _ _ c=>c)).trans hO3 (fun _ _ c=>c)
 obtain⟨f0,f1,f2,f3,f4,f5,f6,f7,f8,f9,f10,f11,f12,f13⟩:=fv_cells g_bf
 have kbp:w3.cell? ⟨bp,0,none⟩=some (.slice (some ⟨pb,0,none⟩) n n):=cell_of_heap g_bp 0
 have kbt:w3.cell? ⟨bt,0,none⟩=some (.pointer q):=cell_of_heap g_bt 0
 have ltf:=heap_lt g_bf
 have ltt:=heap_lt g_bt
 have ltp:=heap_lt g_bp
 have GBp:=hid g_bp
 have GBf:=hid g_bf
 have GBt:=hid g_bt
 have GPb:=hid g_pb
 have GWb:=hid hN3
 have HO3:=hid hO3w
 have HLs:=hid (show w.heap.size<=w2.heap.size/\bp=w2.heap.size/\pb<w2.heap.size/\W2.heap.size=w2.heap.size+1/\W2.heap.size<=wb from⟨HO2.out.size,hbp,hpb2,hsW2,hwb⟩)
 have hw0:w.heap.size<=w3.heap.size:=hO3w.size
 clear g_bp g_bf g_bt g_pb hN3 hO3w hO3 ho hN2b hpb hpb2 hsW2 hwb hbp hW2 Gbf2 Gbt2
 go_upto_region 10 with fail
 obtain⟨W3,hW3⟩:∃ W3,W3=((w3.alloc (.cells #[.slice (some ⟨wb,0,none⟩) m m] 43)).alloc (.cells (flat4 (List.replicate n 0)).toArray 66)).alloc (.cells #[.slice (some ⟨w3.heap.size+1,0,none⟩) n n] 43):=⟨_,rfl⟩
 have hOW3:Off (fun _=>False) w3 W3:=by rw[hW3];exact(((Off.refl _ w3).alloc _).alloc _).alloc _
 have g_bw:W3.heap[w3.heap.size]?=some (.cells #[.slice (some ⟨wb,0,none⟩) m m] 43 (0,0)):=by rw[hW3];exact heap_old' (heap_old' (heap_new' rfl _) _) _
 have g_arr:W3.heap[w3.heap.size+1]?=some (.cells (flat4 (List.replicate n 0)).toArray 66 (0,0)):=by rw[hW3];exact heap_old' (heap_new' (by simp) _) _
 have g_br:W3.heap[w3.heap.size+1+1]?=some (.cells #[.slice (some ⟨w3.heap.size+1,0,none⟩) n n] 43 (0,0)):=by rw[hW3];exact heap_new' (by simp) _
 have hsW3:W3.heap.size=w3.heap.size+1+1+1:=by rw[hW3];simp
 rw[<-hW3]
 obtain⟨br,e_br⟩:∃ br,br=w3.heap.size+1+1:=⟨_,rfl⟩
 rw[<-e_br]at g_br ⊢
 obtain⟨arr,e_arr⟩:∃ arr,arr=w3.heap.size+1:=⟨_,rfl⟩
 rw[<-e_arr]at g_arr g_br ⊢
 obtain⟨bw,e_bw⟩:∃ bw,bw=w3.heap.size:=⟨_,rfl⟩
 rw[<-e_bw]at g_bw ⊢
 have HBk3:=hid (show bw=w3.heap.size/\arr=w3.heap.size+1/\br=w3.heap.size+1+1/\W3.heap.size=w3.heap.size+1+1+1 from⟨e_bw,e_arr,e_br,hsW3⟩)
 clear hW3 hsW3 e_bw e_arr e_br
 clear f0 f1 f2 f3 f4 f5 f6 f7 f8 f9 f10 f11 f12 f13 kbp kbt ltf ltt ltp hmk
 have hOw3:=HO3.out.trans hOW3 (fun _ _ c=>c)
 obtain⟨f0,f1,f2,f3,f4,f5,f6,f7,f8,f9,f10,f11,f12,f13⟩:=fv_cells (hOW3.heap GBf.out (fun c=>c))
 have kbp:W3.cell? ⟨bp,0,none⟩=some (.slice (some ⟨pb,0,none⟩) n n):=cell_of_heap (hOW3.heap GBp.out (fun c=>c)) 0
 have kbt:W3.cell? ⟨bt,0,none⟩=some (.pointer q):=cell_of_heap (hOW3.heap GBt.out (fun c=>c)) 0
 have Gar:=hid g_arr
 have Gbw:=hid g_bw
 have Gbr:=hid g_br
 have HOW3:=hid hOW3
 have HOw3:=hid hOw3
 clear g_arr g_bw g_br hOW3 hOw3
 go_wp2_with fail
 clear f0 f1 f2 f3 f4 f5 f6 f7 f8 f9 f10 f11 f12 f13 kbp kbt
 have hOW3:=HOW3.out
 have hOw3:=HOw3.out
 refine(HW.out W3 pb hOw3 hwpb (GPb.out.off hOW3 (fun c=>c))).mono ?_
 rintro e w4 ⟨u,rfl,hu,hT,hO4⟩
 have hls:=HLs.out
 have hbS:∀ k,w.heap.size<=k->¬S k:=fun k hk c=>by have:=HS.out.2 k c;omega
 have hb0:=HBk.out
 have hb3:=HBk3.out
 have g_br:=hO4.heap Gbr.out (hbS _ (by omega))
 have g_ar:=hO4.heap Gar.out (hbS _ (by omega))
 have hw4:w.heap.size<=W3.heap.size:=hOw3.size
 have hul:((wgtL p ps).map (fm p)).length=n:=by rw[List.length_map,wgtL_length,<-HPn.out]
 rcases hu with ⟨hnil,rfl⟩ | ⟨ub,rfl,hub,hN4⟩
 ·have hn0:n=0:=by rw[hnil]at hul;exact hul.symm
  subst hn0
  have hzz:ZZ=[]:=List.eq_nil_of_length_eq_zero HZl.out
  have kbr:w4.cell? ⟨br,0,none⟩=some (.slice (some ⟨arr,0,none⟩) 0 0):=cell_of_heap g_br 0
  have H1:=hid (hT.mono hw4)
  have H2:=hid ((hOw3.mono (fun _ _ c=>c.elim):Off S w W3).trans hO4 (fun _ _ c=>c))
  have H3:=hid (show OwnL w.heap.size w4 (.slice (some ⟨arr,0,none⟩) 0 0) ZZ by rw[hzz];exact .inr ⟨arr,rfl,by omega,g_ar⟩)
  clear hT hO4 hOW3 hOw3 hnil hul g_br g_ar hls hbS hb0 hb3 hzz
  go_wp2
  go_loopw [42] (fun ix wr=>ix=.int .i64 0/\wr=w4) (fun _ _=>0)
  case atStart=>exact⟨rfl,rfl⟩
  case round =>
   obtain⟨rfl,rfl⟩:=hrel
   go_wp2
   refine bodyPost_ret (results_tmp2 rfl _ _ _) rfl ?_
   refine⟨_,rfl,H3.out,?_,H2.out⟩
   rw[show prE 0 0=[] from rfl,List.append_nil];exact H1.out
 rw[hul]
 have g_bf:=hO4.heap (hOW3.heap GBf.out (fun c=>c)) (hbS _ (by omega))
 have g_bt:=hO4.heap (hOW3.heap GBt.out (fun c=>c)) (hbS _ (by omega))
 have g_bp:=hO4.heap (hOW3.heap GBp.out (fun c=>c)) (hbS _ (by omega))
 have g_pb:=hO4.heap (hOW3.heap GPb.out (fun c=>c)) (hbS _ (by omega))
 have g_wb:=hO4.heap (hOW3.heap GWb.out (fun c=>c)) (hbS _ (by omega))
 have g_bw:=hO4.heap Gbw.out (hbS _ (by omega))
 have lwb:=NumsAt.lt GWb.out
 obtain⟨fx0,hfx⟩:∃ f:List (Nat × Obj),f=[(bf,Obj.cells #[.int .i64 id,.int .u64 (wd p 0),.int .u64 (wd p 1),.int .u64 (wd p 2),.int .u64 (wd p 3),.int .u64 i0,.int .u64 (wd r 0),.int .u64 (wd r 1),.int .u64 (wd r 2),.int .u64 (wd r 3),.int .u64 (wd s 0),.int .u64 (wd s 1),.int .u64 (wd s 2),.int .u64 (wd s 3)] 104 (0,0)),(bw,Obj.cells #[.slice (some ⟨wb,0,none⟩) m m] 43 (0,0)),(wb,Obj.cells (flat4 ((wholeL p ps).map (fm p))).toArray 66 (0,0)),(bp,Obj.cells #[.slice (some ⟨pb,0,none⟩) n n] 43 (0,0)),(pb,Obj.cells (flat4 (ps.map (fm p))).toArray 66 (0,0)),(bt,Obj.cells #[.pointer q] 40 (0,0)),(br,Obj.cells #[.slice (some ⟨arr,0,none⟩) n n] 43 (0,0)),(ub,Obj.cells (flat4 ((wgtL p ps).map (fm p))).toArray 66 (0,0))]:=⟨_,rfl⟩
 have hE0:Env w w4 fx0 arr ((itpF p ps ys 0).map (fm p)) (.slice a n cap) (ys.map (fm p)) Sl q (ext q es (ls++prE n 0)) S:=by
  refine⟨?_,?_,?_,by omega,(HL.out.off hOw3 (fun _ _ _ c=>c)).off hO4 (fun k _ h c=>(HSl.out k h).2 c),HSl.out,?_,HS.out.2,(hOw3.mono (fun _ _ c=>c.elim):Off S w W3).trans hO4 (fun _ _ c=>c)⟩
  ·rw[hfx];simp only[List.mem_cons,List.not_mem_nil,or_false,forall_eq_or_imp,forall_eq]
   exact⟨g_bf,g_bw,g_wb,g_bp,g_pb,g_bt,g_br,hN4⟩
  ·rw[hfx];simp only[List.mem_cons,List.not_mem_nil,or_false,forall_eq_or_imp,forall_eq]
   refine⟨⟨⟨_,_,rfl,by decide,by decide,by decide⟩,by omega,by omega⟩,⟨⟨_,_,rfl,by decide,by decide,by decide⟩,by omega,by omega⟩,⟨⟨_,_,rfl,by decide,by decide,by decide⟩,by omega,by omega⟩,⟨⟨_,_,rfl,by decide,by decide,by decide⟩,by omega,by omega⟩,⟨⟨_,_,rfl,by decide,by decide,by decide⟩,by omega,by omega⟩,⟨⟨_,_,rfl,by decide,by decide,by decide⟩,by omega,by omega⟩,⟨⟨_,_,rfl,by decide,by decide,by decide⟩,by omega,by omega⟩,⟨⟨_,_,rfl,by decide,by decide,by decide⟩,by omega,by omega⟩⟩
  ·rw[show itpF p ps ys 0=List.replicate ps.length 0 from rfl,<-HPn.out,List.map_replicate,fm_zero];exact g_ar
  rw[show prE n 0=[] from rfl,List.append_nil];exact hT.mono hw4
 have Mbf:=hid (show(bf,Obj.cells #[.int .i64 id,.int .u64 (wd p 0),.int .u64 (wd p 1),.int .u64 (wd p 2),.int .u64 (wd p 3),.int .u64 i0,.int .u64 (wd r 0),.int .u64 (wd r 1),.int .u64 (wd r 2),.int .u64 (wd r 3),.int .u64 (wd s 0),.int .u64 (wd s 1),.int .u64 (wd s 2),.int .u64 (wd s 3)] 104 (0,0))∈fx0 by rw[hfx];simp)
 have Mbw:=hid (show(bw,Obj.cells #[.slice (some ⟨wb,0,none⟩) m m] 43 (0,0))∈fx0 by rw[hfx];simp)
 have Mwb:=hid (show(wb,Obj.cells (flat4 ((wholeL p ps).map (fm p))).toArray 66 (0,0))∈fx0 by rw[hfx];simp)
 have Mbp:=hid (show(bp,Obj.cells #[.slice (some ⟨pb,0,none⟩) n n] 43 (0,0))∈fx0 by rw[hfx];simp)
 have Mpb:=hid (show(pb,Obj.cells (flat4 (ps.map (fm p))).toArray 66 (0,0))∈fx0 by rw[hfx];simp)
 have Mbt:=hid (show(bt,Obj.cells #[.pointer q] 40 (0,0))∈fx0 by rw[hfx];simp)
 have Mbr:=hid (show(br,Obj.cells #[.slice (some ⟨arr,0,none⟩) n n] 43 (0,0))∈fx0 by rw[hfx];simp)
 have Mub:=hid (show(ub,Obj.cells (flat4 ((wgtL p ps).map (fm p))).toArray 66 (0,0))∈fx0 by rw[hfx];simp)
 have HE0:=hid hE0
 clear hE0 hfx g_bf g_bt g_bp g_pb g_wb g_bw lwb hul g_br g_ar hT hO4 hOW3 hOw3 hls hbS hb0 hb3 hub hN4 hw4 Gar Gbw Gbr GBf GBt GBp GPb GWb HOW3 HOw3 HO3 HLs HBk HBk3 hw0 hwpb
 go_wp2
 go_loopw [42] (fun ix wr=>∃ k:Nat,k<=n/\ix=.int .i64 k/\Env w wr fx0 arr ((itpF p ps ys k).map (fm p)) (.slice a n cap) (ys.map (fm p)) Sl q (ext q es (ls++prE n k)) S) (fun ix _=>n-(intOf ix).toNat)
 case atStart=>exact⟨0,Nat.zero_le _,rfl,HE0.out⟩
 case round =>
  obtain⟨k,hk,rfl,hE⟩:=hrel
  by_cases hlt:k<n
  ·obtain⟨y0,hy0⟩:∃ y0,y0=ys.getD k 0:=⟨_,rfl⟩
   obtain⟨x,hx⟩:∃ x,x=fm p (wgt p ps k):=⟨_,rfl⟩
   obtain⟨y,hy⟩:∃ y,y=fm p y0:=⟨_,rfl⟩
   obtain⟨f,hf⟩:∃ f,f=wgt p ps k*y0%p:=⟨_,rfl⟩
   obtain⟨g,hg⟩:∃ g,g=fm p f:=⟨_,rfl⟩
   have hwx:((wgtL p ps).map (fm p))[k]?=some x:=by
    rw[List.getElem?_map,wgtL,List.getElem?_map,List.getElem?_range (by have:=HPn.out;omega),hx];rfl
   have hyx:(ys.map (fm p))[k]?=some y:=by rw[List.getElem?_map,List.getElem?_eq_getElem (by have:=HYn.out;omega),hy,hy0,List.getD_eq_getElem?_getD,List.getElem?_eq_getElem (by have:=HYn.out;omega)];rfl
   obtain⟨b,off,rfl,hSb,d0,d1,d2,d3⟩:=hE.src.get hyx
   obtain⟨c0,c1,c2,c3⟩:=NumsAt.cell (hE.get Mub.out) hwx
   have HMu:=hid (show ∀ W,Calls Tryz.prog 109 #[FV id p i0 r s,V x,V y] W fun x' w'=>x'=.returned (V g)/\Off (fun _=>False) W w' from fun W=>by rw[hx,hy,hg,hf];exact HM.out _ _ W)
   obtain⟨A0,hA0⟩:∃ A0,A0=wr.alloc (.cells #[.int .u64 (wd x 0),.int .u64 (wd x 1),.int .u64 (wd x 2),.int .u64 (wd x 3)] 66):=⟨_,rfl⟩
   obtain⟨vb,hvb⟩:∃ vb,vb=wr.heap.size:=⟨_,rfl⟩
   have ho:Off (fun _=>False) wr A0:=by rw[hA0];exact(Off.refl _ wr).alloc _
   have g_vb:A0.heap[vb]?=some (.cells #[.int .u64 (wd x 0),.int .u64 (wd x 1),.int .u64 (wd x 2),.int .u64 (wd x 3)] 66 (0,0)):=by rw[hA0,hvb];exact heap_new' rfl _
   have hRl:(itpF p ps ys k).length=n:=by rw[itpF_length p ps ys k (by have:=HPn.out;omega),HPn.out]
   have HPa:=hid (fun W1 (h:Off (fun _=>False) A0 W1)=>by
    have hk2:=part_any HF.out ps HPp.out n m m HPn.out HmN.out hl k hlt f fx0 bf bw wb bp pb bt br arr (itpF p ps ys k) hRl (.slice (some ⟨b,off,none⟩) n cap) (ys.map (fm p)) Sl q (ext q es (ls++prE n k)) S w W1 Mbf.out Mbw.out Mwb.out Mbp.out Mpb.out Mbt.out Mbr.out ((hE.keep ho).keep h) (by
     have h1:=ext_le q es (ls++prE n k);rw[List.length_append,prE_length]at h1;have h3:k*n<=90*90:=Nat.mul_le_mul (by omega) (by omega);omega)
    rw[ext_ext,List.append_assoc,show prE n k++rowE k n=prE n (k+1) from rfl,<-hg]at hk2
    rw[hf,hy0,<-itpF_next]at hk2
    exact hk2:∀ W1,Off (fun _=>False) A0 W1->Calls Tryz.prog 106 #[.int .i64 k,V g,.pointer (some ⟨bf,0,none⟩),.pointer (some ⟨bw,0,none⟩),.pointer (some ⟨bp,0,none⟩),.pointer (some ⟨bt,0,none⟩),.pointer (some ⟨br,0,none⟩)] W1 fun e W'=>e=.returned (.tuple #[])/\Env w W' fx0 arr ((itpF p ps ys (k+1)).map (fm p)) (.slice (some ⟨b,off,none⟩) n cap) (ys.map (fm p)) Sl q (ext q es (ls++prE n (k+1))) S)
   have hkn:(k:Int)<(n:Int):=by omega
   have g_bf:=ho.heap (hE.get Mbf.out) (fun c=>c)
   have HA0:=hid hA0
   have Hvb:=hid hvb
   have HGf:=hid g_bf
   have HGv:=hid g_vb
   have HYs:=hid (elAt.off ⟨d0,d1,d2,d3⟩ ho (fun c=>c):elAt A0 b (off+k*4) y)
   have ltu:=heap_lt (hE.get Mub.out)
   clear hE hwx hyx hx hy hf hg hy0 hA0 hvb ho g_vb g_bf hSb d0 d1 d2 d3 hRl
   go_upto_region 13 with fail
   rw[<-HA0.out,<-Hvb.out]
   clear c0 c1 c2 c3 ltu
   obtain⟨f0,f1,f2,f3,f4,f5,f6,f7,f8,f9,f10,f11,f12,f13⟩:=fv_cells HGf.out
   obtain⟨x0,x1,x2,x3⟩:=cells4 HGv.out
   obtain⟨d0,d1,d2,d3⟩:=HYs.out
   go_region_with (first | (go_at_call 109;refine(HMu.out _).mono ?_;rintro e w1 ⟨rfl,hO1⟩) | (go_at_call 106;refine(HPa.out _ ((Off.refl _ A0).drew.trans hO1 (fun _ _ c=>c))).mono ?_;rintro e w2 ⟨rfl,hE2⟩))
   all_goals
    have HE2:=hid hE2
    clear hE2 hO1 f0 f1 f2 f3 f4 f5 f6 f7 f8 f9 f10 f11 f12 f13 x0 x1 x2 x3 d0 d1 d2 d3
    go_wp2
    go_roundw
    case rel=>exact⟨k+1,by omega,by simp,HE2.out⟩
    case measure=>simp[intOf] <;> omega
  obtain rfl:n=k:=by omega
  have kbr:wr.cell? ⟨br,0,none⟩=some (.slice (some ⟨arr,0,none⟩) n n):=cell_of_heap (hE.get Mbr.out) 0
  have H3:=hid (show OwnL w.heap.size wr (.slice (some ⟨arr,0,none⟩) n n) ZZ from .inr ⟨arr,by rw[HZl.out],hE.new,by
   rw[HZZ.out,itpL,<-HPn.out];exact hE.ars⟩)
  have HE:=hid hE
  clear hE
  go_wp2
  refine bodyPost_ret (results_tmp2 rfl _ _ _) rfl ?_
  exact⟨_,rfl,H3.out,HE.out.notedAll,HE.out.off⟩
end
end Go.Proofs.YtbkgghhngeibhaaGreatDoor
