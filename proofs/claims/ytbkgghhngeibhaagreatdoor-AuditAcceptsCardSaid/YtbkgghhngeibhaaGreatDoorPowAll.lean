/-
  The contract of power.powersOf over this seat's translation: the table of an element's powers, to 15. Condition: the field's constants are those of its modulus.
  The contract of mask.Equal over this seat's translation, over that of mask.IsZero. Condition: the arguments are words.
  The contract of the method read of power's tables over this seat's translation: the entry at an index, the tape notes each entry's number. Conditions: the index is one of the table's; the table is none of the tape's blocks; the tape has room for the events.
  The contracts of power.Pow and power.Inverse over this seat's translation: the element whose value is the power; the tape notes the steps and the readings of the table. Conditions: the field's constants are those of its modulus; the tape has room for the events.
  The contract of power.Inverse over this seat's translation: the element whose value is the power with the exponent p - 2; the tape notes Pow's events. Conditions: the field's constants are those of its modulus; the tape has room for the events.
  The contract of power's factor over this seat's translation: the element itself, or 1 where it is 0. Condition: the field's constants are those of its modulus, the value lies below it.
  The contract of power.Batch over this seat's translation: the list of the inverses, newly made; the tape notes the indices, Pow's events, and the indices from the last on. Conditions: the field's constants are those of its modulus, the list's elements are forms of values below it, and lie outside the tape; the tape has room for the events.
  The contract of power.Batch over this seat's translation: the list of the inverses, newly made; the tape notes the indices, Pow's events, and the indices from the last on. Conditions: the field's constants are those of its modulus, the list's elements are forms of values below it, and lie outside the tape; the tape has room for the events.
-/
import Derived.Test.YtbkgghhngeibhaaGreatDoorNumsT
import Derived.Test.YtbkgghhngeibhaaGreatDoorMontAll
import Derived.Test.YtbkgghhngeibhaaGreatDoorPows
import Derived.Test.YtbkgghhngeibhaaGreatDoorFrame
import Derived.Test.YtbkgghhngeibhaaGreatDoorPolCore
import Derived.Shelf.Bits.Mul64
import Derived.Test.YtbkgghhngeibhaaGreatDoorProg
import Derived.Test.YtbkgghhngeibhaaGreatDoorInvAll
namespace Go.Proofs.YtbkgghhngeibhaaGreatDoor
open Lib (hid)
section
open Go.RowKit
attribute [local go_sem ↓] Go.wp_at_zero Go.wp_at_succ

def tblV (p v k:Nat):List Nat:=(List.range 16).map (fun j=>if j<=k then fm p (v^j%p) else 0)
theorem tblV_length (p v k:Nat):(tblV p v k).length=16:=by simp[tblV]
theorem tblV_get {p v k j:Nat} (hj:j<=k) (hk:k<16):(tblV p v k)[j]?=some (fm p (v^j%p)):=by
 unfold tblV
 rw[List.getElem?_map,List.getElem?_range (by omega)]
 simp[hj]
theorem tblV_next {p v k:Nat} (hk:k+1<16):(tblV p v k).set (k+1) (fm p (v^(k+1)%p))=tblV p v (k+1):=by
 apply List.ext_getElem?
 intro j
 by_cases hj:j=k+1
 ·subst hj
  rw[List.getElem?_set_self (by rw[tblV_length];omega),tblV_get (Nat.le_refl _) hk]
 rw[List.getElem?_set_ne (fun e=>hj e.symm)]
 unfold tblV
 rw[List.getElem?_map,List.getElem?_map]
 by_cases hj2:j<16
 ·rw[List.getElem?_range hj2]
  simp only[Option.map_some,Option.some.injEq]
  by_cases h1:j<=k
  ·rw[if_pos h1,if_pos (by omega)]
  rw[if_neg h1,if_neg (by omega)]
 rw[List.getElem?_eq_none (by simp;omega)];rfl
theorem tbl_lit (r:Nat):(flat4 [r,0,0,0,0,0,0,0,0,0,0,0,0,0,0,0]).toArray=#[.int .u64 (wd r 0),.int .u64 (wd r 1),.int .u64 (wd r 2),.int .u64 (wd r 3),.int .u64 0,.int .u64 0,.int .u64 0,.int .u64 0,.int .u64 0,.int .u64 0,.int .u64 0,.int .u64 0,.int .u64 0,.int .u64 0,.int .u64 0,.int .u64 0,.int .u64 0,.int .u64 0,.int .u64 0,.int .u64 0,.int .u64 0,.int .u64 0,.int .u64 0,.int .u64 0,.int .u64 0,.int .u64 0,.int .u64 0,.int .u64 0,.int .u64 0,.int .u64 0,.int .u64 0,.int .u64 0,.int .u64 0,.int .u64 0,.int .u64 0,.int .u64 0,.int .u64 0,.int .u64 0,.int .u64 0,.int .u64 0,.int .u64 0,.int .u64 0,.int .u64 0,.int .u64 0,.int .u64 0,.int .u64 0,.int .u64 0,.int .u64 0,.int .u64 0,.int .u64 0,.int .u64 0,.int .u64 0,.int .u64 0,.int .u64 0,.int .u64 0,.int .u64 0,.int .u64 0,.int .u64 0,.int .u64 0,.int .u64 0,.int .u64 0,.int .u64 0,.int .u64 0,.int .u64 0]:=by
 simp only[flat4,wd_zero]
 rfl
theorem tblV_zero (p v:Nat):tblV p v 0=[radV p 256,0,0,0,0,0,0,0,0,0,0,0,0,0,0,0]:=by
 rw[<-pow_zero_fm p v];rfl

set_option maxRecDepth 100000 in
set_option maxHeartbeats 4000000 in
theorem powersof_any {id:Int} {p i r s:Nat} (hF:Fld id p i r s) (v:Nat) (w:World) :
  Calls Tryz.prog 152 #[FV id p i r s,V (fm p v)] w fun e w'=>∃ b,e=.returned (.pointer (some ⟨b,0,none⟩))/\w.heap.size<=b/\NumsAt w' b 200 (tblV p v 15)/\Off (fun _=>False) w w':=by
 have hm:=hF.mp
 have HM:=hid (fun k (hk:k<15) W=>by have h:=mmul_any hF (fm p (v^k%p)) (fm p v) (Nat.lt_trans (fm_lt hm.pos _) hm.lt) (fm_lt hm.pos _) W;rw[pow_mm1 hm]at h;exact h:∀ k,k<15->∀ W,Calls Tryz.prog 109 #[FV id p i r s,V (fm p (v^k%p)),V (fm p v)] W fun e w'=>e=.returned (V (fm p (v^(k+1)%p)))/\Off (fun _=>False) W w')
 have hz:r=radV p 256:=hF.rr
 obtain⟨x,hx⟩:∃ x,x=fm p v:=⟨_,rfl⟩
 rw[<-hx]at HM ⊢
 obtain⟨b,hb⟩:∃ b,b=w.heap.size+1+1:=⟨_,rfl⟩
 obtain⟨W0,hW0⟩:∃ W0,W0=((w.alloc (.cells #[.int .i64 id,.int .u64 (wd p 0),.int .u64 (wd p 1),.int .u64 (wd p 2),.int .u64 (wd p 3),.int .u64 i,.int .u64 (wd r 0),.int .u64 (wd r 1),.int .u64 (wd r 2),.int .u64 (wd r 3),.int .u64 (wd s 0),.int .u64 (wd s 1),.int .u64 (wd s 2),.int .u64 (wd s 3)] 104)).alloc (.cells #[.int .u64 (wd x 0),.int .u64 (wd x 1),.int .u64 (wd x 2),.int .u64 (wd x 3)] 66)).alloc (.cells #[.int .u64 (wd r 0),.int .u64 (wd r 1),.int .u64 (wd r 2),.int .u64 (wd r 3),.int .u64 0,.int .u64 0,.int .u64 0,.int .u64 0,.int .u64 0,.int .u64 0,.int .u64 0,.int .u64 0,.int .u64 0,.int .u64 0,.int .u64 0,.int .u64 0,.int .u64 0,.int .u64 0,.int .u64 0,.int .u64 0,.int .u64 0,.int .u64 0,.int .u64 0,.int .u64 0,.int .u64 0,.int .u64 0,.int .u64 0,.int .u64 0,.int .u64 0,.int .u64 0,.int .u64 0,.int .u64 0,.int .u64 0,.int .u64 0,.int .u64 0,.int .u64 0,.int .u64 0,.int .u64 0,.int .u64 0,.int .u64 0,.int .u64 0,.int .u64 0,.int .u64 0,.int .u64 0,.int .u64 0,.int .u64 0,.int .u64 0,.int .u64 0,.int .u64 0,.int .u64 0,.int .u64 0,.int .u64 0,.int .u64 0,.int .u64 0,.int .u64 0,.int .u64 0,.int .u64 0,.int .u64 0,.int .u64 0,.int .u64 0,.int .u64 0,.int .u64 0,.int .u64 0,.int .u64 0] 200):=⟨_,rfl⟩
 have hFb:W0.heap[w.heap.size]?=some (.cells #[.int .i64 id,.int .u64 (wd p 0),.int .u64 (wd p 1),.int .u64 (wd p 2),.int .u64 (wd p 3),.int .u64 i,.int .u64 (wd r 0),.int .u64 (wd r 1),.int .u64 (wd r 2),.int .u64 (wd r 3),.int .u64 (wd s 0),.int .u64 (wd s 1),.int .u64 (wd s 2),.int .u64 (wd s 3)] 104):=by rw[hW0];exact heap_old' (heap_old' (heap_new' rfl _) _) _
 have hXb:W0.heap[w.heap.size+1]?=some (.cells #[.int .u64 (wd x 0),.int .u64 (wd x 1),.int .u64 (wd x 2),.int .u64 (wd x 3)] 66):=by rw[hW0];exact heap_old' (heap_new' (by simp) _) _
 have hT0:NumsAt W0 b 200 (tblV p v 0):=by rw[hW0,hb,<-tbl_lit,hz,<-tblV_zero p v];exact heap_new' (by simp) _
 have hO0:Off (fun _=>False) w W0:=by rw[hW0];exact(((Off.refl _ w).alloc _).alloc _).alloc _
 have hK:∀ W,Off (fun k=>k=b) W0 W->(W.cell? ⟨w.heap.size,0,none⟩=some (.int .i64 id)/\W.cell? ⟨w.heap.size,1,none⟩=some (.int .u64 (wd p 0))/\W.cell? ⟨w.heap.size,2,none⟩=some (.int .u64 (wd p 1))/\W.cell? ⟨w.heap.size,3,none⟩=some (.int .u64 (wd p 2))/\W.cell? ⟨w.heap.size,4,none⟩=some (.int .u64 (wd p 3))/\W.cell? ⟨w.heap.size,5,none⟩=some (.int .u64 i)/\W.cell? ⟨w.heap.size,6,none⟩=some (.int .u64 (wd r 0))/\W.cell? ⟨w.heap.size,7,none⟩=some (.int .u64 (wd r 1))/\W.cell? ⟨w.heap.size,8,none⟩=some (.int .u64 (wd r 2))/\W.cell? ⟨w.heap.size,9,none⟩=some (.int .u64 (wd r 3))/\W.cell? ⟨w.heap.size,10,none⟩=some (.int .u64 (wd s 0))/\W.cell? ⟨w.heap.size,11,none⟩=some (.int .u64 (wd s 1))/\W.cell? ⟨w.heap.size,12,none⟩=some (.int .u64 (wd s 2))/\W.cell? ⟨w.heap.size,13,none⟩=some (.int .u64 (wd s 3)))/\(W.cell? ⟨w.heap.size+1,0,none⟩=some (.int .u64 (wd x 0))/\W.cell? ⟨w.heap.size+1,1,none⟩=some (.int .u64 (wd x 1))/\W.cell? ⟨w.heap.size+1,2,none⟩=some (.int .u64 (wd x 2))/\W.cell? ⟨w.heap.size+1,3,none⟩=some (.int .u64 (wd x 3)))/\Off (fun k=>k=b) W0 W:=fun W h =>
  ⟨fv_cells (h.heap hFb (by omega)),cells4 (h.heap hXb (by omega)),h⟩
 have HX:=hid hx
 have HW0:=hid hW0
 have HK:=hid hK
 have HT0:=hid hT0
 have HO0:=hid hO0
 have hlt:w.heap.size<b:=by omega
 have hlt1:w.heap.size+1<b:=by omega
 have HB:=hid hb
 clear hx hm hF hz hK hT0 hO0 hFb hXb hW0
 go_enter Tryz.func152,Tryz.ntmps152
 go_wp2_with fail
 rw[<-hb]
 clear hb
 rw[<-HW0.out]
 go_loopw [11] (fun i wr=>∃ k:Nat,k<=15/\i=.int .i64 k/\NumsAt wr b 200 (tblV p v k)/\Off (fun k=>k=b) W0 wr) (fun i _=>15-(intOf i).toNat)
 case atStart=>exact⟨0,by omega,rfl,HT0.out,Off.refl _ _⟩
 case round =>
  obtain⟨k,hk,rfl,hN,hO⟩:=hrel
  by_cases hlt2:k<15
  ·have HN:=hid hN
   have HO:=hid hO
   clear hN hO
   obtain⟨W1,hW1⟩:∃ W1,W1=wr:=⟨_,rfl⟩
   subst hW1
   have HK1:Hid (∀ W,Off (fun k=>k=b) W1 W->(W.cell? ⟨w.heap.size,0,none⟩=some (.int .i64 id)/\W.cell? ⟨w.heap.size,1,none⟩=some (.int .u64 (wd p 0))/\W.cell? ⟨w.heap.size,2,none⟩=some (.int .u64 (wd p 1))/\W.cell? ⟨w.heap.size,3,none⟩=some (.int .u64 (wd p 2))/\W.cell? ⟨w.heap.size,4,none⟩=some (.int .u64 (wd p 3))/\W.cell? ⟨w.heap.size,5,none⟩=some (.int .u64 i)/\W.cell? ⟨w.heap.size,6,none⟩=some (.int .u64 (wd r 0))/\W.cell? ⟨w.heap.size,7,none⟩=some (.int .u64 (wd r 1))/\W.cell? ⟨w.heap.size,8,none⟩=some (.int .u64 (wd r 2))/\W.cell? ⟨w.heap.size,9,none⟩=some (.int .u64 (wd r 3))/\W.cell? ⟨w.heap.size,10,none⟩=some (.int .u64 (wd s 0))/\W.cell? ⟨w.heap.size,11,none⟩=some (.int .u64 (wd s 1))/\W.cell? ⟨w.heap.size,12,none⟩=some (.int .u64 (wd s 2))/\W.cell? ⟨w.heap.size,13,none⟩=some (.int .u64 (wd s 3)))/\(W.cell? ⟨w.heap.size+1,0,none⟩=some (.int .u64 (wd x 0))/\W.cell? ⟨w.heap.size+1,1,none⟩=some (.int .u64 (wd x 1))/\W.cell? ⟨w.heap.size+1,2,none⟩=some (.int .u64 (wd x 2))/\W.cell? ⟨w.heap.size+1,3,none⟩=some (.int .u64 (wd x 3)))/\Off (fun k=>k=b) W1 W):=hid (fun W h=>by
    have h1:=HK.out W (HO.out.trans h (fun _ _ c=>c))
    exact⟨h1.1,h1.2.1,h⟩)
   obtain⟨o,ho⟩:∃ o,o=fm p (v^k%p):=⟨_,rfl⟩
   obtain⟨n,hn⟩:∃ n,n=fm p (v^(k+1)%p):=⟨_,rfl⟩
   have HG:=hid (show(tblV p v k)[k]?=some o by rw[ho];exact tblV_get (Nat.le_refl _) (by omega))
   obtain⟨g,hg⟩:∃ g,(tblV p v k)[k+1]?=some g:=⟨_,List.getElem?_eq_getElem (by rw[tblV_length];omega)⟩
   have HG1:=hid hg
   have HC:=hid (show ∀ W,Calls Tryz.prog 109 #[FV id p i r s,V o,V x] W fun e w'=>e=.returned (V n)/\Off (fun _=>False) W w' by rw[ho,hn];exact HM.out k hlt2)
   have HP:=hid (show ∀ W:World,W.heap[b]?=some (.cells (flat4 (tblV p v k)).toArray 200 (0,0))->(W.setCells b ((k+1)*4) (words4 n)).heap[b]?=some (.cells (flat4 (tblV p v (k+1))).toArray 200 (0,0)) from fun W h=>by
    have h1:=NumsAt.store h (j:=k+1) (by rw[tblV_length];omega) n
    rw[hn,tblV_next (by omega),<-hn]at h1
    exact h1)
   clear ho hn hg
   have hkb:(k:Int)<15:=by omega
   have hk16:(k:Int)<16:=by omega
   have hwr:IntKind.i64.wrap ((k:Int)+1)=(k:Int)+1:=by rw[IntKind.wrap_i64];omega
   have hk17:(0:Int)<=(k:Int)+1:=by omega
   have hk18:(k:Int)+1<16:=by omega
   go_upto_region 5 with fail
   refine wp_region_inv (fun a0 l a' w'=>∃ (u14:Value) (u15:Value) (u16:Value) (u17:Value) (u18:Value) (u19:Value) (u20:Value) (u21:Value) (u22:Value) (u23:Value) (u24:Value) (u25:Value) (u26:Value),a'=(Act.put (Act.put (Act.put (Act.put (Act.put (Act.put (Act.put (Act.put (Act.put (Act.put (Act.put (Act.put (Act.put a0 (some 14) u14) (some 15) u15) (some 16) u16) (some 17) u17) (some 18) u18) (some 19) u19) (some 20) u20) (some 21) u21) (some 22) u22) (some 23) u23) (some 24) u24) (some 25) u25) (some 26) u26)/\Slot l 0 u14 (.pointer (some ⟨b,0,none⟩))/\Slot l 1 u15 (.int .i64 k)/\Slot l 2 u16 (.int .i64 ((k:Int)+1))/\Slot l 3 u17 (FV id p i r s)/\Slot l 4 u18 (.pointer (some ⟨b,0,none⟩))/\Slot l 5 u19 (.int .i64 k)/\Slot l 6 u20 (.pointer (some ⟨b,0,none⟩))/\Slot l 7 u21 (.pointer (some ⟨b,k*4,none⟩))/\Slot l 8 u22 (V o)/\Slot l 9 u23 (V x)/\Slot l 10 u24 (V n)/\Slot l 11 u25 (.pointer (some ⟨b,0,none⟩))/\Slot l 12 u26 (.pointer (some ⟨b,(k+1)*4,none⟩))/\Old l 13 b W1 w' (.cells (flat4 (tblV p v k)).toArray 200) (.cells (flat4 (tblV p v (k+1))).toArray 200)/\Dep l 8 13/\Off (fun k=>k=b) W1 w') (by kernel_rfl) (by kernel_rfl) ?_ ⟨?_,?_,?_,?_,?_,?_,?_,?_,?_,?_,?_,?_,?_,?_,trivial⟩ ?_
   ·refine⟨?z14,?z15,?z16,?z17,?z18,?z19,?z20,?z21,?z22,?z23,?z24,?z25,?z26,?fr,Slot.start _ _ _,Slot.start _ _ _,Slot.start _ _ _,Slot.start _ _ _,Slot.start _ _ _,Slot.start _ _ _,Slot.start _ _ _,Slot.start _ _ _,Slot.start _ _ _,Slot.start _ _ _,Slot.start _ _ _,Slot.start _ _ _,Slot.start _ _ _,Old.start HN.out _ _,Dep.start _ _,(Off.refl _ W1).drew⟩
    case fr=>first | (simp only[XP];rfl) | simp only[XP]
   all_goals try (intro l a wr hI hl hd K' hK;obtain⟨u14,u15,u16,u17,u18,u19,u20,u21,u22,u23,u24,u25,u26,ha,s0,s1,s2,s3,s4,s5,s6,s7,s8,s9,s10,s11,s12,O0,P8_13,hO⟩:=hI;simp only[XP]at ha)
   ·subst ha
    go_simp
    refine hK.out _ _ ⟨_,_,_,_,_,_,_,_,_,_,_,_,_,?_,Slot.new _ _ _,s1.keep rfl,s2.keep rfl,s3.keep rfl,s4.keep rfl,s5.keep rfl,s6.keep rfl,s7.keep rfl,s8.keep rfl,s9.keep rfl,s10.keep rfl,s11.keep rfl,s12.keep rfl,O0.keep (Off.refl _ wr) rfl,P8_13.keep rfl,hO⟩
    simp only[XP]
   ·subst ha
    go_simp
    refine hK.out _ _ ⟨_,_,_,_,_,_,_,_,_,_,_,_,_,?_,s0.keep rfl,Slot.new _ _ _,s2.keep rfl,s3.keep rfl,s4.keep rfl,s5.keep rfl,s6.keep rfl,s7.keep rfl,s8.keep rfl,s9.keep rfl,s10.keep rfl,s11.keep rfl,s12.keep rfl,O0.keep (Off.refl _ wr) rfl,P8_13.keep rfl,hO⟩
    simp only[XP]
   ·have q1:=s1 (hd 1 (by decide))
    subst ha q1
    go_simp
    refine hK.out _ _ ⟨_,_,_,_,_,_,_,_,_,_,_,_,_,?_,s0.keep rfl,s1.keep rfl,Slot.new _ _ _,s3.keep rfl,s4.keep rfl,s5.keep rfl,s6.keep rfl,s7.keep rfl,s8.keep rfl,s9.keep rfl,s10.keep rfl,s11.keep rfl,s12.keep rfl,O0.keep (Off.refl _ wr) rfl,P8_13.keep rfl,hO⟩
    simp only[XP]
   ·subst ha
    have hc:=HK1.out wr hO
    have p0:=hc.1.1
    have p1:=hc.1.2.1
    have p2:=hc.1.2.2.1
    have p3:=hc.1.2.2.2.1
    have p4:=hc.1.2.2.2.2.1
    have p5:=hc.1.2.2.2.2.2.1
    have p6:=hc.1.2.2.2.2.2.2.1
    have p7:=hc.1.2.2.2.2.2.2.2.1
    have p8:=hc.1.2.2.2.2.2.2.2.2.1
    have p9:=hc.1.2.2.2.2.2.2.2.2.2.1
    have p10:=hc.1.2.2.2.2.2.2.2.2.2.2.1
    have p11:=hc.1.2.2.2.2.2.2.2.2.2.2.2.1
    have p12:=hc.1.2.2.2.2.2.2.2.2.2.2.2.2.1
    have p13:=hc.1.2.2.2.2.2.2.2.2.2.2.2.2.2
    clear hc
    go_simp
    refine hK.out _ _ ⟨_,_,_,_,_,_,_,_,_,_,_,_,_,?_,s0.keep rfl,s1.keep rfl,s2.keep rfl,Slot.new _ _ _,s4.keep rfl,s5.keep rfl,s6.keep rfl,s7.keep rfl,s8.keep rfl,s9.keep rfl,s10.keep rfl,s11.keep rfl,s12.keep rfl,O0.keep (Off.refl _ wr) rfl,P8_13.keep rfl,hO⟩
    simp only[XP]
   ·subst ha
    go_simp
    refine hK.out _ _ ⟨_,_,_,_,_,_,_,_,_,_,_,_,_,?_,s0.keep rfl,s1.keep rfl,s2.keep rfl,s3.keep rfl,Slot.new _ _ _,s5.keep rfl,s6.keep rfl,s7.keep rfl,s8.keep rfl,s9.keep rfl,s10.keep rfl,s11.keep rfl,s12.keep rfl,O0.keep (Off.refl _ wr) rfl,P8_13.keep rfl,hO⟩
    simp only[XP]
   ·subst ha
    go_simp
    refine hK.out _ _ ⟨_,_,_,_,_,_,_,_,_,_,_,_,_,?_,s0.keep rfl,s1.keep rfl,s2.keep rfl,s3.keep rfl,s4.keep rfl,Slot.new _ _ _,s6.keep rfl,s7.keep rfl,s8.keep rfl,s9.keep rfl,s10.keep rfl,s11.keep rfl,s12.keep rfl,O0.keep (Off.refl _ wr) rfl,P8_13.keep rfl,hO⟩
    simp only[XP]
   ·have q4:=s4 (hd 4 (by decide))
    subst ha q4
    go_simp
    refine hK.out _ _ ⟨_,_,_,_,_,_,_,_,_,_,_,_,_,?_,s0.keep rfl,s1.keep rfl,s2.keep rfl,s3.keep rfl,s4.keep rfl,s5.keep rfl,Slot.new _ _ _,s7.keep rfl,s8.keep rfl,s9.keep rfl,s10.keep rfl,s11.keep rfl,s12.keep rfl,O0.keep (Off.refl _ wr) rfl,P8_13.keep rfl,hO⟩
    simp only[XP]
   ·have q6:=s6 (hd 6 (by decide))
    have q5:=s5 (hd 5 (by decide))
    subst ha q6 q5
    go_simp
    refine hK.out _ _ ⟨_,_,_,_,_,_,_,_,_,_,_,_,_,?_,s0.keep rfl,s1.keep rfl,s2.keep rfl,s3.keep rfl,s4.keep rfl,s5.keep rfl,s6.keep rfl,Slot.new _ _ _,s8.keep rfl,s9.keep rfl,s10.keep rfl,s11.keep rfl,s12.keep rfl,O0.keep (Off.refl _ wr) rfl,P8_13.keep rfl,hO⟩
    simp only[XP]
   ·have q7:=s7 (hd 7 (by decide))
    subst ha q7
    have hZ:=O0.was (P8_13 hl)
    obtain⟨p0,p1,p2,p3⟩:=NumsAt.cell hZ HG.out
    clear hZ
    go_simp
    refine hK.out _ _ ⟨_,_,_,_,_,_,_,_,_,_,_,_,_,?_,s0.keep rfl,s1.keep rfl,s2.keep rfl,s3.keep rfl,s4.keep rfl,s5.keep rfl,s6.keep rfl,s7.keep rfl,Slot.new _ _ _,s9.keep rfl,s10.keep rfl,s11.keep rfl,s12.keep rfl,O0.keep (Off.refl _ wr) rfl,P8_13.keep rfl,hO⟩
    simp only[XP]
   ·subst ha
    have hc:=HK1.out wr hO
    have p0:=hc.2.1.1
    have p1:=hc.2.1.2.1
    have p2:=hc.2.1.2.2.1
    have p3:=hc.2.1.2.2.2
    clear hc
    go_simp
    refine hK.out _ _ ⟨_,_,_,_,_,_,_,_,_,_,_,_,_,?_,s0.keep rfl,s1.keep rfl,s2.keep rfl,s3.keep rfl,s4.keep rfl,s5.keep rfl,s6.keep rfl,s7.keep rfl,s8.keep rfl,Slot.new _ _ _,s10.keep rfl,s11.keep rfl,s12.keep rfl,O0.keep (Off.refl _ wr) rfl,P8_13.keep rfl,hO⟩
    simp only[XP]
   ·have q3:=s3 (hd 3 (by decide))
    have q8:=s8 (hd 8 (by decide))
    have q9:=s9 (hd 9 (by decide))
    subst ha q3 q8 q9
    go_simp
    refine(held_inv (HC.out wr) hO).mono ?_
    rintro e w1 ⟨rfl,hO1,hOW⟩
    go_wp2_with fail
    refine hK.out _ _ ⟨_,_,_,_,_,_,_,_,_,_,_,_,_,?_,s0.keep rfl,s1.keep rfl,s2.keep rfl,s3.keep rfl,s4.keep rfl,s5.keep rfl,s6.keep rfl,s7.keep rfl,s8.keep rfl,s9.keep rfl,Slot.new _ _ _,s11.keep rfl,s12.keep rfl,O0.keep hOW rfl,P8_13.keep rfl,hO1⟩
    simp only[XP]
   ·have q0:=s0 (hd 0 (by decide))
    subst ha q0
    go_simp
    refine hK.out _ _ ⟨_,_,_,_,_,_,_,_,_,_,_,_,_,?_,s0.keep rfl,s1.keep rfl,s2.keep rfl,s3.keep rfl,s4.keep rfl,s5.keep rfl,s6.keep rfl,s7.keep rfl,s8.keep rfl,s9.keep rfl,s10.keep rfl,Slot.new _ _ _,s12.keep rfl,O0.keep (Off.refl _ wr) rfl,P8_13.keep rfl,hO⟩
    simp only[XP]
   ·have q11:=s11 (hd 11 (by decide))
    have q2:=s2 (hd 2 (by decide))
    subst ha q11 q2
    go_simp
    refine hK.out _ _ ⟨_,_,_,_,_,_,_,_,_,_,_,_,_,?_,s0.keep rfl,s1.keep rfl,s2.keep rfl,s3.keep rfl,s4.keep rfl,s5.keep rfl,s6.keep rfl,s7.keep rfl,s8.keep rfl,s9.keep rfl,s10.keep rfl,s11.keep rfl,Slot.new _ _ _,O0.keep (Off.refl _ wr) rfl,P8_13.keep rfl,hO⟩
    simp only[XP]
   ·have q12:=s12 (hd 12 (by decide))
    have q10:=s10 (hd 10 (by decide))
    subst ha q12 q10
    have hZ:=(O0.was hl)
    obtain⟨m0,m1,m2,m3⟩:=NumsAt.cell hZ HG1.out
    have fz:=fun j=>NumsAt.frozen hZ j
    have lt:=heap_lt hZ
    clear hZ
    go_simp
    refine hK.out _ _ ⟨_,_,_,_,_,_,_,_,_,_,_,_,_,?_,s0.keep rfl,s1.keep rfl,s2.keep rfl,s3.keep rfl,s4.keep rfl,s5.keep rfl,s6.keep rfl,s7.keep rfl,s8.keep rfl,s9.keep rfl,s10.keep rfl,s11.keep rfl,s12.keep rfl,O0.putAt (HP.out wr) hl,Dep.at (hd 8 (by decide)),setCells_in_at hO (fun _=>rfl) (words4 n)⟩
    simp only[XP]
   intro l a wc hI hd
   obtain⟨u14,u15,u16,u17,u18,u19,u20,u21,u22,u23,u24,u25,u26,ha,s0,s1,s2,s3,s4,s5,s6,s7,s8,s9,s10,s11,s12,O0,P8_13,hO⟩:=hI
   simp only[XP]at ha
   have q0:=s0 (hd 0 (by decide))
   have q1:=s1 (hd 1 (by decide))
   have q2:=s2 (hd 2 (by decide))
   have q3:=s3 (hd 3 (by decide))
   have q4:=s4 (hd 4 (by decide))
   have q5:=s5 (hd 5 (by decide))
   have q6:=s6 (hd 6 (by decide))
   have q7:=s7 (hd 7 (by decide))
   have q8:=s8 (hd 8 (by decide))
   have q9:=s9 (hd 9 (by decide))
   have q10:=s10 (hd 10 (by decide))
   have q11:=s11 (hd 11 (by decide))
   have q12:=s12 (hd 12 (by decide))
   have r0:wc.heap[b]?=some (.cells (flat4 (tblV p v (k+1))).toArray 200):=O0.now (hd 13 (by decide))
   subst ha q0 q1 q2 q3 q4 q5 q6 q7 q8 q9 q10 q11 q12
   clear hd s0 s1 s2 s3 s4 s5 s6 s7 s8 s9 s10 s11 s12 O0 P8_13
   have r0':NumsAt wc b 200 (tblV p v (k+1)):=r0
   have HR:=hid r0'
   have HO2:=hid (HO.out.trans hO (fun _ _ c=>c))
   clear r0 r0' hO
   go_wp2
   go_roundw
   case rel=>exact⟨k+1,by omega,by simp,HR.out,HO2.out⟩
   case measure=>simp[intOf] <;> omega
  obtain rfl:k=15:=by omega
  have HN:=hid hN
  have HO:=hid hO
  clear hN hO
  go_wp2
  go_ret
  have:=HB.out
  exact⟨b,rfl,by omega,HN.out,HO0.out.trans HO.out (fun k hk e=>by omega)⟩
end
section
open Go.RowKit

theorem zeroB_one (x:Int):zeroB [x]=decide (x=0):=by simp[zeroB]
theorem words_one (w:World) (x:Int) (hx:Word x) (T:Nat):Words (w.alloc (.cells #[.int .u64 x] T)) (.slice (some ⟨w.heap.size,0,none⟩) 1 1) [x]:=by
 refine⟨_,_,rfl,by simp,by simpa using hx,fun _=>⟨_,_,rfl,?_⟩⟩
 intro j hj
 obtain rfl:j=0:=by simp at hj;omega
 simp[go_sem,nth]
set_option maxHeartbeats 400000 in
theorem equal_off (a b:Int) (ha:Word a) (hb:Word b) (w:World) :
  Calls Tryz.prog 156 #[.int .u64 a,.int .u64 b] w fun e w'=>e=.returned (.int .u64 (mk (eqB a b)))/\Off (fun _=>False) w w':=by
 have hx:=xor_word ha hb
 have HE:=hid (xor_eq ha hb)
 have HW:=fun W=>words_one W _ hx 62
 go_enter Tryz.func156,Tryz.ntmps156
 go_wp2_with (go_at_call 111;refine(iszero_any [_] _ _ (HW _)).mono ?_;rintro e w' ⟨rfl,rfl⟩)
 go_ret
 exact⟨ret_u64 (by rw[zeroB_one];exact congrArg mk HE.out),(Off.refl _ w).alloc _⟩
end
section
open Go.RowKit
attribute [local go_sem ↓] Go.wp_at_zero Go.wp_at_succ

def scanE (k:Nat):List Ev:=(List.range k).map (fun j:Nat=>((1:Int),(j:Int),(0:Int)))
theorem scanE_length (k:Nat):(scanE k).length=k:=by simp[scanE]
theorem scanE_next (k:Nat):scanE (k+1)=scanE k++[((1:Int),(k:Int),(0:Int))]:=by simp[scanE,List.range_succ]
theorem selN_mk (c:Bool) (a b:Nat):selN (mk c) a b=if c then a else b:=by cases c <;> simp[selN,mk,oddB]
structure ReadI (w wr:World) (tb:Nat) (q:Option Addr) (es:List Ev) (S:Nat->Prop) (tbl:List Nat) (f k:Nat):Prop where
 fnd:wr.heap[w.heap.size+1]?=some (.cells #[.int .u64 (wd f 0),.int .u64 (wd f 1),.int .u64 (wd f 2),.int .u64 (wd f 3)] 66)
 ret:wr.heap[w.heap.size]?=some (.cells #[.int .u64 0,.int .u64 0,.int .u64 0,.int .u64 0] 66)
 tab:NumsAt wr tb 200 tbl
 tp:∃ S',Tp wr q (ext q es (scanE k)) S'/\(∀ b,S' b->S b\/w.heap.size+2<=b)
 off:Off S w wr
set_option maxRecDepth 100000 in
set_option maxHeartbeats 4000000 in
theorem read_any (tb:Nat) (tbl:List Nat) (hlen:tbl.length=16) (hsm:∀ x∈tbl,x<R256) (q:Option Addr) (es:List Ev) (S:Nat->Prop) (d y0:Nat) (hd:d<16) (hy:tbl[d]?=some y0) (w:World) (hT:NumsAt w tb 200 tbl) (hS:Tp w q es S) (hb:¬S tb) (hl:es.length<=90000) :
  Calls Tryz.prog 155 #[.pointer (some ⟨tb,0,none⟩),.pointer q,.int .u64 d] w fun e w'=>e=.returned (V y0)/\Noted w.heap.size q es (scanE 16) S w'/\Off S w w':=by
 obtain⟨W0,hW0⟩:∃ W0,W0=(w.alloc (.cells #[.int .u64 0,.int .u64 0,.int .u64 0,.int .u64 0] 66)).alloc (.cells #[.int .u64 0,.int .u64 0,.int .u64 0,.int .u64 0] 66):=⟨_,rfl⟩
 have hO0:Off (fun _=>False) w W0:=by rw[hW0];exact((Off.refl _ w).alloc _).alloc _
 have hI0:ReadI w W0 tb q es S tbl 0 0:=⟨by rw[hW0];exact heap_new' (by simp) _,by rw[hW0];exact heap_old' (heap_new' rfl _) _,hT.off hO0 (fun c=>c),⟨S,by simpa[scanE,ext_nil]using hS.off0 hO0,fun _ c=>.inl c⟩,hO0.mono (fun _ _ c=>c.elim)⟩
 have htl:=hT.lt
 have HI0:=hid hI0
 have HW0:=hid hW0
 have HSm:=hid hsm
 have HY:=hid hy
 have HSl:=hid hS.2
 clear hI0 hW0 hO0 hsm hy hT hS
 go_enter Tryz.func155,Tryz.ntmps155
 go_wp2_with fail
 rw[<-HW0.out]
 go_loopw [12] (fun i wr=>∃ k:Nat,k<=16/\i=.int .i64 k/\ReadI w wr tb q es S tbl (if d<k then y0 else 0) k) (fun i _=>16-(intOf i).toNat)
 case atStart=>exact⟨0,by omega,rfl,by rw[if_neg (by omega)];exact HI0.out⟩
 case round =>
  obtain⟨k,hk,rfl,hI⟩:=hrel
  by_cases hlt2:k<16
  ·obtain⟨W1,hW1⟩:∃ W1,W1=wr:=⟨_,rfl⟩
   subst hW1
   obtain⟨f,hf⟩:∃ f,f=(if d<k then y0 else 0):=⟨_,rfl⟩
   rw[<-hf]at hI
   have HF:=hid hf
   have HI:=hid hI
   clear hI hf
   obtain⟨y,hy⟩:∃ y,tbl[k]?=some y:=⟨_,List.getElem?_eq_getElem (by omega)⟩
   have HK1:Hid (∀ W,Off (fun _=>False) W1 W->(W.cell? ⟨tb,k*4,none⟩=some (.int .u64 (wd y 0))/\W.cell? ⟨tb,k*4+1,none⟩=some (.int .u64 (wd y 1))/\W.cell? ⟨tb,k*4+2,none⟩=some (.int .u64 (wd y 2))/\W.cell? ⟨tb,k*4+3,none⟩=some (.int .u64 (wd y 3)))/\Off (fun _=>False) W1 W):=hid (fun W h=>⟨NumsAt.cell (HI.out.tab.off h (fun c=>c)) hy,h⟩)
   have HYk:=hid hy
   clear hy
   have hkb:(k:Int)<16:=by omega
   go_upto_region 4 with fail
   refine wp_region_inv (fun a0 l a' w'=>∃ (u14:Value) (u15:Value) (u16:Value) (u17:Value) (u9:Value) (u8:Value) (b9:Nat),a'=(Act.put (Act.put (Act.put (Act.put (Act.put (Act.put a0 (some 14) u14) (some 15) u15) (some 16) u16) (some 17) u17) (some 9) u9) (some 8) u8)/\Slot l 0 u14 (.int .i64 k)/\Slot l 1 u15 (.pointer (some ⟨tb,0,none⟩))/\Slot l 2 u16 (.pointer (some ⟨tb,k*4,none⟩))/\Slot l 3 u17 (V y)/\Slot l 5 u8 (.int .i64 k)/\Blk l 4 6 u9 b9 W1 w' (.cells #[.int .u64 0,.int .u64 0,.int .u64 0,.int .u64 0] 66) (.cells #[.int .u64 (wd y 0),.int .u64 (wd y 1),.int .u64 (wd y 2),.int .u64 (wd y 3)] 66)/\Off (fun _=>False) W1 w') (by kernel_rfl) (by kernel_rfl) ?_ ⟨?_,?_,?_,?_,?_,?_,?_,trivial⟩ ?_
   ·refine⟨?z14,?z15,?z16,?z17,?z9,?z8,0,?fr,Slot.start _ _ _,Slot.start _ _ _,Slot.start _ _ _,Slot.start _ _ _,Slot.start _ _ _,Blk.start _ _ _ _ _ _ _ _,(Off.refl _ W1).drew⟩
    case fr=>first | (simp only[XP];rfl) | simp only[XP]
   all_goals try (intro l a wr hI hl hd K' hK;obtain⟨u14,u15,u16,u17,u9,u8,b9,ha,s0,s1,s2,s3,s5,B4,hO⟩:=hI;simp only[XP]at ha)
   ·subst ha
    go_simp
    refine hK.out _ _ ⟨_,_,_,_,_,_,_,?_,Slot.new _ _ _,s1.keep rfl,s2.keep rfl,s3.keep rfl,s5.keep rfl,B4.keep (Off.refl _ wr) rfl rfl,hO⟩
    simp only[XP]
   ·subst ha
    go_simp
    refine hK.out _ _ ⟨_,_,_,_,_,_,_,?_,s0.keep rfl,Slot.new _ _ _,s2.keep rfl,s3.keep rfl,s5.keep rfl,B4.keep (Off.refl _ wr) rfl rfl,hO⟩
    simp only[XP]
   ·have q1:=s1 (hd 1 (by decide))
    subst ha q1
    go_simp
    refine hK.out _ _ ⟨_,_,_,_,_,_,_,?_,s0.keep rfl,s1.keep rfl,Slot.new _ _ _,s3.keep rfl,s5.keep rfl,B4.keep (Off.refl _ wr) rfl rfl,hO⟩
    simp only[XP]
   ·have q2:=s2 (hd 2 (by decide))
    subst ha q2
    have hc:=HK1.out wr hO
    have p0:=hc.1.1
    have p1:=hc.1.2.1
    have p2:=hc.1.2.2.1
    have p3:=hc.1.2.2.2
    clear hc
    go_simp
    refine hK.out _ _ ⟨_,_,_,_,_,_,_,?_,s0.keep rfl,s1.keep rfl,s2.keep rfl,Slot.new _ _ _,s5.keep rfl,B4.keep (Off.refl _ wr) rfl rfl,hO⟩
    simp only[XP]
   ·subst ha
    go_simp
    refine hK.out _ _ ⟨_,_,_,_,_,_,_,?_,s0.keep rfl,s1.keep rfl,s2.keep rfl,s3.keep rfl,s5.keep rfl,B4.make hl rfl hO,hO.alloc _⟩
    simp only[XP]
   ·have q0:=s0 (hd 0 (by decide))
    subst ha q0
    go_simp
    refine hK.out _ _ ⟨_,_,_,_,_,_,_,?_,s0.keep rfl,s1.keep rfl,s2.keep rfl,s3.keep rfl,Slot.new _ _ _,B4.keep (Off.refl _ wr) rfl rfl,hO⟩
    simp only[XP]
   ·have h4:=hd 4 (by decide)
    have q4:=B4.ptr h4
    have q3:=s3 (hd 3 (by decide))
    subst ha q4 q3
    obtain⟨⟨m0,m1,m2,m3⟩,fz,lt⟩:=zero_cells (B4.was h4 hl)
    go_simp
    refine hK.out _ _ ⟨_,_,_,_,_,_,_,?_,s0.keep rfl,s1.keep rfl,s2.keep rfl,s3.keep rfl,s5.keep rfl,B4.put hl h4 rfl rfl,setCells_in hO (fun c=>absurd c (Nat.not_lt.2 (B4.new h4))) [.int .u64 (wd y 0),.int .u64 (wd y 1),.int .u64 (wd y 2),.int .u64 (wd y 3)]⟩
    simp only[XP]
   intro l a wc hI hd
   obtain⟨u14,u15,u16,u17,u9,u8,b9,ha,s0,s1,s2,s3,s5,B4,hO⟩:=hI
   simp only[XP]at ha
   have q0:=s0 (hd 0 (by decide))
   have q1:=s1 (hd 1 (by decide))
   have q2:=s2 (hd 2 (by decide))
   have q3:=s3 (hd 3 (by decide))
   have q5:=s5 (hd 5 (by decide))
   have q4:=B4.ptr (hd 4 (by decide))
   have n9:wc.heap[b9]?=some (.cells #[.int .u64 (wd y 0),.int .u64 (wd y 1),.int .u64 (wd y 2),.int .u64 (wd y 3)] 66):=B4.now (hd 4 (by decide)) (hd 6 (by decide))
   have v9:=B4.new (hd 4 (by decide))
   subst ha q0 q1 q2 q3 q4 q5
   clear hd s0 s1 s2 s3 s5 B4
   obtain⟨S1,hS1,hS1b⟩:=HI.out.tp
   have hSx:∀ b,S1 b->S b\/w.heap.size+2<=b:=hS1b
   have hn9:¬S1 b9:=fun c=>by have:=hS1.2 b9 c;omega
   have hnf:¬S1 (w.heap.size+1):=fun c=>(hS1b _ c).elim (fun c=>by have:=HSl.out _ c;omega) (fun c=>by omega)
   have hnr:¬S1 w.heap.size:=fun c=>(hS1b _ c).elim (fun c=>by have:=HSl.out _ c;omega) (fun c=>by omega)
   have hnt:¬S1 tb:=fun c=>(hS1b _ c).elim hb (fun c=>by omega)
   have h4:w.heap.size+2<=W1.heap.size:=by have:=heap_lt HI.out.fnd;omega
   have h5:W1.heap.size<=wc.heap.size:=hO.size
   have HNt:=hid (note_ext q (ext q es (scanE k)) S1 wc (hS1.off0 hO) (by have:=ext_le q es (scanE k);rw[scanE_length]at this;omega) ((1:Int),(k:Int),(0:Int)))
   have HOc:=hid hO
   have HN9:=hid n9
   have HS1:=hid hS1
   have hb9:b9≠w.heap.size+1:=by omega
   clear hS1 hO n9 v9
   go_wp2_with fail
   refine HNt.out.mono ?_
   rintro e W3 ⟨rfl,hNt,hO3⟩
   have hE3:W3.heap[b9]?=some (.cells #[.int .u64 (wd y 0),.int .u64 (wd y 1),.int .u64 (wd y 2),.int .u64 (wd y 3)] 66):=hO3.heap HN9.out hn9
   have HFn:=hid (hO3.heap (HOc.out.heap HI.out.fnd (fun c=>c)) hnf)
   have HRt:=hid (hO3.heap (HOc.out.heap HI.out.ret (fun c=>c)) hnr)
   have HTt:=hid ((HI.out.tab.off HOc.out (fun c=>c)).off hO3 hnt)
   have hof3:Off S w W3:=(HI.out.off.trans HOc.out (fun _ _ c=>c.elim)).trans hO3 (fun b hb c=>(hS1b b c).elim id (fun c=>by omega))
   have HO3:=hid hof3
   obtain⟨S3,hS3,hS3b⟩:=hNt
   have hS3c:∀ b,S3 b->S b\/w.heap.size+2<=b:=fun b c=>(hS3b b c).elim (hS1b b) (fun c=>.inr (by omega))
   have hS3d:Tp W3 q (ext q es (scanE (k+1))) S3:=by rw[scanE_next,<-ext_ext];exact hS3
   have HT3:=hid hS3d
   have HT3c:=hid hS3c
   have HK3:Hid (∀ W,Off (fun k=>k=w.heap.size+1) W3 W->(W.cell? ⟨b9,0,none⟩=some (.int .u64 (wd y 0))/\W.cell? ⟨b9,1,none⟩=some (.int .u64 (wd y 1))/\W.cell? ⟨b9,2,none⟩=some (.int .u64 (wd y 2))/\W.cell? ⟨b9,3,none⟩=some (.int .u64 (wd y 3)))/\Off (fun k=>k=w.heap.size+1) W3 W):=hid (fun W h=>⟨cells4 (h.heap hE3 hb9),h⟩)
   obtain⟨m,hm⟩:∃ m,m=mk (eqB (k:Int) (d:Int)):=⟨_,rfl⟩
   obtain⟨g,hg⟩:∃ g,g=selN m y f:=⟨_,rfl⟩
   have hmw:Word m:=by rw[hm];exact mk_word _
   have HE:=hid (show ∀ W,Calls Tryz.prog 156 #[.int .u64 k,.int .u64 d] W fun e w'=>e=.returned (.int .u64 m)/\Off (fun _=>False) W w' from fun W=>by rw[hm];exact equal_off _ _ ⟨by omega,by omega⟩ ⟨by omega,by omega⟩ W)
   have HC:=hid (show ∀ W,Calls Tryz.prog 143 #[.int .u64 m,V y,V f] W fun e w'=>e=.returned (V g)/\Off (fun _=>False) W w' from fun W=>by rw[hg];exact mchoose_any m hmw y f W)
   have hgv:g=if d<k+1 then y0 else 0:=by
    rw[hg,hm,selN_mk]
    by_cases hkd:k=d
    ·subst hkd
     have:y=y0:=by have h1:=HYk.out;rw[HY.out]at h1;simpa using h1.symm
     rw[if_pos (by simp[eqB]),if_pos (by omega),this]
    rw[if_neg (by simp[eqB];omega),HF.out]
    by_cases h1:d<k
    ·rw[if_pos h1,if_pos (by omega)]
    rw[if_neg h1,if_neg (by omega)]
   have HG:=hid hgv
   have hwk:IntKind.u64.wrap (k:Int)=(k:Int):=by rw[IntKind.wrap_u64];omega
   have hnf3:¬S3 (w.heap.size+1):=fun c=>(HT3c.out _ c).elim (fun c=>by have:=HSl.out _ c;omega) (fun c=>by omega)
   clear hS3 hS3b hS3c hS3d hgv hg hm hmw hof3 hE3 hO3
   go_upto_region 6 with fail
   refine wp_region_inv (fun a0 l a' w'=>∃ (u21:Value) (u22:Value) (u23:Value) (u24:Value) (u25:Value) (u26:Value) (u27:Value),a'=(Act.put (Act.put (Act.put (Act.put (Act.put (Act.put (Act.put a0 (some 21) u21) (some 22) u22) (some 23) u23) (some 24) u24) (some 25) u25) (some 26) u26) (some 27) u27)/\Slot l 0 u21 (.int .i64 k)/\Slot l 1 u22 (.int .u64 k)/\Slot l 2 u23 (.int .u64 d)/\Slot l 3 u24 (.int .u64 m)/\Slot l 4 u25 (V y)/\Slot l 5 u26 (V f)/\Slot l 6 u27 (V g)/\Old l 7 (w.heap.size+1) W3 w' (.cells #[.int .u64 (wd f 0),.int .u64 (wd f 1),.int .u64 (wd f 2),.int .u64 (wd f 3)] 66) (.cells #[.int .u64 (wd g 0),.int .u64 (wd g 1),.int .u64 (wd g 2),.int .u64 (wd g 3)] 66)/\Dep l 5 7/\Off (fun k=>k=(w.heap.size+1)) W3 w') (by kernel_rfl) (by kernel_rfl) ?_ ⟨?_,?_,?_,?_,?_,?_,?_,?_,trivial⟩ ?_
   ·refine⟨?z21,?z22,?z23,?z24,?z25,?z26,?z27,?fr,Slot.start _ _ _,Slot.start _ _ _,Slot.start _ _ _,Slot.start _ _ _,Slot.start _ _ _,Slot.start _ _ _,Slot.start _ _ _,Old.start HFn.out _ _,Dep.start _ _,(Off.refl _ W3).drew⟩
    case fr=>first | (simp only[XP];rfl) | simp only[XP]
   all_goals try (intro l a wr hI hl hd K' hK;obtain⟨u21,u22,u23,u24,u25,u26,u27,ha,s0,s1,s2,s3,s4,s5,s6,O0,P5_7,hO⟩:=hI;simp only[XP]at ha)
   ·subst ha
    go_simp
    refine hK.out _ _ ⟨_,_,_,_,_,_,_,?_,Slot.new _ _ _,s1.keep rfl,s2.keep rfl,s3.keep rfl,s4.keep rfl,s5.keep rfl,s6.keep rfl,O0.keep (Off.refl _ wr) rfl,P5_7.keep rfl,hO⟩
    simp only[XP]
   ·have q0:=s0 (hd 0 (by decide))
    subst ha q0
    go_simp
    refine hK.out _ _ ⟨_,_,_,_,_,_,_,?_,s0.keep rfl,Slot.new _ _ _,s2.keep rfl,s3.keep rfl,s4.keep rfl,s5.keep rfl,s6.keep rfl,O0.keep (Off.refl _ wr) rfl,P5_7.keep rfl,hO⟩
    simp only[XP]
   ·subst ha
    go_simp
    refine hK.out _ _ ⟨_,_,_,_,_,_,_,?_,s0.keep rfl,s1.keep rfl,Slot.new _ _ _,s3.keep rfl,s4.keep rfl,s5.keep rfl,s6.keep rfl,O0.keep (Off.refl _ wr) rfl,P5_7.keep rfl,hO⟩
    simp only[XP]
   ·have q1:=s1 (hd 1 (by decide))
    have q2:=s2 (hd 2 (by decide))
    subst ha q1 q2
    go_simp
    refine(held_inv (HE.out wr) hO).mono ?_
    rintro e w1 ⟨rfl,hO1,hOW⟩
    go_wp2_with fail
    refine hK.out _ _ ⟨_,_,_,_,_,_,_,?_,s0.keep rfl,s1.keep rfl,s2.keep rfl,Slot.new _ _ _,s4.keep rfl,s5.keep rfl,s6.keep rfl,O0.keep hOW rfl,P5_7.keep rfl,hO1⟩
    simp only[XP]
   ·subst ha
    have hc:=HK3.out wr hO
    have p0:=hc.1.1
    have p1:=hc.1.2.1
    have p2:=hc.1.2.2.1
    have p3:=hc.1.2.2.2
    clear hc
    go_simp
    refine hK.out _ _ ⟨_,_,_,_,_,_,_,?_,s0.keep rfl,s1.keep rfl,s2.keep rfl,s3.keep rfl,Slot.new _ _ _,s5.keep rfl,s6.keep rfl,O0.keep (Off.refl _ wr) rfl,P5_7.keep rfl,hO⟩
    simp only[XP]
   ·subst ha
    have hZ:=O0.was (P5_7 hl)
    obtain⟨p0,p1,p2,p3⟩:=cells4 hZ
    clear hZ
    go_simp
    refine hK.out _ _ ⟨_,_,_,_,_,_,_,?_,s0.keep rfl,s1.keep rfl,s2.keep rfl,s3.keep rfl,s4.keep rfl,Slot.new _ _ _,s6.keep rfl,O0.keep (Off.refl _ wr) rfl,P5_7.keep rfl,hO⟩
    simp only[XP]
   ·have q3:=s3 (hd 3 (by decide))
    have q4:=s4 (hd 4 (by decide))
    have q5:=s5 (hd 5 (by decide))
    subst ha q3 q4 q5
    go_simp
    refine(held_inv (HC.out wr) hO).mono ?_
    rintro e w1 ⟨rfl,hO1,hOW⟩
    go_wp2_with fail
    refine hK.out _ _ ⟨_,_,_,_,_,_,_,?_,s0.keep rfl,s1.keep rfl,s2.keep rfl,s3.keep rfl,s4.keep rfl,s5.keep rfl,Slot.new _ _ _,O0.keep hOW rfl,P5_7.keep rfl,hO1⟩
    simp only[XP]
   ·have q6:=s6 (hd 6 (by decide))
    subst ha q6
    have hZ:=(O0.was hl)
    obtain⟨m0,m1,m2,m3⟩:=cells4 hZ
    have fz:=fun j=>frozen_of_heap hZ j
    have lt:=heap_lt hZ
    clear hZ
    go_simp
    refine hK.out _ _ ⟨_,_,_,_,_,_,_,?_,s0.keep rfl,s1.keep rfl,s2.keep rfl,s3.keep rfl,s4.keep rfl,s5.keep rfl,s6.keep rfl,O0.put hl rfl,Dep.at (hd 5 (by decide)),setCells_in hO (fun _=>rfl) [.int .u64 (wd g 0),.int .u64 (wd g 1),.int .u64 (wd g 2),.int .u64 (wd g 3)]⟩
    simp only[XP]
   intro l a wc hI hd
   obtain⟨u21,u22,u23,u24,u25,u26,u27,ha,s0,s1,s2,s3,s4,s5,s6,O0,P5_7,hO⟩:=hI
   simp only[XP]at ha
   have q0:=s0 (hd 0 (by decide))
   have q1:=s1 (hd 1 (by decide))
   have q2:=s2 (hd 2 (by decide))
   have q3:=s3 (hd 3 (by decide))
   have q4:=s4 (hd 4 (by decide))
   have q5:=s5 (hd 5 (by decide))
   have q6:=s6 (hd 6 (by decide))
   have r0:wc.heap[(w.heap.size+1)]?=some (.cells #[.int .u64 (wd g 0),.int .u64 (wd g 1),.int .u64 (wd g 2),.int .u64 (wd g 3)] 66):=O0.now (hd 7 (by decide))
   subst ha q0 q1 q2 q3 q4 q5 q6
   clear hd s0 s1 s2 s3 s4 s5 s6 O0 P5_7
   have hI:ReadI w wc tb q es S tbl (if d<k+1 then y0 else 0) (k+1):=⟨by rw[<-HG.out];exact r0,hO.heap HRt.out (by omega),HTt.out.off hO (by omega),⟨S3,HT3.out.off hO (fun b e c=>by subst e;exact hnf3 c),HT3c.out⟩,HO3.out.trans hO (fun b hb e=>by omega)⟩
   have HI2:=hid hI
   clear hI r0 hO
   go_wp2
   go_roundw
   case rel=>exact⟨k+1,by omega,by simp,HI2.out⟩
   case measure=>simp[intOf] <;> omega
  obtain rfl:k=16:=by omega
  rw[if_pos hd]at hI
  have HI:=hid hI
  obtain⟨o0,o1,o2,o3⟩:=cells4 hI.fnd
  obtain⟨⟨r0,r1,r2,r3⟩,fz,lt⟩:=zero_cells hI.ret
  clear hI
  go_wp2
  refine bodyPost_ret (v:=V y0) (by simp[results,Tryz.results155,go_sem,r0,r1,r2,r3]) rfl ⟨rfl,?_⟩
  obtain⟨S1,hS1,hS1b⟩:=HI.out.tp
  have hnr:¬S1 w.heap.size:=fun c=>(hS1b _ c).elim (fun c=>by have:=HSl.out _ c;omega) (fun c=>by omega)
  have ho:=setCells_off w.heap.size (words4 y0) 0 wr
  exact⟨⟨S1,hS1.off ho (fun b e c=>by subst e;exact hnr c),fun b c=>(hS1b b c).imp id (fun c=>by omega)⟩,HI.out.off.trans ho (fun b hb e=>by omega)⟩
end
section
open Go.RowKit
attribute [local go_sem ↓] Go.wp_at_zero Go.wp_at_succ

def powE (k:Nat):List Ev:=(List.range k).flatMap (fun j:Nat=>((6:Int),(63:Int)-(j:Int),(0:Int))::scanE 16)
theorem powE_next (k:Nat):powE (k+1)=powE k++(((6:Int),(63:Int)-(k:Int),(0:Int))::scanE 16):=by simp[powE,List.range_succ]
theorem powE_length (k:Nat):(powE k).length=k*17:=by
 induction k with
 | zero=>rfl
 | succ k ih=>rw[powE_next,List.length_append,ih,List.length_cons,scanE_length];omega
structure PowC (w wr:World) (id:Int) (p i r s e rb tb:Nat) (tbl:List Nat) (q:Option Addr) (es:List Ev) (S S':Nat->Prop) (u:Nat):Prop where
 fld:wr.heap[w.heap.size]?=some (.cells #[.int .i64 id,.int .u64 (wd p 0),.int .u64 (wd p 1),.int .u64 (wd p 2),.int .u64 (wd p 3),.int .u64 i,.int .u64 (wd r 0),.int .u64 (wd r 1),.int .u64 (wd r 2),.int .u64 (wd r 3),.int .u64 (wd s 0),.int .u64 (wd s 1),.int .u64 (wd s 2),.int .u64 (wd s 3)] 104)
 exp:wr.heap[w.heap.size+2]?=some (.cells #[.int .u64 (wd e 0),.int .u64 (wd e 1),.int .u64 (wd e 2),.int .u64 (wd e 3)] 63)
 ret:wr.heap[w.heap.size+3]?=some (.cells #[.int .u64 0,.int .u64 0,.int .u64 0,.int .u64 0] 66)
 res:wr.heap[rb]?=some (.cells #[.int .u64 (wd u 0),.int .u64 (wd u 1),.int .u64 (wd u 2),.int .u64 (wd u 3)] 66)
 tab:NumsAt wr tb 200 tbl
 tp:Tp wr q es S'
 new:∀ b,S' b->S b\/rb<b
 off:Off S w wr
structure PowB (w:World) (S:Nat->Prop) (rb tb:Nat):Prop where
 tb1:w.heap.size+3<tb
 rb1:tb<rb
 old:∀ b,S b->b<w.heap.size
theorem PowC.far {w wr:World} {id:Int} {p i r s e rb tb:Nat} {tbl:List Nat} {q:Option Addr} {es:List Ev} {S S':Nat->Prop} {u:Nat} (h:PowC w wr id p i r s e rb tb tbl q es S S' u) (hB:PowB w S rb tb) {b:Nat} (h1:w.heap.size<=b) (h2:b<=rb):¬S' b :=
 fun c=>(h.new b c).elim (fun c=>by have:=hB.old b c;omega) (fun c=>by omega)
theorem PowC.keep {w wr w':World} {id:Int} {p i r s e rb tb:Nat} {tbl:List Nat} {q:Option Addr} {es:List Ev} {S S':Nat->Prop} {u:Nat} (h:PowC w wr id p i r s e rb tb tbl q es S S' u) (ho:Off (fun _=>False) wr w'):PowC w w' id p i r s e rb tb tbl q es S S' u :=
 ⟨ho.heap h.fld (fun c=>c),ho.heap h.exp (fun c=>c),ho.heap h.ret (fun c=>c),ho.heap h.res (fun c=>c),h.tab.off ho (fun c=>c),h.tp.off0 ho,h.new,h.off.trans ho (fun _ _ c=>c.elim)⟩
theorem PowC.put {w wr w':World} {id:Int} {p i r s e rb tb:Nat} {tbl:List Nat} {q:Option Addr} {es:List Ev} {S S':Nat->Prop} {u:Nat} (h:PowC w wr id p i r s e rb tb tbl q es S S' u) (hB:PowB w S rb tb) (ho:Off (fun k=>k=rb) wr w') {z:Nat} (hz:w'.heap[rb]?=some (.cells #[.int .u64 (wd z 0),.int .u64 (wd z 1),.int .u64 (wd z 2),.int .u64 (wd z 3)] 66)):PowC w w' id p i r s e rb tb tbl q es S S' z:=by
 have h1:=hB.tb1
 have h2:=hB.rb1
 exact⟨ho.heap h.fld (by omega),ho.heap h.exp (by omega),ho.heap h.ret (by omega),hz,h.tab.off ho (by omega),h.tp.off ho (fun b e c=>by subst e;exact h.far hB (by omega) (Nat.le_refl _) c),h.new,h.off.trans ho (fun b hb e=>by omega)⟩
theorem PowC.note {w wr w':World} {id:Int} {p i r s e rb tb:Nat} {tbl:List Nat} {q:Option Addr} {es ls:List Ev} {S S':Nat->Prop} {u:Nat} (h:PowC w wr id p i r s e rb tb tbl q es S S' u) (hB:PowB w S rb tb) (ho:Off (fun k=>k=rb\/S' k) wr w') {z:Nat} (hz:w'.heap[rb]?=some (.cells #[.int .u64 (wd z 0),.int .u64 (wd z 1),.int .u64 (wd z 2),.int .u64 (wd z 3)] 66))
  (hn:Noted wr.heap.size q es ls S' w'):∃ S2,PowC w w' id p i r s e rb tb tbl q (ext q es ls) S S2 z:=by
 have h1:=hB.tb1
 have h2:=hB.rb1
 have h3:=heap_lt h.res
 obtain⟨S2,t1,t2⟩:=hn
 have hx:∀ b,w.heap.size<=b->b<rb->¬(b=rb\/S' b):=fun b c1 c2 c=>c.elim (fun c=>by omega) (h.far hB c1 (by omega))
 refine⟨S2,ho.heap h.fld (hx _ (by omega) (by omega)),ho.heap h.exp (hx _ (by omega) (by omega)),ho.heap h.ret (hx _ (by omega) (by omega)),hz,h.tab.off ho (hx _ (by omega) (by omega)),t1,fun b c=>(t2 b c).elim (h.new b) (fun c=>.inr (by omega)),h.off.trans ho (fun b hb c=>c.elim (fun c=>by omega) (fun c=>(h.new b c).elim (fun c=>c) (fun c=>by omega)))⟩
set_option maxRecDepth 100000 in
set_option maxHeartbeats 4000000 in
theorem pow_any {id:Int} {p i0 r s:Nat} (hF:Fld id p i0 r s) (v e:Nat) (he:e<R256) (q:Option Addr) (es:List Ev) (S:Nat->Prop) (w:World) (hS:Tp w q es S) (hl:es.length<=80000) :
  Calls Tryz.prog 150 #[.pointer q,FV id p i0 r s,V (fm p v),V e] w fun x w'=>x=.returned (V (fm p (v^e%p)))/\Noted w.heap.size q es (powE 64) S w'/\Off S w w':=by
 have hp:=hF.mp.pos
 have hpl:=hF.mp.lt
 have HSq:=hid (fun m W=>by have h:=msquare_any hF (fm p (v^m%p)) (fm_lt hp _) W;rw[pow_mm hF.mp]at h;exact h:∀ m W,Calls Tryz.prog 153 #[FV id p i0 r s,V (fm p (v^m%p))] W fun x w'=>x=.returned (V (fm p (v^(m+m)%p)))/\Off (fun _=>False) W w')
 have HMl:=hid (fun m n W=>by have h:=mmul_any hF (fm p (v^m%p)) (fm p (v^n%p)) (Nat.lt_trans (fm_lt hp _) hpl) (fm_lt hp _) W;rw[pow_mm hF.mp]at h;exact h:∀ m n W,Calls Tryz.prog 109 #[FV id p i0 r s,V (fm p (v^m%p)),V (fm p (v^n%p))] W fun x w'=>x=.returned (V (fm p (v^(m+n)%p)))/\Off (fun _=>False) W w')
 have HPo:=hid (fun W=>powersof_any hF v W)
 have HBi:=hid (fun k W=>by have h:=bits_any e he ((k*4:Nat):Int) ((4:Nat):Int) W;rw[bitsV_in (by decide),digV_bits]at h;exact h:∀ (k:Nat) W,Calls Tryz.prog 154 #[V e,.int .i64 ((k*4:Nat):Int),.int .i64 4] W fun x w'=>x=.returned (.int .u64 (digV e k:Int))/\Off (fun _=>False) W w')
 have HR:=hid (show fm p (v^0%p)=r by rw[pow_zero_fm,hF.rr])
 have HE:=hid he
 have htb:∀ x∈tblV p v 15,x<R256:=fun x hx=>by
  unfold tblV at hx
  obtain⟨j,_,rfl⟩:=List.mem_map.1 hx
  split
  ·exact Nat.lt_trans (fm_lt hp _) hpl
  omega
 have HTb:=hid htb
 obtain⟨x,hx⟩:∃ x,x=fm p v:=⟨_,rfl⟩
 rw[<-hx]at HPo ⊢
 obtain⟨W0,hW0⟩:∃ W0,W0=(((w.alloc (.cells #[.int .i64 id,.int .u64 (wd p 0),.int .u64 (wd p 1),.int .u64 (wd p 2),.int .u64 (wd p 3),.int .u64 i0,.int .u64 (wd r 0),.int .u64 (wd r 1),.int .u64 (wd r 2),.int .u64 (wd r 3),.int .u64 (wd s 0),.int .u64 (wd s 1),.int .u64 (wd s 2),.int .u64 (wd s 3)] 104)).alloc (.cells #[.int .u64 (wd x 0),.int .u64 (wd x 1),.int .u64 (wd x 2),.int .u64 (wd x 3)] 66)).alloc (.cells #[.int .u64 (wd e 0),.int .u64 (wd e 1),.int .u64 (wd e 2),.int .u64 (wd e 3)] 63)).alloc (.cells #[.int .u64 0,.int .u64 0,.int .u64 0,.int .u64 0] 66):=⟨_,rfl⟩
 have hO0:Off (fun _=>False) w W0:=by rw[hW0];exact((((Off.refl _ w).alloc _).alloc _).alloc _).alloc _
 have hf0:W0.heap[w.heap.size]?=some (.cells #[.int .i64 id,.int .u64 (wd p 0),.int .u64 (wd p 1),.int .u64 (wd p 2),.int .u64 (wd p 3),.int .u64 i0,.int .u64 (wd r 0),.int .u64 (wd r 1),.int .u64 (wd r 2),.int .u64 (wd r 3),.int .u64 (wd s 0),.int .u64 (wd s 1),.int .u64 (wd s 2),.int .u64 (wd s 3)] 104):=by rw[hW0];exact heap_old' (heap_old' (heap_old' (heap_new' rfl _) _) _) _
 have hx0:W0.heap[w.heap.size+1]?=some (.cells #[.int .u64 (wd x 0),.int .u64 (wd x 1),.int .u64 (wd x 2),.int .u64 (wd x 3)] 66):=by rw[hW0];exact heap_old' (heap_old' (heap_new' (by simp) _) _) _
 have he0:W0.heap[w.heap.size+2]?=some (.cells #[.int .u64 (wd e 0),.int .u64 (wd e 1),.int .u64 (wd e 2),.int .u64 (wd e 3)] 63):=by rw[hW0];exact heap_old' (heap_new' (by simp) _) _
 have hr0:W0.heap[w.heap.size+3]?=some (.cells #[.int .u64 0,.int .u64 0,.int .u64 0,.int .u64 0] 66):=by rw[hW0];exact heap_new' (by simp) _
 have hz0:W0.heap.size=w.heap.size+4:=by rw[hW0];simp
 have HF0:=hid hf0
 have HE0:=hid he0
 have HR0:=hid hr0
 have HO0:=hid hO0
 have HW0:=hid hW0
 have HS:=hid hS
 obtain⟨f0,f1,f2,f3,f4,f5,f6,f7,f8,f9,f10,f11,f12,f13⟩:=fv_cells hf0
 obtain⟨x0,x1,x2,x3⟩:=cells4 hx0
 clear hx hF hp hpl htb hO0 hf0 hx0 he0 hr0 hW0 hS he
 go_enter Tryz.func150,Tryz.ntmps150
 go_upto_region 1 with fail
 rw[<-HW0.out]
 go_wp2_with fail
 refine(HPo.out _).mono ?_
 rintro e1 u1 ⟨tb,rfl,htb1,hTab,hO1⟩
 clear f0 f1 f2 f3 f4 f5 f6 f7 f8 f9 f10 f11 f12 f13 x0 x1 x2 x3
 obtain⟨W1,hW1⟩:∃ W1,W1=u1.alloc (.cells #[.int .u64 (wd r 0),.int .u64 (wd r 1),.int .u64 (wd r 2),.int .u64 (wd r 3)] 66):=⟨_,rfl⟩
 obtain⟨rb,hrb⟩:∃ rb,rb=u1.heap.size:=⟨_,rfl⟩
 have hOW:Off (fun _=>False) u1 W1:=by rw[hW1];exact(Off.refl _ u1).alloc _
 have hF1:=hO1.heap HF0.out (fun c=>c)
 have hlt:=hTab.lt
 have hB:PowB w S rb tb:=⟨by omega,by omega,HS.out.2⟩
 have hC:PowC w W1 id p i0 r s e rb tb (tblV p v 15) q (ext q es (powE 0)) S S (fm p (v^winV e 0%p)):=by
  refine⟨hOW.heap hF1 (fun c=>c),hOW.heap (hO1.heap HE0.out (fun c=>c)) (fun c=>c),hOW.heap (hO1.heap HR0.out (fun c=>c)) (fun c=>c),?_,hTab.off hOW (fun c=>c),?_,fun _ c=>.inl c,(((HO0.out.trans hO1 (fun _ _ c=>c)).trans hOW (fun _ _ c=>c)).mono (fun _ _ c=>c.elim))⟩
  ·rw[win_zero HE.out,HR.out,hW1,hrb];exact heap_new' rfl _
  rw[show powE 0=[] from rfl,ext_nil]
  exact((HS.out.off0 HO0.out).off0 hO1).off0 hOW
 have HC:=hid hC
 have HB:=hid hB
 have HW1:=hid hW1
 obtain⟨f0,f1,f2,f3,f4,f5,f6,f7,f8,f9,f10,f11,f12,f13⟩:=fv_cells hF1
 clear hC hW1 hOW hF1 hTab hO1 htb1 hlt hz0 HF0 HE0 HR0 HO0 HW0
 go_wp2_with fail
 rw[<-HW1.out,<-hrb]
 clear f0 f1 f2 f3 f4 f5 f6 f7 f8 f9 f10 f11 f12 f13 HW1 hrb
 go_loopw [19] (fun i wr=>∃ k:Nat,k<=64/\i=.int .i64 k/\∃ S',PowC w wr id p i0 r s e rb tb (tblV p v 15) q (ext q es (powE k)) S S' (fm p (v^winV e k%p))) (fun i _=>64-(intOf i).toNat)
 case atStart=>exact⟨0,by omega,rfl,S,HC.out⟩
 case round =>
  obtain⟨k,hk,rfl,S0,hC⟩:=hrel
  by_cases hlt2:k<64
  ·obtain⟨W2,hW2⟩:∃ W2,W2=wr:=⟨_,rfl⟩
   subst hW2
   obtain⟨m,hm⟩:∃ m,m=winV e k:=⟨_,rfl⟩
   rw[<-hm]at hC
   have HM:=hid hm
   have HC:=hid hC
   have hkb:(k:Int)<64:=by omega
   have hw1:IntKind.i64.wrap ((63:Int)-(k:Int))=(63:Int)-(k:Int):=by rw[IntKind.wrap_i64];omega
   have HNt:=hid (note_ext q (ext q es (powE k)) S0 W2 hC.tp (by have:=ext_le q es (powE k);rw[powE_length]at this;omega) ((6:Int),(63:Int)-(k:Int),(0:Int)))
   clear hC hm
   go_wp2_with fail
   refine HNt.out.mono ?_
   rintro e1 W3 ⟨rfl,hN,hO3⟩
   obtain⟨S1,hC⟩:=HC.out.note HB.out (hO3.mono (fun b _ c=>.inr c)) (hO3.heap HC.out.res (HC.out.far HB.out (by have:=HB.out.tb1;have:=HB.out.rb1;omega) (Nat.le_refl _))) hN
   obtain⟨es1,hes⟩:∃ es1,es1=ext q (ext q es (powE k)) [((6:Int),(63:Int)-(k:Int),(0:Int))]:=⟨_,rfl⟩
   rw[<-hes]at hC
   have HEs:=hid hes
   have HC1:=hid hC
   clear hC hes hN hO3 HC
   go_wp2_with fail
   go_loopw [27] (fun j wr=>∃ n:Nat,n<=4/\j=.int .i64 n/\PowC w wr id p i0 r s e rb tb (tblV p v 15) q es1 S S1 (fm p (v^(2^n*m)%p))) (fun i _=>4-(intOf i).toNat)
   case atStart=>exact⟨0,by omega,rfl,by rw[Nat.pow_zero,Nat.one_mul];exact HC1.out⟩
   case round =>
    obtain⟨n,hn,rfl,hC⟩:=hrel
    by_cases hlt3:n<4
    ·have HC:=hid hC
     obtain⟨f0,f1,f2,f3,f4,f5,f6,f7,f8,f9,f10,f11,f12,f13⟩:=fv_cells hC.fld
     obtain⟨o0,o1,o2,o3⟩:=cells4 hC.res
     have hnb:(n:Int)<4:=by omega
     clear hC
     go_wp2_with fail
     refine(HSq.out _ _).mono ?_
     rintro e1 W4 ⟨rfl,hO4⟩
     clear f0 f1 f2 f3 f4 f5 f6 f7 f8 f9 f10 f11 f12 f13 o0 o1 o2 o3
     obtain⟨z,hz⟩:∃ z,z=fm p (v^(2^n*m+2^n*m)%p):=⟨_,rfl⟩
     rw[<-hz]
     have hC:=HC.out.keep hO4
     obtain⟨m0,m1,m2,m3⟩:=cells4 hC.res
     have fz:=fun j=>frozen_of_heap hC.res j
     have lt:=heap_lt hC.res
     have hC2:=hC.put HB.out (setCells_off rb (words4 z) 0 W4) (setCells_at hC.res rfl)
     have HZ:=hid (show z=fm p (v^(2^(n+1)*m)%p) by rw[hz,Nat.pow_succ,Nat.mul_comm (2^n) 2,Nat.mul_assoc,Nat.two_mul])
     have HC2:=hid hC2
     clear hC hC2 hz hO4
     go_wp2
     go_roundw
     case rel=>exact⟨n+1,by omega,by simp,by rw[<-HZ.out];exact HC2.out⟩
     case measure=>simp[intOf] <;> omega
    obtain rfl:n=4:=by omega
    rw[show(2:Nat)^4*m=16*m from rfl]at hC
    obtain⟨W4,hW4⟩:∃ W4,W4=wr:=⟨_,rfl⟩
    subst hW4
    have HC:=hid hC
    obtain⟨y0,y1,y2,y3⟩:=cells4 hC.exp
    obtain⟨P4,hP4⟩:∃ P4,P4=(63-k)*4:=⟨_,rfl⟩
    have hw2:IntKind.i64.wrap (((63:Int)-(k:Int))*4)=(P4:Int):=by rw[IntKind.wrap_i64];omega
    have HBk:=hid (fun W=>HBi.out (63-k) W)
    rw[<-hP4]at HBk
    clear hC hP4
    go_wp2_with fail
    refine(HBk.out _).mono ?_
    rintro e1 W5 ⟨rfl,hO5⟩
    obtain⟨d,hd⟩:∃ d,d=digV e (63-k):=⟨_,rfl⟩
    rw[<-hd]
    obtain⟨u,hu⟩:∃ u,u=fm p (v^(16*m)%p):=⟨_,rfl⟩
    have hC5:=HC.out.keep hO5
    rw[<-hu]at hC5
    have HC5:=hid hC5
    obtain⟨y,hy⟩:∃ y,y=fm p (v^d%p):=⟨_,rfl⟩
    obtain⟨z,hz⟩:∃ z,z=fm p (v^(16*m+d)%p):=⟨_,rfl⟩
    have hd16:d<16:=by rw[hd];exact digV_lt _ _
    have hrb:¬S1 rb:=hC5.far HB.out (by have:=HB.out.tb1;have:=HB.out.rb1;omega) (Nat.le_refl _)
    have htbn:¬S1 tb:=hC5.far HB.out (by have:=HB.out.tb1;omega) (by have:=HB.out.rb1;omega)
    have hes1:es1.length<=90000:=by
     rw[HEs.out]
     have h1:=ext_le q (ext q es (powE k)) [((6:Int),(63:Int)-(k:Int),(0:Int))]
     have h2:=ext_le q es (powE k)
     rw[powE_length]at h2
     simp only[List.length_cons,List.length_nil]at h1
     omega
    have HRd:=hid (show ∀ W,NumsAt W tb 200 (tblV p v 15)->Tp W q es1 S1->Calls Tryz.prog 155 #[.pointer (some ⟨tb,0,none⟩),.pointer q,.int .u64 d] W fun e w'=>e=.returned (V y)/\Noted W.heap.size q es1 (scanE 16) S1 w'/\Off S1 W w' from
     fun W h1 h2=>read_any tb (tblV p v 15) (tblV_length p v 15) HTb.out q es1 S1 d y hd16 (by rw[hy];exact tblV_get (by omega) (by omega)) W h1 h2 htbn hes1)
    have HMu:=hid (show ∀ W,Calls Tryz.prog 109 #[FV id p i0 r s,V u,V y] W fun x w'=>x=.returned (V z)/\Off (fun _=>False) W w' from fun W=>by rw[hu,hy,hz];exact HMl.out _ _ W)
    have HRs:=hid hC5.res
    have HT1:=hid hC5.tp
    have HK1:Hid (∀ W,Off (fun k=>k=rb\/S1 k) W5 W->(W.cell? ⟨w.heap.size,0,none⟩=some (.int .i64 id)/\W.cell? ⟨w.heap.size,1,none⟩=some (.int .u64 (wd p 0))/\W.cell? ⟨w.heap.size,2,none⟩=some (.int .u64 (wd p 1))/\W.cell? ⟨w.heap.size,3,none⟩=some (.int .u64 (wd p 2))/\W.cell? ⟨w.heap.size,4,none⟩=some (.int .u64 (wd p 3))/\W.cell? ⟨w.heap.size,5,none⟩=some (.int .u64 i0)/\W.cell? ⟨w.heap.size,6,none⟩=some (.int .u64 (wd r 0))/\W.cell? ⟨w.heap.size,7,none⟩=some (.int .u64 (wd r 1))/\W.cell? ⟨w.heap.size,8,none⟩=some (.int .u64 (wd r 2))/\W.cell? ⟨w.heap.size,9,none⟩=some (.int .u64 (wd r 3))/\W.cell? ⟨w.heap.size,10,none⟩=some (.int .u64 (wd s 0))/\W.cell? ⟨w.heap.size,11,none⟩=some (.int .u64 (wd s 1))/\W.cell? ⟨w.heap.size,12,none⟩=some (.int .u64 (wd s 2))/\W.cell? ⟨w.heap.size,13,none⟩=some (.int .u64 (wd s 3)))/\NumsAt W tb 200 (tblV p v 15)/\Off (fun k=>k=rb\/S1 k) W5 W):=hid (fun W h=>by
     have h1:=HB.out.tb1
     have h2:=HB.out.rb1
     have hx:∀ b,w.heap.size<=b->b<rb->¬(b=rb\/S1 b):=fun b c1 c2 c=>c.elim (fun c=>by omega) (HC5.out.far HB.out c1 (by omega))
     exact⟨fv_cells (h.heap HC5.out.fld (hx _ (Nat.le_refl _) (by omega))),HC5.out.tab.off h (hx _ (by omega) (by omega)),h⟩)
    have HZ:=hid (show z=fm p (v^winV e (k+1)%p) by rw[hz,hd,HM.out,win_next e k hlt2])
    clear hC5 hu hy hz hd hd16 htbn hes1 hO5 y0 y1 y2 y3 hw1 hw2 HBk
    go_upto_region 13 with fail
    refine wp_region_inv (fun a0 l a' w'=>∃ (u37:Value) (u38:Value) (u39:Value) (u40:Value) (u41:Value) (u42:Value) (u43:Value),a'=(Act.put (Act.put (Act.put (Act.put (Act.put (Act.put (Act.put a0 (some 37) u37) (some 38) u38) (some 39) u39) (some 40) u40) (some 41) u41) (some 42) u42) (some 43) u43)/\Slot l 0 u37 (FV id p i0 r s)/\Slot l 1 u38 (V u)/\Slot l 2 u39 (.pointer (some ⟨tb,0,none⟩))/\Slot l 3 u40 (.pointer q)/\Slot l 4 u41 (.int .u64 d)/\Slot l 5 u42 (V y)/\Slot l 6 u43 (V z)/\Old l 7 rb W5 w' (.cells #[.int .u64 (wd u 0),.int .u64 (wd u 1),.int .u64 (wd u 2),.int .u64 (wd u 3)] 66) (.cells #[.int .u64 (wd z 0),.int .u64 (wd z 1),.int .u64 (wd z 2),.int .u64 (wd z 3)] 66)/\Dep l 1 7/\TpI l 5 W5 w' q es1 (scanE 16) S1/\Off (fun k=>k=rb\/S1 k) W5 w') (by kernel_rfl) (by kernel_rfl) ?_ ⟨?_,?_,?_,?_,?_,?_,?_,?_,trivial⟩ ?_
    ·refine⟨?z37,?z38,?z39,?z40,?z41,?z42,?z43,?fr,Slot.start _ _ _,Slot.start _ _ _,Slot.start _ _ _,Slot.start _ _ _,Slot.start _ _ _,Slot.start _ _ _,Slot.start _ _ _,Old.start HRs.out _ _,Dep.start _ _,TpI.start HT1.out _ _ _,(Off.refl _ W5).drew⟩
     case fr=>first | (simp only[XP];rfl) | simp only[XP]
    all_goals try (intro l a wr hI hl hd K' hK;obtain⟨u37,u38,u39,u40,u41,u42,u43,ha,s0,s1,s2,s3,s4,s5,s6,O0,P1_7,TP,hO⟩:=hI;simp only[XP]at ha)
    ·subst ha
     have hc:=HK1.out wr hO
     have p0:=hc.1.1
     have p1:=hc.1.2.1
     have p2:=hc.1.2.2.1
     have p3:=hc.1.2.2.2.1
     have p4:=hc.1.2.2.2.2.1
     have p5:=hc.1.2.2.2.2.2.1
     have p6:=hc.1.2.2.2.2.2.2.1
     have p7:=hc.1.2.2.2.2.2.2.2.1
     have p8:=hc.1.2.2.2.2.2.2.2.2.1
     have p9:=hc.1.2.2.2.2.2.2.2.2.2.1
     have p10:=hc.1.2.2.2.2.2.2.2.2.2.2.1
     have p11:=hc.1.2.2.2.2.2.2.2.2.2.2.2.1
     have p12:=hc.1.2.2.2.2.2.2.2.2.2.2.2.2.1
     have p13:=hc.1.2.2.2.2.2.2.2.2.2.2.2.2.2
     clear hc
     go_simp
     refine hK.out _ _ ⟨_,_,_,_,_,_,_,?_,Slot.new _ _ _,s1.keep rfl,s2.keep rfl,s3.keep rfl,s4.keep rfl,s5.keep rfl,s6.keep rfl,O0.keep (Off.refl _ wr) rfl,P1_7.keep rfl,TP.same rfl,hO⟩
     simp only[XP]
    ·subst ha
     have hZ:=O0.was (P1_7 hl)
     obtain⟨p0,p1,p2,p3⟩:=cells4 hZ
     clear hZ
     go_simp
     refine hK.out _ _ ⟨_,_,_,_,_,_,_,?_,s0.keep rfl,Slot.new _ _ _,s2.keep rfl,s3.keep rfl,s4.keep rfl,s5.keep rfl,s6.keep rfl,O0.keep (Off.refl _ wr) rfl,P1_7.keep rfl,TP.same rfl,hO⟩
     simp only[XP]
    ·subst ha
     go_simp
     refine hK.out _ _ ⟨_,_,_,_,_,_,_,?_,s0.keep rfl,s1.keep rfl,Slot.new _ _ _,s3.keep rfl,s4.keep rfl,s5.keep rfl,s6.keep rfl,O0.keep (Off.refl _ wr) rfl,P1_7.keep rfl,TP.same rfl,hO⟩
     simp only[XP]
    ·subst ha
     go_simp
     refine hK.out _ _ ⟨_,_,_,_,_,_,_,?_,s0.keep rfl,s1.keep rfl,s2.keep rfl,Slot.new _ _ _,s4.keep rfl,s5.keep rfl,s6.keep rfl,O0.keep (Off.refl _ wr) rfl,P1_7.keep rfl,TP.same rfl,hO⟩
     simp only[XP]
    ·subst ha
     go_simp
     refine hK.out _ _ ⟨_,_,_,_,_,_,_,?_,s0.keep rfl,s1.keep rfl,s2.keep rfl,s3.keep rfl,Slot.new _ _ _,s5.keep rfl,s6.keep rfl,O0.keep (Off.refl _ wr) rfl,P1_7.keep rfl,TP.same rfl,hO⟩
     simp only[XP]
    ·have q2:=s2 (hd 2 (by decide))
     have q3:=s3 (hd 3 (by decide))
     have q4:=s4 (hd 4 (by decide))
     subst ha q2 q3 q4
     go_simp
     refine(HRd.out wr (HK1.out wr hO).2.1 (TP.was hl)).mono ?_
     rintro e w1 ⟨rfl,hT1,hOW⟩
     have hO1:=hO.trans hOW (fun _ _ c=>.inr (c))
     go_wp2_with fail
     refine hK.out _ _ ⟨_,_,_,_,_,_,_,?_,s0.keep rfl,s1.keep rfl,s2.keep rfl,s3.keep rfl,s4.keep rfl,Slot.new _ _ _,s6.keep rfl,O0.keepS hOW hrb rfl,P1_7.keep rfl,TpI.note hT1 hO.size,hO1⟩
     simp only[XP]
    ·have q0:=s0 (hd 0 (by decide))
     have q1:=s1 (hd 1 (by decide))
     have q5:=s5 (hd 5 (by decide))
     subst ha q0 q1 q5
     go_simp
     refine(held_inv (HMu.out wr) hO).mono ?_
     rintro e w1 ⟨rfl,hO1,hOW⟩
     go_wp2_with fail
     refine hK.out _ _ ⟨_,_,_,_,_,_,_,?_,s0.keep rfl,s1.keep rfl,s2.keep rfl,s3.keep rfl,s4.keep rfl,s5.keep rfl,Slot.new _ _ _,O0.keep hOW rfl,P1_7.keep rfl,TP.keep hOW rfl,hO1⟩
     simp only[XP]
    ·have q6:=s6 (hd 6 (by decide))
     subst ha q6
     have hZ:=(O0.was hl)
     obtain⟨m0,m1,m2,m3⟩:=cells4 hZ
     have fz:=fun j=>frozen_of_heap hZ j
     have lt:=heap_lt hZ
     clear hZ
     go_simp
     refine hK.out _ _ ⟨_,_,_,_,_,_,_,?_,s0.keep rfl,s1.keep rfl,s2.keep rfl,s3.keep rfl,s4.keep rfl,s5.keep rfl,s6.keep rfl,O0.put hl rfl,Dep.at (hd 1 (by decide)),TP.put (o:=0) (vs:=[.int .u64 (wd z 0),.int .u64 (wd z 1),.int .u64 (wd z 2),.int .u64 (wd z 3)]) rfl hrb O0.lt,setCells_in hO (fun _=>.inl rfl) [.int .u64 (wd z 0),.int .u64 (wd z 1),.int .u64 (wd z 2),.int .u64 (wd z 3)]⟩
     simp only[XP]
    intro l a wc hI hd
    obtain⟨u37,u38,u39,u40,u41,u42,u43,ha,s0,s1,s2,s3,s4,s5,s6,O0,P1_7,TP,hO⟩:=hI
    simp only[XP]at ha
    have q0:=s0 (hd 0 (by decide))
    have q1:=s1 (hd 1 (by decide))
    have q2:=s2 (hd 2 (by decide))
    have q3:=s3 (hd 3 (by decide))
    have q4:=s4 (hd 4 (by decide))
    have q5:=s5 (hd 5 (by decide))
    have q6:=s6 (hd 6 (by decide))
    have r0:wc.heap[rb]?=some (.cells #[.int .u64 (wd z 0),.int .u64 (wd z 1),.int .u64 (wd z 2),.int .u64 (wd z 3)] 66):=O0.now (hd 7 (by decide))
    have tp:=TP.now (hd 5 (by decide))
    subst ha q0 q1 q2 q3 q4 q5 q6
    clear hd s0 s1 s2 s3 s4 s5 s6 O0 P1_7 TP
    obtain⟨S2,hC⟩:=HC5.out.note HB.out hO r0 tp
    rw[HEs.out,ext_ext,ext_ext,show [((6:Int),(63:Int)-(k:Int),(0:Int))]++scanE 16=((6:Int),(63:Int)-(k:Int),(0:Int))::scanE 16 from rfl,<-powE_next,HZ.out]at hC
    have HC:=hid hC
    clear hC r0 tp hO
    go_wp2
    go_roundw
    case rel=>exact⟨k+1,by omega,by simp,S2,HC.out⟩
    case measure=>simp[intOf] <;> omega
  obtain rfl:k=64:=by omega
  rw[win_full]at hC
  have HC:=hid hC
  obtain⟨u,hu⟩:∃ u,u=fm p (v^e%p):=⟨_,rfl⟩
  rw[<-hu]at hC
  have HU:=hid hu
  obtain⟨o0,o1,o2,o3⟩:=cells4 hC.res
  obtain⟨⟨r0,r1,r2,r3⟩,fz,lt⟩:=zero_cells hC.ret
  clear hC hu
  go_wp2
  refine bodyPost_ret (v:=V u) (by simp[results,Tryz.results150,go_sem,r0,r1,r2,r3]) rfl ⟨by rw[HU.out],?_⟩
  have h1:=HB.out.tb1
  have h2:=HB.out.rb1
  have hnr:¬S0 (w.heap.size+3):=HC.out.far HB.out (by omega) (by omega)
  have ho:=setCells_off (w.heap.size+3) (words4 u) 0 wr
  exact⟨⟨S0,HC.out.tp.off ho (fun b e c=>by subst e;exact hnr c),fun b c=>(HC.out.new b c).imp (fun c=>c) (fun c=>by omega)⟩,HC.out.off.trans ho (fun b hb e=>by omega)⟩
end
section
open Go.RowKit
attribute [local go_sem ↓] Go.wp_at_zero Go.wp_at_succ
theorem sub_two6 {p:Nat} (hp:p<R256) (h1:1<p):V (subV p 2)=V (p-2):=by
 have e:subV p 2%R256=p-2:=by
  unfold subV R256 W64 at *
  simp only[Nat.reducePow]at *
  omega
 rw[<-V_mod (subV p 2),e]
set_option maxRecDepth 100000 in
set_option maxHeartbeats 4000000 in
theorem inverse_any {id:Int} {p i r s:Nat} (hF:Fld id p i r s) (v:Nat) (q:Option Addr) (es:List Ev) (S:Nat->Prop) (w:World) (hS:Tp w q es S) (hl:es.length<=80000) :
  Calls Tryz.prog 142 #[.pointer q,FV id p i r s,V (fm p v)] w fun x w'=>x=.returned (V (fm p (v^(p-2)%p)))/\Noted w.heap.size q es (powE 64) S w'/\Off S w w':=by
 have hpl:=hF.mp.lt
 have hp1:=hF.mp.one
 have HSb:=hid (fun W=>by have h:=sub_any p 2 hpl (by decide) W;rw[sub_two6 hpl hp1,lit_small 2 (by decide)]at h;exact h)
 obtain⟨l,hlt⟩:∃ l,l=ltN p 2:=⟨_,rfl⟩
 rw[<-hlt]at HSb
 have HPw:=hid (fun W h=>pow_any hF v (p-2) (by omega) q es S W h hl)
 obtain⟨n,hn⟩:∃ n,n=p-2:=⟨_,rfl⟩
 rw[<-hn]at HSb
 obtain⟨z,hz⟩:∃ z,z=fm p (v^(p-2)%p):=⟨_,rfl⟩
 rw[<-hz]at HPw ⊢
 rw[<-hn]at HPw
 obtain⟨x,hx⟩:∃ x,x=fm p v:=⟨_,rfl⟩
 rw[<-hx]at HPw ⊢
 have HS:=hid hS
 have hSl:=hS.2
 clear hx hz hn hlt hS hpl hp1 hF hl
 obtain⟨W0,hW0⟩:∃ W0,W0=((w.alloc (.cells #[.int .i64 id,.int .u64 (wd p 0),.int .u64 (wd p 1),.int .u64 (wd p 2),.int .u64 (wd p 3),.int .u64 i,.int .u64 (wd r 0),.int .u64 (wd r 1),.int .u64 (wd r 2),.int .u64 (wd r 3),.int .u64 (wd s 0),.int .u64 (wd s 1),.int .u64 (wd s 2),.int .u64 (wd s 3)] 104)).alloc (.cells #[.int .u64 (wd x 0),.int .u64 (wd x 1),.int .u64 (wd x 2),.int .u64 (wd x 3)] 66)).alloc (.cells #[.int .u64 0,.int .u64 0,.int .u64 0,.int .u64 0] 66):=⟨_,rfl⟩
 have hO0:Off (fun _=>False) w W0:=by rw[hW0];exact(((Off.refl _ w).alloc _).alloc _).alloc _
 have hf0:W0.heap[w.heap.size]?=some (.cells #[.int .i64 id,.int .u64 (wd p 0),.int .u64 (wd p 1),.int .u64 (wd p 2),.int .u64 (wd p 3),.int .u64 i,.int .u64 (wd r 0),.int .u64 (wd r 1),.int .u64 (wd r 2),.int .u64 (wd r 3),.int .u64 (wd s 0),.int .u64 (wd s 1),.int .u64 (wd s 2),.int .u64 (wd s 3)] 104):=by rw[hW0];exact heap_old' (heap_old' (heap_new' rfl _) _) _
 have hx0:W0.heap[w.heap.size+1]?=some (.cells #[.int .u64 (wd x 0),.int .u64 (wd x 1),.int .u64 (wd x 2),.int .u64 (wd x 3)] 66):=by rw[hW0];exact heap_old' (heap_new' (by simp) _) _
 have hr0:W0.heap[w.heap.size+2]?=some (.cells #[.int .u64 0,.int .u64 0,.int .u64 0,.int .u64 0] 66):=by rw[hW0];exact heap_new' (by simp) _
 have HF0:=hid hf0
 have HX0:=hid hx0
 have HR0:=hid hr0
 have HO0:=hid hO0
 have HW0:=hid hW0
 obtain⟨f0,f1,f2,f3,f4,f5,f6,f7,f8,f9,f10,f11,f12,f13⟩:=fv_cells hf0
 clear hO0 hf0 hx0 hr0 hW0
 go_enter Tryz.func142,Tryz.ntmps142
 go_upto_region 1 with fail
 rw[<-HW0.out]
 go_wp2_with fail
 refine(HSb.out _).mono ?_
 rintro e1 u1 ⟨rfl,hO1⟩
 clear f0 f1 f2 f3 f4 f5 f6 f7 f8 f9 f10 f11 f12 f13
 obtain⟨W1,hW1⟩:∃ W1,W1=u1.alloc (.cells #[.int .u64 (wd n 0),.int .u64 (wd n 1),.int .u64 (wd n 2),.int .u64 (wd n 3)] 63):=⟨_,rfl⟩
 have hOW:Off (fun _=>False) u1 W1:=by rw[hW1];exact(Off.refl _ u1).alloc _
 have hN1:W1.heap[u1.heap.size]?=some (.cells #[.int .u64 (wd n 0),.int .u64 (wd n 1),.int .u64 (wd n 2),.int .u64 (wd n 3)] 63):=by rw[hW1];exact heap_new' rfl _
 have hF1:=hOW.heap (hO1.heap HF0.out (fun c=>c)) (fun c=>c)
 have hX1:=hOW.heap (hO1.heap HX0.out (fun c=>c)) (fun c=>c)
 have HR1:=hid (hOW.heap (hO1.heap HR0.out (fun c=>c)) (fun c=>c))
 have HOf:=hid ((HO0.out.trans hO1 (fun _ _ c=>c)).trans hOW (fun _ _ c=>c))
 obtain⟨f0,f1,f2,f3,f4,f5,f6,f7,f8,f9,f10,f11,f12,f13⟩:=fv_cells hF1
 obtain⟨x0,x1,x2,x3⟩:=cells4 hX1
 obtain⟨n0,n1,n2,n3⟩:=cells4 hN1
 have HW1:=hid hW1
 clear hOW hF1 hX1 hN1 hO1 HF0 HX0 HR0 HO0 HW0 hW1
 go_upto_region 2 with fail
 rw[<-HW1.out]
 go_wp2_with fail
 refine(HPw.out _ (HS.out.off0 HOf.out)).mono ?_
 rintro e2 W2 ⟨rfl,hN2,hO2⟩
 clear f0 f1 f2 f3 f4 f5 f6 f7 f8 f9 f10 f11 f12 f13 x0 x1 x2 x3 n0 n1 n2 n3
 have hnr:¬S (w.heap.size+2):=fun c=>by have:=hSl _ c;omega
 have hlt:=heap_lt HR1.out
 have hRz:=hO2.heap HR1.out hnr
 obtain⟨⟨r0,r1,r2,r3⟩,fz,lt⟩:=zero_cells hRz
 have HN2:=hid hN2
 have HO2:=hid hO2
 clear hRz hN2 hO2 HW1
 go_wp2
 refine bodyPost_ret (v:=V z) (by simp[results,Tryz.results142,go_sem,r0,r1,r2,r3]) rfl ⟨rfl,?_⟩
 have ho:=setCells_off (w.heap.size+2) (words4 z) 0 W2
 refine⟨?_,((HOf.out.mono (fun _ _ c=>c.elim)).trans HO2.out (fun b hb c=>c)).trans ho (fun b hb e=>by omega)⟩
 obtain⟨S',h1,h2⟩:=HN2.out
 have hsz:=HOf.out.size
 exact⟨S',h1.off ho (fun b e c=>by subst e;exact(h2 _ c).elim hnr (fun c=>by omega)),fun b c=>(h2 b c).imp (fun c=>c) (fun c=>by omega)⟩
end
section
open Go.RowKit
attribute [local go_sem ↓] Go.wp_at_zero Go.wp_at_succ
theorem fm_fac {p v:Nat} (h:Mp p) (hv:v<p):fm p (facV v)=if zeroN (fm p v) then radV p 256 else fm p v:=by
 unfold facV zeroN
 by_cases h0:v=0
 ·subst h0;rw[fm_zero];simp[fm_one]
 rw[if_neg h0,if_neg]
 intro h1
 simp only[decide_eq_true_eq]at h1
 exact h0 (fm_inj h hv h.pos (h1.trans (fm_zero p).symm))
set_option maxRecDepth 100000 in
set_option maxHeartbeats 4000000 in
theorem factor_any {id:Int} {p i r s:Nat} (hF:Fld id p i r s) (v:Nat) (hv:v<p) (w:World) :
  Calls Tryz.prog 141 #[FV id p i r s,V (fm p v)] w fun x w'=>x=.returned (V (fm p (facV v)))/\Off (fun _=>False) w w':=by
 have hpl:=hF.mp.lt
 have hz1:=fm_fac hF.mp hv
 rw[<-hF.rr]at hz1
 have HZ:=hid (fun W=>miszero_any (fm p v) (Nat.lt_trans (fm_lt hF.mp.pos _) hpl) W)
 have HC:=hid (fun W=>mchoose_any (mk (zeroN (fm p v))) (mk_word _) r (fm p v) W)
 rw[selN_mk]at HC
 rw[<-hz1]at HC
 obtain⟨z,hz⟩:∃ z,z=fm p (facV v):=⟨_,rfl⟩
 rw[<-hz]at HC ⊢
 obtain⟨m,hm⟩:∃ m,m=mk (zeroN (fm p v)):=⟨_,rfl⟩
 rw[<-hm]at HZ HC
 obtain⟨x,hx⟩:∃ x,x=fm p v:=⟨_,rfl⟩
 rw[<-hx]at HZ HC ⊢
 clear hx hm hz hz1 hpl hF hv
 obtain⟨W0,hW0⟩:∃ W0,W0=((w.alloc (.cells #[.int .i64 id,.int .u64 (wd p 0),.int .u64 (wd p 1),.int .u64 (wd p 2),.int .u64 (wd p 3),.int .u64 i,.int .u64 (wd r 0),.int .u64 (wd r 1),.int .u64 (wd r 2),.int .u64 (wd r 3),.int .u64 (wd s 0),.int .u64 (wd s 1),.int .u64 (wd s 2),.int .u64 (wd s 3)] 104)).alloc (.cells #[.int .u64 (wd x 0),.int .u64 (wd x 1),.int .u64 (wd x 2),.int .u64 (wd x 3)] 66)).alloc (.cells #[.int .u64 0,.int .u64 0,.int .u64 0,.int .u64 0] 66):=⟨_,rfl⟩
 have hO0:Off (fun _=>False) w W0:=by rw[hW0];exact(((Off.refl _ w).alloc _).alloc _).alloc _
 have hf0:W0.heap[w.heap.size]?=some (.cells #[.int .i64 id,.int .u64 (wd p 0),.int .u64 (wd p 1),.int .u64 (wd p 2),.int .u64 (wd p 3),.int .u64 i,.int .u64 (wd r 0),.int .u64 (wd r 1),.int .u64 (wd r 2),.int .u64 (wd r 3),.int .u64 (wd s 0),.int .u64 (wd s 1),.int .u64 (wd s 2),.int .u64 (wd s 3)] 104):=by rw[hW0];exact heap_old' (heap_old' (heap_new' rfl _) _) _
 have hx0:W0.heap[w.heap.size+1]?=some (.cells #[.int .u64 (wd x 0),.int .u64 (wd x 1),.int .u64 (wd x 2),.int .u64 (wd x 3)] 66):=by rw[hW0];exact heap_old' (heap_new' (by simp) _) _
 have HR:=hid (show W0.heap[w.heap.size+2]?=some (.cells #[.int .u64 0,.int .u64 0,.int .u64 0,.int .u64 0] 66) by rw[hW0];exact heap_new' (by simp) _)
 have HK:Hid (∀ W,Off (fun k=>k=(w.heap.size+2)) W0 W->(W.cell? ⟨w.heap.size,0,none⟩=some (.int .i64 id)/\W.cell? ⟨w.heap.size,1,none⟩=some (.int .u64 (wd p 0))/\W.cell? ⟨w.heap.size,2,none⟩=some (.int .u64 (wd p 1))/\W.cell? ⟨w.heap.size,3,none⟩=some (.int .u64 (wd p 2))/\W.cell? ⟨w.heap.size,4,none⟩=some (.int .u64 (wd p 3))/\W.cell? ⟨w.heap.size,5,none⟩=some (.int .u64 i)/\W.cell? ⟨w.heap.size,6,none⟩=some (.int .u64 (wd r 0))/\W.cell? ⟨w.heap.size,7,none⟩=some (.int .u64 (wd r 1))/\W.cell? ⟨w.heap.size,8,none⟩=some (.int .u64 (wd r 2))/\W.cell? ⟨w.heap.size,9,none⟩=some (.int .u64 (wd r 3))/\W.cell? ⟨w.heap.size,10,none⟩=some (.int .u64 (wd s 0))/\W.cell? ⟨w.heap.size,11,none⟩=some (.int .u64 (wd s 1))/\W.cell? ⟨w.heap.size,12,none⟩=some (.int .u64 (wd s 2))/\W.cell? ⟨w.heap.size,13,none⟩=some (.int .u64 (wd s 3)))/\(W.cell? ⟨w.heap.size+1,0,none⟩=some (.int .u64 (wd x 0))/\W.cell? ⟨w.heap.size+1,1,none⟩=some (.int .u64 (wd x 1))/\W.cell? ⟨w.heap.size+1,2,none⟩=some (.int .u64 (wd x 2))/\W.cell? ⟨w.heap.size+1,3,none⟩=some (.int .u64 (wd x 3)))/\Off (fun k=>k=(w.heap.size+2)) W0 W):=hid (fun W h=>⟨fv_cells (h.heap hf0 (by omega)),cells4 (h.heap hx0 (by omega)),h⟩)
 have HO0:=hid hO0
 have HW0:=hid hW0
 clear hO0 hf0 hx0 hW0
 go_enter Tryz.func141,Tryz.ntmps141
 go_upto_region 1 with fail
 rw[<-HW0.out]
 refine wp_region_inv (fun a0 l a' w'=>∃ (u5:Value) (u6:Value) (u7:Value) (u8:Value) (u9:Value) (u10:Value),a'=(Act.put (Act.put (Act.put (Act.put (Act.put (Act.put a0 (some 5) u5) (some 6) u6) (some 7) u7) (some 8) u8) (some 9) u9) (some 10) u10)/\Slot l 0 u5 (V x)/\Slot l 1 u6 (.int .u64 m)/\Slot l 2 u7 (.pointer (some ⟨w.heap.size,6,none⟩))/\Slot l 3 u8 (V r)/\Slot l 4 u9 (V x)/\Slot l 5 u10 (V z)/\Old l 6 (w.heap.size+2) W0 w' (.cells #[.int .u64 0,.int .u64 0,.int .u64 0,.int .u64 0] 66) (.cells #[.int .u64 (wd z 0),.int .u64 (wd z 1),.int .u64 (wd z 2),.int .u64 (wd z 3)] 66)/\Off (fun k=>k=(w.heap.size+2)) W0 w') (by kernel_rfl) (by kernel_rfl) ?_ ⟨?_,?_,?_,?_,?_,?_,?_,trivial⟩ ?_
 ·refine⟨?z5,?z6,?z7,?z8,?z9,?z10,?fr,Slot.start _ _ _,Slot.start _ _ _,Slot.start _ _ _,Slot.start _ _ _,Slot.start _ _ _,Slot.start _ _ _,Old.start HR.out _ _,(Off.refl _ W0).drew⟩
  case fr=>first | (simp only[XP];rfl) | simp only[XP]
 all_goals try (intro l a wr hI hl hd K' hK;obtain⟨u5,u6,u7,u8,u9,u10,ha,s0,s1,s2,s3,s4,s5,O0,hO⟩:=hI;simp only[XP]at ha)
 ·subst ha
  have hc:=HK.out wr hO
  have p0:=hc.2.1.1
  have p1:=hc.2.1.2.1
  have p2:=hc.2.1.2.2.1
  have p3:=hc.2.1.2.2.2
  clear hc
  go_simp
  refine hK.out _ _ ⟨_,_,_,_,_,_,?_,Slot.new _ _ _,s1.keep rfl,s2.keep rfl,s3.keep rfl,s4.keep rfl,s5.keep rfl,O0.keep (Off.refl _ wr) rfl,hO⟩
  simp only[XP]
 ·have q0:=s0 (hd 0 (by decide))
  subst ha q0
  go_simp
  refine(held_inv (HZ.out wr) hO).mono ?_
  rintro e w1 ⟨rfl,hO1,hOW⟩
  go_wp2_with fail
  refine hK.out _ _ ⟨_,_,_,_,_,_,?_,s0.keep rfl,Slot.new _ _ _,s2.keep rfl,s3.keep rfl,s4.keep rfl,s5.keep rfl,O0.keep hOW rfl,hO1⟩
  simp only[XP]
 ·subst ha
  go_simp
  refine hK.out _ _ ⟨_,_,_,_,_,_,?_,s0.keep rfl,s1.keep rfl,Slot.new _ _ _,s3.keep rfl,s4.keep rfl,s5.keep rfl,O0.keep (Off.refl _ wr) rfl,hO⟩
  simp only[XP]
 ·have q2:=s2 (hd 2 (by decide))
  subst ha q2
  have hc:=HK.out wr hO
  have p0:=hc.1.1
  have p1:=hc.1.2.1
  have p2:=hc.1.2.2.1
  have p3:=hc.1.2.2.2.1
  have p4:=hc.1.2.2.2.2.1
  have p5:=hc.1.2.2.2.2.2.1
  have p6:=hc.1.2.2.2.2.2.2.1
  have p7:=hc.1.2.2.2.2.2.2.2.1
  have p8:=hc.1.2.2.2.2.2.2.2.2.1
  have p9:=hc.1.2.2.2.2.2.2.2.2.2.1
  have p10:=hc.1.2.2.2.2.2.2.2.2.2.2.1
  have p11:=hc.1.2.2.2.2.2.2.2.2.2.2.2.1
  have p12:=hc.1.2.2.2.2.2.2.2.2.2.2.2.2.1
  have p13:=hc.1.2.2.2.2.2.2.2.2.2.2.2.2.2
  clear hc
  go_simp
  refine hK.out _ _ ⟨_,_,_,_,_,_,?_,s0.keep rfl,s1.keep rfl,s2.keep rfl,Slot.new _ _ _,s4.keep rfl,s5.keep rfl,O0.keep (Off.refl _ wr) rfl,hO⟩
  simp only[XP]
 ·subst ha
  have hc:=HK.out wr hO
  have p0:=hc.2.1.1
  have p1:=hc.2.1.2.1
  have p2:=hc.2.1.2.2.1
  have p3:=hc.2.1.2.2.2
  clear hc
  go_simp
  refine hK.out _ _ ⟨_,_,_,_,_,_,?_,s0.keep rfl,s1.keep rfl,s2.keep rfl,s3.keep rfl,Slot.new _ _ _,s5.keep rfl,O0.keep (Off.refl _ wr) rfl,hO⟩
  simp only[XP]
 ·have q1:=s1 (hd 1 (by decide))
  have q3:=s3 (hd 3 (by decide))
  have q4:=s4 (hd 4 (by decide))
  subst ha q1 q3 q4
  go_simp
  refine(held_inv (HC.out wr) hO).mono ?_
  rintro e w1 ⟨rfl,hO1,hOW⟩
  go_wp2_with fail
  refine hK.out _ _ ⟨_,_,_,_,_,_,?_,s0.keep rfl,s1.keep rfl,s2.keep rfl,s3.keep rfl,s4.keep rfl,Slot.new _ _ _,O0.keep hOW rfl,hO1⟩
  simp only[XP]
 ·have q5:=s5 (hd 5 (by decide))
  subst ha q5
  have hZ:=(O0.was hl)
  obtain⟨m0,m1,m2,m3⟩:=cells4 hZ
  have fz:=fun j=>frozen_of_heap hZ j
  have lt:=heap_lt hZ
  clear hZ
  go_simp
  refine hK.out _ _ ⟨_,_,_,_,_,_,?_,s0.keep rfl,s1.keep rfl,s2.keep rfl,s3.keep rfl,s4.keep rfl,s5.keep rfl,O0.put hl rfl,setCells_in hO (fun _=>rfl) [.int .u64 (wd z 0),.int .u64 (wd z 1),.int .u64 (wd z 2),.int .u64 (wd z 3)]⟩
  simp only[XP]
 intro l a wc hI hd
 obtain⟨u5,u6,u7,u8,u9,u10,ha,s0,s1,s2,s3,s4,s5,O0,hO⟩:=hI
 simp only[XP]at ha
 have q0:=s0 (hd 0 (by decide))
 have q1:=s1 (hd 1 (by decide))
 have q2:=s2 (hd 2 (by decide))
 have q3:=s3 (hd 3 (by decide))
 have q4:=s4 (hd 4 (by decide))
 have q5:=s5 (hd 5 (by decide))
 have r0:wc.heap[(w.heap.size+2)]?=some (.cells #[.int .u64 (wd z 0),.int .u64 (wd z 1),.int .u64 (wd z 2),.int .u64 (wd z 3)] 66):=O0.now (hd 6 (by decide))
 subst ha q0 q1 q2 q3 q4 q5
 clear hd s0 s1 s2 s3 s4 s5 O0
 obtain⟨r0',r1',r2',r3'⟩:=cells4 r0
 have HOf:=hid (HO0.out.trans hO (fun k hk e=>by omega))
 clear r0 hO
 go_wp2
 exact bodyPost_ret (v:=V z) (by simp[results,Tryz.results141,go_sem,r0',r1',r2',r3']) rfl ⟨rfl,HOf.out⟩
end
section
open Go.RowKit
attribute [local go_sem] Oper.semAt_some wide_fn

structure BatC (w W:World) (id:Int) (p i r s b0 b1 arr b3 pb lb:Nat) (a:Option Addr) (n cap:Nat) (xs:List Nat) (Sl:Nat->Prop) (q:Option Addr) (es:List Ev) (S S':Nat->Prop) (L:List Nat) (u:Nat):Prop where
 tb:W.heap[b0]?=some (.cells #[.pointer q] 40)
 fb:W.heap[b1]?=some (.cells #[.int .i64 id,.int .u64 (wd p 0),.int .u64 (wd p 1),.int .u64 (wd p 2),.int .u64 (wd p 3),.int .u64 i,.int .u64 (wd r 0),.int .u64 (wd r 1),.int .u64 (wd r 2),.int .u64 (wd r 3),.int .u64 (wd s 0),.int .u64 (wd s 1),.int .u64 (wd s 2),.int .u64 (wd s 3)] 104)
 ars:NumsAt W arr 66 L
 sb:W.heap[b3]?=some (.cells #[.slice (some ⟨arr,0,none⟩) n n] 43)
 pr:W.heap[pb]?=some (.cells #[.int .u64 (wd u 0),.int .u64 (wd u 1),.int .u64 (wd u 2),.int .u64 (wd u 3)] 66)
 src:Rl lb (.slice a n cap) xs Sl W
 tp:Tp W q es S'
 new:∀ b,S' b->S b\/(b3<b/\b≠pb/\b≠lb)
 off:Off S w W
structure BatB (w:World) (S Sl:Nat->Prop) (b0 b1 arr b3 pb lb:Nat):Prop where
 c0:w.heap.size<=b0
 c1:b0<b1
 c2:b1<arr
 c3:arr<b3
 c4:b3<pb
 c5:pb<lb
 old:∀ b,S b->b<w.heap.size
 lst:∀ b,Sl b->b<w.heap.size/\¬S b
theorem BatC.far {w W:World} {id:Int} {p i r s b0 b1 arr b3 pb lb:Nat} {a:Option Addr} {n cap:Nat} {xs:List Nat} {Sl:Nat->Prop} {q:Option Addr} {es:List Ev} {S S':Nat->Prop} {L:List Nat} {u:Nat}
  (h:BatC w W id p i r s b0 b1 arr b3 pb lb a n cap xs Sl q es S S' L u) (hB:BatB w S Sl b0 b1 arr b3 pb lb) {b:Nat} (h1:w.heap.size<=b) (h2:b<=b3\/b=pb\/b=lb):¬S' b :=
 fun c=>(h.new b c).elim (fun c=>by have:=hB.old b c;omega) (fun c=>by omega)
theorem BatC.keep {w W W':World} {id:Int} {p i r s b0 b1 arr b3 pb lb:Nat} {a:Option Addr} {n cap:Nat} {xs:List Nat} {Sl:Nat->Prop} {q:Option Addr} {es:List Ev} {S S':Nat->Prop} {L:List Nat} {u:Nat}
  (h:BatC w W id p i r s b0 b1 arr b3 pb lb a n cap xs Sl q es S S' L u) (ho:Off (fun _=>False) W W'):BatC w W' id p i r s b0 b1 arr b3 pb lb a n cap xs Sl q es S S' L u :=
 ⟨ho.heap h.tb (fun c=>c),ho.heap h.fb (fun c=>c),h.ars.off ho (fun c=>c),ho.heap h.sb (fun c=>c),ho.heap h.pr (fun c=>c),h.src.off ho (fun c=>c) (fun _ _ _ c=>c),h.tp.off0 ho,h.new,h.off.trans ho (fun _ _ c=>c.elim)⟩
theorem BatC.kept {w W W':World} {row:Option Nat} {id:Int} {p i r s b0 b1 arr b3 pb lb:Nat} {a:Option Addr} {n cap:Nat} {xs:List Nat} {Sl:Nat->Prop} {q:Option Addr} {es:List Ev} {S S':Nat->Prop} {L:List Nat} {u:Nat}
  (h:BatC w W id p i r s b0 b1 arr b3 pb lb a n cap xs Sl q es S S' L u) (hg:W.grownBy W' row) (hr:∀ r,row=some r->w.heap.size<=r/\∃ o:Obj,W.heap[r]?=some o/\o.isCells=false):BatC w W' id p i r s b0 b1 arr b3 pb lb a n cap xs Sl q es S S' L u:=by
 have hr':∀ r,row=some r->∃ o:Obj,W.heap[r]?=some o/\o.isCells=false:=fun r e=>(hr r e).2
 have k:∀ {b:Nat} {c:Array Value} {T:TypeId},W.heap[b]?=some (.cells c T (0,0))->W'.heap[b]?=some (.cells c T (0,0)):=fun h=>(grownBy_keeps_cells hg hr' h rfl).trans h
 exact⟨k h.tb,k h.fb,k h.ars,k h.sb,k h.pr,h.src.kept hg hr',⟨h.tp.1.kept hg hr',fun b c=>Nat.lt_of_lt_of_le (h.tp.2 b c) hg.size⟩,h.new,h.off.later hg (fun r e=>(hr r e).1)⟩
theorem BatC.put {w W W':World} {id:Int} {p i r s b0 b1 arr b3 pb lb:Nat} {a:Option Addr} {n cap:Nat} {xs:List Nat} {Sl:Nat->Prop} {q:Option Addr} {es:List Ev} {S S':Nat->Prop} {L:List Nat} {u:Nat}
  (h:BatC w W id p i r s b0 b1 arr b3 pb lb a n cap xs Sl q es S S' L u) (hB:BatB w S Sl b0 b1 arr b3 pb lb) (ho:Off (fun k=>k=pb) W W') {z:Nat} (hz:W'.heap[pb]?=some (.cells #[.int .u64 (wd z 0),.int .u64 (wd z 1),.int .u64 (wd z 2),.int .u64 (wd z 3)] 66)):BatC w W' id p i r s b0 b1 arr b3 pb lb a n cap xs Sl q es S S' L z:=by
 have c0:=hB.c0;have c1:=hB.c1;have c2:=hB.c2;have c3:=hB.c3;have c4:=hB.c4;have c5:=hB.c5
 exact⟨ho.heap h.tb (by omega),ho.heap h.fb (by omega),h.ars.off ho (by omega),ho.heap h.sb (by omega),hz,h.src.off ho (by omega) (fun k _ hk e=>by have:=(hB.lst k hk).1;omega),h.tp.off ho (fun b e c=>by subst e;exact h.far hB (by omega) (by omega) c),h.new,h.off.trans ho (fun b hb e=>by omega)⟩
theorem BatC.arr' {w W W':World} {id:Int} {p i r s b0 b1 arr b3 pb lb:Nat} {a:Option Addr} {n cap:Nat} {xs:List Nat} {Sl:Nat->Prop} {q:Option Addr} {es:List Ev} {S S':Nat->Prop} {L L2:List Nat} {u:Nat}
  (h:BatC w W id p i r s b0 b1 arr b3 pb lb a n cap xs Sl q es S S' L u) (hB:BatB w S Sl b0 b1 arr b3 pb lb) (ho:Off (fun k=>k=arr) W W') (hz:NumsAt W' arr 66 L2):BatC w W' id p i r s b0 b1 arr b3 pb lb a n cap xs Sl q es S S' L2 u:=by
 have c0:=hB.c0;have c1:=hB.c1;have c2:=hB.c2;have c3:=hB.c3;have c4:=hB.c4;have c5:=hB.c5
 exact⟨ho.heap h.tb (by omega),ho.heap h.fb (by omega),hz,ho.heap h.sb (by omega),ho.heap h.pr (by omega),h.src.off ho (by omega) (fun k _ hk e=>by have:=(hB.lst k hk).1;omega),h.tp.off ho (fun b e c=>by subst e;exact h.far hB (by omega) (by omega) c),h.new,h.off.trans ho (fun b hb e=>by omega)⟩
theorem BatC.note {w W W':World} {id:Int} {p i r s b0 b1 arr b3 pb lb:Nat} {a:Option Addr} {n cap:Nat} {xs:List Nat} {Sl:Nat->Prop} {q:Option Addr} {es ls:List Ev} {S S':Nat->Prop} {L:List Nat} {u:Nat}
  (h:BatC w W id p i r s b0 b1 arr b3 pb lb a n cap xs Sl q es S S' L u) (hB:BatB w S Sl b0 b1 arr b3 pb lb) (ho:Off S' W W') (hn:Noted W.heap.size q es ls S' W'):∃ S2,BatC w W' id p i r s b0 b1 arr b3 pb lb a n cap xs Sl q (ext q es ls) S S2 L u:=by
 have c0:=hB.c0;have c1:=hB.c1;have c2:=hB.c2;have c3:=hB.c3;have c4:=hB.c4;have c5:=hB.c5
 obtain⟨S2,t1,t2⟩:=hn
 have hx:∀ b,w.heap.size<=b->(b<=b3\/b=pb\/b=lb)->¬S' b:=fun b h1 h2=>h.far hB h1 h2
 have l1:=heap_lt h.pr
 have l2:=h.src.1.lt
 exact⟨S2,ho.heap h.tb (hx _ (by omega) (by omega)),ho.heap h.fb (hx _ (by omega) (by omega)),h.ars.off ho (hx _ (by omega) (by omega)),ho.heap h.sb (hx _ (by omega) (by omega)),ho.heap h.pr (hx _ (by omega) (by omega)),
  h.src.off ho (hx _ (by omega) (by omega)) (fun k _ hk c=>(h.new k c).elim (hB.lst k hk).2 (fun c=>by have:=(hB.lst k hk).1;omega)),t1,fun b c=>(t2 b c).elim (h.new b) (fun c=>.inr ⟨by omega,by omega,by omega⟩),h.off.trans ho (fun b hb c=>(h.new b c).elim (fun c=>c) (fun c=>by omega))⟩
theorem BatC.typed {w W:World} {id:Int} {p i r s b0 b1 arr b3 pb lb:Nat} {a:Option Addr} {n cap:Nat} {xs:List Nat} {Sl:Nat->Prop} {q:Option Addr} {es:List Ev} {S S':Nat->Prop} {L:List Nat} {u:Nat}
  (h:BatC w W id p i r s b0 b1 arr b3 pb lb a n cap xs Sl q es S S' L u):BatC w W id p i r s b0 b1 arr b3 pb lb a n cap xs Sl q es S (fun k=>S' k/\Typed W k) L u :=
 ⟨h.tb,h.fb,h.ars,h.sb,h.pr,h.src,h.tp.typed,fun b c=>h.new b c.1,h.off⟩
end
section
open Go.RowKit
attribute [local go_sem] Oper.semAt_some wide_fn
def batE (n:Nat):List Ev:=if n=0 then [] else coefU n (List.range n)++powE 64++coefD n (List.range n)
set_option maxHeartbeats 400000 in
theorem batch_nil {id:Int} {p i r s:Nat} (cap:Nat) (a:Option Addr) (q:Option Addr) (w:World) :
  Calls Tryz.prog 126 #[.pointer q,FV id p i r s,.slice a 0 cap] w fun x w'=>x=.returned (.slice none 0 0)/\Off (fun _=>False) w w':=by
 go_enter Tryz.func126,Tryz.ntmps126
 go_wp2
 go_ret
 exact⟨rfl,((Off.refl _ w).alloc _).alloc _⟩
set_option maxRecDepth 100000 in
set_option maxHeartbeats 4000000 in
theorem batch_some {id:Int} {p i0 r s:Nat} (hF:Fld id p i0 r s) (vs:List Nat) (hv:∀ v∈vs,v<p) (n cap:Nat) (a:Option Addr) (hn:n=vs.length) (h0:0<n) (hn2:n<=10000) (q:Option Addr) (es:List Ev) (S Sl:Nat->Prop) (w:World)
  (hL:LsAt w (.slice a n cap) (vs.map (fm p)) Sl) (hSl:∀ b,Sl b->b<w.heap.size/\¬S b) (hS:Tp w q es S) (hl:es.length<=60000) :
  Calls Tryz.prog 126 #[.pointer q,FV id p i0 r s,.slice a n cap] w fun x w'=>∃ b,x=.returned (.slice (some ⟨b,0,none⟩) n n)/\w.heap.size<=b/\NumsAt w' b 66 ((batL p vs).map (fm p))/\Noted w.heap.size q es (batE n) S w'/\Off S w w':=by
 refine(callsIn_wide (n:=3)).1 ?_
 refine callsIn_of_wp_marks Tryz.func126 rfl trivial ?_ rfl
 simp only[Tryz.ntmps126,List.size_toArray,List.length_cons,List.length_nil,Nat.reduceAdd,Nat.reduceSub,Array.replicate_succ,Array.replicate_zero,List.push_toArray,List.append_toArray,List.nil_append,List.cons_append]
 have hmx:Tryz.prog.follows .mixedOrders=true:=by kernel_rfl
 have hmk:=run_make_el n (by omega)
 have hAl:=fun w=>eall_in (3-1) a n cap w
 have hne:¬((n:Int)=0):=by omega
 have HN:=hid hn
 have HV:=hid hv
 have HL:=hid hL
 have HSl:=hid hSl
 have HS:=hid hS
 clear hn hv hL hSl hS
 gi_wp2_with (gi_at_call 131;refine(hAl _).mono ?_;rintro e w' ⟨rfl,rfl⟩)
 obtain⟨W4,hW4⟩:∃ W4,W4=(((((w.alloc (.cells #[.pointer q] 40)).alloc (.cells #[.int .i64 id,.int .u64 (wd p 0),.int .u64 (wd p 1),.int .u64 (wd p 2),.int .u64 (wd p 3),.int .u64 i0,.int .u64 (wd r 0),.int .u64 (wd r 1),.int .u64 (wd r 2),.int .u64 (wd r 3),.int .u64 (wd s 0),.int .u64 (wd s 1),.int .u64 (wd s 2),.int .u64 (wd s 3)] 104)).alloc (.cells (flat4 (List.replicate n 0)).toArray 66)).alloc (.cells #[.slice (some ⟨w.heap.size+1+1,0,none⟩) n n] 43)).alloc (.cells #[.int .u64 (wd r 0),.int .u64 (wd r 1),.int .u64 (wd r 2),.int .u64 (wd r 3)] 66)).alloc (.cells #[.slice a n cap] 43):=⟨_,rfl⟩
 have hO4:Off (fun _=>False) w W4:=by rw[hW4];exact((((((Off.refl _ w).alloc _).alloc _).alloc _).alloc _).alloc _).alloc _
 have g0:W4.heap[w.heap.size]?=some (.cells #[.pointer q] 40):=by rw[hW4];exact heap_old' (heap_old' (heap_old' (heap_old' (heap_old' (heap_new' rfl _) _) _) _) _) _
 have g1:W4.heap[w.heap.size+1]?=some (.cells #[.int .i64 id,.int .u64 (wd p 0),.int .u64 (wd p 1),.int .u64 (wd p 2),.int .u64 (wd p 3),.int .u64 i0,.int .u64 (wd r 0),.int .u64 (wd r 1),.int .u64 (wd r 2),.int .u64 (wd r 3),.int .u64 (wd s 0),.int .u64 (wd s 1),.int .u64 (wd s 2),.int .u64 (wd s 3)] 104):=by rw[hW4];exact heap_old' (heap_old' (heap_old' (heap_old' (heap_new' (by simp) _) _) _) _) _
 have g2:NumsAt W4 (w.heap.size+1+1) 66 (List.replicate n 0):=by rw[hW4];exact heap_old' (heap_old' (heap_old' (heap_new' (by simp) _) _) _) _
 have g3:W4.heap[w.heap.size+1+1+1]?=some (.cells #[.slice (some ⟨w.heap.size+1+1,0,none⟩) n n] 43):=by rw[hW4];exact heap_old' (heap_old' (heap_new' (by simp) _) _) _
 have g4:W4.heap[w.heap.size+1+1+1+1]?=some (.cells #[.int .u64 (wd r 0),.int .u64 (wd r 1),.int .u64 (wd r 2),.int .u64 (wd r 3)] 66):=by rw[hW4];exact heap_old' (heap_new' (by simp) _) _
 have g5:Boxed W4 (w.heap.size+1+1+1+1+1) 43 (.slice a n cap):=by rw[hW4];exact heap_new' (by simp) _
 have hsz:W4.heap.size=w.heap.size+1+1+1+1+1+1:=by rw[hW4];simp
 rw[<-hW4]
 obtain⟨lb,hlb⟩:∃ lb,lb=w.heap.size+1+1+1+1+1:=⟨_,rfl⟩
 rw[<-hlb]at g5 ⊢
 obtain⟨pb,hpb⟩:∃ pb,pb=w.heap.size+1+1+1+1:=⟨_,rfl⟩
 rw[<-hpb]at g4 ⊢
 obtain⟨b3,hb3⟩:∃ b3,b3=w.heap.size+1+1+1:=⟨_,rfl⟩
 rw[<-hb3]at g3 ⊢
 obtain⟨arr,harr⟩:∃ arr,arr=w.heap.size+1+1:=⟨_,rfl⟩
 rw[<-harr]at g2 g3 ⊢
 obtain⟨b1,hb1⟩:∃ b1,b1=w.heap.size+1:=⟨_,rfl⟩
 rw[<-hb1]at g1 ⊢
 have hB:BatB w S Sl w.heap.size b1 arr b3 pb lb:=⟨by omega,by omega,by omega,by omega,by omega,by omega,HS.out.2,HSl.out⟩
 have hbs:lb<W4.heap.size:=by omega
 have hC0:BatC w W4 id p i0 r s w.heap.size b1 arr b3 pb lb a n cap (vs.map (fm p)) Sl q (ext q es (coefU n [])) S S ((bat1 p vs []).2.map (fm p)) (fm p (bat1 p vs []).1):=by
  refine⟨g0,g1,?_,g3,?_,⟨g5,HL.out.off hO4 (fun _ _ _ c=>c)⟩,?_,fun _ c=>.inl c,hO4.mono (fun _ _ c=>c.elim)⟩
  ·rw[show(bat1 p vs []).2=List.replicate vs.length 0 from rfl,List.map_replicate,fm_zero,<-HN.out];exact g2
  ·rw[show(bat1 p vs []).1=1 from rfl,fm_one,<-hF.rr];exact g4
  rw[show coefU n []=[] from rfl,ext_nil];exact HS.out.off0 hO4
 have HC0:=hid hC0
 have HB:=hid hB
 have HM:=hid (fun x y W=>by have h:=mmul_any hF (fm p x) (fm p y) (Nat.lt_trans (fm_lt hF.mp.pos _) hF.mp.lt) (fm_lt hF.mp.pos _) W;rw[mm_fm hF.mp]at h;exact h:∀ x y W,Calls Tryz.prog 109 #[FV id p i0 r s,V (fm p x),V (fm p y)] W fun x' w'=>x'=.returned (V (fm p (x*y%p)))/\Off (fun _=>False) W w')
 have HFa:=hid (fun v hv W=>factor_any hF v hv W)
 have HF:=hid hF
 have hst:=eall_stops (3-1) (by omega) lb a n cap (vs.map (fm p)) Sl W4 hC0.src
 simp only[List.length_map,getD_fm,<-HN.out]at hst
 clear hF hC0 g0 g1 g2 g3 g4 g5 hB hb1 harr hb3 hpb hlb hW4 hO4 hsz hAl hmk
 refine wpIn_rangeFunc_ownH (F:=Fence.wide) (n:=3) rfl (by omega) (gf:=147) (lb:=#[.pointer (some ⟨lb,0,none⟩)]) rfl trivial (enters_of Tryz.func147 (by kernel_rfl) rfl)
  hst (fun h k x=>k (h x)) (fun W l o o' hl h hc hw=>rlK_b W l o o' hl h hc hw) (Below.refl _ _) (fun _=>by rfl)
  (fun pre W=>∃ S',BatC w W id p i0 r s w.heap.size b1 arr b3 pb lb a n cap (vs.map (fm p)) Sl q (ext q es (coefU n pre)) S S' ((bat1 p vs pre).2.map (fm p)) (fm p (bat1 p vs pre).1)/\pre.length<=n)
  (fun _ _ _=>False)
  (fun pre A B row hs hg hr=>by
   obtain⟨S',h1,h2⟩:=hs
   exact⟨S',h1.kept hg (fun r e=>⟨by have:=(hr r e).1;have:=HB.out.c1;have:=HB.out.c2;have:=HB.out.c3;have:=HB.out.c4;have:=HB.out.c5;omega,(hr r e).2⟩),h2⟩)
  (fun _ _ _ _ _ hs _ _=>hs)
  ⟨S,HC0.out,Nat.zero_le _⟩
  (fun x a' W=>∃ B,W.heap[B]?=some (.cells #[.int .u64 (wd (fm p (vs.getD (x%n) 0)) 0:Int),.int .u64 (wd (fm p (vs.getD (x%n) 0)) 1:Int),.int .u64 (wd (fm p (vs.getD (x%n) 0)) 2:Int),.int .u64 (wd (fm p (vs.getD (x%n) 0)) 3:Int)] 66)/\lb<B/\a'={ tmps:=#[.pointer q,FV id p i0 r s,.slice a n cap,.pointer (some ⟨w.heap.size,0,none⟩),.pointer (some ⟨b1,0,none⟩),undef,.slice none 0 0,.pointer (some ⟨b3,0,none⟩),.pointer (some ⟨pb,0,none⟩),.int .i64 ((x%n:Nat):Int),.pointer (some ⟨B,0,none⟩),undef,undef,undef,undef,.slice a n cap,.int .i64 n,.bool false,.slice a n cap,.int .i64 n,.slice (some ⟨arr,0,none⟩) n n,.pointer (some ⟨b1,6,none⟩),V r,.slice a n cap,.func (.func 147) #[] #[.pointer (some ⟨lb,0,none⟩)],.int .i64 ((x%n:Nat):Int),V (fm p (vs.getD (x%n) 0)),undef,undef,undef,undef,undef,undef,undef,undef,undef,undef,undef,undef,undef,undef,undef,undef,undef,undef,undef,undef,undef,undef,undef,undef,undef,undef,undef,undef,undef,undef,undef,undef,undef,undef,undef,undef,undef,undef,undef,undef,undef,undef,undef,undef,undef,undef],defers:=[] })
  (fun x a' _ A C row hs hg hr=>by
   obtain⟨B,h1,h2,h3⟩:=hs
   exact⟨B,(grownBy_keeps_cells hg (fun r e=>(hr r e).2) h1 rfl).trans h1,h2,h3⟩)
  ?assign ?body ?done ?stop
 case assign =>
  rintro l pre x W K ⟨S',hC,hlen⟩ hK
  obtain⟨j,hj⟩:∃ j,j=x%n:=⟨_,rfl⟩
  obtain⟨y,hy⟩:∃ y,y=fm p (vs.getD (x%n) 0):=⟨_,rfl⟩
  rw[<-hy,<-hj]at hK
  rw[<-hy,<-hj]
  clear hy hj
  have hlt:=hC.src.1.lt
  gi_wp2
  have ho:=(Off.refl (fun _=>False) W).alloc (.cells #[.int .u64 (wd y 0),.int .u64 (wd y 1),.int .u64 (wd y 2),.int .u64 (wd y 3)] 66)
  exact hK _ _ (ho.keeps.from _) (fun h=>h.off ho (fun c=>c) (fun _ _ _ c=>c)) ⟨S',hC.keep ho,hlen⟩ ⟨W.heap.size,World.alloc_heap_new W _,hlt,rfl⟩
 case body =>
  rintro l pre x a' W _ _ ⟨S0,hC,hlen2⟩ ⟨B,hcB,hBt,rfl⟩ hlen
  obtain⟨j,hj⟩:∃ j,j=x%n:=⟨_,rfl⟩
  have hjn:j<n:=by rw[hj];exact Nat.mod_lt _ h0
  obtain⟨v,hvv⟩:∃ v,v=vs.getD (x%n) 0:=⟨_,rfl⟩
  have hvp:v<p:=by rw[hvv];exact getD_lt HF.out.mp.pos HV.out _
  obtain⟨P0,hP0⟩:∃ P0,P0=(bat1 p vs pre).1:=⟨_,rfl⟩
  obtain⟨L,hL⟩:∃ L,L=(bat1 p vs pre).2:=⟨_,rfl⟩
  have hLn:L.length=n:=by rw[hL,bat1_length,HN.out]
  rw[<-hvv,<-hj]
  rw[<-hvv]at hcB
  rw[<-hP0,<-hL]at hC
  have hsn:bat1 p vs (pre++[x])=(P0*facV v%p,L.set j P0):=by rw[bat1_snoc,<-HN.out,<-hj,<-hP0,<-hL];rw[hvv,hj]
  have hse:coefU n (pre++[x])=coefU n pre++[((2:Int),(j:Int),(0:Int))]:=by rw[coefU_snoc,hj]
  have HSn:=hid hsn
  have HSe:=hid hse
  obtain⟨y,hy⟩:∃ y,y=fm p v:=⟨_,rfl⟩
  obtain⟨u,hu⟩:∃ u,u=fm p P0:=⟨_,rfl⟩
  obtain⟨g,hg⟩:∃ g,g=fm p (facV v):=⟨_,rfl⟩
  obtain⟨z,hz⟩:∃ z,z=fm p (P0*facV v%p):=⟨_,rfl⟩
  have HFc:=hid (show ∀ W,Calls Tryz.prog 141 #[FV id p i0 r s,V y] W fun x' w'=>x'=.returned (V g)/\Off (fun _=>False) W w' from fun W=>by rw[hy,hg];exact HFa.out v hvp W)
  have HMu:=hid (show ∀ W,Calls Tryz.prog 109 #[FV id p i0 r s,V u,V g] W fun x' w'=>x'=.returned (V z)/\Off (fun _=>False) W w' from fun W=>by rw[hu,hg,hz];exact HM.out _ _ W)
  rw[<-hy]
  rw[<-hy]at hcB
  rw[<-hu]at hC
  have HLs:=hid (show((L.set j P0).map (fm p))=(L.map (fm p)).set j u by rw[List.map_set,hu])
  have HZ:=hid hz
  have hC:=hC.typed
  obtain⟨S',hS'⟩:∃ S':Nat->Prop,S'=fun k=>S0 k/\Typed W k:=⟨_,rfl⟩
  have hBS:¬S' B:=by rw[hS'];exact fun c=>not_typed hcB c.2
  rw[<-hS']at hC
  have hLl:(L.map (fm p)).length=n:=by rw[List.length_map,hLn]
  obtain⟨L1,hL1⟩:∃ L1,L1=L.map (fm p):=⟨_,rfl⟩
  rw[<-hL1]at hC HLs hLl
  have hnote:=CallsIn.inRound l (callsIn_wide (n:=3-1-1-1).2 (note_ext q (ext q es (coefU n pre)) S' W hC.tp (by have:=ext_le q es (coefU n pre);rw[coefU_length]at this;omega) ((2:Int),(j:Int),(0:Int))))
  have HC:=hid hC
  have HcB:=hid hcB
  have k0:W.cell? ⟨w.heap.size,0,none⟩=some (.pointer q):=cell_of_heap hC.tb 0
  clear hC hcB hS' hL1 hu hg hy hz hP0 hL hLn hvv hj hsn hse
  gi_wp2
  refine hnote.mono ?_
  rintro r1 W1 ⟨rfl,hN,hO1⟩
  clear k0 hnote
  obtain⟨S2,hC2⟩:=HC.out.note HB.out hO1 hN
  rw[ext_ext,<-HSe.out]at hC2
  have hE1:=hO1.heap HcB.out hBS
  have s0:W1.cell? ⟨b3,0,none⟩=some (.slice (some ⟨arr,0,none⟩) n n):=cell_of_heap hC2.sb 0
  obtain⟨u0,u1,u2,u3⟩:=cells4 hC2.pr
  obtain⟨e0,he0⟩:∃ e0,L1[j]?=some e0:=⟨_,List.getElem?_eq_getElem (by omega)⟩
  obtain⟨m0,m1,m2,m3⟩:=NumsAt.cell hC2.ars he0
  have fz:=fun k=>NumsAt.frozen hC2.ars k
  have lt:=NumsAt.lt hC2.ars
  have hjI:(j:Int)<(n:Int):=by omega
  have HC2:=hid hC2
  have HE1:=hid hE1
  have HK1:=hid hO1.keeps
  clear hC2 hE1 hN hO1 he0
  gi_wp2
  clear u0 u1 u2 u3 m0 m1 m2 m3 fz lt s0
  obtain⟨W2,hW2⟩:∃ W2,W2=(((W1.setCell ⟨arr,j*4,none⟩ (.int .u64 (wd u 0))).setCell ⟨arr,j*4+1,none⟩ (.int .u64 (wd u 1))).setCell ⟨arr,j*4+2,none⟩ (.int .u64 (wd u 2))).setCell ⟨arr,j*4+3,none⟩ (.int .u64 (wd u 3)):=⟨_,rfl⟩
  rw[<-hW2]
  have ho2:Off (fun k=>k=arr) W1 W2:=by rw[hW2];exact setCells_off arr (words4 u) (j*4) W1
  have hC3:=HC2.out.arr' HB.out ho2 (by rw[hW2];exact HC2.out.ars.store (by omega) u)
  rw[<-HLs.out]at hC3
  have hE2:=ho2.heap HE1.out (by have:=HB.out.c3;have:=HB.out.c4;have:=HB.out.c5;omega)
  have HC3:=hid hC3
  have HPr:=hid hC3.pr
  have hBp:B≠pb:=by have:=HB.out.c5;omega
  have HK10:Hid (∀ W,Off (fun k=>k=pb) W2 W->(W.cell? ⟨b1,0,none⟩=some (.int .i64 id)/\W.cell? ⟨b1,1,none⟩=some (.int .u64 (wd p 0))/\W.cell? ⟨b1,2,none⟩=some (.int .u64 (wd p 1))/\W.cell? ⟨b1,3,none⟩=some (.int .u64 (wd p 2))/\W.cell? ⟨b1,4,none⟩=some (.int .u64 (wd p 3))/\W.cell? ⟨b1,5,none⟩=some (.int .u64 i0)/\W.cell? ⟨b1,6,none⟩=some (.int .u64 (wd r 0))/\W.cell? ⟨b1,7,none⟩=some (.int .u64 (wd r 1))/\W.cell? ⟨b1,8,none⟩=some (.int .u64 (wd r 2))/\W.cell? ⟨b1,9,none⟩=some (.int .u64 (wd r 3))/\W.cell? ⟨b1,10,none⟩=some (.int .u64 (wd s 0))/\W.cell? ⟨b1,11,none⟩=some (.int .u64 (wd s 1))/\W.cell? ⟨b1,12,none⟩=some (.int .u64 (wd s 2))/\W.cell? ⟨b1,13,none⟩=some (.int .u64 (wd s 3)))/\(W.cell? ⟨B,0,none⟩=some (.int .u64 (wd y 0))/\W.cell? ⟨B,1,none⟩=some (.int .u64 (wd y 1))/\W.cell? ⟨B,2,none⟩=some (.int .u64 (wd y 2))/\W.cell? ⟨B,3,none⟩=some (.int .u64 (wd y 3)))/\Off (fun k=>k=pb) W2 W):=hid (fun W h=>⟨fv_cells (h.heap HC3.out.fb (by have:=HB.out.c2;have:=HB.out.c3;have:=HB.out.c4;omega)),cells4 (h.heap hE2 hBp),h⟩)
  have HK2:=hid (HK1.out.trans ho2.keeps)
  clear ho2 hC3 hE2 hW2 HC2 HE1 HK1
  refine wpIn_region_inv (fun a0 l a' w'=>∃ (u34:Value) (u35:Value) (u36:Value) (u37:Value) (u38:Value) (u39:Value),a'=(Act.put (Act.put (Act.put (Act.put (Act.put (Act.put a0 (some 34) u34) (some 35) u35) (some 36) u36) (some 37) u37) (some 38) u38) (some 39) u39)/\Slot l 0 u34 (FV id p i0 r s)/\Slot l 1 u35 (V u)/\Slot l 2 u36 (FV id p i0 r s)/\Slot l 3 u37 (V y)/\Slot l 4 u38 (V g)/\Slot l 5 u39 (V z)/\Old l 6 pb W2 w' (.cells #[.int .u64 (wd u 0),.int .u64 (wd u 1),.int .u64 (wd u 2),.int .u64 (wd u 3)] 66) (.cells #[.int .u64 (wd z 0),.int .u64 (wd z 1),.int .u64 (wd z 2),.int .u64 (wd z 3)] 66)/\Dep l 1 6/\Off (fun k=>k=pb) W2 w') (by kernel_rfl) (by kernel_rfl) (by kernel_rfl) ?_ ⟨?_,?_,?_,?_,?_,?_,?_,trivial⟩ ?_
  ·refine⟨?z34,?z35,?z36,?z37,?z38,?z39,?fr,Slot.start _ _ _,Slot.start _ _ _,Slot.start _ _ _,Slot.start _ _ _,Slot.start _ _ _,Slot.start _ _ _,Old.start HPr.out _ _,Dep.start _ _,(Off.refl _ W2).drew⟩
   case fr=>first | (simp only[XP];rfl) | simp only[XP]
  all_goals try (intro l a wr hI hl hd K' hK;obtain⟨u34,u35,u36,u37,u38,u39,ha,s0,s1,s2,s3,s4,s5,O0,P1_6,hO⟩:=hI;simp only[XP]at ha)
  ·subst ha
   have hc:=HK10.out wr hO
   have p0:=hc.1.1
   have p1:=hc.1.2.1
   have p2:=hc.1.2.2.1
   have p3:=hc.1.2.2.2.1
   have p4:=hc.1.2.2.2.2.1
   have p5:=hc.1.2.2.2.2.2.1
   have p6:=hc.1.2.2.2.2.2.2.1
   have p7:=hc.1.2.2.2.2.2.2.2.1
   have p8:=hc.1.2.2.2.2.2.2.2.2.1
   have p9:=hc.1.2.2.2.2.2.2.2.2.2.1
   have p10:=hc.1.2.2.2.2.2.2.2.2.2.2.1
   have p11:=hc.1.2.2.2.2.2.2.2.2.2.2.2.1
   have p12:=hc.1.2.2.2.2.2.2.2.2.2.2.2.2.1
   have p13:=hc.1.2.2.2.2.2.2.2.2.2.2.2.2.2
   clear hc
   go_simp
   refine hK.out _ _ ⟨_,_,_,_,_,_,?_,Slot.new _ _ _,s1.keep rfl,s2.keep rfl,s3.keep rfl,s4.keep rfl,s5.keep rfl,O0.keep (Off.refl _ wr) rfl,P1_6.keep rfl,hO⟩
   simp only[XP]
  ·subst ha
   have hZ:=O0.was (P1_6 hl)
   obtain⟨p0,p1,p2,p3⟩:=cells4 hZ
   clear hZ
   go_simp
   refine hK.out _ _ ⟨_,_,_,_,_,_,?_,s0.keep rfl,Slot.new _ _ _,s2.keep rfl,s3.keep rfl,s4.keep rfl,s5.keep rfl,O0.keep (Off.refl _ wr) rfl,P1_6.keep rfl,hO⟩
   simp only[XP]
  ·subst ha
   have hc:=HK10.out wr hO
   have p0:=hc.1.1
   have p1:=hc.1.2.1
   have p2:=hc.1.2.2.1
   have p3:=hc.1.2.2.2.1
   have p4:=hc.1.2.2.2.2.1
   have p5:=hc.1.2.2.2.2.2.1
   have p6:=hc.1.2.2.2.2.2.2.1
   have p7:=hc.1.2.2.2.2.2.2.2.1
   have p8:=hc.1.2.2.2.2.2.2.2.2.1
   have p9:=hc.1.2.2.2.2.2.2.2.2.2.1
   have p10:=hc.1.2.2.2.2.2.2.2.2.2.2.1
   have p11:=hc.1.2.2.2.2.2.2.2.2.2.2.2.1
   have p12:=hc.1.2.2.2.2.2.2.2.2.2.2.2.2.1
   have p13:=hc.1.2.2.2.2.2.2.2.2.2.2.2.2.2
   clear hc
   go_simp
   refine hK.out _ _ ⟨_,_,_,_,_,_,?_,s0.keep rfl,s1.keep rfl,Slot.new _ _ _,s3.keep rfl,s4.keep rfl,s5.keep rfl,O0.keep (Off.refl _ wr) rfl,P1_6.keep rfl,hO⟩
   simp only[XP]
  ·subst ha
   have hc:=HK10.out wr hO
   have p0:=hc.2.1.1
   have p1:=hc.2.1.2.1
   have p2:=hc.2.1.2.2.1
   have p3:=hc.2.1.2.2.2
   clear hc
   go_simp
   refine hK.out _ _ ⟨_,_,_,_,_,_,?_,s0.keep rfl,s1.keep rfl,s2.keep rfl,Slot.new _ _ _,s4.keep rfl,s5.keep rfl,O0.keep (Off.refl _ wr) rfl,P1_6.keep rfl,hO⟩
   simp only[XP]
  ·have q2:=s2 (hd 2 (by decide))
   have q3:=s3 (hd 3 (by decide))
   subst ha q2 q3
   go_simp
   refine(held_inv (HFc.out wr) hO).mono ?_
   rintro e w1 ⟨rfl,hO1,hOW⟩
   go_wp2_with fail
   refine hK.out _ _ ⟨_,_,_,_,_,_,?_,s0.keep rfl,s1.keep rfl,s2.keep rfl,s3.keep rfl,Slot.new _ _ _,s5.keep rfl,O0.keep hOW rfl,P1_6.keep rfl,hO1⟩
   simp only[XP]
  ·have q0:=s0 (hd 0 (by decide))
   have q1:=s1 (hd 1 (by decide))
   have q4:=s4 (hd 4 (by decide))
   subst ha q0 q1 q4
   go_simp
   refine(held_inv (HMu.out wr) hO).mono ?_
   rintro e w1 ⟨rfl,hO1,hOW⟩
   go_wp2_with fail
   refine hK.out _ _ ⟨_,_,_,_,_,_,?_,s0.keep rfl,s1.keep rfl,s2.keep rfl,s3.keep rfl,s4.keep rfl,Slot.new _ _ _,O0.keep hOW rfl,P1_6.keep rfl,hO1⟩
   simp only[XP]
  ·have q5:=s5 (hd 5 (by decide))
   subst ha q5
   have hZ:=(O0.was hl)
   obtain⟨m0,m1,m2,m3⟩:=cells4 hZ
   have fz:=fun j=>frozen_of_heap hZ j
   have lt:=heap_lt hZ
   clear hZ
   go_simp
   refine hK.out _ _ ⟨_,_,_,_,_,_,?_,s0.keep rfl,s1.keep rfl,s2.keep rfl,s3.keep rfl,s4.keep rfl,s5.keep rfl,O0.put hl rfl,Dep.at (hd 1 (by decide)),setCells_in hO (fun _=>rfl) [.int .u64 (wd z 0),.int .u64 (wd z 1),.int .u64 (wd z 2),.int .u64 (wd z 3)]⟩
   simp only[XP]
  intro l a wc hI hd
  obtain⟨u34,u35,u36,u37,u38,u39,ha,s0,s1,s2,s3,s4,s5,O0,P1_6,hO⟩:=hI
  simp only[XP]at ha
  have q0:=s0 (hd 0 (by decide))
  have q1:=s1 (hd 1 (by decide))
  have q2:=s2 (hd 2 (by decide))
  have q3:=s3 (hd 3 (by decide))
  have q4:=s4 (hd 4 (by decide))
  have q5:=s5 (hd 5 (by decide))
  have r0:wc.heap[pb]?=some (.cells #[.int .u64 (wd z 0),.int .u64 (wd z 1),.int .u64 (wd z 2),.int .u64 (wd z 3)] 66):=O0.now (hd 6 (by decide))
  subst ha q0 q1 q2 q3 q4 q5
  clear hd s0 s1 s2 s3 s4 s5 O0 P1_6
  have hC4:=HC3.out.put HB.out hO r0
  have hk:=(HK2.out.trans hO.keeps).from W4.heap.size
  clear r0 hO
  gi_wp2
  refine⟨hk,fun _=>hC4.src,S2,?_,by simp;omega⟩
  rw[HSn.out,<-HZ.out]
  exact hC4
 case done =>
  rintro D ys W hD rfl ⟨S0,hC,_⟩ hK
  have hd:=bat1_done p vs
  rw[<-HN.out]at hd
  rw[hd]at hC
  obtain⟨pv,hpv⟩:∃ pv,pv=prdV p vs n:=⟨_,rfl⟩
  simp only[<-hpv]at hC
  obtain⟨L,hL⟩:∃ L,L=((List.range n).map (prdV p vs)).map (fm p):=⟨_,rfl⟩
  rw[<-hL]at hC
  obtain⟨es1,hes⟩:∃ es1,es1=ext q es (coefU n (List.range n)):=⟨_,rfl⟩
  rw[<-hes]at hC
  have hel:es1.length<=70000:=by have:=ext_le q es (coefU n (List.range n));rw[coefU_length,List.length_range,<-hes]at this;omega
  have hrs:rstV p vs 0=pv^(p-2)%p:=by rw[hpv,HN.out];rfl
  have hinv:=callsIn_wide (n:=3-1).2 (inverse_any HF.out pv q es1 S0 W hC.tp (by omega))
  rw[<-hrs]at hinv
  obtain⟨rv,hrv⟩:∃ rv,rv=fm p (rstV p vs 0):=⟨_,rfl⟩
  rw[<-hrv]at hinv
  obtain⟨u,hu⟩:∃ u,u=fm p pv:=⟨_,rfl⟩
  rw[<-hu]at hinv hC
  have hBk:=fun w=>eback_in (3-1) a n cap w
  have HC:=hid hC
  have HK:=hid hK
  have HEs:=hid hes
  have HRv:=hid hrv
  have HLL:=hid hL
  have k0:W.cell? ⟨w.heap.size,0,none⟩=some (.pointer q):=cell_of_heap hC.tb 0
  obtain⟨f0,f1,f2,f3,f4,f5,f6,f7,f8,f9,f10,f11,f12,f13⟩:=fv_cells hC.fb
  obtain⟨u0,u1,u2,u3⟩:=cells4 hC.pr
  clear hC hK hes hrv hL hd hrs hpv hu hst
  gi_wp2_with (gi_at_call 142;refine hinv.mono ?_;rintro e W1 ⟨rfl,hN1,hO1⟩)
  clear k0 f0 f1 f2 f3 f4 f5 f6 f7 f8 f9 f10 f11 f12 f13 u0 u1 u2 u3 hinv
  obtain⟨S1,hC1⟩:=HC.out.note HB.out hO1 hN1
  obtain⟨es2,hes2⟩:∃ es2,es2=ext q es1 (powE 64):=⟨_,rfl⟩
  rw[<-hes2]at hC1
  have hel2:es2.length<=80000:=by have:=ext_le q es1 (powE 64);rw[powE_length,<-hes2]at this;omega
  have HEs2:=hid hes2
  have hK1:W1.heap[D]?=some (.deferred (some [])):=hO1.others _ _ HK.out rfl
  refine(hBk _).mono ?_
  rintro e w' ⟨rfl,rfl⟩
  clear hBk
  gi_wp2
  try simp only[World.size_alloc]
  obtain⟨W5,hW5⟩:∃ W5,W5=(W1.alloc (.cells #[.int .u64 (wd rv 0),.int .u64 (wd rv 1),.int .u64 (wd rv 2),.int .u64 (wd rv 3)] 66)).alloc (.cells #[.slice a n cap] 43):=⟨_,rfl⟩
  have hO5:Off (fun _=>False) W1 W5:=by rw[hW5];exact((Off.refl _ W1).alloc _).alloc _
  have g4:W5.heap[W1.heap.size]?=some (.cells #[.int .u64 (wd rv 0),.int .u64 (wd rv 1),.int .u64 (wd rv 2),.int .u64 (wd rv 3)] 66):=by rw[hW5];exact heap_old' (heap_new' rfl _) _
  have g5:Boxed W5 (W1.heap.size+1) 43 (.slice a n cap):=by rw[hW5];exact heap_new' (by simp) _
  have hsz:W5.heap.size=W1.heap.size+1+1:=by rw[hW5];simp
  rw[<-hW5]
  obtain⟨lb2,hlb2⟩:∃ lb2,lb2=W1.heap.size+1:=⟨_,rfl⟩
  rw[<-hlb2]at g5 ⊢
  obtain⟨rb,hrb⟩:∃ rb,rb=W1.heap.size:=⟨_,rfl⟩
  rw[<-hrb]at g4 ⊢
  have hl1:=hC1.src.1.lt
  have hB2:BatB w S Sl w.heap.size b1 arr b3 rb lb2:=⟨Nat.le_refl _,HB.out.c1,HB.out.c2,HB.out.c3,by have:=HB.out.c4;have:=HB.out.c5;omega,by omega,HB.out.old,HB.out.lst⟩
  have hC5:BatC w W5 id p i0 r s w.heap.size b1 arr b3 rb lb2 a n cap (vs.map (fm p)) Sl q (ext q es2 (coefD n [])) S S1 ((bat2 p vs []).2.map (fm p)) (fm p (bat2 p vs []).1):=by
   refine⟨hO5.heap hC1.tb (fun c=>c),hO5.heap hC1.fb (fun c=>c),?_,hO5.heap hC1.sb (fun c=>c),?_,⟨g5,hC1.src.2.off hO5 (fun _ _ _ c=>c)⟩,?_,fun b c=>(hC1.new b c).imp (fun c=>c) (fun h=>⟨h.1,by have:=hC1.tp.2 b c;omega,by have:=hC1.tp.2 b c;omega⟩),hC1.off.trans hO5 (fun _ _ c=>c.elim)⟩
   ·rw[show(bat2 p vs []).2=(List.range vs.length).map (prdV p vs) from rfl,<-HN.out,<-HLL.out];exact hC1.ars.off hO5 (fun c=>c)
   ·rw[show(bat2 p vs []).1=rstV p vs 0 from rfl,<-HRv.out];exact g4
   rw[show coefD n []=[] from rfl,ext_nil];exact hC1.tp.off0 hO5
  have hK5:W5.heap[D]?=some (.deferred (some [])):=hO5.others _ _ hK1 rfl
  have hDl:D<W5.heap.size:=heap_lt hK5
  have hlb5:lb2<W5.heap.size:=by omega
  have hwD:w.heap.size<=D:=by have:=HB.out.c1;have:=HB.out.c2;have:=HB.out.c3;have:=HB.out.c4;have:=HB.out.c5;omega
  have HB2:=hid hB2
  have HC5:=hid hC5
  have HK5:=hid hK5
  have hst:=eback_stops (3-1) (by omega) lb2 a n cap (vs.map (fm p)) Sl W5 hC5.src
  simp only[List.length_map,getD_fm,<-HN.out]at hst
  have hw5:w.heap.size<=W5.heap.size:=by have:=hC5.off.size;exact this
  clear hC1 hO1 hN1 hes2 hK1 hW5 hO5 g4 g5 hsz hrb hlb2 hl1 hB2 hC5 hK5 HC HK
  refine wpIn_rangeFunc_ownH (F:=Fence.wide) (n:=3) rfl (by omega) (gf:=134) (lb:=#[.pointer (some ⟨lb2,0,none⟩)]) rfl trivial (enters_of Tryz.func134 (by kernel_rfl) rfl)
   hst (fun h k x=>k (h x)) (fun W l o o' hl h hc hw=>rlK_b W l o o' hl h hc hw) (Below.refl _ _) (fun _=>by rfl)
   (fun pre W=>∃ S',BatC w W id p i0 r s w.heap.size b1 arr b3 rb lb2 a n cap (vs.map (fm p)) Sl q (ext q es2 (coefD n pre)) S S' ((bat2 p vs pre).2.map (fm p)) (fm p (bat2 p vs pre).1)/\pre.length<=n/\W.heap[D]?=some (.deferred (some [])))
   (fun _ _ _=>False)
   (fun pre A B row hs hg hr=>by
    obtain⟨S',h1,h2,h3⟩:=hs
    exact⟨S',h1.kept hg (fun r e=>⟨by have:=(hr r e).1;omega,(hr r e).2⟩),h2,(hg.block D (heap_lt h3) (fun e=>by have:=(hr D e.symm).1;omega)).trans h3⟩)
   (fun _ _ _ _ _ hs _ _=>hs)
   ⟨S1,HC5.out,Nat.zero_le _,HK5.out⟩
   (fun x a' W=>∃ B,W.heap[B]?=some (.cells #[.int .u64 (wd (fm p (vs.getD (n-1-x) 0)) 0:Int),.int .u64 (wd (fm p (vs.getD (n-1-x) 0)) 1:Int),.int .u64 (wd (fm p (vs.getD (n-1-x) 0)) 2:Int),.int .u64 (wd (fm p (vs.getD (n-1-x) 0)) 3:Int)] 66)/\lb2<B/\a'={ tmps:=#[.pointer q,FV id p i0 r s,.slice a n cap,.pointer (some ⟨w.heap.size,0,none⟩),.pointer (some ⟨b1,0,none⟩),undef,.slice none 0 0,.pointer (some ⟨b3,0,none⟩),.pointer (some ⟨pb,0,none⟩),undef,undef,.pointer (some ⟨rb,0,none⟩),.int .i64 ((n-1-x:Nat):Int),.pointer (some ⟨B,0,none⟩),undef,.slice a n cap,.int .i64 n,.bool false,.slice a n cap,.int .i64 n,.slice (some ⟨arr,0,none⟩) n n,.pointer (some ⟨b1,6,none⟩),V r,.slice a n cap,.func (.func 147) #[] #[.pointer (some ⟨lb,0,none⟩)],undef,undef,undef,undef,undef,undef,undef,undef,undef,undef,undef,undef,undef,undef,undef,.pointer q,FV id p i0 r s,V u,V rv,.slice a n cap,.func (.func 134) #[] #[.pointer (some ⟨lb2,0,none⟩)],.int .i64 ((n-1-x:Nat):Int),V (fm p (vs.getD (n-1-x) 0)),undef,undef,undef,undef,undef,undef,undef,undef,undef,undef,undef,undef,undef,undef,undef,undef,undef,undef,undef,undef,undef,undef,undef,undef,undef],defers:=[] })
   (fun x a' _ A C row hs hg hr=>by
    obtain⟨B,h1,h2,h3⟩:=hs
    exact⟨B,(grownBy_keeps_cells hg (fun r e=>(hr r e).2) h1 rfl).trans h1,h2,h3⟩)
   ?assign2 ?body2 ?done2 ?stop2
  case assign2 =>
   rintro l pre x W K ⟨S',hC,hlen,hKd⟩ hK
   obtain⟨j,hj⟩:∃ j,j=n-1-x:=⟨_,rfl⟩
   obtain⟨y,hy⟩:∃ y,y=fm p (vs.getD (n-1-x) 0):=⟨_,rfl⟩
   rw[<-hy,<-hj]at hK
   rw[<-hy,<-hj]
   clear hy hj
   have hlt:=hC.src.1.lt
   gi_wp2
   have ho:=(Off.refl (fun _=>False) W).alloc (.cells #[.int .u64 (wd y 0),.int .u64 (wd y 1),.int .u64 (wd y 2),.int .u64 (wd y 3)] 66)
   exact hK _ _ (ho.keeps.from _) (fun h=>h.off ho (fun c=>c) (fun _ _ _ c=>c)) ⟨S',hC.keep ho,hlen,ho.others _ _ hKd rfl⟩ ⟨W.heap.size,World.alloc_heap_new W _,hlt,rfl⟩
  case body2 =>
   rintro l pre x a' W _ _ ⟨S0',hC,hlen2,hKd⟩ ⟨B,hcB,hBt,rfl⟩ hlen
   obtain⟨j,hj⟩:∃ j,j=n-1-x:=⟨_,rfl⟩
   have hjn:j<n:=by omega
   obtain⟨v,hvv⟩:∃ v,v=vs.getD (n-1-x) 0:=⟨_,rfl⟩
   have hvp:v<p:=by rw[hvv];exact getD_lt HF.out.mp.pos HV.out _
   obtain⟨R0,hR0⟩:∃ R0,R0=(bat2 p vs pre).1:=⟨_,rfl⟩
   obtain⟨L,hL⟩:∃ L,L=(bat2 p vs pre).2:=⟨_,rfl⟩
   have hLn:L.length=n:=by rw[hL,bat2_length,HN.out]
   rw[<-hvv,<-hj]
   rw[<-hvv]at hcB
   rw[<-hR0,<-hL]at hC
   obtain⟨zn,hzn⟩:∃ zn,zn=(if v=0 then 0 else L.getD j 0*R0%p):=⟨_,rfl⟩
   have hsn:bat2 p vs (pre++[x])=(R0*facV v%p,L.set j zn):=by rw[bat2_snoc,<-HN.out,<-hj,<-hR0,<-hL,hzn];rw[hvv,hj]
   have hse:coefD n (pre++[x])=coefD n pre++[((2:Int),(j:Int),(0:Int))]:=by rw[coefD_snoc,hj]
   have HSn:=hid hsn
   have HSe:=hid hse
   obtain⟨y,hy⟩:∃ y,y=fm p v:=⟨_,rfl⟩
   obtain⟨u,hu⟩:∃ u,u=fm p R0:=⟨_,rfl⟩
   obtain⟨o,ho⟩:∃ o,o=fm p (L.getD j 0):=⟨_,rfl⟩
   obtain⟨m,hm⟩:∃ m,m=fm p (L.getD j 0*R0%p):=⟨_,rfl⟩
   obtain⟨z,hz⟩:∃ z,z=fm p zn:=⟨_,rfl⟩
   obtain⟨g,hg⟩:∃ g,g=fm p (facV v):=⟨_,rfl⟩
   obtain⟨u2,hu2⟩:∃ u2,u2=fm p (R0*facV v%p):=⟨_,rfl⟩
   obtain⟨kk,hkk⟩:∃ kk,kk=mk (zeroN y):=⟨_,rfl⟩
   have hyR:y<R256:=by rw[hy];exact Nat.lt_trans (fm_lt HF.out.mp.pos _) HF.out.mp.lt
   have hzz:z=if zeroN y then 0 else m:=by
    rw[hz,hzn,hm]
    unfold zeroN
    by_cases h0:v=0
    ·rw[if_pos h0,if_pos (by rw[hy,h0,fm_zero];decide),fm_zero]
    rw[if_neg h0,if_neg]
    intro h1
    simp only[decide_eq_true_eq]at h1
    exact h0 (fm_inj HF.out.mp hvp HF.out.mp.pos ((hy.symm.trans h1).trans (fm_zero p).symm))
   have HIz:=hid (show ∀ W,Calls Tryz.prog 144 #[V y] W fun x' w'=>x'=.returned (.int .u64 kk)/\Off (fun _=>False) W w' from fun W=>by rw[hkk];exact miszero_any y hyR W)
   have HCh:=hid (show ∀ W,Calls Tryz.prog 143 #[.int .u64 kk,.agg #[.int .u64 0,.int .u64 0,.int .u64 0,.int .u64 0],V m] W fun x' w'=>x'=.returned (V z)/\Off (fun _=>False) W w' from fun W=>by
    have h:=mchoose_any kk (by rw[hkk];exact mk_word _) 0 m W
    rw[hkk,selN_mk,<-hzz,<-hkk,lit_small 0 (by decide)]at h
    exact h)
   have HMo:=hid (show ∀ W,Calls Tryz.prog 109 #[FV id p i0 r s,V o,V u] W fun x' w'=>x'=.returned (V m)/\Off (fun _=>False) W w' from fun W=>by rw[ho,hu,hm];exact HM.out _ _ W)
   have HFc:=hid (show ∀ W,Calls Tryz.prog 141 #[FV id p i0 r s,V y] W fun x' w'=>x'=.returned (V g)/\Off (fun _=>False) W w' from fun W=>by rw[hy,hg];exact HFa.out v hvp W)
   have HMu:=hid (show ∀ W,Calls Tryz.prog 109 #[FV id p i0 r s,V u,V g] W fun x' w'=>x'=.returned (V u2)/\Off (fun _=>False) W w' from fun W=>by rw[hu,hg,hu2];exact HM.out _ _ W)
   rw[<-hy]
   rw[<-hy]at hcB
   rw[<-hu]at hC
   have HLs:=hid (show((L.set j zn).map (fm p))=(L.map (fm p)).set j z by rw[List.map_set,hz])
   have HZ2:=hid hu2
   have hC:=hC.typed
   obtain⟨S',hS'⟩:∃ S':Nat->Prop,S'=fun k=>S0' k/\Typed W k:=⟨_,rfl⟩
   have hBS:¬S' B:=by rw[hS'];exact fun c=>not_typed hcB c.2
   rw[<-hS']at hC
   have hLl:(L.map (fm p)).length=n:=by rw[List.length_map,hLn]
   have hoj:(L.map (fm p))[j]?=some o:=by
    rw[ho,<-getD_fm,List.getD_eq_getElem?_getD,List.getElem?_eq_getElem (by omega)];rfl
   obtain⟨L1,hL1⟩:∃ L1,L1=L.map (fm p):=⟨_,rfl⟩
   rw[<-hL1]at hC HLs hLl hoj
   have HOj:=hid hoj
   have hnote:=CallsIn.inRound l (callsIn_wide (n:=3-1-1-1).2 (note_ext q (ext q es2 (coefD n pre)) S' W hC.tp (by have:=ext_le q es2 (coefD n pre);rw[coefD_length]at this;omega) ((2:Int),(j:Int),(0:Int))))
   have HC:=hid hC
   have HcB:=hid hcB
   have HKd:=hid hKd
   have k0:W.cell? ⟨w.heap.size,0,none⟩=some (.pointer q):=cell_of_heap hC.tb 0
   clear hC hcB hS' hL1 hu hg hy hz hR0 hL hLn hvv hj hsn hse hzn ho hm hu2 hkk hyR hzz hoj hKd hst
   gi_wp2
   refine hnote.mono ?_
   rintro r1 W1 ⟨rfl,hN,hO1⟩
   clear k0 hnote
   obtain⟨S2,hC2⟩:=HC.out.note HB2.out hO1 hN
   rw[ext_ext,<-HSe.out]at hC2
   have hE1:=hO1.heap HcB.out hBS
   have hjI:(j:Int)<(n:Int):=by omega
   have HKd1:=hid (hO1.others _ _ HKd.out rfl)
   have HC2:=hid hC2
   have HE1:=hid hE1
   have HK1:=hid hO1.keeps
   have HBB:=hid HB2.out
   have HK16:Hid (∀ W,Off (fun _=>False) W1 W->(W.cell? ⟨b1,0,none⟩=some (.int .i64 id)/\W.cell? ⟨b1,1,none⟩=some (.int .u64 (wd p 0))/\W.cell? ⟨b1,2,none⟩=some (.int .u64 (wd p 1))/\W.cell? ⟨b1,3,none⟩=some (.int .u64 (wd p 2))/\W.cell? ⟨b1,4,none⟩=some (.int .u64 (wd p 3))/\W.cell? ⟨b1,5,none⟩=some (.int .u64 i0)/\W.cell? ⟨b1,6,none⟩=some (.int .u64 (wd r 0))/\W.cell? ⟨b1,7,none⟩=some (.int .u64 (wd r 1))/\W.cell? ⟨b1,8,none⟩=some (.int .u64 (wd r 2))/\W.cell? ⟨b1,9,none⟩=some (.int .u64 (wd r 3))/\W.cell? ⟨b1,10,none⟩=some (.int .u64 (wd s 0))/\W.cell? ⟨b1,11,none⟩=some (.int .u64 (wd s 1))/\W.cell? ⟨b1,12,none⟩=some (.int .u64 (wd s 2))/\W.cell? ⟨b1,13,none⟩=some (.int .u64 (wd s 3)))/\(W.cell? ⟨b3,0,none⟩=some (.slice (some ⟨arr,0,none⟩) n n))/\(W.cell? ⟨arr,j*4,none⟩=some (.int .u64 (wd o 0))/\W.cell? ⟨arr,j*4+1,none⟩=some (.int .u64 (wd o 1))/\W.cell? ⟨arr,j*4+2,none⟩=some (.int .u64 (wd o 2))/\W.cell? ⟨arr,j*4+3,none⟩=some (.int .u64 (wd o 3)))/\(W.cell? ⟨rb,0,none⟩=some (.int .u64 (wd u 0))/\W.cell? ⟨rb,1,none⟩=some (.int .u64 (wd u 1))/\W.cell? ⟨rb,2,none⟩=some (.int .u64 (wd u 2))/\W.cell? ⟨rb,3,none⟩=some (.int .u64 (wd u 3)))/\Off (fun _=>False) W1 W):=hid (fun W h=>⟨fv_cells (h.heap HC2.out.fb (fun c=>c)),cell_of_heap (h.heap HC2.out.sb (fun c=>c)) 0,NumsAt.cell (HC2.out.ars.off h (fun c=>c)) HOj.out,cells4 (h.heap HC2.out.pr (fun c=>c)),h⟩)
   clear hC2 hE1 hN hO1
   gi_wp2
   refine wpIn_region_inv (fun a0 l a' w'=>∃ (u51:Value) (u52:Value) (u53:Value) (u54:Value) (u55:Value) (u56:Value) (u57:Value) (u14:Value) (b14:Nat),a'=(Act.put (Act.put (Act.put (Act.put (Act.put (Act.put (Act.put (Act.put a0 (some 51) u51) (some 52) u52) (some 53) u53) (some 54) u54) (some 55) u55) (some 56) u56) (some 57) u57) (some 14) u14)/\Slot l 0 u51 (FV id p i0 r s)/\Slot l 1 u52 (.slice (some ⟨arr,0,none⟩) n n)/\Slot l 2 u53 (.int .i64 j)/\Slot l 3 u54 (.pointer (some ⟨arr,j*4,none⟩))/\Slot l 4 u55 (V o)/\Slot l 5 u56 (V u)/\Slot l 6 u57 (V m)/\Blk l 7 8 u14 b14 W1 w' (.cells #[.int .u64 0,.int .u64 0,.int .u64 0,.int .u64 0] 66) (.cells #[.int .u64 (wd m 0),.int .u64 (wd m 1),.int .u64 (wd m 2),.int .u64 (wd m 3)] 66)/\Off (fun _=>False) W1 w') (by kernel_rfl) (by kernel_rfl) (by kernel_rfl) ?_ ⟨?_,?_,?_,?_,?_,?_,?_,?_,?_,trivial⟩ ?_
   ·refine⟨?z51,?z52,?z53,?z54,?z55,?z56,?z57,?z14,0,?fr,Slot.start _ _ _,Slot.start _ _ _,Slot.start _ _ _,Slot.start _ _ _,Slot.start _ _ _,Slot.start _ _ _,Slot.start _ _ _,Blk.start _ _ _ _ _ _ _ _,(Off.refl _ W1).drew⟩
    case fr=>first | (simp only[XP];rfl) | simp only[XP]
   all_goals try (intro l a wr hI hl hd K' hK;obtain⟨u51,u52,u53,u54,u55,u56,u57,u14,b14,ha,s0,s1,s2,s3,s4,s5,s6,B7,hO⟩:=hI;simp only[XP]at ha)
   ·subst ha
    have hc:=HK16.out wr hO
    have p0:=hc.1.1
    have p1:=hc.1.2.1
    have p2:=hc.1.2.2.1
    have p3:=hc.1.2.2.2.1
    have p4:=hc.1.2.2.2.2.1
    have p5:=hc.1.2.2.2.2.2.1
    have p6:=hc.1.2.2.2.2.2.2.1
    have p7:=hc.1.2.2.2.2.2.2.2.1
    have p8:=hc.1.2.2.2.2.2.2.2.2.1
    have p9:=hc.1.2.2.2.2.2.2.2.2.2.1
    have p10:=hc.1.2.2.2.2.2.2.2.2.2.2.1
    have p11:=hc.1.2.2.2.2.2.2.2.2.2.2.2.1
    have p12:=hc.1.2.2.2.2.2.2.2.2.2.2.2.2.1
    have p13:=hc.1.2.2.2.2.2.2.2.2.2.2.2.2.2
    clear hc
    go_simp
    refine hK.out _ _ ⟨_,_,_,_,_,_,_,_,_,?_,Slot.new _ _ _,s1.keep rfl,s2.keep rfl,s3.keep rfl,s4.keep rfl,s5.keep rfl,s6.keep rfl,B7.keep (Off.refl _ wr) rfl rfl,hO⟩
    simp only[XP]
   ·subst ha
    have hc:=HK16.out wr hO
    have p0:=hc.2.1
    clear hc
    go_simp
    refine hK.out _ _ ⟨_,_,_,_,_,_,_,_,_,?_,s0.keep rfl,Slot.new _ _ _,s2.keep rfl,s3.keep rfl,s4.keep rfl,s5.keep rfl,s6.keep rfl,B7.keep (Off.refl _ wr) rfl rfl,hO⟩
    simp only[XP]
   ·subst ha
    go_simp
    refine hK.out _ _ ⟨_,_,_,_,_,_,_,_,_,?_,s0.keep rfl,s1.keep rfl,Slot.new _ _ _,s3.keep rfl,s4.keep rfl,s5.keep rfl,s6.keep rfl,B7.keep (Off.refl _ wr) rfl rfl,hO⟩
    simp only[XP]
   ·have q1:=s1 (hd 1 (by decide))
    have q2:=s2 (hd 2 (by decide))
    subst ha q1 q2
    go_simp
    refine hK.out _ _ ⟨_,_,_,_,_,_,_,_,_,?_,s0.keep rfl,s1.keep rfl,s2.keep rfl,Slot.new _ _ _,s4.keep rfl,s5.keep rfl,s6.keep rfl,B7.keep (Off.refl _ wr) rfl rfl,hO⟩
    simp only[XP]
   ·have q3:=s3 (hd 3 (by decide))
    subst ha q3
    have hc:=HK16.out wr hO
    have p0:=hc.2.2.1.1
    have p1:=hc.2.2.1.2.1
    have p2:=hc.2.2.1.2.2.1
    have p3:=hc.2.2.1.2.2.2
    clear hc
    go_simp
    refine hK.out _ _ ⟨_,_,_,_,_,_,_,_,_,?_,s0.keep rfl,s1.keep rfl,s2.keep rfl,s3.keep rfl,Slot.new _ _ _,s5.keep rfl,s6.keep rfl,B7.keep (Off.refl _ wr) rfl rfl,hO⟩
    simp only[XP]
   ·subst ha
    have hc:=HK16.out wr hO
    have p0:=hc.2.2.2.1.1
    have p1:=hc.2.2.2.1.2.1
    have p2:=hc.2.2.2.1.2.2.1
    have p3:=hc.2.2.2.1.2.2.2
    clear hc
    go_simp
    refine hK.out _ _ ⟨_,_,_,_,_,_,_,_,_,?_,s0.keep rfl,s1.keep rfl,s2.keep rfl,s3.keep rfl,s4.keep rfl,Slot.new _ _ _,s6.keep rfl,B7.keep (Off.refl _ wr) rfl rfl,hO⟩
    simp only[XP]
   ·have q0:=s0 (hd 0 (by decide))
    have q4:=s4 (hd 4 (by decide))
    have q5:=s5 (hd 5 (by decide))
    subst ha q0 q4 q5
    go_simp
    refine(held_inv (HMo.out wr) hO).mono ?_
    rintro e w1 ⟨rfl,hO1,hOW⟩
    go_wp2_with fail
    refine hK.out _ _ ⟨_,_,_,_,_,_,_,_,_,?_,s0.keep rfl,s1.keep rfl,s2.keep rfl,s3.keep rfl,s4.keep rfl,s5.keep rfl,Slot.new _ _ _,B7.keep hOW rfl rfl,hO1⟩
    simp only[XP]
   ·subst ha
    go_simp
    refine hK.out _ _ ⟨_,_,_,_,_,_,_,_,_,?_,s0.keep rfl,s1.keep rfl,s2.keep rfl,s3.keep rfl,s4.keep rfl,s5.keep rfl,s6.keep rfl,B7.make hl rfl hO,hO.alloc _⟩
    simp only[XP]
   ·have h7:=hd 7 (by decide)
    have q7:=B7.ptr h7
    have q6:=s6 (hd 6 (by decide))
    subst ha q7 q6
    obtain⟨⟨m0,m1,m2,m3⟩,fz,lt⟩:=zero_cells (B7.was h7 hl)
    go_simp
    refine hK.out _ _ ⟨_,_,_,_,_,_,_,_,_,?_,s0.keep rfl,s1.keep rfl,s2.keep rfl,s3.keep rfl,s4.keep rfl,s5.keep rfl,s6.keep rfl,B7.put hl h7 rfl rfl,setCells_in hO (fun c=>absurd c (Nat.not_lt.2 (B7.new h7))) [.int .u64 (wd m 0),.int .u64 (wd m 1),.int .u64 (wd m 2),.int .u64 (wd m 3)]⟩
    simp only[XP]
   intro l a wc hI hd
   obtain⟨u51,u52,u53,u54,u55,u56,u57,u14,b14,ha,s0,s1,s2,s3,s4,s5,s6,B7,hO⟩:=hI
   simp only[XP]at ha
   have q0:=s0 (hd 0 (by decide))
   have q1:=s1 (hd 1 (by decide))
   have q2:=s2 (hd 2 (by decide))
   have q3:=s3 (hd 3 (by decide))
   have q4:=s4 (hd 4 (by decide))
   have q5:=s5 (hd 5 (by decide))
   have q6:=s6 (hd 6 (by decide))
   have q7:=B7.ptr (hd 7 (by decide))
   have n14:wc.heap[b14]?=some (.cells #[.int .u64 (wd m 0),.int .u64 (wd m 1),.int .u64 (wd m 2),.int .u64 (wd m 3)] 66):=B7.now (hd 7 (by decide)) (hd 8 (by decide))
   have v14:=B7.new (hd 7 (by decide))
   subst ha q0 q1 q2 q3 q4 q5 q6 q7
   clear hd s0 s1 s2 s3 s4 s5 s6 B7
   obtain⟨W2,hW2⟩:∃ W2,W2=wc:=⟨_,rfl⟩
   subst hW2
   have hC3:=HC2.out.keep hO
   have hE2:=hO.heap HE1.out (fun c=>c)
   have HKd2:=hid (hO.others _ _ HKd1.out rfl)
   have HK2:=hid (HK1.out.trans hO.keeps)
   have hb14:lb2<b14:=by have:=HC2.out.src.1.lt;omega
   have HC3:=hid hC3
   have HE2:=hid hE2
   have HN14:=hid n14
   have HAr:=hid (show W2.heap[arr]?=some (.cells (flat4 L1).toArray 66 (0,0)) from hC3.ars)
   have HP:=hid (show ∀ W:World,W.heap[arr]?=some (.cells (flat4 L1).toArray 66 (0,0))->(W.setCells arr (j*4) (words4 z)).heap[arr]?=some (.cells (flat4 (L1.set j z)).toArray 66 (0,0)) from fun W h=>NumsAt.store h (by omega) z)
   have HK17:Hid (∀ W,Off (fun k=>k=arr) W2 W->(W.cell? ⟨b3,0,none⟩=some (.slice (some ⟨arr,0,none⟩) n n))/\(W.cell? ⟨B,0,none⟩=some (.int .u64 (wd y 0))/\W.cell? ⟨B,1,none⟩=some (.int .u64 (wd y 1))/\W.cell? ⟨B,2,none⟩=some (.int .u64 (wd y 2))/\W.cell? ⟨B,3,none⟩=some (.int .u64 (wd y 3)))/\(W.cell? ⟨b14,0,none⟩=some (.int .u64 (wd m 0))/\W.cell? ⟨b14,1,none⟩=some (.int .u64 (wd m 1))/\W.cell? ⟨b14,2,none⟩=some (.int .u64 (wd m 2))/\W.cell? ⟨b14,3,none⟩=some (.int .u64 (wd m 3)))/\Off (fun k=>k=arr) W2 W):=hid (fun W h=>⟨cell_of_heap (h.heap HC3.out.sb (by have:=HBB.out.c3;omega)) 0,cells4 (h.heap HE2.out (by have:=HBB.out.c3;have:=HBB.out.c4;have:=HBB.out.c5;omega)),cells4 (h.heap HN14.out (by have:=HBB.out.c3;have:=HBB.out.c4;have:=HBB.out.c5;omega)),h⟩)
   clear hC3 hE2 n14 v14 hO HC2 HE1 HK1 HKd1
   gi_wp2
   refine wpIn_region_inv (fun a0 l a' w'=>∃ (u58:Value) (u59:Value) (u60:Value) (u61:Value) (u62:Value) (u63:Value) (u64:Value) (u65:Value),a'=(Act.put (Act.put (Act.put (Act.put (Act.put (Act.put (Act.put (Act.put a0 (some 58) u58) (some 59) u59) (some 60) u60) (some 61) u61) (some 62) u62) (some 63) u63) (some 64) u64) (some 65) u65)/\Slot l 0 u58 (.slice (some ⟨arr,0,none⟩) n n)/\Slot l 1 u59 (.int .i64 j)/\Slot l 2 u60 (V y)/\Slot l 3 u61 (.int .u64 kk)/\Slot l 4 u62 (.agg #[.int .u64 0,.int .u64 0,.int .u64 0,.int .u64 0])/\Slot l 5 u63 (V m)/\Slot l 6 u64 (V z)/\Slot l 7 u65 (.pointer (some ⟨arr,j*4,none⟩))/\Old l 8 arr W2 w' (.cells (flat4 L1).toArray 66) (.cells (flat4 (L1.set j z)).toArray 66)/\Off (fun k=>k=arr) W2 w') (by kernel_rfl) (by kernel_rfl) (by kernel_rfl) ?_ ⟨?_,?_,?_,?_,?_,?_,?_,?_,?_,trivial⟩ ?_
   ·refine⟨?z58,?z59,?z60,?z61,?z62,?z63,?z64,?z65,?fr,Slot.start _ _ _,Slot.start _ _ _,Slot.start _ _ _,Slot.start _ _ _,Slot.start _ _ _,Slot.start _ _ _,Slot.start _ _ _,Slot.start _ _ _,Old.start HAr.out _ _,(Off.refl _ W2).drew⟩
    case fr=>first | (simp only[XP];rfl) | simp only[XP]
   all_goals try (intro l a wr hI hl hd K' hK;obtain⟨u58,u59,u60,u61,u62,u63,u64,u65,ha,s0,s1,s2,s3,s4,s5,s6,s7,O0,hO⟩:=hI;simp only[XP]at ha)
   ·subst ha
    have hc:=HK17.out wr hO
    have p0:=hc.1
    clear hc
    go_simp
    refine hK.out _ _ ⟨_,_,_,_,_,_,_,_,?_,Slot.new _ _ _,s1.keep rfl,s2.keep rfl,s3.keep rfl,s4.keep rfl,s5.keep rfl,s6.keep rfl,s7.keep rfl,O0.keep (Off.refl _ wr) rfl,hO⟩
    simp only[XP]
   ·subst ha
    go_simp
    refine hK.out _ _ ⟨_,_,_,_,_,_,_,_,?_,s0.keep rfl,Slot.new _ _ _,s2.keep rfl,s3.keep rfl,s4.keep rfl,s5.keep rfl,s6.keep rfl,s7.keep rfl,O0.keep (Off.refl _ wr) rfl,hO⟩
    simp only[XP]
   ·subst ha
    have hc:=HK17.out wr hO
    have p0:=hc.2.1.1
    have p1:=hc.2.1.2.1
    have p2:=hc.2.1.2.2.1
    have p3:=hc.2.1.2.2.2
    clear hc
    go_simp
    refine hK.out _ _ ⟨_,_,_,_,_,_,_,_,?_,s0.keep rfl,s1.keep rfl,Slot.new _ _ _,s3.keep rfl,s4.keep rfl,s5.keep rfl,s6.keep rfl,s7.keep rfl,O0.keep (Off.refl _ wr) rfl,hO⟩
    simp only[XP]
   ·have q2:=s2 (hd 2 (by decide))
    subst ha q2
    go_simp
    refine(held_inv (HIz.out wr) hO).mono ?_
    rintro e w1 ⟨rfl,hO1,hOW⟩
    go_wp2_with fail
    refine hK.out _ _ ⟨_,_,_,_,_,_,_,_,?_,s0.keep rfl,s1.keep rfl,s2.keep rfl,Slot.new _ _ _,s4.keep rfl,s5.keep rfl,s6.keep rfl,s7.keep rfl,O0.keep hOW rfl,hO1⟩
    simp only[XP]
   ·subst ha
    go_simp
    refine hK.out _ _ ⟨_,_,_,_,_,_,_,_,?_,s0.keep rfl,s1.keep rfl,s2.keep rfl,s3.keep rfl,Slot.new _ _ _,s5.keep rfl,s6.keep rfl,s7.keep rfl,O0.keep (Off.refl _ wr) rfl,hO⟩
    simp only[XP]
   ·subst ha
    have hc:=HK17.out wr hO
    have p0:=hc.2.2.1.1
    have p1:=hc.2.2.1.2.1
    have p2:=hc.2.2.1.2.2.1
    have p3:=hc.2.2.1.2.2.2
    clear hc
    go_simp
    refine hK.out _ _ ⟨_,_,_,_,_,_,_,_,?_,s0.keep rfl,s1.keep rfl,s2.keep rfl,s3.keep rfl,s4.keep rfl,Slot.new _ _ _,s6.keep rfl,s7.keep rfl,O0.keep (Off.refl _ wr) rfl,hO⟩
    simp only[XP]
   ·have q3:=s3 (hd 3 (by decide))
    have q4:=s4 (hd 4 (by decide))
    have q5:=s5 (hd 5 (by decide))
    subst ha q3 q4 q5
    go_simp
    refine(held_inv (HCh.out wr) hO).mono ?_
    rintro e w1 ⟨rfl,hO1,hOW⟩
    go_wp2_with fail
    refine hK.out _ _ ⟨_,_,_,_,_,_,_,_,?_,s0.keep rfl,s1.keep rfl,s2.keep rfl,s3.keep rfl,s4.keep rfl,s5.keep rfl,Slot.new _ _ _,s7.keep rfl,O0.keep hOW rfl,hO1⟩
    simp only[XP]
   ·have q0:=s0 (hd 0 (by decide))
    have q1:=s1 (hd 1 (by decide))
    subst ha q0 q1
    go_simp
    refine hK.out _ _ ⟨_,_,_,_,_,_,_,_,?_,s0.keep rfl,s1.keep rfl,s2.keep rfl,s3.keep rfl,s4.keep rfl,s5.keep rfl,s6.keep rfl,Slot.new _ _ _,O0.keep (Off.refl _ wr) rfl,hO⟩
    simp only[XP]
   ·have q7:=s7 (hd 7 (by decide))
    have q6:=s6 (hd 6 (by decide))
    subst ha q7 q6
    have hZ:=(O0.was hl)
    obtain⟨m0,m1,m2,m3⟩:=NumsAt.cell hZ HOj.out
    have fz:=fun j=>NumsAt.frozen hZ j
    have lt:=heap_lt hZ
    clear hZ
    go_simp
    refine hK.out _ _ ⟨_,_,_,_,_,_,_,_,?_,s0.keep rfl,s1.keep rfl,s2.keep rfl,s3.keep rfl,s4.keep rfl,s5.keep rfl,s6.keep rfl,s7.keep rfl,O0.putAt (HP.out wr) hl,setCells_in_at hO (fun _=>rfl) (words4 z)⟩
    simp only[XP]
   intro l a wc hI hd
   obtain⟨u58,u59,u60,u61,u62,u63,u64,u65,ha,s0,s1,s2,s3,s4,s5,s6,s7,O0,hO⟩:=hI
   simp only[XP]at ha
   have q0:=s0 (hd 0 (by decide))
   have q1:=s1 (hd 1 (by decide))
   have q2:=s2 (hd 2 (by decide))
   have q3:=s3 (hd 3 (by decide))
   have q4:=s4 (hd 4 (by decide))
   have q5:=s5 (hd 5 (by decide))
   have q6:=s6 (hd 6 (by decide))
   have q7:=s7 (hd 7 (by decide))
   have r0:wc.heap[arr]?=some (.cells (flat4 (L1.set j z)).toArray 66):=O0.now (hd 8 (by decide))
   subst ha q0 q1 q2 q3 q4 q5 q6 q7
   clear hd s0 s1 s2 s3 s4 s5 s6 s7 O0
   obtain⟨W3,hW3⟩:∃ W3,W3=wc:=⟨_,rfl⟩
   subst hW3
   have hC4:=HC3.out.arr' HBB.out hO r0
   rw[<-HLs.out]at hC4
   have hE3:=hO.heap HE2.out (by have:=HBB.out.c3;have:=HBB.out.c4;have:=HBB.out.c5;omega)
   have HKd3:=hid (hO.others _ _ HKd2.out rfl)
   have HK3:=hid (HK2.out.trans hO.keeps)
   have HC4:=hid hC4
   have HE3:=hid hE3
   have HPr:=hid hC4.pr
   have HK18:Hid (∀ W,Off (fun k=>k=rb) W3 W->(W.cell? ⟨b1,0,none⟩=some (.int .i64 id)/\W.cell? ⟨b1,1,none⟩=some (.int .u64 (wd p 0))/\W.cell? ⟨b1,2,none⟩=some (.int .u64 (wd p 1))/\W.cell? ⟨b1,3,none⟩=some (.int .u64 (wd p 2))/\W.cell? ⟨b1,4,none⟩=some (.int .u64 (wd p 3))/\W.cell? ⟨b1,5,none⟩=some (.int .u64 i0)/\W.cell? ⟨b1,6,none⟩=some (.int .u64 (wd r 0))/\W.cell? ⟨b1,7,none⟩=some (.int .u64 (wd r 1))/\W.cell? ⟨b1,8,none⟩=some (.int .u64 (wd r 2))/\W.cell? ⟨b1,9,none⟩=some (.int .u64 (wd r 3))/\W.cell? ⟨b1,10,none⟩=some (.int .u64 (wd s 0))/\W.cell? ⟨b1,11,none⟩=some (.int .u64 (wd s 1))/\W.cell? ⟨b1,12,none⟩=some (.int .u64 (wd s 2))/\W.cell? ⟨b1,13,none⟩=some (.int .u64 (wd s 3)))/\(W.cell? ⟨B,0,none⟩=some (.int .u64 (wd y 0))/\W.cell? ⟨B,1,none⟩=some (.int .u64 (wd y 1))/\W.cell? ⟨B,2,none⟩=some (.int .u64 (wd y 2))/\W.cell? ⟨B,3,none⟩=some (.int .u64 (wd y 3)))/\Off (fun k=>k=rb) W3 W):=hid (fun W h=>⟨fv_cells (h.heap HC4.out.fb (by have:=HBB.out.c2;have:=HBB.out.c3;have:=HBB.out.c4;omega)),cells4 (h.heap HE3.out (by have:=HBB.out.c5;omega)),h⟩)
   clear hC4 hE3 hO r0 HC3 HE2 HK2 HKd2 HN14
   gi_wp2
   refine wpIn_region_inv (fun a0 l a' w'=>∃ (u66:Value) (u67:Value) (u68:Value) (u69:Value) (u70:Value) (u71:Value),a'=(Act.put (Act.put (Act.put (Act.put (Act.put (Act.put a0 (some 66) u66) (some 67) u67) (some 68) u68) (some 69) u69) (some 70) u70) (some 71) u71)/\Slot l 0 u66 (FV id p i0 r s)/\Slot l 1 u67 (V u)/\Slot l 2 u68 (FV id p i0 r s)/\Slot l 3 u69 (V y)/\Slot l 4 u70 (V g)/\Slot l 5 u71 (V u2)/\Old l 6 rb W3 w' (.cells #[.int .u64 (wd u 0),.int .u64 (wd u 1),.int .u64 (wd u 2),.int .u64 (wd u 3)] 66) (.cells #[.int .u64 (wd u2 0),.int .u64 (wd u2 1),.int .u64 (wd u2 2),.int .u64 (wd u2 3)] 66)/\Dep l 1 6/\Off (fun k=>k=rb) W3 w') (by kernel_rfl) (by kernel_rfl) (by kernel_rfl) ?_ ⟨?_,?_,?_,?_,?_,?_,?_,trivial⟩ ?_
   ·refine⟨?z66,?z67,?z68,?z69,?z70,?z71,?fr,Slot.start _ _ _,Slot.start _ _ _,Slot.start _ _ _,Slot.start _ _ _,Slot.start _ _ _,Slot.start _ _ _,Old.start HPr.out _ _,Dep.start _ _,(Off.refl _ W3).drew⟩
    case fr=>first | (simp only[XP];rfl) | simp only[XP]
   all_goals try (intro l a wr hI hl hd K' hK;obtain⟨u66,u67,u68,u69,u70,u71,ha,s0,s1,s2,s3,s4,s5,O0,P1_6,hO⟩:=hI;simp only[XP]at ha)
   ·subst ha
    have hc:=HK18.out wr hO
    have p0:=hc.1.1
    have p1:=hc.1.2.1
    have p2:=hc.1.2.2.1
    have p3:=hc.1.2.2.2.1
    have p4:=hc.1.2.2.2.2.1
    have p5:=hc.1.2.2.2.2.2.1
    have p6:=hc.1.2.2.2.2.2.2.1
    have p7:=hc.1.2.2.2.2.2.2.2.1
    have p8:=hc.1.2.2.2.2.2.2.2.2.1
    have p9:=hc.1.2.2.2.2.2.2.2.2.2.1
    have p10:=hc.1.2.2.2.2.2.2.2.2.2.2.1
    have p11:=hc.1.2.2.2.2.2.2.2.2.2.2.2.1
    have p12:=hc.1.2.2.2.2.2.2.2.2.2.2.2.2.1
    have p13:=hc.1.2.2.2.2.2.2.2.2.2.2.2.2.2
    clear hc
    go_simp
    refine hK.out _ _ ⟨_,_,_,_,_,_,?_,Slot.new _ _ _,s1.keep rfl,s2.keep rfl,s3.keep rfl,s4.keep rfl,s5.keep rfl,O0.keep (Off.refl _ wr) rfl,P1_6.keep rfl,hO⟩
    simp only[XP]
   ·subst ha
    have hZ:=O0.was (P1_6 hl)
    obtain⟨p0,p1,p2,p3⟩:=cells4 hZ
    clear hZ
    go_simp
    refine hK.out _ _ ⟨_,_,_,_,_,_,?_,s0.keep rfl,Slot.new _ _ _,s2.keep rfl,s3.keep rfl,s4.keep rfl,s5.keep rfl,O0.keep (Off.refl _ wr) rfl,P1_6.keep rfl,hO⟩
    simp only[XP]
   ·subst ha
    have hc:=HK18.out wr hO
    have p0:=hc.1.1
    have p1:=hc.1.2.1
    have p2:=hc.1.2.2.1
    have p3:=hc.1.2.2.2.1
    have p4:=hc.1.2.2.2.2.1
    have p5:=hc.1.2.2.2.2.2.1
    have p6:=hc.1.2.2.2.2.2.2.1
    have p7:=hc.1.2.2.2.2.2.2.2.1
    have p8:=hc.1.2.2.2.2.2.2.2.2.1
    have p9:=hc.1.2.2.2.2.2.2.2.2.2.1
    have p10:=hc.1.2.2.2.2.2.2.2.2.2.2.1
    have p11:=hc.1.2.2.2.2.2.2.2.2.2.2.2.1
    have p12:=hc.1.2.2.2.2.2.2.2.2.2.2.2.2.1
    have p13:=hc.1.2.2.2.2.2.2.2.2.2.2.2.2.2
    clear hc
    go_simp
    refine hK.out _ _ ⟨_,_,_,_,_,_,?_,s0.keep rfl,s1.keep rfl,Slot.new _ _ _,s3.keep rfl,s4.keep rfl,s5.keep rfl,O0.keep (Off.refl _ wr) rfl,P1_6.keep rfl,hO⟩
    simp only[XP]
   ·subst ha
    have hc:=HK18.out wr hO
    have p0:=hc.2.1.1
    have p1:=hc.2.1.2.1
    have p2:=hc.2.1.2.2.1
    have p3:=hc.2.1.2.2.2
    clear hc
    go_simp
    refine hK.out _ _ ⟨_,_,_,_,_,_,?_,s0.keep rfl,s1.keep rfl,s2.keep rfl,Slot.new _ _ _,s4.keep rfl,s5.keep rfl,O0.keep (Off.refl _ wr) rfl,P1_6.keep rfl,hO⟩
    simp only[XP]
   ·have q2:=s2 (hd 2 (by decide))
    have q3:=s3 (hd 3 (by decide))
    subst ha q2 q3
    go_simp
    refine(held_inv (HFc.out wr) hO).mono ?_
    rintro e w1 ⟨rfl,hO1,hOW⟩
    go_wp2_with fail
    refine hK.out _ _ ⟨_,_,_,_,_,_,?_,s0.keep rfl,s1.keep rfl,s2.keep rfl,s3.keep rfl,Slot.new _ _ _,s5.keep rfl,O0.keep hOW rfl,P1_6.keep rfl,hO1⟩
    simp only[XP]
   ·have q0:=s0 (hd 0 (by decide))
    have q1:=s1 (hd 1 (by decide))
    have q4:=s4 (hd 4 (by decide))
    subst ha q0 q1 q4
    go_simp
    refine(held_inv (HMu.out wr) hO).mono ?_
    rintro e w1 ⟨rfl,hO1,hOW⟩
    go_wp2_with fail
    refine hK.out _ _ ⟨_,_,_,_,_,_,?_,s0.keep rfl,s1.keep rfl,s2.keep rfl,s3.keep rfl,s4.keep rfl,Slot.new _ _ _,O0.keep hOW rfl,P1_6.keep rfl,hO1⟩
    simp only[XP]
   ·have q5:=s5 (hd 5 (by decide))
    subst ha q5
    have hZ:=(O0.was hl)
    obtain⟨m0,m1,m2,m3⟩:=cells4 hZ
    have fz:=fun j=>frozen_of_heap hZ j
    have lt:=heap_lt hZ
    clear hZ
    go_simp
    refine hK.out _ _ ⟨_,_,_,_,_,_,?_,s0.keep rfl,s1.keep rfl,s2.keep rfl,s3.keep rfl,s4.keep rfl,s5.keep rfl,O0.put hl rfl,Dep.at (hd 1 (by decide)),setCells_in hO (fun _=>rfl) [.int .u64 (wd u2 0),.int .u64 (wd u2 1),.int .u64 (wd u2 2),.int .u64 (wd u2 3)]⟩
    simp only[XP]
   intro l a wc hI hd
   obtain⟨u66,u67,u68,u69,u70,u71,ha,s0,s1,s2,s3,s4,s5,O0,P1_6,hO⟩:=hI
   simp only[XP]at ha
   have q0:=s0 (hd 0 (by decide))
   have q1:=s1 (hd 1 (by decide))
   have q2:=s2 (hd 2 (by decide))
   have q3:=s3 (hd 3 (by decide))
   have q4:=s4 (hd 4 (by decide))
   have q5:=s5 (hd 5 (by decide))
   have r0:wc.heap[rb]?=some (.cells #[.int .u64 (wd u2 0),.int .u64 (wd u2 1),.int .u64 (wd u2 2),.int .u64 (wd u2 3)] 66):=O0.now (hd 6 (by decide))
   subst ha q0 q1 q2 q3 q4 q5
   clear hd s0 s1 s2 s3 s4 s5 O0 P1_6
   have hC5:=HC4.out.put HBB.out hO r0
   have hk:=(HK3.out.trans hO.keeps).from W5.heap.size
   have hkd:=hO.others _ _ HKd3.out rfl
   clear r0 hO
   gi_wp2
   refine⟨hk,fun _=>hC5.src,S2,?_,by simp;omega,hkd⟩
   rw[HSn.out,<-HZ2.out]
   exact hC5
  case done2 =>
   rintro D2 ys W' hD2 rfl ⟨S0',hC,_,hKd⟩ hK2
   have hd:=bat2_done p vs
   rw[<-HN.out]at hd
   rw[hd,HEs2.out,HEs.out,ext_ext,ext_ext]at hC
   have hbe:coefU n (List.range n)++powE 64++coefD n (List.range n)=batE n:=by unfold batE;rw[if_neg (by omega)]
   rw[<-List.append_assoc,hbe]at hC
   have s0:W'.cell? ⟨b3,0,none⟩=some (.slice (some ⟨arr,0,none⟩) n n):=cell_of_heap hC.sb 0
   have HCf:=hid hC
   clear hC hd hbe hst
   gi_wp2
   have hKd2:(W'.putObj D2 (.deferred none)).heap[D]?=some (.deferred (some [])):=(World.putObj_heap_other (by omega)).trans hKd
   refine⟨by simp,.inl ⟨_,_,rfl,run_takeDeferred hK2,by simp,.inl ⟨_,_,rfl,run_takeDeferred hKd2,?_⟩⟩⟩
   have hk1:=HCf.out.kept (grownBy_putObj' W' D2 (.deferred none)) (fun r e=>by cases e;exact⟨by omega,_,hK2,rfl⟩)
   have hk2:=hk1.kept (grownBy_putObj' _ D (.deferred none)) (fun r e=>by cases e;exact⟨hwD,_,hKd2,rfl⟩)
   refine⟨_,results_tmp rfl _ _ _,⟨arr,rfl,by have:=HB2.out.c1;have:=HB2.out.c2;omega,hk2.ars,⟨S0',hk2.tp,fun b c=>(hk2.new b c).imp (fun c=>c) (fun h=>by have:=HB2.out.c1;have:=HB2.out.c2;have:=HB2.out.c3;omega)⟩,hk2.off⟩⟩
  case stop2 =>
   rintro D' c pre W _ _ h _
   exact h.elim
 case stop =>
  rintro D c pre W _ _ h _
  exact h.elim
end
end Go.Proofs.YtbkgghhngeibhaaGreatDoor
