/-
  If one element of one of more shares of a secret than the threshold is changed, they are not consistent, and the position of this share is a suspect: the statement of P18.1, P18.3 and P18.5. No condition.
-/
import Derived.Test.YtbkgghhngeibhaaGreatDoorCards
import Derived.Test.YtbkgghhngeibhaaGreatDoorChecked
import Derived.Test.YtbkgghhngeibhaaGreatDoorTie
import Derived.Test.YtbkgghhngeibhaaGreatDoorAudAlive
import Derived.Test.YtbkgghhngeibhaaGreatDoorPartM
import Derived.LaidMore
import Derived.ShutString
namespace Go.Proofs.YtbkgghhngeibhaaGreatDoor.auditRejects
open Lib (hid)
open Go.ChangeShapes Go.WideShapes Go.ChangeAt Go.RowKit
set_option linter.unusedVariables false

theorem own:ownKnob Tryz.prog.godebug=none:=by kernel_rfl
theorem laidOut:laidOutB Tryz.prog=true:=by kernel_rfl

set_option linter.unusedSimpArgs false
set_option maxRecDepth 100000 in
set_option maxHeartbeats 4000000 in
theorem walk (q0:Pms) (a0:Option Addr) (n0 cap0:Nat) (bs0:List Nat) (b0:Option Addr) (m0 dap0:Nat) (ys0:List Nat) (n1 o1:Nat) (n2:Nat) (w:World) (w0:q0.ok/\n0=bs0.length/\n0<=cap0/\Small bs0/\BsAt w a0 bs0 (fun k=>k<w.heap.size)/\m0=ys0.length/\m0<=dap0/\Small ys0/\BsAt w b0 ys0 (fun k=>k<w.heap.size)) (w1:n1<256/\o1<256) (w2:n2<R256) (hT:TabAt w) :
  Calls Tryz.prog 8 #[.agg #[.int .i64 q0.fd,.int .i64 q0.th,.int .i64 q0.sh,.int .i64 q0.ln,.slice a0 n0 cap0,.slice b0 m0 dap0],.agg #[.int .u8 n1,.int .u8 o1],V n2] w fun e w'=>e=.returned (.bool true)/\Off (fun _=>False) w w':=by
 have FAL:Hid (∀ W,TabAt W->Calls Tryz.prog 10 #[] W fun e w'=>e=.returned (.bool true)/\Off (fun _=>False) W w'):=hid (fun W hT=>alive18_any W hT)
 have HT:=hid hT
 clear hT
 obtain⟨hq,hn1,hc1,hs1,hb1,hn2,hc2,hs2,hb2⟩:=w0
 obtain⟨c,hc⟩:∃ c,c=lrg16 q0 n0 m0:=⟨_,rfl⟩
 have HZ:=hid (show c=0->lrg16 q0 n0 m0=0 from fun h=>hc.symm.trans h)
 have hc01:=lrg16_cases q0 n0 m0
 rw[<-hc]at hc01
 have FL:=hid (fun W=>large16_any q0 a0 b0 n0 m0 cap0 dap0 W)
 rw[<-hc]at FL
 clear hc
 by_cases hbig:c=1
 ·subst hbig
  obtain⟨fd,th,sh,ln⟩:=q0
  unfold Pms.val at FL
  dsimp only at FL ⊢
  clear hq hn1 hc1 hs1 hb1 hn2 hc2 hs2 hb2 HZ hc01
  obtain⟨W0,hW0⟩:∃ W0,W0=((w.alloc (.cells #[.int .i64 fd,.int .i64 th,.int .i64 sh,.int .i64 ln,.slice a0 n0 cap0,.slice b0 m0 dap0] 54)).alloc (.cells #[.int .u8 n1,.int .u8 o1] 61)).alloc (.cells #[.int .u64 (wd n2 0),.int .u64 (wd n2 1),.int .u64 (wd n2 2),.int .u64 (wd n2 3)] 63):=⟨_,rfl⟩
  have HO0:=hid (show Off (fun _=>False) w W0 by rw[hW0];exact(((Off.refl _ w).alloc _).alloc _).alloc _)
  have HG0:=hid (show W0.heap[w.heap.size]?=some (.cells #[.int .i64 fd,.int .i64 th,.int .i64 sh,.int .i64 ln,.slice a0 n0 cap0,.slice b0 m0 dap0] 54 (0,0)) by rw[hW0];exact heap_old' (heap_old' (heap_new' rfl _) _) _)
  have HA0:=hid (show W0.heap[w.heap.size+1]?=some (.cells #[.int .u8 n1,.int .u8 o1] 61 (0,0)) by rw[hW0];exact heap_old' (heap_new' (by simp) _) _)
  have HV0:=hid (show W0.heap[w.heap.size+1+1]?=some (.cells #[.int .u64 (wd n2 0),.int .u64 (wd n2 1),.int .u64 (wd n2 2),.int .u64 (wd n2 3)] 63 (0,0)) by rw[hW0];exact heap_new' (by simp) _)
  have HW0:=hid hW0
  clear hW0
  go_enter Tryz.func8,Tryz.ntmps8
  go_upto_region 1 with fail
  rw[<-HW0.out]
  have g:=HG0.out
  have p0:=cell_of_heap g 0
  have p1:=cell_of_heap g 1
  have p2:=cell_of_heap g 2
  have p3:=cell_of_heap g 3
  have p4:=cell_of_heap g 4
  have p5:=cell_of_heap g 5
  have lp:=heap_lt g
  clear g
  go_wp2_with fail
  refine(FL.out _).mono ?_
  rintro e u1 ⟨rfl,hO⟩
  have HO1:=hid (HO0.out.trans hO (fun _ _ c=>c))
  have HG1:=hid (hO.heap HG0.out (fun c=>c))
  clear hO
  clear p0 p1 p2 p3 p4 p5 lp
  go_wp2_with fail
  refine(FAL.out _ (HT.out.off HO1.out)).mono ?_
  rintro e u2 ⟨rfl,hO⟩
  have HO2:=hid (HO1.out.trans hO (fun _ _ c=>c))
  clear hO
  go_wp2
  go_ret
  exact⟨rfl,HO2.out⟩
 obtain rfl:c=0:=by omega
 have hz:=HZ.out rfl
 have hz2:=lrg16_zero hz
 clear hbig hc01 HZ
 by_cases h8:7<q0.sh
 ·obtain⟨fd,th,sh,ln⟩:=q0
  unfold Pms.val at FL
  dsimp only at FL h8 ⊢
  clear hq hn1 hc1 hs1 hb1 hn2 hc2 hs2 hb2 hz hz2
  obtain⟨W0,hW0⟩:∃ W0,W0=((w.alloc (.cells #[.int .i64 fd,.int .i64 th,.int .i64 sh,.int .i64 ln,.slice a0 n0 cap0,.slice b0 m0 dap0] 54)).alloc (.cells #[.int .u8 n1,.int .u8 o1] 61)).alloc (.cells #[.int .u64 (wd n2 0),.int .u64 (wd n2 1),.int .u64 (wd n2 2),.int .u64 (wd n2 3)] 63):=⟨_,rfl⟩
  have HO0:=hid (show Off (fun _=>False) w W0 by rw[hW0];exact(((Off.refl _ w).alloc _).alloc _).alloc _)
  have HG0:=hid (show W0.heap[w.heap.size]?=some (.cells #[.int .i64 fd,.int .i64 th,.int .i64 sh,.int .i64 ln,.slice a0 n0 cap0,.slice b0 m0 dap0] 54 (0,0)) by rw[hW0];exact heap_old' (heap_old' (heap_new' rfl _) _) _)
  have HA0:=hid (show W0.heap[w.heap.size+1]?=some (.cells #[.int .u8 n1,.int .u8 o1] 61 (0,0)) by rw[hW0];exact heap_old' (heap_new' (by simp) _) _)
  have HV0:=hid (show W0.heap[w.heap.size+1+1]?=some (.cells #[.int .u64 (wd n2 0),.int .u64 (wd n2 1),.int .u64 (wd n2 2),.int .u64 (wd n2 3)] 63 (0,0)) by rw[hW0];exact heap_new' (by simp) _)
  have HW0:=hid hW0
  clear hW0
  go_enter Tryz.func8,Tryz.ntmps8
  go_upto_region 1 with fail
  rw[<-HW0.out]
  have g:=HG0.out
  have p0:=cell_of_heap g 0
  have p1:=cell_of_heap g 1
  have p2:=cell_of_heap g 2
  have p3:=cell_of_heap g 3
  have p4:=cell_of_heap g 4
  have p5:=cell_of_heap g 5
  have lp:=heap_lt g
  clear g
  go_wp2_with fail
  refine(FL.out _).mono ?_
  rintro e u1 ⟨rfl,hO⟩
  have HO1:=hid (HO0.out.trans hO (fun _ _ c=>c))
  have HG1:=hid (hO.heap HG0.out (fun c=>c))
  clear hO
  clear p0 p1 p2 p3 p4 p5 lp
  have g:=HG1.out
  have p0:=cell_of_heap g 0
  have p1:=cell_of_heap g 1
  have p2:=cell_of_heap g 2
  have p3:=cell_of_heap g 3
  have p4:=cell_of_heap g 4
  have p5:=cell_of_heap g 5
  have lp:=heap_lt g
  clear g
  go_wp2_with fail
  refine(FAL.out _ (HT.out.off HO1.out)).mono ?_
  rintro e u2 ⟨rfl,hO⟩
  have HO2:=hid (HO1.out.trans hO (fun _ _ c=>c))
  clear hO
  go_wp2
  go_ret
  exact⟨rfl,HO2.out⟩
 by_cases h9:q0.sh<=q0.th
 ·obtain⟨fd,th,sh,ln⟩:=q0
  unfold Pms.val at FL
  dsimp only at FL h8 h9 ⊢
  clear hq hn1 hc1 hs1 hb1 hn2 hc2 hs2 hb2 hz hz2
  obtain⟨W0,hW0⟩:∃ W0,W0=((w.alloc (.cells #[.int .i64 fd,.int .i64 th,.int .i64 sh,.int .i64 ln,.slice a0 n0 cap0,.slice b0 m0 dap0] 54)).alloc (.cells #[.int .u8 n1,.int .u8 o1] 61)).alloc (.cells #[.int .u64 (wd n2 0),.int .u64 (wd n2 1),.int .u64 (wd n2 2),.int .u64 (wd n2 3)] 63):=⟨_,rfl⟩
  have HO0:=hid (show Off (fun _=>False) w W0 by rw[hW0];exact(((Off.refl _ w).alloc _).alloc _).alloc _)
  have HG0:=hid (show W0.heap[w.heap.size]?=some (.cells #[.int .i64 fd,.int .i64 th,.int .i64 sh,.int .i64 ln,.slice a0 n0 cap0,.slice b0 m0 dap0] 54 (0,0)) by rw[hW0];exact heap_old' (heap_old' (heap_new' rfl _) _) _)
  have HA0:=hid (show W0.heap[w.heap.size+1]?=some (.cells #[.int .u8 n1,.int .u8 o1] 61 (0,0)) by rw[hW0];exact heap_old' (heap_new' (by simp) _) _)
  have HV0:=hid (show W0.heap[w.heap.size+1+1]?=some (.cells #[.int .u64 (wd n2 0),.int .u64 (wd n2 1),.int .u64 (wd n2 2),.int .u64 (wd n2 3)] 63 (0,0)) by rw[hW0];exact heap_new' (by simp) _)
  have HW0:=hid hW0
  clear hW0
  go_enter Tryz.func8,Tryz.ntmps8
  go_upto_region 1 with fail
  rw[<-HW0.out]
  have g:=HG0.out
  have p0:=cell_of_heap g 0
  have p1:=cell_of_heap g 1
  have p2:=cell_of_heap g 2
  have p3:=cell_of_heap g 3
  have p4:=cell_of_heap g 4
  have p5:=cell_of_heap g 5
  have lp:=heap_lt g
  clear g
  go_wp2_with fail
  refine(FL.out _).mono ?_
  rintro e u1 ⟨rfl,hO⟩
  have HO1:=hid (HO0.out.trans hO (fun _ _ c=>c))
  have HG1:=hid (hO.heap HG0.out (fun c=>c))
  clear hO
  clear p0 p1 p2 p3 p4 p5 lp
  have g:=HG1.out
  have p0:=cell_of_heap g 0
  have p1:=cell_of_heap g 1
  have p2:=cell_of_heap g 2
  have p3:=cell_of_heap g 3
  have p4:=cell_of_heap g 4
  have p5:=cell_of_heap g 5
  have lp:=heap_lt g
  clear g
  go_wp2_with fail
  refine(FAL.out _ (HT.out.off HO1.out)).mono ?_
  rintro e u2 ⟨rfl,hO⟩
  have HO2:=hid (HO1.out.trans hO (fun _ _ c=>c))
  clear hO
  go_wp2
  go_ret
  exact⟨rfl,HO2.out⟩
 obtain⟨r,hr⟩:∃ r,r=polE q0 bs0 ys0:=⟨_,rfl⟩
 have FR:=hid (fun W (h:Off (fun _=>False) w W)=>refdealD_any q0 hq a0 b0 n0 m0 cap0 dap0 bs0 ys0 (fun k=>k<w.heap.size) W (fun k hk=>Nat.lt_of_lt_of_le hk h.size) hn1 hn2 hc1 hc2 hs1 hs2 (by omega) (by omega) (hb1.off h (fun _ _ _ c=>c)) (hb2.off h (fun _ _ _ c=>c)))
 rw[<-hr]at FR
 by_cases h0:r=0
 ·have hz0:polE q0 bs0 ys0=0:=hr.symm.trans h0
  have hpe:=polE_ok hz0
  have hpr:=prN_ok hpe.1
  have hpos:=modN_pos hpr.1
  obtain⟨n,hn⟩:∃ n:Nat,n=q0.sh.toNat:=⟨_,rfl⟩
  obtain⟨T,hT'⟩:∃ T:Nat,T=q0.T:=⟨_,rfl⟩
  have hth:q0.th=(T:Int):=by rw[hT'];unfold Pms.T;omega
  have hsh:q0.sh=(n:Int):=by omega
  have hT1:1<=T/\T<n/\n<=7:=by rw[hT',hn];unfold Pms.T;omega
  have hcn:q0.cn<=7:=by unfold Pms.cn cntI cntN;split <;> omega
  have FR':Hid (∀ W,Off (fun _=>False) w W->Calls Tryz.prog 27 #[q0.val,.slice a0 n0 cap0,.slice b0 m0 dap0] W fun e w'=>∃ v L,e=.returned (.tuple #[v,.int .i64 0])/\(RowS W.heap.size w' v L/\L.length=n/\L.map ShV.sh=shrsN q0 (modN q0.fd) (polsN q0 bs0 ys0)/\(∀ x∈L,PayRow W.heap.size w' x)/\L.Pairwise PlApart)/\Off (fun _=>False) W w'):=hid (fun W h=>(FR.out W h).mono (fun e w' ⟨v,he,h1,_,h3⟩=>by
   obtain⟨L,h4,h5,h6,h7⟩:=EvD.rows18 (h1 h0)
   refine⟨v,L,by rw[he,h0];rfl,⟨h4,by rw[h5,hn],?_,h7⟩,h3⟩
   rw[<-shrsN_red17]
   exact h6))
  obtain⟨Q,hQ⟩:∃ Q:Pms,Q=q0:=⟨_,rfl⟩
  have HQ:=hid (show polE Q bs0 ys0=0/\T=Q.T/\Q.cn<=7/\n=Q.sh.toNat/\Q.fd=q0.fd/\Q.ok from by rw[hQ];exact⟨hz0,hT',hcn,hn,rfl,hq⟩)
  have FR:Hid (∀ W,Off (fun _=>False) w W->Calls Tryz.prog 27 #[q0.val,.slice a0 n0 cap0,.slice b0 m0 dap0] W fun e w'=>∃ v L,e=.returned (.tuple #[v,.int .i64 0])/\(RowS W.heap.size w' v L/\L.length=n/\L.map ShV.sh=shrsN Q (modN Q.fd) (polsN Q bs0 ys0)/\(∀ x∈L,PayRow W.heap.size w' x)/\L.Pairwise PlApart)/\Off (fun _=>False) W w'):=by rw[hQ];exact FR'
  have HTn:=hid hT1
  clear FR' hr h0 hz0 hpe hpr hpos hn hT' hcn hT1 hQ hq hn1 hc1 hs1 hb1 hn2 hc2 hs2 hb2 hz hz2
  obtain⟨fd,th,sh,ln⟩:=q0
  dsimp only at hth hsh HQ h8 h9
  have HTh:=hid (And.intro hth hsh)
  clear hth hsh
  unfold Pms.val at FL FR
  dsimp only at FL FR ⊢
  obtain⟨W0,hW0⟩:∃ W0,W0=((w.alloc (.cells #[.int .i64 fd,.int .i64 th,.int .i64 sh,.int .i64 ln,.slice a0 n0 cap0,.slice b0 m0 dap0] 54)).alloc (.cells #[.int .u8 n1,.int .u8 o1] 61)).alloc (.cells #[.int .u64 (wd n2 0),.int .u64 (wd n2 1),.int .u64 (wd n2 2),.int .u64 (wd n2 3)] 63):=⟨_,rfl⟩
  have HO0:=hid (show Off (fun _=>False) w W0 by rw[hW0];exact(((Off.refl _ w).alloc _).alloc _).alloc _)
  have HG0:=hid (show W0.heap[w.heap.size]?=some (.cells #[.int .i64 fd,.int .i64 th,.int .i64 sh,.int .i64 ln,.slice a0 n0 cap0,.slice b0 m0 dap0] 54 (0,0)) by rw[hW0];exact heap_old' (heap_old' (heap_new' rfl _) _) _)
  have HA0:=hid (show W0.heap[w.heap.size+1]?=some (.cells #[.int .u8 n1,.int .u8 o1] 61 (0,0)) by rw[hW0];exact heap_old' (heap_new' (by simp) _) _)
  have HV0:=hid (show W0.heap[w.heap.size+1+1]?=some (.cells #[.int .u64 (wd n2 0),.int .u64 (wd n2 1),.int .u64 (wd n2 2),.int .u64 (wd n2 3)] 63 (0,0)) by rw[hW0];exact heap_new' (by simp) _)
  have HW0:=hid hW0
  clear hW0
  go_enter Tryz.func8,Tryz.ntmps8
  go_upto_region 1 with fail
  rw[<-HW0.out]
  have g:=HG0.out
  have p0:=cell_of_heap g 0
  have p1:=cell_of_heap g 1
  have p2:=cell_of_heap g 2
  have p3:=cell_of_heap g 3
  have p4:=cell_of_heap g 4
  have p5:=cell_of_heap g 5
  have lp:=heap_lt g
  clear g
  go_wp2_with fail
  refine(FL.out _).mono ?_
  rintro e u1 ⟨rfl,hO⟩
  have HO1:=hid (HO0.out.trans hO (fun _ _ c=>c))
  have HG1:=hid (hO.heap HG0.out (fun c=>c))
  have HA1:=hid (hO.heap HA0.out (fun c=>c))
  have HV1:=hid (hO.heap HV0.out (fun c=>c))
  clear hO
  clear p0 p1 p2 p3 p4 p5 lp
  have g:=HG1.out
  have p0:=cell_of_heap g 0
  have p1:=cell_of_heap g 1
  have p2:=cell_of_heap g 2
  have p3:=cell_of_heap g 3
  have p4:=cell_of_heap g 4
  have p5:=cell_of_heap g 5
  have lp:=heap_lt g
  clear g
  go_wp2_with fail
  refine(FR.out _ HO1.out).mono ?_
  rintro e u2 ⟨v2,L,rfl,⟨hR,hLl,hLm,hPr,hAp⟩,hO⟩
  have HO2:=hid (HO1.out.trans hO (fun _ _ c=>c))
  have HO02:=hid (show Off (fun _=>False) u1 u2 from hO)
  have HG2:=hid (hO.heap HG1.out (fun c=>c))
  have hn0:0<n:=by have:=HTn.out;omega
  obtain⟨g,cL,rfl,hBg,hgl⟩:=hR.form (by rw[hLl];exact hn0)
  rw[hLl]at hR ⊢
  have hpll:∀ z∈L,z.sh.pl.length=Q.cn:=fun z hz=>by
   have hm:z.sh∈L.map ShV.sh:=List.mem_map.2 ⟨z,hz,rfl⟩
   rw[hLm]at hm
   obtain⟨i,_,e⟩:=List.mem_map.1 hm
   rw[<-e]
   show(payN _ _ _).length=_
   unfold payN
   rw[List.length_map,polsN_length]
  have hnl:n=L.length:=hLl.symm
  obtain⟨y0,hy0⟩:∃ x,L[0]?=some x:=⟨_,List.getElem?_eq_getElem (by omega)⟩
  have HY0:=hid (And.intro hy0 (hpll y0 (List.mem_of_getElem? hy0)))
  have HC0:=hid (show u2.cell? ⟨g,4,none⟩=some (.slice y0.pa y0.sh.pl.length y0.pc) from by have h:=(row_cells18 hR hnl hy0).2.2.2.2;simp only[Nat.zero_mul,Nat.zero_add]at h;exact h)
  obtain⟨B,hB⟩:∃ B,B=u1.heap.size:=⟨_,rfl⟩
  have HBw:=hid (show w.heap.size<=B from by rw[hB];exact HO1.out.size)
  rw[<-hB]at hR hPr hBg
  have HR:=hid hR
  have HLm:=hid hLm
  have HPay:=hid hPr
  have HAp:=hid hAp
  have HPl:=hid hpll
  have HNL:=hid hnl
  have HGl:=hid hgl
  have hn0i:(0:Int)<(n:Int):=by omega
  clear hO hR hLl hLm hPr hAp hB hBg hgl hy0 hpll hnl
  clear p0 p1 p2 p3 p4 p5 lp
  have c4:=HC0.out
  rw[HY0.out.2]at c4
  have lg4:=World.block_lt_of_cell? u2 _ c4
  by_cases hc0:Q.cn=0
  ·rw[hc0]at c4
   clear hc0
   go_wp2_with fail
   refine(FAL.out _ (HT.out.off HO2.out)).mono ?_
   rintro e u3 ⟨rfl,hO⟩
   have HO3:=hid (HO2.out.trans hO (fun _ _ c=>c))
   clear hO
   go_wp2
   go_ret
   exact⟨rfl,HO3.out⟩
  obtain⟨cn,hcn⟩:∃ cn,cn=Q.cn:=⟨_,rfl⟩
  rw[<-hcn]at c4 hc0
  have hc0i:((cn:Int)==0)=false:=by simp;omega
  have hc0j:¬(cn:Int)=0:=by omega
  have HCn:=hid (show cn=Q.cn/\0<cn from⟨hcn,by omega⟩)
  obtain⟨i,hi⟩:∃ i,i=n1%n:=⟨_,rfl⟩
  have hin:i<n:=by rw[hi];exact Nat.mod_lt _ hn0
  obtain⟨k,hk⟩:∃ k,k=o1%cn:=⟨_,rfl⟩
  have hkc:k<cn:=by rw[hk];exact Nat.mod_lt _ (by omega)
  obtain⟨x,hx⟩:∃ x,L[i]?=some x:=⟨_,List.getElem?_eq_getElem (by rw[<-HNL.out];exact hin)⟩
  have hxm:=List.mem_of_getElem? hx
  have hxl:x.sh.pl.length=cn:=by rw[hcn];exact HPl.out x hxm
  obtain⟨gp,hgp,hBp,hgpl⟩:=(HPay.out x hxm).form (by rw[hxl];omega)
  obtain⟨xc,hxc⟩:∃ c,c=x.pc:=⟨_,rfl⟩
  obtain⟨xk,hxk⟩:∃ z,x.sh.pl[k]?=some z:=⟨_,List.getElem?_eq_getElem (by rw[hxl];exact hkc)⟩
  obtain⟨p,hp⟩:∃ p,p=modN fd:=⟨_,rfl⟩
  have hpQ:modN Q.fd=p:=by rw[hp,HQ.out.2.2.2.2.1]
  obtain⟨M,hM⟩:∃ M:List Sh,M=L.map ShV.sh:=⟨_,rfl⟩
  have hMn:n=M.length:=by rw[hM,List.length_map];exact HNL.out
  have hsome:SomeS Q bs0 ys0 M:=⟨⟨M,by rw[hM,HLm.out],List.Sublist.refl _⟩,by rw[<-hMn,<-HQ.out.2.1];have:=HTn.out;omega⟩
  have hsx:M[i]?=some x.sh:=by rw[hM,List.getElem?_map,hx];rfl
  have hfac:=hsome.facts HQ.out.1
  have hpos:=modN_pos hfac.2.2.2.2.2.1
  rw[hpQ]at hpos
  obtain⟨d,hd⟩:∃ d,d=n2%p:=⟨_,rfl⟩
  have hdp:d<p:=by rw[hd];exact Nat.mod_lt _ (by omega)
  have hxkp:xk<p:=by
   have h1:=(acc_hd hfac.1).all x.sh (List.mem_of_getElem? hsx)
   have h2:=h1.2.2.2.2 xk (List.mem_of_getElem? hxk)
   rw[show modN (hd0 M).fd=pJ M from rfl,hfac.2.1,hpQ]at h2
   exact h2
  obtain⟨y,hy⟩:∃ y,y=(xk+d)%p:=⟨_,rfl⟩
  have hchg:=hsome.chg HQ.out.1 hsx (k:=k) (by rw[<-hcn];exact hkc) (d:=d) (by rw[hpQ];exact hdp) hxk (by rw[<-hMn,<-HQ.out.2.1];exact HTn.out.2.1)
  rw[hpQ,<-hy]at hchg
  obtain⟨M',hM'⟩:∃ M',M'=setP M i x.sh (x.sh.pl.set k y):=⟨_,rfl⟩
  rw[<-hM']at hchg
  obtain⟨L',hL'⟩:∃ L',L'=L.set i (x.withP (x.sh.pl.set k y) x.pa x.pc):=⟨_,rfl⟩
  have hLM:L'.map ShV.sh=M':=by rw[hL',map_withP,hM',hM]
  have hplM:∀ z∈L',z.sh.pl.length=cn:=fun z hz=>by
   rw[hL']at hz
   rcases List.mem_or_eq_of_mem_set hz with hz | hz
   ·rw[hcn];exact HPl.out z hz
   rw[hz];show(x.sh.pl.set k y).length=cn;rw[List.length_set];exact hxl
  have FMo:=hid (fun W=>by have h:=mod_modulus fd W;rw[<-hp]at h;exact h)
  have FMd:=hid (fun W=>by have h:=mod_mod p n2 hpos.2 hpos.1 w2 W;rw[<-hd]at h;exact h)
  have FAd:=hid (fun W=>by have h:=mod_add p xk d hpos.2 hxkp hdp W;rw[<-hy]at h;exact h)
  have hdz:∀ W,(Op.equalIn 10000 63 (.agg #[.int .u64 (wd d 0),.int .u64 (wd d 1),.int .u64 (wd d 2),.int .u64 (wd d 3)]) (.agg #[.int .u64 0,.int .u64 0,.int .u64 0,.int .u64 0])).run Tryz.prog W=.ok (decide (d=0)) W:=fun W=>by
   have h:=equalIn_num (Nat.lt_trans hdp hpos.2) (show 0<R256 by decide) W
   rw[lit_small 0 (by decide)]at h
   exact h
  have r0:IntKind.i64.wrap (n1:Int)=(n1:Int):=by rw[IntKind.wrap_i64];have:=w1.1;omega
  have r1:¬(n:Int)=0:=by omega
  have r2:Int.tmod (n1:Int) (n:Int)=(i:Int):=by rw[hi];exact(Int.ofNat_tmod _ _).symm
  have r3:(n1:Int)%(n:Int)=(i:Int):=by rw[hi];exact(Int.natCast_emod _ _).symm
  have hn7:=HTn.out
  have hcn7:=HQ.out.2.2.1
  have r4:IntKind.i64.wrap (i:Int)=(i:Int):=by rw[IntKind.wrap_i64];omega
  have t0:IntKind.i64.wrap (o1:Int)=(o1:Int):=by rw[IntKind.wrap_i64];have:=w1.2;omega
  have t2:Int.tmod (o1:Int) (cn:Int)=(k:Int):=by rw[hk];exact(Int.ofNat_tmod _ _).symm
  have t3:(o1:Int)%(cn:Int)=(k:Int):=by rw[hk];exact(Int.natCast_emod _ _).symm
  have t4:IntKind.i64.wrap (k:Int)=(k:Int):=by rw[IntKind.wrap_i64];omega
  have hii:(i:Int)<(n:Int):=by omega
  have hki:(k:Int)<(cn:Int):=by omega
  have HIK:=hid (show i<n/\k<cn/\n<=7/\cn<=7 from⟨hin,hkc,by omega,by omega⟩)
  have HX:=hid (show L[i]?=some x/\x.sh.pl.length=cn/\x.pa=some ⟨gp,0,none⟩/\xc=x.pc/\x.sh.pl[k]?=some xk/\gp<u2.heap.size from⟨hx,hxl,hgp,hxc,hxk,hgpl⟩)
  have HCh:=hid hchg
  have HL':=hid (show L'=L.set i (x.withP (x.sh.pl.set k y) x.pa x.pc)/\L'.map ShV.sh=M'/\(∀ z∈L',z.sh.pl.length=cn)/\n=L'.length from⟨hL',hLM,hplM,by rw[hL',List.length_set];exact HNL.out⟩)
  have HBp:=hid hBp
  have HOk:=hid (show ∀ z∈L',z.sh.ok from fun z hz=>by
   have hok:∀ t∈L,t.sh.ok:=fun t ht=>by
    have hm:t.sh∈L.map ShV.sh:=List.mem_map.2 ⟨t,ht,rfl⟩
    rw[HLm.out]at hm
    obtain⟨j,hj,e⟩:=List.mem_map.1 hm
    have:=List.mem_range.1 hj
    rw[<-e]
    exact shrN_ok17 HQ.out.2.2.2.2.2 (by rw[hpQ];omega) (by rw[hpQ];exact hpos.2) _ (by have:=HQ.out.2.2.2.1;omega)
   rw[hL']at hz
   rcases List.mem_or_eq_of_mem_set hz with hz | hz
   ·exact hok z hz
   have h1:=hok x hxm
   rw[hz]
   refine⟨h1.1,h1.2.1,h1.2.2.1,h1.2.2.2.1,fun t ht=>?_⟩
   rcases List.mem_or_eq_of_mem_set ht with ht | ht
   ·exact h1.2.2.2.2 t ht
   rw[ht,hy];exact Nat.lt_trans (Nat.mod_lt _ (by omega)) hpos.2)
  have hg0:=HG2.out
  have p0:=cell_of_heap hg0 0
  have lp:=heap_lt hg0
  clear hg0 hi hin hk hkc hx hxm hxl hgp hBp hgpl hxc hxk hp hpQ hM hMn hsome hsx hfac hpos hd hdp hxkp hy hchg hL' hLM hM' hplM hn7 hcn7 hcn hc0 w1 w2
  go_upto_region 7 with (refine(FMo.out _).mono ?_;rintro e u3 ⟨rfl,hO⟩)
  obtain⟨W4,hW⟩:∃ W,W=u3.alloc (.cells #[.int .u64 (wd p 0),.int .u64 (wd p 1),.int .u64 (wd p 2),.int .u64 (wd p 3)] 63):=⟨_,rfl⟩
  obtain⟨bp,hb⟩:∃ b,b=u3.heap.size:=⟨_,rfl⟩
  have hO4:Off (fun _=>False) u2 W4:=by rw[hW];exact hO.alloc _
  have HPb:=hid (show W4.heap[bp]?=some (.cells #[.int .u64 (wd p 0),.int .u64 (wd p 1),.int .u64 (wd p 2),.int .u64 (wd p 3)] 63 (0,0)) by rw[hW,hb];exact heap_new' rfl _)
  rw[<-hW,<-hb]
  have HO4:=hid hO4
  have gV:=(HO02.out.trans hO4 (fun _ _ c=>c)).heap HV1.out (fun c=>c)
  obtain⟨v0,v1,v2,v3⟩:=cells4 gV
  have lv:=heap_lt gV
  obtain⟨x0,x1,x2,x3⟩:=cells4 HPb.out
  have lx:=heap_lt HPb.out
  clear hW hb hO4 hO gV p0 lp c4 lg4
  go_upto_region 8 with (refine(FMd.out _).mono ?_;rintro e u5 ⟨rfl,hO⟩)
  obtain⟨wq,hW⟩:∃ W,W=u5.alloc (.cells #[.int .u64 (wd d 0),.int .u64 (wd d 1),.int .u64 (wd d 2),.int .u64 (wd d 3)] 63):=⟨_,rfl⟩
  obtain⟨bd,hb⟩:∃ b,b=u5.heap.size:=⟨_,rfl⟩
  have hO6:Off (fun _=>False) W4 wq:=by rw[hW];exact hO.alloc _
  have HDq:=hid (show wq.heap[bd]?=some (.cells #[.int .u64 (wd d 0),.int .u64 (wd d 1),.int .u64 (wd d 2),.int .u64 (wd d 3)] 63 (0,0)) by rw[hW,hb];exact heap_new' rfl _)
  have HPq:=hid (hO6.heap HPb.out (fun c=>c))
  have HOq:=hid (HO4.out.trans hO6 (fun _ _ c=>c))
  have HBd:=hid (show u2.heap.size<=bd from by rw[hb];exact Nat.le_trans HO4.out.size hO.size)
  have HC4q:=hid (show wq.cell? ⟨g,4,none⟩=some (.slice y0.pa cn y0.pc) from by rw[HCn.out.1,<-HY0.out.2];exact HOq.out.cell HC0.out (fun c=>c))
  have HAq:=hid ((HO02.out.trans HOq.out (fun _ _ c=>c)).heap HA1.out (fun c=>c))
  rw[<-hW,<-hb]
  clear hW hb hO6 hO v0 v1 v2 v3 lv x0 x1 x2 x3 lx
  have cA0:=cell_of_heap HAq.out 0
  have cA1:=cell_of_heap HAq.out 1
  have lA:=heap_lt HAq.out
  have c4:=HC4q.out
  have l4:=World.block_lt_of_cell? wq _ c4
  go_region
  obtain⟨wd0,hwq⟩:∃ W,W=wq.drew:=⟨_,rfl⟩
  have hO:Off (fun _=>False) wq wd0:=by rw[hwq];exact(Off.refl _ wq).drew
  have HPr:=hid (hO.heap HPq.out (fun c=>c))
  have HDr:=hid (hO.heap HDq.out (fun c=>c))
  have HOr:=hid (HOq.out.trans hO (fun _ _ c=>c))
  rw[<-hwq]
  clear hO hwq HPq HDq HOq HC4q HAq cA0 cA1 lA c4 l4 wq
  obtain⟨wq,hwq⟩:∃ W,W=wd0:=⟨_,rfl⟩
  rw[<-hwq]at HPr HDr HOr ⊢
  clear hwq
  have HPq:=HPr
  have HDq:=HDr
  have hRq:=HR.out.off HOr.out
  have HCi:=hid (show wq.cell? ⟨g,i*5+4,none⟩=some (.slice (some ⟨gp,0,none⟩) cn xc) from by have h:=(row_cells18 hRq HNL.out HX.out.1).2.2.2.2;rw[HX.out.2.1,HX.out.2.2.1,<-HX.out.2.2.2.1]at h;exact h)
  have hPq:∀ z∈L,PayRow B wq z:=fun z hz=>own_off (HPay.out z hz) HOr.out
  have hPx:=hPq x (List.mem_of_getElem? HX.out.1)
  unfold PayRow at hPx
  rw[HX.out.2.1,HX.out.2.2.1]at hPx
  have HXq:=hid (show elAt wq gp (k*4) xk from by
   obtain⟨f0,f1,f2,f3⟩:=flat4_get x.sh.pl k xk HX.out.2.2.2.2.1
   have hk:=HIK.out.2.1
   exact⟨(World.ownsRow.cellAt hPx (k*4) (by omega)).trans f0,(World.ownsRow.cellAt hPx (k*4+1) (by omega)).trans f1,(World.ownsRow.cellAt hPx (k*4+2) (by omega)).trans f2,(World.ownsRow.cellAt hPx (k*4+3) (by omega)).trans f3⟩)
  have HFz:=hid (fun W (hO:Off (fun _=>False) wq W) t=>(World.ownsRow.frozenAt (own_off hPx hO) t))
  have HPut:=hid (fun W (hO:Off (fun _=>False) wq W)=>show RowS B (W.setCells gp (k*4) (words4 y)) (.slice (some ⟨g,0,none⟩) n cL) L'/\(∀ z∈L',PayRow B (W.setCells gp (k*4) (words4 y)) z)/\Off (fun t=>t=gp) wq (W.setCells gp (k*4) (words4 y)) from by
   have h:=rows_put (hRq.off hO) (fun z hz=>own_off (hPq z hz) hO) HAp.out HX.out.1 HX.out.2.2.1 (k:=k) (by rw[HX.out.2.1];exact HIK.out.2.1) y
   rw[<-HL'.out.1]at h
   exact⟨h.1,h.2,(hO.mono (fun _ _ c=>c.elim):Off (fun t=>t=gp) wq W).trans (setCells_off gp (words4 y) (k*4) W) (fun _ _ e=>e)⟩)
  clear hRq hPq hPx
  go_upto_region 9 with fail
  obtain⟨x87,hx⟩:∃ vv:Value,vv=.slice (some ⟨g,0,none⟩) n cL:=⟨_,rfl⟩
  have X87:=hid hx
  clear hx
  obtain⟨x88,hx⟩:∃ vv:Value,vv=.int .i64 i:=⟨_,rfl⟩
  have X88:=hid hx
  clear hx
  obtain⟨x89,hx⟩:∃ vv:Value,vv=.pointer (some ⟨g,i*5,none⟩):=⟨_,rfl⟩
  have X89:=hid hx
  clear hx
  obtain⟨x90,hx⟩:∃ vv:Value,vv=.pointer (some ⟨g,i*5+4,none⟩):=⟨_,rfl⟩
  have X90:=hid hx
  clear hx
  obtain⟨x91,hx⟩:∃ vv:Value,vv=.slice (some ⟨gp,0,none⟩) cn xc:=⟨_,rfl⟩
  have X91:=hid hx
  clear hx
  obtain⟨x92,hx⟩:∃ vv:Value,vv=.int .i64 k:=⟨_,rfl⟩
  have X92:=hid hx
  clear hx
  obtain⟨x93,hx⟩:∃ vv:Value,vv=V p:=⟨_,rfl⟩
  have X93:=hid hx
  clear hx
  obtain⟨x94,hx⟩:∃ vv:Value,vv=.slice (some ⟨g,0,none⟩) n cL:=⟨_,rfl⟩
  have X94:=hid hx
  clear hx
  obtain⟨x95,hx⟩:∃ vv:Value,vv=.int .i64 i:=⟨_,rfl⟩
  have X95:=hid hx
  clear hx
  obtain⟨x96,hx⟩:∃ vv:Value,vv=.pointer (some ⟨g,i*5,none⟩):=⟨_,rfl⟩
  have X96:=hid hx
  clear hx
  obtain⟨x97,hx⟩:∃ vv:Value,vv=.pointer (some ⟨g,i*5+4,none⟩):=⟨_,rfl⟩
  have X97:=hid hx
  clear hx
  obtain⟨x98,hx⟩:∃ vv:Value,vv=.slice (some ⟨gp,0,none⟩) cn xc:=⟨_,rfl⟩
  have X98:=hid hx
  clear hx
  obtain⟨x99,hx⟩:∃ vv:Value,vv=.int .i64 k:=⟨_,rfl⟩
  have X99:=hid hx
  clear hx
  obtain⟨x100,hx⟩:∃ vv:Value,vv=.pointer (some ⟨gp,k*4,none⟩):=⟨_,rfl⟩
  have X100:=hid hx
  clear hx
  obtain⟨x101,hx⟩:∃ vv:Value,vv=V xk:=⟨_,rfl⟩
  have X101:=hid hx
  clear hx
  obtain⟨x102,hx⟩:∃ vv:Value,vv=V d:=⟨_,rfl⟩
  have X102:=hid hx
  clear hx
  obtain⟨x103,hx⟩:∃ vv:Value,vv=V y:=⟨_,rfl⟩
  have X103:=hid hx
  clear hx
  obtain⟨x104,hx⟩:∃ vv:Value,vv=.pointer (some ⟨gp,k*4,none⟩):=⟨_,rfl⟩
  have X104:=hid hx
  clear hx
  refine wp_region_clo (fun a0 l a' w'=>a'=(fill a0 87 [sel (l 0) x87 (undef),sel (l 1) x88 (undef),sel (l 2) x89 (undef),sel (l 3) x90 (undef),sel (l 4) x91 (undef),sel (l 5) x92 (undef),sel (l 6) x93 (undef),sel (l 7) x94 (undef),sel (l 8) x95 (undef),sel (l 9) x96 (undef),sel (l 10) x97 (undef),sel (l 11) x98 (undef),sel (l 12) x99 (undef),sel (l 13) x100 (undef),sel (l 14) x101 (undef),sel (l 15) x102 (undef),sel (l 16) x103 (undef),sel (l 17) x104 (undef),undef,undef,undef,undef,undef,undef,undef,undef,undef,undef,undef,undef,undef,undef,undef,undef,undef,undef,undef,undef,undef,undef,undef,undef,undef,undef,undef,undef,undef,undef,undef,undef,undef,undef,undef,undef,undef,undef,undef,undef,undef,undef,undef,undef,undef,undef,undef,undef,undef,undef,undef,undef,undef,undef,undef,undef,undef])/\(l 18=false->Off (fun _=>False) wq w')/\(l 18=true->(RowS B w' (.slice (some ⟨g,0,none⟩) n cL) L'/\(∀ z∈L',PayRow B w' z)/\Off (fun t=>t=gp) wq w'))) (by kernel_rfl) (by kernel_rfl) ?_ ⟨?_,?_,?_,?_,?_,?_,?_,?_,?_,?_,?_,?_,?_,?_,?_,?_,?_,?_,?_,trivial⟩ ?_
  ·refine⟨?_,fun _=>(Off.refl _ wq).drew,fun h=>by cases h⟩
   simp only[XF,XP,sel_start]
   try rfl
  all_goals try (rintro l a wr ⟨ha,hA,hB⟩ hc hl hd K' hK)
  ·as_aux_lemma =>
    have hx:=X87.out;subst hx
    have gF:l 18=false:=hc.not (i:=18) hl 19 (by kernel_rfl)
    have hO:=hA gF
    have GF:=hid gF
    clear gF hA hB
    simp only[XF,XP]at ha
    subst ha
    rw[if_pos (by rfl)]
    go_simp
    refine Shut.out hK _ _ ⟨?_,fun _=>hO,fun h=>absurd (show(true:Bool)=false from(show l 18=true by rwa [upd_ne l (by decide)]at h).symm.trans GF.out) (by decide)⟩
    simp only[XF,XP,sel_new]
    try rfl
  ·as_aux_lemma =>
    have hx:=X88.out;subst hx
    have gF:l 18=false:=hc.not (i:=18) hl 19 (by kernel_rfl)
    have hO:=hA gF
    have GF:=hid gF
    clear gF hA hB
    simp only[XF,XP]at ha
    subst ha
    rw[if_pos (by rfl)]
    go_simp
    refine Shut.out hK _ _ ⟨?_,fun _=>hO,fun h=>absurd (show(true:Bool)=false from(show l 18=true by rwa [upd_ne l (by decide)]at h).symm.trans GF.out) (by decide)⟩
    simp only[XF,XP,sel_new]
    try rfl
  ·as_aux_lemma =>
    have d0:=hd 0 (by decide)
    have d1:=hd 1 (by decide)
    have hx:=X87.out;subst hx
    have hx:=X88.out;subst hx
    have hx:=X89.out;subst hx
    have gF:l 18=false:=hc.not (i:=18) hl 19 (by kernel_rfl)
    have hO:=hA gF
    have GF:=hid gF
    clear gF hA hB
    simp only[XF,XP,sel_of d0,sel_of d1]at ha
    subst ha
    rw[if_pos (by rfl)]
    go_simp
    refine Shut.out hK _ _ ⟨?_,fun _=>hO,fun h=>absurd (show(true:Bool)=false from(show l 18=true by rwa [upd_ne l (by decide)]at h).symm.trans GF.out) (by decide)⟩
    simp only[XF,XP,sel_new,sel_dep d0,sel_dep d1]
    try rfl
  ·as_aux_lemma =>
    have d2:=hd 2 (by decide)
    have hx:=X89.out;subst hx
    have hx:=X90.out;subst hx
    have gF:l 18=false:=hc.not (i:=18) hl 19 (by kernel_rfl)
    have hO:=hA gF
    have GF:=hid gF
    clear gF hA hB
    simp only[XF,XP,sel_of d2]at ha
    subst ha
    have cq:=hO.cell HCi.out (fun c=>c)
    have lq:=World.block_lt_of_cell? wr _ cq
    rw[if_pos (by rfl)]
    go_simp
    refine Shut.out hK _ _ ⟨?_,fun _=>hO,fun h=>absurd (show(true:Bool)=false from(show l 18=true by rwa [upd_ne l (by decide)]at h).symm.trans GF.out) (by decide)⟩
    simp only[XF,XP,sel_new,sel_dep d2]
    try rfl
  ·as_aux_lemma =>
    have d3:=hd 3 (by decide)
    have hx:=X90.out;subst hx
    have hx:=X91.out;subst hx
    have gF:l 18=false:=hc.not (i:=18) hl 19 (by kernel_rfl)
    have hO:=hA gF
    have GF:=hid gF
    clear gF hA hB
    simp only[XF,XP,sel_of d3]at ha
    subst ha
    have cq:=hO.cell HCi.out (fun c=>c)
    have lq:=World.block_lt_of_cell? wr _ cq
    rw[if_pos (by rfl)]
    go_simp
    refine Shut.out hK _ _ ⟨?_,fun _=>hO,fun h=>absurd (show(true:Bool)=false from(show l 18=true by rwa [upd_ne l (by decide)]at h).symm.trans GF.out) (by decide)⟩
    simp only[XF,XP,sel_new,sel_dep d3]
    try rfl
  ·as_aux_lemma =>
    have hx:=X92.out;subst hx
    have gF:l 18=false:=hc.not (i:=18) hl 19 (by kernel_rfl)
    have hO:=hA gF
    have GF:=hid gF
    clear gF hA hB
    simp only[XF,XP]at ha
    subst ha
    rw[if_pos (by rfl)]
    go_simp
    refine Shut.out hK _ _ ⟨?_,fun _=>hO,fun h=>absurd (show(true:Bool)=false from(show l 18=true by rwa [upd_ne l (by decide)]at h).symm.trans GF.out) (by decide)⟩
    simp only[XF,XP,sel_new]
    try rfl
  ·as_aux_lemma =>
    have hx:=X93.out;subst hx
    have gF:l 18=false:=hc.not (i:=18) hl 19 (by kernel_rfl)
    have hO:=hA gF
    have GF:=hid gF
    clear gF hA hB
    simp only[XF,XP]at ha
    subst ha
    have gq:=hO.heap HPq.out (fun c=>c)
    obtain⟨x0,x1,x2,x3⟩:=cells4 gq
    have lx:=heap_lt gq
    clear gq
    rw[if_pos (by rfl)]
    go_simp
    refine Shut.out hK _ _ ⟨?_,fun _=>hO,fun h=>absurd (show(true:Bool)=false from(show l 18=true by rwa [upd_ne l (by decide)]at h).symm.trans GF.out) (by decide)⟩
    simp only[XF,XP,sel_new]
    try rfl
  ·as_aux_lemma =>
    have hx:=X94.out;subst hx
    have gF:l 18=false:=hc.not (i:=18) hl 19 (by kernel_rfl)
    have hO:=hA gF
    have GF:=hid gF
    clear gF hA hB
    simp only[XF,XP]at ha
    subst ha
    rw[if_pos (by rfl)]
    go_simp
    refine Shut.out hK _ _ ⟨?_,fun _=>hO,fun h=>absurd (show(true:Bool)=false from(show l 18=true by rwa [upd_ne l (by decide)]at h).symm.trans GF.out) (by decide)⟩
    simp only[XF,XP,sel_new]
    try rfl
  ·as_aux_lemma =>
    have hx:=X95.out;subst hx
    have gF:l 18=false:=hc.not (i:=18) hl 19 (by kernel_rfl)
    have hO:=hA gF
    have GF:=hid gF
    clear gF hA hB
    simp only[XF,XP]at ha
    subst ha
    rw[if_pos (by rfl)]
    go_simp
    refine Shut.out hK _ _ ⟨?_,fun _=>hO,fun h=>absurd (show(true:Bool)=false from(show l 18=true by rwa [upd_ne l (by decide)]at h).symm.trans GF.out) (by decide)⟩
    simp only[XF,XP,sel_new]
    try rfl
  ·as_aux_lemma =>
    have d7:=hd 7 (by decide)
    have d8:=hd 8 (by decide)
    have hx:=X94.out;subst hx
    have hx:=X95.out;subst hx
    have hx:=X96.out;subst hx
    have gF:l 18=false:=hc.not (i:=18) hl 19 (by kernel_rfl)
    have hO:=hA gF
    have GF:=hid gF
    clear gF hA hB
    simp only[XF,XP,sel_of d7,sel_of d8]at ha
    subst ha
    rw[if_pos (by rfl)]
    go_simp
    refine Shut.out hK _ _ ⟨?_,fun _=>hO,fun h=>absurd (show(true:Bool)=false from(show l 18=true by rwa [upd_ne l (by decide)]at h).symm.trans GF.out) (by decide)⟩
    simp only[XF,XP,sel_new,sel_dep d7,sel_dep d8]
    try rfl
  ·as_aux_lemma =>
    have d9:=hd 9 (by decide)
    have hx:=X96.out;subst hx
    have hx:=X97.out;subst hx
    have gF:l 18=false:=hc.not (i:=18) hl 19 (by kernel_rfl)
    have hO:=hA gF
    have GF:=hid gF
    clear gF hA hB
    simp only[XF,XP,sel_of d9]at ha
    subst ha
    have cq:=hO.cell HCi.out (fun c=>c)
    have lq:=World.block_lt_of_cell? wr _ cq
    rw[if_pos (by rfl)]
    go_simp
    refine Shut.out hK _ _ ⟨?_,fun _=>hO,fun h=>absurd (show(true:Bool)=false from(show l 18=true by rwa [upd_ne l (by decide)]at h).symm.trans GF.out) (by decide)⟩
    simp only[XF,XP,sel_new,sel_dep d9]
    try rfl
  ·as_aux_lemma =>
    have d10:=hd 10 (by decide)
    have hx:=X97.out;subst hx
    have hx:=X98.out;subst hx
    have gF:l 18=false:=hc.not (i:=18) hl 19 (by kernel_rfl)
    have hO:=hA gF
    have GF:=hid gF
    clear gF hA hB
    simp only[XF,XP,sel_of d10]at ha
    subst ha
    have cq:=hO.cell HCi.out (fun c=>c)
    have lq:=World.block_lt_of_cell? wr _ cq
    rw[if_pos (by rfl)]
    go_simp
    refine Shut.out hK _ _ ⟨?_,fun _=>hO,fun h=>absurd (show(true:Bool)=false from(show l 18=true by rwa [upd_ne l (by decide)]at h).symm.trans GF.out) (by decide)⟩
    simp only[XF,XP,sel_new,sel_dep d10]
    try rfl
  ·as_aux_lemma =>
    have hx:=X99.out;subst hx
    have gF:l 18=false:=hc.not (i:=18) hl 19 (by kernel_rfl)
    have hO:=hA gF
    have GF:=hid gF
    clear gF hA hB
    simp only[XF,XP]at ha
    subst ha
    rw[if_pos (by rfl)]
    go_simp
    refine Shut.out hK _ _ ⟨?_,fun _=>hO,fun h=>absurd (show(true:Bool)=false from(show l 18=true by rwa [upd_ne l (by decide)]at h).symm.trans GF.out) (by decide)⟩
    simp only[XF,XP,sel_new]
    try rfl
  ·as_aux_lemma =>
    have d11:=hd 11 (by decide)
    have d12:=hd 12 (by decide)
    have hx:=X98.out;subst hx
    have hx:=X99.out;subst hx
    have hx:=X100.out;subst hx
    have gF:l 18=false:=hc.not (i:=18) hl 19 (by kernel_rfl)
    have hO:=hA gF
    have GF:=hid gF
    clear gF hA hB
    simp only[XF,XP,sel_of d11,sel_of d12]at ha
    subst ha
    rw[if_pos (by rfl)]
    go_simp
    refine Shut.out hK _ _ ⟨?_,fun _=>hO,fun h=>absurd (show(true:Bool)=false from(show l 18=true by rwa [upd_ne l (by decide)]at h).symm.trans GF.out) (by decide)⟩
    simp only[XF,XP,sel_new,sel_dep d11,sel_dep d12]
    try rfl
  ·as_aux_lemma =>
    have d13:=hd 13 (by decide)
    have hx:=X100.out;subst hx
    have hx:=X101.out;subst hx
    have gF:l 18=false:=hc.not (i:=18) hl 19 (by kernel_rfl)
    have hO:=hA gF
    have GF:=hid gF
    clear gF hA hB
    simp only[XF,XP,sel_of d13]at ha
    subst ha
    obtain⟨x0,x1,x2,x3⟩:=elAt.off HXq.out hO (fun c=>c)
    have lx:=World.block_lt_of_cell? wr _ x0
    rw[if_pos (by rfl)]
    go_simp
    refine Shut.out hK _ _ ⟨?_,fun _=>hO,fun h=>absurd (show(true:Bool)=false from(show l 18=true by rwa [upd_ne l (by decide)]at h).symm.trans GF.out) (by decide)⟩
    simp only[XF,XP,sel_new,sel_dep d13]
    try rfl
  ·as_aux_lemma =>
    have hx:=X102.out;subst hx
    have gF:l 18=false:=hc.not (i:=18) hl 19 (by kernel_rfl)
    have hO:=hA gF
    have GF:=hid gF
    clear gF hA hB
    simp only[XF,XP]at ha
    subst ha
    have gq:=hO.heap HDq.out (fun c=>c)
    obtain⟨x0,x1,x2,x3⟩:=cells4 gq
    have lx:=heap_lt gq
    clear gq
    rw[if_pos (by rfl)]
    go_simp
    refine Shut.out hK _ _ ⟨?_,fun _=>hO,fun h=>absurd (show(true:Bool)=false from(show l 18=true by rwa [upd_ne l (by decide)]at h).symm.trans GF.out) (by decide)⟩
    simp only[XF,XP,sel_new]
    try rfl
  ·as_aux_lemma =>
    have d6:=hd 6 (by decide)
    have d14:=hd 14 (by decide)
    have d15:=hd 15 (by decide)
    have hx:=X93.out;subst hx
    have hx:=X101.out;subst hx
    have hx:=X102.out;subst hx
    have hx:=X103.out;subst hx
    have gF:l 18=false:=hc.not (i:=18) hl 19 (by kernel_rfl)
    have hO:=hA gF
    have GF:=hid gF
    clear gF hA hB
    simp only[XF,XP,sel_of d6,sel_of d14,sel_of d15]at ha
    subst ha
    rw[if_pos (by rfl)]
    go_simp
    refine(FAd.out wr).mono ?_
    rintro e w1 ⟨rfl,hO1⟩
    go_wp2_with fail
    refine Shut.out hK _ _ ⟨?_,fun _=>(hO.trans hO1 (fun _ _ c=>c)),fun h=>absurd (show(true:Bool)=false from(show l 18=true by rwa [upd_ne l (by decide)]at h).symm.trans GF.out) (by decide)⟩
    simp only[XF,XP,sel_new,sel_dep d6,sel_dep d14,sel_dep d15]
    try rfl
  ·as_aux_lemma =>
    have d4:=hd 4 (by decide)
    have d5:=hd 5 (by decide)
    have hx:=X91.out;subst hx
    have hx:=X92.out;subst hx
    have hx:=X104.out;subst hx
    have gF:l 18=false:=hc.not (i:=18) hl 19 (by kernel_rfl)
    have hO:=hA gF
    have GF:=hid gF
    clear gF hA hB
    simp only[XF,XP,sel_of d4,sel_of d5]at ha
    subst ha
    rw[if_pos (by rfl)]
    go_simp
    refine Shut.out hK _ _ ⟨?_,fun _=>hO,fun h=>absurd (show(true:Bool)=false from(show l 18=true by rwa [upd_ne l (by decide)]at h).symm.trans GF.out) (by decide)⟩
    simp only[XF,XP,sel_new,sel_dep d4,sel_dep d5]
    try rfl
  ·as_aux_lemma =>
    have d17:=hd 17 (by decide)
    have d16:=hd 16 (by decide)
    have hx:=X104.out;subst hx
    have hx:=X103.out;subst hx
    have gF:l 18=false:=hl
    have hO:=hA gF
    have GF:=hid gF
    clear gF hA hB
    simp only[XF,XP,sel_of d17,sel_of d16]at ha
    subst ha
    obtain⟨x0,x1,x2,x3⟩:=elAt.off HXq.out hO (fun c=>c)
    have lx:=World.block_lt_of_cell? wr _ x0
    have fz:=fun t=>(HFz.out wr hO t)
    rw[if_pos (by rfl)]
    go_simp
    refine Shut.out hK _ _ ⟨?_,fun h=>absurd h (by rw[upd_same];decide),fun _=>HPut.out wr hO⟩
    simp only[XF,XP,sel_dep d17,sel_dep d16]
    try rfl
  rintro l a wc ⟨ha,hA,hB⟩ hd
  simp only[XF,XP,sel_of (hd 0 (by decide)),sel_of (hd 1 (by decide)),sel_of (hd 2 (by decide)),sel_of (hd 3 (by decide)),sel_of (hd 4 (by decide)),sel_of (hd 5 (by decide)),sel_of (hd 6 (by decide)),sel_of (hd 7 (by decide)),sel_of (hd 8 (by decide)),sel_of (hd 9 (by decide)),sel_of (hd 10 (by decide)),sel_of (hd 11 (by decide)),sel_of (hd 12 (by decide)),sel_of (hd 13 (by decide)),sel_of (hd 14 (by decide)),sel_of (hd 15 (by decide)),sel_of (hd 16 (by decide)),sel_of (hd 17 (by decide))]at ha
  subst ha
  have hPP:=hB (hd 18 (by decide))
  clear hA hB
  obtain⟨hR,hPr,hO⟩:=hPP
  have HDz:=hid (hO.heap HDq.out (fun e=>by have:=HBd.out;have:=HX.out.2.2.2.2.2;omega))
  have hOw:Off (fun _=>False) w wc:=(HO2.out.trans HOr.out (fun _ _ c=>c)).trans hO (fun t ht e=>by have:=HBw.out;have:=HBp.out;omega)
  have hshs:ShsAt wc (.slice (some ⟨g,0,none⟩) n cL) M' (fun t=>t<wc.heap.size):=by
   have h:=(SvsAt.wide hR.svs (S':=fun t=>t<wc.heap.size) (fun b hb _=>hb)).shs (S':=fun t=>t<wc.heap.size) (by rw[<-HL'.out.2.2.2];have:=HIK.out;unfold maxLen;omega) (fun z hz=>(hPr z hz).plAt (HOk.out z hz) (by rw[HL'.out.2.2.1 z hz];have:=HIK.out;omega)) (fun b _ c=>c)
   rw[HL'.out.2.1]at h
   exact h
  have HSh:=hid hshs
  have HOw:=hid hOw
  have HTw:=hid (HT.out.off hOw)
  have hMl:n=M'.length:=by rw[<-HL'.out.2.1,List.length_map];exact HL'.out.2.2.2
  have hMp:∀ s∈M',s.pl.length=cn:=fun s hs=>by
   rw[<-HL'.out.2.1]at hs
   obtain⟨z,hz,rfl⟩:=List.mem_map.1 hs
   exact HL'.out.2.2.1 z hz
  have hMp2:∀ s∈M',s.pl.length<=1000:=fun s hs=>by rw[hMp s hs];have:=HIK.out;omega
  obtain⟨z0,hz0⟩:∃ z,L'[0]?=some z:=⟨_,List.getElem?_eq_getElem (by rw[<-HL'.out.2.2.2];have:=HIK.out;omega)⟩
  have HC4:=hid (show wc.cell? ⟨g,4,none⟩=some (.slice z0.pa cn z0.pc) from by
   have h:=(row_cells18 hR HL'.out.2.2.2 hz0).2.2.2.2
   simp only[Nat.zero_mul,Nat.zero_add]at h
   rw[HL'.out.2.2.1 z0 (List.mem_of_getElem? hz0)]at h
   exact h)
  obtain⟨yy,hyy⟩:∃ b,b=decide (d=0):=⟨_,rfl⟩
  have hse:susE M'=0/\susV M'=susL M' n:=by
   have e1:susE M'=0:=by
    unfold susE
    rw[if_neg (fun c=>c HCh.out.ok),if_neg]
    rw[HCh.out.th,<-hMl,<-HQ.out.2.1]
    have:=HTn.out;omega
   exact⟨e1,by unfold susV;rw[if_neg (fun c=>c e1),<-hMl]⟩
  have hbs:(chsL M').length=cn:=by unfold chsL;rw[List.length_map,List.length_range,HCh.out.cn,HCn.out.1]
  have FC:=hid (fun W (hO:Off (fun _=>False) wc W)=>cons_aud M' (some ⟨g,0,none⟩) n cL hMl (by have:=HIK.out;omega) hMp2 none [] (fun _=>False) (fun t=>t<wc.heap.size) W (HSh.out.off hO (fun _ _ _ c=>c)) (fun b h=>⟨Nat.lt_of_lt_of_le h hO.size,fun c=>c⟩) (Tp.none W) (fun _=>Room.nil _) (HTw.out.off hO))
  have FK:=hid (fun W (hO:Off (fun _=>False) wc W)=>chks_aud M' (some ⟨g,0,none⟩) n cL hMl (by have:=HIK.out;omega) hMp2 none [] (fun _=>False) (fun t=>t<wc.heap.size) W (HSh.out.off hO (fun _ _ _ c=>c)) (fun b h=>⟨Nat.lt_of_lt_of_le h hO.size,fun c=>c⟩) (Tp.none W) (fun _=>Room.nil _) (HTw.out.off hO))
  have FS:=hid (fun W (hO:Off (fun _=>False) wc W)=>sus_aud M' (some ⟨g,0,none⟩) n cL hMl (by have:=HIK.out;omega) hMp2 none [] (fun _=>False) (fun t=>t<wc.heap.size) W (HSh.out.off hO (fun _ _ _ c=>c)) (fun b h=>⟨Nat.lt_of_lt_of_le h hO.size,fun c=>c⟩) (Tp.none W) (fun _=>Room.nil _) (HTw.out.off hO) (fun c=>c))
  rw[HCh.out.ok,HCh.out.con,show decide ((0:Nat)=0)=true from rfl,Bool.true_and,<-hyy]at FC
  rw[HCh.out.ok]at FK
  rw[hse.1,hse.2]at FS
  obtain⟨bs,hbs'⟩:∃ bs,bs=chsL M':=⟨_,rfl⟩
  have HBs:=hid (show bs.length=cn/\bs[k]?=some yy from⟨by rw[hbs'];exact hbs,by rw[hbs',hyy];exact HCh.out.atk⟩)
  rw[<-hbs']at FK
  obtain⟨ps,hps⟩:∃ ps,ps=posI (susL M' n):=⟨_,rfl⟩
  have HPs:=hid (show ps.length<=100000/\(i:Int)∈ps from⟨by rw[hps,posI_len];have:=susL_len M' n;have:=HIK.out;omega,by rw[hps];exact List.mem_map.2 ⟨i,HCh.out.sus n HIK.out.1,rfl⟩⟩)
  rw[<-hps]at FS
  rw[<-hyy]at hdz
  have hyb:(yy==yy)=true:=beq_self_eq_true yy
  have hnn:((cn:Int) != (cn:Int))=false:=by simp
  clear hR hPr hO hd hOw hshs hMl hMp hMp2 hz0 hyy hse hbs hbs' hps
  go_wp2_with fail
  refine(FC.out _ (Off.refl _ _)).mono ?_
  rintro e u6 ⟨rfl,_,_,hO⟩
  have HU6:=hid (show Off (fun _=>False) wc u6 from hO)
  clear hO FC
  go_wp2_with fail
  refine(FK.out _ HU6.out).mono ?_
  rintro e u7 ⟨v7,rfl,_,hv,hO⟩
  obtain⟨hv,_⟩:=hv (by trivial)
  obtain⟨va,vc,rfl,_⟩:=id hv
  rw[HBs.out.1]at hv ⊢
  have HV7:=hid hv
  have HU7:=hid (HU6.out.trans hO (fun _ _ c=>c))
  clear hO hv FK
  go_wp2_with fail
  refine(FS.out _ HU7.out).mono ?_
  rintro e u8 ⟨v8,rfl,hv,_,_,hO⟩
  have HI8:=hid hv
  have HV8:=hid (HV7.out.off hO)
  have HU8:=hid (HU7.out.trans hO (fun _ _ c=>c))
  have c4:=HU8.out.cell HC4.out (fun c=>c)
  have lq:=World.block_lt_of_cell? u8 _ c4
  have gd:=HU8.out.heap HDz.out (fun c=>c)
  obtain⟨d0,d1,d2,d3⟩:=cells4 gd
  have ld:=heap_lt gd
  clear hO hv FS gd
  go_wp2_with fail
  refine(FAL.out _ ((HT.out.off HOw.out).off HU8.out)).mono ?_
  rintro e u9 ⟨rfl,hO⟩
  have HI9:=hid (HI8.out.off hO)
  have hv9:=HV8.out.off hO
  obtain⟨b9,vb,vo,hb9,rfl,c9⟩:=hv9.at (k:=k) HIK.out.2.1
  rw[HBs.out.2]at hb9
  cases hb9
  have l9:=World.block_lt_of_cell? u9 _ c9
  have HU9:=hid (HU8.out.trans hO (fun _ _ c=>c))
  clear hO hv9 c4 lq d0 d1 d2 d3 ld
  go_wp2_with fail
  refine(contains18 ps HPs.out.1 (i:Int) HPs.out.2 v8 u9 HI9.out).mono ?_
  rintro e u10 ⟨rfl,hO⟩
  have HEnd:=hid (HOw.out.trans (HU9.out.trans hO (fun _ _ c=>c)) (fun _ _ c=>c))
  clear hO
  go_wp2
  go_ret
  exact⟨rfl,HEnd.out⟩
 have H0:=hid h0
 have k3:¬(r:Int)=0:=by omega
 have k2:((r:Int) != 0)=true:=by simp;omega
 clear hr hq hn1 hc1 hs1 hb1 hn2 hc2 hs2 hb2 hz hz2 h0
 obtain⟨fd,th,sh,ln⟩:=q0
 dsimp only at h8 h9
 unfold Pms.val at FL FR
 dsimp only at FL FR ⊢
 obtain⟨W0,hW0⟩:∃ W0,W0=((w.alloc (.cells #[.int .i64 fd,.int .i64 th,.int .i64 sh,.int .i64 ln,.slice a0 n0 cap0,.slice b0 m0 dap0] 54)).alloc (.cells #[.int .u8 n1,.int .u8 o1] 61)).alloc (.cells #[.int .u64 (wd n2 0),.int .u64 (wd n2 1),.int .u64 (wd n2 2),.int .u64 (wd n2 3)] 63):=⟨_,rfl⟩
 have HO0:=hid (show Off (fun _=>False) w W0 by rw[hW0];exact(((Off.refl _ w).alloc _).alloc _).alloc _)
 have HG0:=hid (show W0.heap[w.heap.size]?=some (.cells #[.int .i64 fd,.int .i64 th,.int .i64 sh,.int .i64 ln,.slice a0 n0 cap0,.slice b0 m0 dap0] 54 (0,0)) by rw[hW0];exact heap_old' (heap_old' (heap_new' rfl _) _) _)
 have HA0:=hid (show W0.heap[w.heap.size+1]?=some (.cells #[.int .u8 n1,.int .u8 o1] 61 (0,0)) by rw[hW0];exact heap_old' (heap_new' (by simp) _) _)
 have HV0:=hid (show W0.heap[w.heap.size+1+1]?=some (.cells #[.int .u64 (wd n2 0),.int .u64 (wd n2 1),.int .u64 (wd n2 2),.int .u64 (wd n2 3)] 63 (0,0)) by rw[hW0];exact heap_new' (by simp) _)
 have HW0:=hid hW0
 clear hW0
 go_enter Tryz.func8,Tryz.ntmps8
 go_upto_region 1 with fail
 rw[<-HW0.out]
 have g:=HG0.out
 have p0:=cell_of_heap g 0
 have p1:=cell_of_heap g 1
 have p2:=cell_of_heap g 2
 have p3:=cell_of_heap g 3
 have p4:=cell_of_heap g 4
 have p5:=cell_of_heap g 5
 have lp:=heap_lt g
 clear g
 go_wp2_with fail
 refine(FL.out _).mono ?_
 rintro e u1 ⟨rfl,hO⟩
 have HO1:=hid (HO0.out.trans hO (fun _ _ c=>c))
 have HG1:=hid (hO.heap HG0.out (fun c=>c))
 clear hO
 clear p0 p1 p2 p3 p4 p5 lp
 have g:=HG1.out
 have p0:=cell_of_heap g 0
 have p1:=cell_of_heap g 1
 have p2:=cell_of_heap g 2
 have p3:=cell_of_heap g 3
 have p4:=cell_of_heap g 4
 have p5:=cell_of_heap g 5
 have lp:=heap_lt g
 clear g
 go_wp2_with fail
 refine(FR.out _ HO1.out).mono ?_
 rintro e u2 ⟨v2,rfl,_,_,hO⟩
 have HO2:=hid (HO1.out.trans hO (fun _ _ c=>c))
 clear hO
 clear p0 p1 p2 p3 p4 p5 lp
 go_wp2_with fail
 refine(FAL.out _ (HT.out.off HO2.out)).mono ?_
 rintro e u3 ⟨rfl,hO⟩
 have HO3:=hid (HO2.out.trans hO (fun _ _ c=>c))
 clear hO
 go_wp2
 go_ret
 exact⟨rfl,HO3.out⟩

theorem door_met (os : Os) (args : Array Value) : laidMetH Tryz.prog [("sharecore/field.fields",Rows.laid_sharecore_field_fields)] ((World.doorLaid Tryz.prog 400 os).forCall (fun _ _ => 0) ⟨#[],args,[]⟩).memory :=
 laidMetH_of_parts3 (fuel:=8) (laidMet_of_run' 8 (by kernel_rfl) (by kernel_rfl)) (by kernel_rfl) (by kernel_rfl)

set_option maxRecDepth 100000 in
theorem lifted (os:Os) (started:os.Started) (H:Type) (enc:TypeId × Value->H) :
  ReturnsInHanded {} Tryz.checked os 8 .any (fun w args => (Rows.auditRejectsSpec.pre enc Tryz.prog Tryz.f8 [] false w args /\ laidMetH Tryz.prog [("sharecore/field.fields",Rows.laid_sharecore_field_fields)] w) /\ sizedMet enc Tryz.prog Tryz.f8 (OpenSpec.ofChange Rows.auditRejectsSpec) false w args)
   (Rows.auditRejectsSpec.post enc Tryz.prog Tryz.f8 false true false false):=by
 refine returnsInHanded_of_change_and (C := Tryz.checked) (X := fun w _ => laidMetH Tryz.prog [("sharecore/field.fields",Rows.laid_sharecore_field_fields)] w) (fun _ _ _ hh h => h.of_heap hh) own started (by kernel_rfl) Tryz.func8
  (ChangeSpec.witness_shaped (enc := enc) (C := Tryz.checked) (os := os) (X := fun w _ => laidMetH Tryz.prog [("sharecore/field.fields",Rows.laid_sharecore_field_fields)] w) false (World.doorLaid Tryz.prog 400 os) #[.agg #[.int .i64 0,.int .i64 0,.int .i64 0,.int .i64 0,.slice none 0 0,.slice none 0 0],.agg #[.int .u8 0,.int .u8 0],.agg #[.int .u64 0,.int .u64 0,.int .u64 0,.int .u64 0]] 8 rfl (World.shaped_of_RefB (by kernel_rfl) (by kernel_rfl)) (by kernel_rfl) (by kernel_rfl) (by kernel_rfl) (door_met os _)) ?_
 intro W base args ds gs before hval0 hW _ hsz hL _
 have hval:∀ (j:Nat) t v,Tryz.f8.params[j]?=some t->args[j]?=some v->Value.okWide Tryz.prog W .any base t v:=hval0
 have hW':=hW
 obtain⟨p,q,hA0,hV,rfl,hfz,hnd⟩:=hW
 have hA:DataW.TrodAll enc Tryz.prog W 0 (fun _=>true) true Tryz.f8.params.toList args.toList ds p:=hA0
 rw[Tryz.params8]at hA hval
 obtain⟨v0,vs0,d0,ds0,p0,q0,hargs,rfl,rfl,h0,r0⟩:=trodAll_cons hA
 obtain⟨v1,vs1,d1,ds1,p1,q1,rfl,rfl,rfl,h1,r1⟩:=trodAll_cons r0
 obtain⟨v2,vs2,d2,ds2,p2,q2,rfl,rfl,rfl,h2,r2⟩:=trodAll_cons r1
 obtain⟨rfl,rfl,rfl⟩:=trodAll_nil r2
 obtain rfl:args=#[v0,v1,v2]:=by cases args;simp_all
 obtain⟨rfl,rfl⟩:=trodVars_none hV
 have k0:=h0
 have lt0:∀ x∈p0,x.block<W.heap.size:=by obtain⟨m,hm⟩:=k0;exact DataW.trod_lt m _ _ _ hm
 obtain⟨q0,a0,n0,cap0,bs0,b0,m0,dap0,ys0,w0,rfl⟩:=open_secret (hval 0 54 v0 rfl rfl) h0
 have k1:=h1
 have lt1:∀ x∈p1,x.block<W.heap.size:=by obtain⟨m,hm⟩:=k1;exact DataW.trod_lt m _ _ _ hm
 obtain⟨n1,o1,w1,rfl⟩:=open_two8 (hval 1 61 v1 rfl rfl) h1
 have k2:=h2
 have lt2:∀ x∈p2,x.block<W.heap.size:=by obtain⟨m,hm⟩:=k2;exact DataW.trod_lt m _ _ _ hm
 obtain⟨n2,w2,rfl⟩:=open_vec (hval 2 63 v2 rfl rfl) h2
 have hT:=tab_of_laid hL
 clear hA0 hval0
 refine(walk q0 a0 n0 cap0 bs0 b0 m0 dap0 ys0 n1 o1 n2 W w0 w1 w2 hT).mono fun e W' ⟨he,hoff⟩=>?_
 have bel:Below W.heap.size W W':=hoff.below (Nat.le_refl _) (fun _ _ c=>c)
 subst he
 exact⟨_,rfl,_,_,_,[],_,[],hW',trodAll_mk1 (shut_bool Tryz.underlying4 _),(trodAll_cons_mk (Below.trod laidOut (by kernel_rfl) (of_decide_eq_true (by kernel_rfl)) k0 bel lt0) (trodAll_cons_mk (Below.trod laidOut (by kernel_rfl) (of_decide_eq_true (by kernel_rfl)) k1 bel lt1) (trodAll_cons_mk (Below.trod laidOut (by kernel_rfl) (of_decide_eq_true (by kernel_rfl)) k2 bel lt2) trodAll_mk0))),rfl,bel.frame _,fun h=>by cases h⟩

theorem over:Rows.auditRejectsRow.holds Tryz.pinned (OpenSpec.ofChange Rows.auditRejectsSpec) :=
 OpenClaim.holds_of_wide 8 Tryz.f8 rfl rfl rfl rfl rfl rfl rfl ⟨rfl,rfl,rfl,rfl,rfl⟩ rfl rfl rfl rfl rfl (by kernel_rfl) Tryz.func8 (by kernel_rfl)
  (of_decide_eq_true (by kernel_rfl)) (by unfold Func.isWrapper;first | (rw[if_pos (by decide +kernel)];kernel_rfl) | (rw[if_neg (by decide +kernel)];exact⟨rfl,rfl⟩))
  (fun os started H enc _=>lifted os started H enc)

theorem proved:Rows.AuditRejectsCardSaid :=
 Claim7.holds_tied_plain_at .later [] [.data] true (true,"0fc5020064acd828dfc8f62f6b9ca55535e9ae70cf342fa538ab833d24d2144e") false
  over (fun _ h=>by cases h) (by kernel_rfl) (fun _ h=>by cases h) auditRejects_row_tie rfl ⟨rfl,rfl⟩ (by kernel_rfl) rfl
  (fun f fn hf hfn=>by
   obtain rfl : f = 8 := Option.some.inj ((show Tryz.prog.funcNamed "sharecore/sharecorelaw18.AuditRejects" = some 8 by kernel_rfl).symm.trans hf) |>.symm
   obtain rfl:fn=Tryz.f8:=(Option.some.inj (Tryz.func8.symm.trans hfn)).symm
   exact⟨by kernel_rfl,fun j t ht=>by
    rw[Tryz.params8]at ht
    have hm:t∈[54,61,63]:=by simpa using Array.mem_of_getElem? ht
    have hall:([54,61,63].all fun u=>!Tryz.prog.wantsStandIn u)=true:=by kernel_rfl
    exact(show Tryz.prog.wantsStandIn t=false by simpa using List.all_eq_true.1 hall t hm)⟩)
  (by kernel_rfl)
#print axioms proved
end Go.Proofs.YtbkgghhngeibhaaGreatDoor.auditRejects
