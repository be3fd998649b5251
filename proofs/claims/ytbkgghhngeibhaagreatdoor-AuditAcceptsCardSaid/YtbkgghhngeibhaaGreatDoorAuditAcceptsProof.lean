/-
  All shares of a secret are consistent, in any order, and so are as many shares as the threshold with any elements: the statement of P18.1 and P18.5. No condition.
-/
import Derived.Test.YtbkgghhngeibhaaGreatDoorCards
import Derived.Test.YtbkgghhngeibhaaGreatDoorChecked
import Derived.Test.YtbkgghhngeibhaaGreatDoorTie
import Derived.Test.YtbkgghhngeibhaaGreatDoorAudAlive
import Derived.Test.YtbkgghhngeibhaaGreatDoorAudRef
import Derived.Test.YtbkgghhngeibhaaGreatDoorPartM
import Derived.LaidMore
import Derived.ShutString
namespace Go.Proofs.YtbkgghhngeibhaaGreatDoor.auditAccepts
open Lib (hid)
open Go.ChangeShapes Go.WideShapes Go.ChangeAt Go.RowKit
set_option linter.unusedVariables false

theorem own:ownKnob Tryz.prog.godebug=none:=by kernel_rfl
theorem laidOut:laidOutB Tryz.prog=true:=by kernel_rfl

set_option linter.unusedSimpArgs false
theorem put_off' (W:World) (b o:Nat) (u:Value):Off (fun k=>k=b) W (W.setCell ⟨b,o,none⟩ u):=setCells_off b [u] o W
set_option maxRecDepth 100000 in
set_option maxHeartbeats 4000000 in
theorem walk (q0:Pms) (a0:Option Addr) (n0 cap0:Nat) (bs0:List Nat) (b0:Option Addr) (m0 dap0:Nat) (ys0:List Nat) (i1:Int) (w:World) (w0:q0.ok/\n0=bs0.length/\n0<=cap0/\Small bs0/\BsAt w a0 bs0 (fun k=>k<w.heap.size)/\m0=ys0.length/\m0<=dap0/\Small ys0/\BsAt w b0 ys0 (fun k=>k<w.heap.size)) (w1:(Lit.int .u8 i1).wf=true) (hT:TabAt w) :
  Calls Tryz.prog 7 #[.agg #[.int .i64 q0.fd,.int .i64 q0.th,.int .i64 q0.sh,.int .i64 q0.ln,.slice a0 n0 cap0,.slice b0 m0 dap0],.int .u8 i1] w fun e w'=>e=.returned (.bool true)/\Off (fun _=>False) w w':=by
 have FAL:Hid (∀ W,TabAt W->Calls Tryz.prog 10 #[] W fun e w'=>e=.returned (.bool true)/\Off (fun _=>False) W w'):=hid (fun W hT=>alive18_any W hT)
 have HT:=hid hT
 clear hT
 obtain⟨hq,hn1,hc1,hs1,hb1,hn2,hc2,hs2,hb2⟩:=w0
 obtain⟨c,hc⟩:∃ c,c=lrg16 q0 n0 m0:=⟨_,rfl⟩
 have HZ:=hid (show c=0->lrg16 q0 n0 m0=0 from fun h=>hc.symm.trans h)
 have hc01:=lrg16_cases q0 n0 m0
 rw[<-hc]at hc01
 have FL:=hid (fun W=>large16_any q0 a0 b0 n0 m0 cap0 dap0 W)
 rw[<-hc]at FL
 clear hc
 by_cases hbig:c=1
 ·subst hbig
  obtain⟨fd,th,sh,ln⟩:=q0
  unfold Pms.val at FL
  dsimp only at FL ⊢
  clear hq hn1 hc1 hs1 hb1 hn2 hc2 hs2 hb2 HZ hc01
  obtain⟨W0,hW0⟩:∃ W0,W0=w.alloc (.cells #[.int .i64 fd,.int .i64 th,.int .i64 sh,.int .i64 ln,.slice a0 n0 cap0,.slice b0 m0 dap0] 54):=⟨_,rfl⟩
  have HO0:=hid (show Off (fun _=>False) w W0 by rw[hW0];exact(Off.refl _ w).alloc _)
  have HG0:=hid (show W0.heap[w.heap.size]?=some (.cells #[.int .i64 fd,.int .i64 th,.int .i64 sh,.int .i64 ln,.slice a0 n0 cap0,.slice b0 m0 dap0] 54 (0,0)) by rw[hW0];exact heap_new' rfl _)
  have HW0:=hid hW0
  clear hW0
  go_enter Tryz.func7,Tryz.ntmps7
  go_upto_region 1 with fail
  rw[<-HW0.out]
  have g:=HG0.out
  have p0:=cell_of_heap g 0
  have p1:=cell_of_heap g 1
  have p2:=cell_of_heap g 2
  have p3:=cell_of_heap g 3
  have p4:=cell_of_heap g 4
  have p5:=cell_of_heap g 5
  have lp:=heap_lt g
  clear g
  go_wp2_with fail
  refine(FL.out _).mono ?_
  rintro e u1 ⟨rfl,hO⟩
  have HO1:=hid (HO0.out.trans hO (fun _ _ c=>c))
  have HG1:=hid (hO.heap HG0.out (fun c=>c))
  clear hO
  clear p0 p1 p2 p3 p4 p5 lp
  go_wp2_with fail
  refine(FAL.out _ (HT.out.off HO1.out)).mono ?_
  rintro e u2 ⟨rfl,hO⟩
  have HO2:=hid (HO1.out.trans hO (fun _ _ c=>c))
  clear hO
  go_wp2
  go_ret
  exact⟨rfl,HO2.out⟩
 obtain rfl:c=0:=by omega
 have hz:=HZ.out rfl
 have hz2:=lrg16_zero hz
 clear hbig hc01 HZ
 by_cases h8:8<q0.sh
 ·obtain⟨fd,th,sh,ln⟩:=q0
  unfold Pms.val at FL
  dsimp only at FL h8 ⊢
  clear hq hn1 hc1 hs1 hb1 hn2 hc2 hs2 hb2 hz hz2
  obtain⟨W0,hW0⟩:∃ W0,W0=w.alloc (.cells #[.int .i64 fd,.int .i64 th,.int .i64 sh,.int .i64 ln,.slice a0 n0 cap0,.slice b0 m0 dap0] 54):=⟨_,rfl⟩
  have HO0:=hid (show Off (fun _=>False) w W0 by rw[hW0];exact(Off.refl _ w).alloc _)
  have HG0:=hid (show W0.heap[w.heap.size]?=some (.cells #[.int .i64 fd,.int .i64 th,.int .i64 sh,.int .i64 ln,.slice a0 n0 cap0,.slice b0 m0 dap0] 54 (0,0)) by rw[hW0];exact heap_new' rfl _)
  have HW0:=hid hW0
  clear hW0
  go_enter Tryz.func7,Tryz.ntmps7
  go_upto_region 1 with fail
  rw[<-HW0.out]
  have g:=HG0.out
  have p0:=cell_of_heap g 0
  have p1:=cell_of_heap g 1
  have p2:=cell_of_heap g 2
  have p3:=cell_of_heap g 3
  have p4:=cell_of_heap g 4
  have p5:=cell_of_heap g 5
  have lp:=heap_lt g
  clear g
  go_wp2_with fail
  refine(FL.out _).mono ?_
  rintro e u1 ⟨rfl,hO⟩
  have HO1:=hid (HO0.out.trans hO (fun _ _ c=>c))
  have HG1:=hid (hO.heap HG0.out (fun c=>c))
  clear hO
  clear p0 p1 p2 p3 p4 p5 lp
  have g:=HG1.out
  have p0:=cell_of_heap g 0
  have p1:=cell_of_heap g 1
  have p2:=cell_of_heap g 2
  have p3:=cell_of_heap g 3
  have p4:=cell_of_heap g 4
  have p5:=cell_of_heap g 5
  have lp:=heap_lt g
  clear g
  go_wp2_with fail
  refine(FAL.out _ (HT.out.off HO1.out)).mono ?_
  rintro e u2 ⟨rfl,hO⟩
  have HO2:=hid (HO1.out.trans hO (fun _ _ c=>c))
  clear hO
  go_wp2
  go_ret
  exact⟨rfl,HO2.out⟩
 obtain⟨r,hr⟩:∃ r,r=polE q0 bs0 ys0:=⟨_,rfl⟩
 have FR:=hid (fun W (h:Off (fun _=>False) w W)=>refdeal_any q0 hq a0 b0 n0 m0 cap0 dap0 bs0 ys0 (fun k=>k<w.heap.size) W (fun k hk=>Nat.lt_of_lt_of_le hk h.size) hn1 hn2 hc1 hc2 hs1 hs2 (by omega) (by omega) (hb1.off h (fun _ _ _ c=>c)) (hb2.off h (fun _ _ _ c=>c)))
 rw[<-hr]at FR
 by_cases h0:r=0
 ·have hz0:polE q0 bs0 ys0=0:=hr.symm.trans h0
  have hpe:=polE_ok hz0
  have hpr:=prN_ok hpe.1
  have hpos:=modN_pos hpr.1
  obtain⟨n,hn⟩:∃ n:Nat,n=q0.sh.toNat:=⟨_,rfl⟩
  obtain⟨T,hT'⟩:∃ T:Nat,T=q0.T:=⟨_,rfl⟩
  have hth:q0.th=(T:Int):=by rw[hT'];unfold Pms.T;omega
  have hsh:q0.sh=(n:Int):=by omega
  have hT1:1<=T/\T<=n/\n<=8:=by rw[hT',hn];unfold Pms.T;omega
  have hcn:q0.cn<=7:=by unfold Pms.cn cntI cntN;split <;> omega
  have FR':Hid (∀ W,Off (fun _=>False) w W->Calls Tryz.prog 27 #[q0.val,.slice a0 n0 cap0,.slice b0 m0 dap0] W fun e w'=>∃ v L,e=.returned (.tuple #[v,.int .i64 0])/\(RowS W.heap.size w' v L/\L.length=n/\L.map ShV.sh=shrsN q0 (modN q0.fd) (polsN q0 bs0 ys0)/\∀ x∈L,PlAt w' x (fun j=>j<w'.heap.size))/\Off (fun _=>False) W w'):=hid (fun W h=>(FR.out W h).mono (fun e w' ⟨v,he,h1,_,h3⟩=>by
   obtain⟨L,h4,h5,h6,h7⟩:=EvL.rows17 hq (by omega) hpos.2 (by omega) (by rw[polsV_length];omega) (h1 h0)
   refine⟨v,L,by rw[he,h0];rfl,⟨h4,by rw[h5,hn],?_,h7⟩,h3⟩
   rw[<-shrsN_red17]
   exact h6))
  obtain⟨Q,hQ⟩:∃ Q:Pms,Q=q0:=⟨_,rfl⟩
  have HQ:=hid (show polE Q bs0 ys0=0/\T=Q.T/\Q.cn<=7/\n=Q.sh.toNat/\Q.fd=q0.fd/\Q.ok from by rw[hQ];exact⟨hz0,hT',hcn,hn,rfl,hq⟩)
  have FR:Hid (∀ W,Off (fun _=>False) w W->Calls Tryz.prog 27 #[q0.val,.slice a0 n0 cap0,.slice b0 m0 dap0] W fun e w'=>∃ v L,e=.returned (.tuple #[v,.int .i64 0])/\(RowS W.heap.size w' v L/\L.length=n/\L.map ShV.sh=shrsN Q (modN Q.fd) (polsN Q bs0 ys0)/\∀ x∈L,PlAt w' x (fun j=>j<w'.heap.size))/\Off (fun _=>False) W w'):=by rw[hQ];exact FR'
  have HTn:=hid hT1
  clear FR' hr h0 hz0 hpe hpr hpos hn hT' hcn hT1 hQ hq hn1 hc1 hs1 hb1 hn2 hc2 hs2 hb2 hz hz2
  obtain⟨fd,th,sh,ln⟩:=q0
  dsimp only at hth hsh HQ h8
  have HTh:=hid (And.intro hth hsh)
  clear hth hsh
  unfold Pms.val at FL FR
  dsimp only at FL FR ⊢
  obtain⟨W0,hW0⟩:∃ W0,W0=w.alloc (.cells #[.int .i64 fd,.int .i64 th,.int .i64 sh,.int .i64 ln,.slice a0 n0 cap0,.slice b0 m0 dap0] 54):=⟨_,rfl⟩
  have HO0:=hid (show Off (fun _=>False) w W0 by rw[hW0];exact(Off.refl _ w).alloc _)
  have HG0:=hid (show W0.heap[w.heap.size]?=some (.cells #[.int .i64 fd,.int .i64 th,.int .i64 sh,.int .i64 ln,.slice a0 n0 cap0,.slice b0 m0 dap0] 54 (0,0)) by rw[hW0];exact heap_new' rfl _)
  have HW0:=hid hW0
  clear hW0
  go_enter Tryz.func7,Tryz.ntmps7
  go_upto_region 1 with fail
  rw[<-HW0.out]
  have g:=HG0.out
  have p0:=cell_of_heap g 0
  have p1:=cell_of_heap g 1
  have p2:=cell_of_heap g 2
  have p3:=cell_of_heap g 3
  have p4:=cell_of_heap g 4
  have p5:=cell_of_heap g 5
  have lp:=heap_lt g
  clear g
  go_wp2_with fail
  refine(FL.out _).mono ?_
  rintro e u1 ⟨rfl,hO⟩
  have HO1:=hid (HO0.out.trans hO (fun _ _ c=>c))
  have HG1:=hid (hO.heap HG0.out (fun c=>c))
  clear hO
  clear p0 p1 p2 p3 p4 p5 lp
  have g:=HG1.out
  have p0:=cell_of_heap g 0
  have p1:=cell_of_heap g 1
  have p2:=cell_of_heap g 2
  have p3:=cell_of_heap g 3
  have p4:=cell_of_heap g 4
  have p5:=cell_of_heap g 5
  have lp:=heap_lt g
  clear g
  go_wp2_with fail
  refine(FR.out _ HO1.out).mono ?_
  rintro e u2 ⟨v2,L,rfl,⟨hR,hLl,hLm,hPl⟩,hO⟩
  have HO2:=hid (HO1.out.trans hO (fun _ _ c=>c))
  have HG2:=hid (hO.heap HG1.out (fun c=>c))
  obtain⟨aL,cL,rfl,hcc,_⟩:=id hR.svs
  have hSv:=hR.svs
  rw[hLl]at hcc hSv ⊢
  have HSv:=hid hSv
  have HLm:=hid hLm
  have HPl:=hid hPl
  have HNL:=hid hLl
  clear hO hR hLl hLm hPl hSv
  clear p0 p1 p2 p3 p4 p5 lp
  obtain⟨kk,rfl⟩:∃ kk:Nat,i1=(kk:Int):=Int.eq_ofNat_of_zero_le (by have:=bounds_u8 w1;omega)
  have hkk:kk<256:=by have:=bounds_u8 w1;omega
  have hn8:=HTn.out
  obtain⟨q,hq⟩:∃ q,q=kk%n:=⟨_,rfl⟩
  have hqn:q<n:=by rw[hq];exact Nat.mod_lt _ (by omega)
  have r0:IntKind.i64.wrap (kk:Int)=(kk:Int):=by rw[IntKind.wrap_i64];omega
  have r1:¬(n:Int)=0:=by omega
  have r2:Int.tmod (kk:Int) (n:Int)=(q:Int):=by rw[hq];exact(Int.ofNat_tmod _ _).symm
  have r3:(kk:Int)%(n:Int)=(q:Int):=by rw[hq];exact(Int.natCast_emod _ _).symm
  have r4:IntKind.i64.wrap (q:Int)=(q:Int):=by rw[IntKind.wrap_i64];omega
  obtain⟨a1,hs1,hb1⟩:=shs_h aL n cL q (by omega) hcc
  obtain⟨a2,hs2,hb2⟩:=shs_l aL n cL q (by omega) hcc
  have HKn:=hid (show q<n/\n<=8/\1<=T/\T<=n from⟨hqn,by omega,by omega,by omega⟩)
  obtain⟨wq,hwq⟩:∃ wq,wq=u2:=⟨_,rfl⟩
  have FCC:=hid (fun W (hO:Off (fun _=>False) u2 W) (hb:W.heap[u2.heap.size]?=some (.cells #[.slice a2 (n-q) (cL-q),.slice a1 q cL] 22 (0,0)))=>concat_sh u2.heap.size _ _ (L.drop q) (L.take q) _ W (cell_of_heap hb 0) (cell_of_heap hb 1) (hb2 _ _ _ (HSv.out.off hO (fun _ _ _ c=>c))) (hb1 _ _ _ (HSv.out.off hO (fun _ _ _ c=>c))) (by rw[List.length_drop,List.length_take,HNL.out];omega))
  rw[<-hwq]at FCC HO2 HG2 HPl ⊢
  clear hwq hb1 hb2 hcc hq hkk hn8 hqn
  go_upto_region 7 with fail
  obtain⟨x47,hx⟩:∃ vv:Value,vv=.slice aL n cL:=⟨_,rfl⟩
  have X47:=hid hx
  clear hx
  obtain⟨x48,hx⟩:∃ vv:Value,vv=.int .i64 q:=⟨_,rfl⟩
  have X48:=hid hx
  clear hx
  obtain⟨x49,hx⟩:∃ vv:Value,vv=.slice a2 (n-q) (cL-q):=⟨_,rfl⟩
  have X49:=hid hx
  clear hx
  obtain⟨x50,hx⟩:∃ vv:Value,vv=.slice aL n cL:=⟨_,rfl⟩
  have X50:=hid hx
  clear hx
  obtain⟨x51,hx⟩:∃ vv:Value,vv=.int .i64 q:=⟨_,rfl⟩
  have X51:=hid hx
  clear hx
  obtain⟨x52,hx⟩:∃ vv:Value,vv=.slice a1 q cL:=⟨_,rfl⟩
  have X52:=hid hx
  clear hx
  obtain⟨x53,hx⟩:∃ vv:Value,vv=.slice (some ⟨wq.heap.size,0,none⟩) 2 2:=⟨_,rfl⟩
  have X53:=hid hx
  clear hx
  refine wp_region_clo (fun a0 l a' w'=>∃ vz:Value,a'=(Act.put (fill a0 47 [sel (l 0) x47 undef,sel (l 1) x48 undef,sel (l 2) x49 undef,sel (l 3) x50 undef,sel (l 4) x51 undef,sel (l 5) x52 undef,sel (l 6) x53 undef,sel (l 7) vz undef,undef,undef,undef,undef,undef,undef,undef,undef,undef,undef,undef,undef,undef,undef,undef,undef,undef,undef,undef,undef,undef,undef,undef,undef,undef,undef,undef,undef,undef,undef,undef,undef,undef,undef,undef,undef,undef,undef,undef,undef]) (some 8) (sel (l 8) vz (undef)))/\Off (fun _=>False) wq w'/\(l 6=false->w'.heap.size=wq.heap.size)/\(l 6=true->w'.heap[wq.heap.size]?=some (.cells #[.slice a2 (n-q) (cL-q),.slice a1 q cL] 22 (0,0)))/\(l 7=true->RowS wq.heap.size w' vz (L.drop q++L.take q))) (by kernel_rfl) (by kernel_rfl) ?_ ⟨?_,?_,?_,?_,?_,?_,?_,?_,?_,trivial⟩ ?_
  ·refine⟨undef,?_,(Off.refl _ wq).drew,fun _=>rfl,fun h=>(by cases h),fun h=>(by cases h)⟩
   simp only[XF,XP,sel_start]
   try rfl
  all_goals try (rintro l a wr ⟨vz,ha,hO,hS,hB,hP⟩ hc hl hd K' hK)
  ·as_aux_lemma =>
    have hx:=X47.out;subst hx
    simp only[XF,XP]at ha
    subst ha
    have hS0:=hid hS
    have hB0:=hid hB
    have hP0:=hid hP
    clear hS hB hP
    rw[if_pos (by rfl)]
    go_simp
    refine Shut.out hK _ _ ⟨vz,?_,hO,fun h=>hS0.out (by rwa [upd_ne l (by decide)]at h),fun h=>hB0.out (by rwa [upd_ne l (by decide)]at h),fun h=>hP0.out (by rwa [upd_ne l (by decide)]at h)⟩
    simp only[XF,XP,sel_new]
    try rfl
  ·as_aux_lemma =>
    have hx:=X48.out;subst hx
    simp only[XF,XP]at ha
    subst ha
    have hS0:=hid hS
    have hB0:=hid hB
    have hP0:=hid hP
    clear hS hB hP
    rw[if_pos (by rfl)]
    go_simp
    refine Shut.out hK _ _ ⟨vz,?_,hO,fun h=>hS0.out (by rwa [upd_ne l (by decide)]at h),fun h=>hB0.out (by rwa [upd_ne l (by decide)]at h),fun h=>hP0.out (by rwa [upd_ne l (by decide)]at h)⟩
    simp only[XF,XP,sel_new]
    try rfl
  ·as_aux_lemma =>
    have d0:=hd 0 (by decide)
    have d1:=hd 1 (by decide)
    have hx:=X47.out;subst hx
    have hx:=X48.out;subst hx
    have hx:=X49.out;subst hx
    simp only[XF,XP,sel_of d0,sel_of d1]at ha
    subst ha
    have hS0:=hid hS
    have hB0:=hid hB
    have hP0:=hid hP
    clear hS hB hP
    rw[if_pos (by rfl)]
    go_simp
    refine Shut.out hK _ _ ⟨vz,?_,hO,fun h=>hS0.out (by rwa [upd_ne l (by decide)]at h),fun h=>hB0.out (by rwa [upd_ne l (by decide)]at h),fun h=>hP0.out (by rwa [upd_ne l (by decide)]at h)⟩
    simp only[XF,XP,sel_new,sel_dep d0,sel_dep d1]
    try rfl
  ·as_aux_lemma =>
    have hx:=X50.out;subst hx
    simp only[XF,XP]at ha
    subst ha
    have hS0:=hid hS
    have hB0:=hid hB
    have hP0:=hid hP
    clear hS hB hP
    rw[if_pos (by rfl)]
    go_simp
    refine Shut.out hK _ _ ⟨vz,?_,hO,fun h=>hS0.out (by rwa [upd_ne l (by decide)]at h),fun h=>hB0.out (by rwa [upd_ne l (by decide)]at h),fun h=>hP0.out (by rwa [upd_ne l (by decide)]at h)⟩
    simp only[XF,XP,sel_new]
    try rfl
  ·as_aux_lemma =>
    have hx:=X51.out;subst hx
    simp only[XF,XP]at ha
    subst ha
    have hS0:=hid hS
    have hB0:=hid hB
    have hP0:=hid hP
    clear hS hB hP
    rw[if_pos (by rfl)]
    go_simp
    refine Shut.out hK _ _ ⟨vz,?_,hO,fun h=>hS0.out (by rwa [upd_ne l (by decide)]at h),fun h=>hB0.out (by rwa [upd_ne l (by decide)]at h),fun h=>hP0.out (by rwa [upd_ne l (by decide)]at h)⟩
    simp only[XF,XP,sel_new]
    try rfl
  ·as_aux_lemma =>
    have d3:=hd 3 (by decide)
    have d4:=hd 4 (by decide)
    have hx:=X50.out;subst hx
    have hx:=X51.out;subst hx
    have hx:=X52.out;subst hx
    simp only[XF,XP,sel_of d3,sel_of d4]at ha
    subst ha
    have hS0:=hid hS
    have hB0:=hid hB
    have hP0:=hid hP
    clear hS hB hP
    rw[if_pos (by rfl)]
    go_simp
    refine Shut.out hK _ _ ⟨vz,?_,hO,fun h=>hS0.out (by rwa [upd_ne l (by decide)]at h),fun h=>hB0.out (by rwa [upd_ne l (by decide)]at h),fun h=>hP0.out (by rwa [upd_ne l (by decide)]at h)⟩
    simp only[XF,XP,sel_new,sel_dep d3,sel_dep d4]
    try rfl
  ·as_aux_lemma =>
    have d2:=hd 2 (by decide)
    have d5:=hd 5 (by decide)
    have hx:=X49.out;subst hx
    have hx:=X52.out;subst hx
    have hx:=X53.out;subst hx
    simp only[XF,XP,sel_of d2,sel_of d5]at ha
    subst ha
    have hS0:=hid hS
    have hB0:=hid hB
    have hP0:=hid hP
    have hz:=hid (hS hl)
    clear hS hB hP
    rw[if_pos (by rfl)]
    go_simp
    refine Shut.out hK _ _ ⟨vz,?_,hO.alloc _,fun h=>absurd h (by rw[upd_same];decide),fun _=>heap_new' hz.out _,fun h=>(fun(h1:_) (h2:_)=>RowS.off h1 h2) (hP0.out (by rwa [upd_ne l (by decide)]at h)) ((Off.refl (fun _=>False) wr).alloc _)⟩
    simp only[XF,XP,sel_new,sel_dep d2,sel_dep d5,hz.out]
    try rfl
  ·as_aux_lemma =>
    have d6:=hd 6 (by decide)
    have hx:=X53.out;subst hx
    have gn:=hc.not (i:=8) hl 9 (by kernel_rfl)
    simp only[XF,XP,sel_of d6,sel_no gn,sel_no hl]at ha
    subst ha
    have hS0:=hid hS
    have hB0:=hid hB
    have hP0:=hid hP
    have hb:=hB d6
    have gn0:=hid gn
    have dA0:=hid d6
    clear gn
    clear hS hB hP
    rw[if_pos (by rfl)]
    go_simp
    refine(FCC.out wr hO hb).mono ?_
    rintro e w1 ⟨v',rfl,hP1,hO1⟩
    go_wp2_with fail
    refine Shut.out hK _ _ ⟨v',?_,hO.trans hO1 (fun _ _ c=>c),fun h=>absurd (show(true:Bool)=false from dA0.out.symm.trans (show l 6=false by rwa [upd_ne l (by decide)]at h)) (by decide),fun h=>hO1.heap (hB0.out dA0.out) (fun c=>c),fun _=>(RowS.base hP1 hO.size)⟩
    simp only[XF,XP,sel_new,sel_dep d6,sel_no (show upd l 7 8=false from gn0.out)]
    try rfl
  ·as_aux_lemma =>
    have d7:=hd 7 (by decide)
    simp only[XF,XP,sel_of d7]at ha
    subst ha
    have hS0:=hid hS
    have hB0:=hid hB
    have hP0:=hid hP
    clear hS hB hP
    rw[if_pos (by rfl)]
    go_simp
    refine Shut.out hK _ _ ⟨vz,?_,hO,fun h=>hS0.out (by rwa [upd_ne l (by decide)]at h),fun h=>hB0.out (by rwa [upd_ne l (by decide)]at h),fun h=>hP0.out (by rwa [upd_ne l (by decide)]at h)⟩
    simp only[XF,XP,sel_new,sel_dep d7]
    try rfl
  rintro l a wc ⟨vz,ha,hO,hS,hB,hP⟩ hd
  simp only[XF,XP,sel_of (hd 0 (by decide)),sel_of (hd 1 (by decide)),sel_of (hd 2 (by decide)),sel_of (hd 3 (by decide)),sel_of (hd 4 (by decide)),sel_of (hd 5 (by decide)),sel_of (hd 6 (by decide)),sel_of (hd 7 (by decide)),sel_of (hd 8 (by decide))]at ha
  subst ha
  have hPP:=hP (hd 7 (by decide))
  clear hS hB hP
  have HO3:=hid (HO2.out.trans hO (fun _ _ c=>c))
  have HG3:=hid (hO.heap HG2.out (fun c=>c))
  obtain⟨MM,hMM⟩:∃ MM,MM=L.drop q++L.take q:=⟨_,rfl⟩
  rw[<-hMM]at hPP
  have hMl:MM.length=n:=by rw[hMM,List.length_append,List.length_drop,List.length_take,HNL.out];have:=HKn.out;omega
  have hMp:∀ x∈MM,PlAt wq x (fun j=>j<wq.heap.size):=fun x hx=>HPl.out x (by
   rw[hMM,List.mem_append]at hx
   rcases hx with hx | hx
   ·exact List.mem_of_mem_drop hx
   exact List.mem_of_mem_take hx)
  have hperm:(shrsN Q (modN Q.fd) (polsN Q bs0 ys0)).Perm (MM.map ShV.sh):=by
   rw[<-HLm.out,hMM]
   refine List.Perm.map _ ?_
   refine List.Perm.trans ?_ List.perm_append_comm
   rw[List.take_append_drop]
  obtain⟨M,hM⟩:∃ M:List Sh,M=MM.map ShV.sh:=⟨_,rfl⟩
  have hMn:n=M.length:=by rw[hM,List.length_map,hMl]
  have hshs:ShsAt wc vz M (fun k=>k<wc.heap.size):=by
   rw[hM]
   exact shs_old18 (hPP.shs (by rw[hMl];have:=HKn.out;unfold maxLen;omega) hMp hO (fun _ _ c=>c))
  rw[<-hM]at hperm
  have hsome:SomeS Q bs0 ys0 M:=⟨⟨M,hperm,List.Sublist.refl _⟩,by rw[<-hMn,<-HQ.out.2.1];exact HKn.out.2.2.2⟩
  have hfew:SomeS Q bs0 ys0 (M.take T):=⟨⟨M,hperm,List.take_sublist _ _⟩,by rw[List.length_take,<-hMn,<-HQ.out.2.1];have:=HKn.out;omega⟩
  have hF:=hsome.facts HQ.out.1
  have hF2:=hfew.facts HQ.out.1
  have hcon:=hsome.con HQ.out.1
  have hplM:∀ s∈M,s.pl.length=Q.cn:=fun s hs=>by
   obtain⟨i,_,_,e⟩:=hsome.share HQ.out.1 hs
   rw[e]
   show(payN _ _ _).length=_
   unfold payN
   rw[List.length_map,polsN_length]
  obtain⟨g,gc,rfl,hBg,hgl⟩:=hPP.form (by rw[hMl];have:=HKn.out;omega)
  have hng:n<=gc:=by have:=own_capA hPP;rw[hMl]at this;exact this
  rw[hMl]at hPP hshs ⊢
  have FC1:=hid (cons_aud M (some ⟨g,0,none⟩) n gc hMn (by have:=HKn.out;omega) (fun s hs=>by rw[hplM s hs];have:=HQ.out.2.2.1;omega) none [] (fun _=>False) (fun k=>k<wc.heap.size) wc hshs (fun b h=>⟨h,fun c=>c⟩) (Tp.none wc) (fun _=>Room.nil _) (HT.out.off HO3.out))
  rw[hF.1,hcon]at FC1
  obtain⟨a3,hs3,hb3⟩:=shs_h (some ⟨g,0,none⟩) n gc T (by have:=HKn.out;omega) hng
  rw[<-HTh.out.1]at hs3
  have HSv3:=hid (hb3 _ _ _ hPP.svs)
  have hTl:T=(MM.take T).length:=by rw[List.length_take,hMl];have:=HKn.out;omega
  obtain⟨b3,o3,rfl⟩:∃ b o,a3=some ⟨b,o,none⟩:=by
   obtain⟨_,_,e,_,hx⟩:=id HSv3.out
   simp only[Value.slice.injEq]at e
   obtain⟨b,o,ha,_⟩:=hx (by rw[<-hTl];have:=HKn.out;omega)
   exact⟨b,o,by rw[e.1,ha]⟩
  have HF2:=hid hF2
  have HM:=hid (show M=MM.map ShV.sh/\MM.length=n/\T=(MM.take T).length/\(∀ s∈M,s.pl.length=Q.cn)/\(∀ x∈MM,PlAt wq x (fun j=>j<wq.heap.size)) from⟨hM,hMl,hTl,hplM,hMp⟩)
  have HOc:=hid hO
  clear hO hPP hMM hMl hMp hperm hM hMn hshs hsome hfew hF hF2 hcon hplM hBg hgl hng hb3 hTl hd
  go_wp2_with fail
  refine FC1.out.mono ?_
  rintro e u4 ⟨rfl,_,_,hO⟩
  have HO4:=hid (HO3.out.trans hO (fun _ _ c=>c))
  have HG4:=hid (hO.heap HG3.out (fun c=>c))
  have HSv4:=hid (HSv3.out.off hO (fun _ _ _ c=>c))
  have HOc4:=hid (HOc.out.trans hO (fun _ _ c=>c))
  clear hO FC1
  have g:=HG4.out
  have p0:=cell_of_heap g 0
  have p1:=cell_of_heap g 1
  have p2:=cell_of_heap g 2
  have p3:=cell_of_heap g 3
  have p4:=cell_of_heap g 4
  have p5:=cell_of_heap g 5
  have lp:=heap_lt g
  clear g
  go_wp2_with fail
  refine(clone_sh b3 o3 T gc (MM.take T) HM.out.2.2.1 (by have:=HKn.out;omega) _ u4 HSv4.out).mono ?_
  rintro e u5 ⟨v5,rfl,hr,hO⟩
  have hT0:0<(MM.take T).length:=by rw[<-HM.out.2.2.1];have:=HKn.out;omega
  obtain⟨g5,c5,rfl,hB5,hl5⟩:=hr.form hT0
  rw[<-HM.out.2.2.1]at hr ⊢
  obtain⟨x0,hx0⟩:∃ x,(MM.take T)[0]?=some x:=⟨_,List.getElem?_eq_getElem hT0⟩
  have hxm:x0∈MM:=List.mem_of_mem_take (List.mem_of_getElem? hx0)
  have hcn0:x0.sh.pl.length=Q.cn:=HM.out.2.2.2.1 _ (by rw[HM.out.1];exact List.mem_map.2 ⟨x0,hxm,rfl⟩)
  obtain⟨q0c,q1c,q2c,q3c,q4c⟩:=row_cells18 hr HM.out.2.2.1 hx0
  simp only[Nat.zero_mul,Nat.zero_add]at q0c q1c q2c q3c q4c
  rw[hcn0]at q4c
  obtain⟨cn,hcn⟩:∃ cn,cn=Q.cn:=⟨_,rfl⟩
  rw[<-hcn]at q4c
  have hmk:=run_make_el cn (by rw[hcn];have:=HQ.out.2.2.1;omega)
  obtain⟨bz,hbz⟩:∃ b,b=u5.heap.size:=⟨_,rfl⟩
  obtain⟨W6,hW6⟩:∃ W6,W6=u5.setCell ⟨g5,4,none⟩ (.slice (some ⟨bz,0,none⟩) cn cn):=⟨_,rfl⟩
  have hO6:Off (fun k=>k=g5) u5 W6:=by rw[hW6];exact put_off' u5 g5 4 _
  have hs6:W6.heap.size=bz:=by rw[hW6,hbz];simp
  obtain⟨W7,hW7⟩:∃ W7,W7=W6.alloc (.cells (flat4 (List.replicate cn 0)).toArray 66):=⟨_,rfl⟩
  have hO67:Off (fun _=>False) W6 W7:=by rw[hW7];exact(Off.refl _ _).alloc _
  have hz7:NumsAt W7 bz 66 (List.replicate cn 0):=by rw[hW7];exact heap_new' hs6 _
  have hzl:(List.replicate cn 0).length=cn:=List.length_replicate
  have hr6:RowS u4.heap.size W6 (.slice (some ⟨g5,0,none⟩) T c5) ((MM.take T).set 0 (x0.withP (List.replicate cn 0) (some ⟨bz,0,none⟩) cn)):=by
   have h:=hr.putp hx0 (List.replicate cn 0) (some ⟨bz,0,none⟩) cn
   rw[hzl]at h
   rw[hW6];exact h
  have hr7:=hr6.off hO67
  have q46:=q4c
  have fz6:u5.frozen? ⟨g5,4,none⟩=false:=World.ownsRow.frozenAt (by have:=hr;unfold RowS at this;rw[<-HM.out.2.2.1]at this;exact this) 4
  have lg6:=hl5
  have hO7:Off (fun _=>False) w W7:=((HO4.out.trans hO (fun _ _ c=>c)).trans hO6 (fun k hk e=>by have:=HO4.out.size;omega)).trans hO67 (fun _ _ c=>c)
  have hOq7:Off (fun _=>False) wq W7:=((HOc4.out.trans hO (fun _ _ c=>c)).trans hO6 (fun k hk e=>by have:=HOc4.out.size;omega)).trans hO67 (fun _ _ c=>c)
  obtain⟨F,hF⟩:∃ F:List Sh,F=setP (M.take T) 0 x0.sh (List.replicate cn 0):=⟨_,rfl⟩
  have hsx:(M.take T)[0]?=some x0.sh:=by rw[HM.out.1,<-List.map_take,List.getElem?_map,hx0];rfl
  have hmap:((MM.take T).set 0 (x0.withP (List.replicate cn 0) (some ⟨bz,0,none⟩) cn)).map ShV.sh=F:=by rw[map_withP,hF,HM.out.1,List.map_take]
  have hfd:modN x0.sh.fd=pJ (M.take T):=by
   have:=(acc_hd HF2.out.1).all x0.sh (List.mem_of_getElem? hsx)
   unfold pJ;rw[this.1.1]
  have hok:=setP_ok HF2.out.1 hsx (pl:=List.replicate cn 0) (by rw[hzl,hcn0,hcn]) (fun y hy=>by
   rw[(List.mem_replicate.1 hy).2,hfd,HF2.out.2.1]
   exact Nat.lt_trans (by decide) (modN_pos HF2.out.2.2.2.2.2.1).1)
  rw[<-hF]at hok
  have hFl:T=F.length:=by rw[hF,setP_len,List.length_take,HM.out.1,List.length_map,HM.out.2.1];have:=HKn.out;omega
  have hFc:conL F=true:=con_few (by rw[hok.2.2.1,HF2.out.2.2.1,<-HQ.out.2.1];omega)
  have hFp:∀ s∈F,s.pl.length<=1000:=fun s hs=>by
   rw[hF]at hs
   have hl:=HQ.out.2.2.1
   rcases List.mem_or_eq_of_mem_set hs with hs | hs
   ·rw[HM.out.2.2.2.1 s (List.mem_of_mem_take hs)];omega
   rw[hs];show(List.replicate cn 0).length<=1000;rw[hzl,hcn];omega
  have hx0ok:=(HM.out.2.2.2.2 x0 hxm).1
  have hshF:ShsAt W7 (.slice (some ⟨g5,0,none⟩) T c5) F (fun k=>k<W7.heap.size):=by
   have h:=(SvsAt.wide hr7.svs (S':=fun k=>k<W7.heap.size) (fun b hb _=>hb)).shs (S':=fun k=>k<W7.heap.size) (by rw[List.length_set,<-HM.out.2.2.1];have:=HKn.out;unfold maxLen;omega) (fun x hx=>?_) (fun b _ c=>c)
   ·rw[hmap]at h;exact h
   rcases List.mem_or_eq_of_mem_set hx with hx | hx
   ·exact((HM.out.2.2.2.2 x (List.mem_of_mem_take hx)).off hOq7 (fun _ _ _ c=>c)).wide (fun b hb _=>hb)
   subst hx
   refine⟨⟨hx0ok.1,hx0ok.2.1,hx0ok.2.2.1,hx0ok.2.2.2.1,fun y hy=>by rw[(List.mem_replicate.1 hy).2];decide⟩,by show(List.replicate cn 0).length<=cn;rw[hzl];exact Nat.le_refl _,?_⟩
   show VsAt W7 (.slice (some ⟨bz,0,none⟩) (List.replicate cn 0).length cn) (List.replicate cn 0) _
   refine⟨_,cn,rfl,by rw[hzl,hcn];have:=HQ.out.2.2.1;unfold maxLen;omega,fun y hy=>by rw[(List.mem_replicate.1 hy).2];decide,fun _=>⟨bz,0,rfl,NumsAt.lt hz7,fun j y hj=>?_⟩⟩
   have:=NumsAt.cell hz7 hj
   rw[Nat.zero_add]
   exact this
  have FC2:=hid (cons_aud F (some ⟨g5,0,none⟩) T c5 hFl (by have:=HKn.out;omega) hFp none [] (fun _=>False) (fun k=>k<W7.heap.size) W7 hshF (fun b h=>⟨h,fun c=>c⟩) (Tp.none W7) (fun _=>Room.nil _) (HT.out.off hO7))
  rw[hok.1,hFc]at FC2
  have HO7:=hid hO7
  have HW6:=hid hW6
  have HW7:=hid hW7
  have HBz:=hid hbz
  have hT0i:(0:Int)<(T:Int):=by have:=HKn.out;omega
  clear hr hO hT0 hB5 hx0 hxm hcn0 q0c q1c q2c q3c q4c hW6 hO6 hs6 hr6 hW7 hO67 hr7 hz7 hO7 hOq7 hF hsx hmap hfd hok hFl hFc hFp hx0ok hshF hbz hzl hcn
  clear p0 p1 p2 p3 p4 p5 lp
  go_wp2_with fail
  rw[<-HBz.out]
  rw[<-HW6.out]
  rw[<-HW7.out]
  refine FC2.out.mono ?_
  rintro e u8 ⟨rfl,_,_,hO⟩
  have HO8:=hid (HO7.out.trans hO (fun _ _ c=>c))
  clear hO FC2
  go_wp2_with fail
  refine(FAL.out _ (HT.out.off HO8.out)).mono ?_
  rintro e u9 ⟨rfl,hO⟩
  have HO9:=hid (HO8.out.trans hO (fun _ _ c=>c))
  clear hO
  go_wp2
  go_ret
  exact⟨rfl,HO9.out⟩
 have H0:=hid h0
 have k3:¬(r:Int)=0:=by omega
 have k2:((r:Int) != 0)=true:=by simp;omega
 clear hr hq hn1 hc1 hs1 hb1 hn2 hc2 hs2 hb2 hz hz2 h0
 obtain⟨fd,th,sh,ln⟩:=q0
 dsimp only at h8
 unfold Pms.val at FL FR
 dsimp only at FL FR ⊢
 obtain⟨W0,hW0⟩:∃ W0,W0=w.alloc (.cells #[.int .i64 fd,.int .i64 th,.int .i64 sh,.int .i64 ln,.slice a0 n0 cap0,.slice b0 m0 dap0] 54):=⟨_,rfl⟩
 have HO0:=hid (show Off (fun _=>False) w W0 by rw[hW0];exact(Off.refl _ w).alloc _)
 have HG0:=hid (show W0.heap[w.heap.size]?=some (.cells #[.int .i64 fd,.int .i64 th,.int .i64 sh,.int .i64 ln,.slice a0 n0 cap0,.slice b0 m0 dap0] 54 (0,0)) by rw[hW0];exact heap_new' rfl _)
 have HW0:=hid hW0
 clear hW0
 go_enter Tryz.func7,Tryz.ntmps7
 go_upto_region 1 with fail
 rw[<-HW0.out]
 have g:=HG0.out
 have p0:=cell_of_heap g 0
 have p1:=cell_of_heap g 1
 have p2:=cell_of_heap g 2
 have p3:=cell_of_heap g 3
 have p4:=cell_of_heap g 4
 have p5:=cell_of_heap g 5
 have lp:=heap_lt g
 clear g
 go_wp2_with fail
 refine(FL.out _).mono ?_
 rintro e u1 ⟨rfl,hO⟩
 have HO1:=hid (HO0.out.trans hO (fun _ _ c=>c))
 have HG1:=hid (hO.heap HG0.out (fun c=>c))
 clear hO
 clear p0 p1 p2 p3 p4 p5 lp
 have g:=HG1.out
 have p0:=cell_of_heap g 0
 have p1:=cell_of_heap g 1
 have p2:=cell_of_heap g 2
 have p3:=cell_of_heap g 3
 have p4:=cell_of_heap g 4
 have p5:=cell_of_heap g 5
 have lp:=heap_lt g
 clear g
 go_wp2_with fail
 refine(FR.out _ HO1.out).mono ?_
 rintro e u2 ⟨v2,rfl,_,_,hO⟩
 have HO2:=hid (HO1.out.trans hO (fun _ _ c=>c))
 clear hO
 clear p0 p1 p2 p3 p4 p5 lp
 go_wp2_with fail
 refine(FAL.out _ (HT.out.off HO2.out)).mono ?_
 rintro e u3 ⟨rfl,hO⟩
 have HO3:=hid (HO2.out.trans hO (fun _ _ c=>c))
 clear hO
 go_wp2
 go_ret
 exact⟨rfl,HO3.out⟩

theorem door_met (os : Os) (args : Array Value) : laidMetH Tryz.prog [("sharecore/field.fields",Rows.laid_sharecore_field_fields)] ((World.doorLaid Tryz.prog 400 os).forCall (fun _ _ => 0) ⟨#[],args,[]⟩).memory :=
 laidMetH_of_parts3 (fuel:=8) (laidMet_of_run' 8 (by kernel_rfl) (by kernel_rfl)) (by kernel_rfl) (by kernel_rfl)

set_option maxRecDepth 100000 in
theorem lifted (os:Os) (started:os.Started) (H:Type) (enc:TypeId × Value->H) :
  ReturnsInHanded {} Tryz.checked os 7 .any (fun w args => (Rows.auditAcceptsSpec.pre enc Tryz.prog Tryz.f7 [] false w args /\ laidMetH Tryz.prog [("sharecore/field.fields",Rows.laid_sharecore_field_fields)] w) /\ sizedMet enc Tryz.prog Tryz.f7 (OpenSpec.ofChange Rows.auditAcceptsSpec) false w args)
   (Rows.auditAcceptsSpec.post enc Tryz.prog Tryz.f7 false true false false):=by
 refine returnsInHanded_of_change_and (C := Tryz.checked) (X := fun w _ => laidMetH Tryz.prog [("sharecore/field.fields",Rows.laid_sharecore_field_fields)] w) (fun _ _ _ hh h => h.of_heap hh) own started (by kernel_rfl) Tryz.func7
  (ChangeSpec.witness_shaped (enc := enc) (C := Tryz.checked) (os := os) (X := fun w _ => laidMetH Tryz.prog [("sharecore/field.fields",Rows.laid_sharecore_field_fields)] w) false (World.doorLaid Tryz.prog 400 os) #[.agg #[.int .i64 0,.int .i64 0,.int .i64 0,.int .i64 0,.slice none 0 0,.slice none 0 0],.int .u8 0] 8 rfl (World.shaped_of_RefB (by kernel_rfl) (by kernel_rfl)) (by kernel_rfl) (by kernel_rfl) (by kernel_rfl) (door_met os _)) ?_
 intro W base args ds gs before hval0 hW _ hsz hL _
 have hval:∀ (j:Nat) t v,Tryz.f7.params[j]?=some t->args[j]?=some v->Value.okWide Tryz.prog W .any base t v:=hval0
 have hW':=hW
 obtain⟨p,q,hA0,hV,rfl,hfz,hnd⟩:=hW
 have hA:DataW.TrodAll enc Tryz.prog W 0 (fun _=>true) true Tryz.f7.params.toList args.toList ds p:=hA0
 rw[Tryz.params7]at hA hval
 obtain⟨v0,vs0,d0,ds0,p0,q0,hargs,rfl,rfl,h0,r0⟩:=trodAll_cons hA
 obtain⟨v1,vs1,d1,ds1,p1,q1,rfl,rfl,rfl,h1,r1⟩:=trodAll_cons r0
 obtain⟨rfl,rfl,rfl⟩:=trodAll_nil r1
 obtain rfl:args=#[v0,v1]:=by cases args;simp_all
 obtain⟨rfl,rfl⟩:=trodVars_none hV
 have k0:=h0
 have lt0:∀ x∈p0,x.block<W.heap.size:=by obtain⟨m,hm⟩:=k0;exact DataW.trod_lt m _ _ _ hm
 obtain⟨q0,a0,n0,cap0,bs0,b0,m0,dap0,ys0,w0,rfl⟩:=open_secret (hval 0 54 v0 rfl rfl) h0
 obtain⟨i1,rfl,rfl,rfl,w1⟩:=open_int Tryz.underlying5 (hval 1 5 v1 rfl rfl) h1
 have hT:=tab_of_laid hL
 clear hA0 hval0
 refine(walk q0 a0 n0 cap0 bs0 b0 m0 dap0 ys0 i1 W w0 w1 hT).mono fun e W' ⟨he,hoff⟩=>?_
 have bel:Below W.heap.size W W':=hoff.below (Nat.le_refl _) (fun _ _ c=>c)
 subst he
 exact⟨_,rfl,_,_,_,[],_,[],hW',trodAll_mk1 (shut_bool Tryz.underlying4 _),(trodAll_cons_mk (Below.trod laidOut (by kernel_rfl) (of_decide_eq_true (by kernel_rfl)) k0 bel lt0) (trodAll_cons_mk (shut_int Tryz.underlying5 w1) trodAll_mk0)),rfl,bel.frame _,fun h=>by cases h⟩

theorem over:Rows.auditAcceptsRow.holds Tryz.pinned (OpenSpec.ofChange Rows.auditAcceptsSpec) :=
 OpenClaim.holds_of_wide 7 Tryz.f7 rfl rfl rfl rfl rfl rfl rfl ⟨rfl,rfl,rfl,rfl,rfl⟩ rfl rfl rfl rfl rfl (by kernel_rfl) Tryz.func7 (by kernel_rfl)
  (of_decide_eq_true (by kernel_rfl)) (by unfold Func.isWrapper;first | (rw[if_pos (by decide +kernel)];kernel_rfl) | (rw[if_neg (by decide +kernel)];exact⟨rfl,rfl⟩))
  (fun os started H enc _=>lifted os started H enc)

theorem proved:Rows.AuditAcceptsCardSaid :=
 Claim7.holds_tied_plain_at .later [] [.data] true (true,"0fc5020064acd828dfc8f62f6b9ca55535e9ae70cf342fa538ab833d24d2144e") false
  over (fun _ h=>by cases h) (by kernel_rfl) (fun _ h=>by cases h) auditAccepts_row_tie rfl ⟨rfl,rfl⟩ (by kernel_rfl) rfl
  (fun f fn hf hfn=>by
   obtain rfl : f = 7 := Option.some.inj ((show Tryz.prog.funcNamed "sharecore/sharecorelaw18.AuditAccepts" = some 7 by kernel_rfl).symm.trans hf) |>.symm
   obtain rfl:fn=Tryz.f7:=(Option.some.inj (Tryz.func7.symm.trans hfn)).symm
   exact⟨by kernel_rfl,fun j t ht=>by
    rw[Tryz.params7]at ht
    have hm:t∈[54,5]:=by simpa using Array.mem_of_getElem? ht
    have hall:([54,5].all fun u=>!Tryz.prog.wantsStandIn u)=true:=by kernel_rfl
    exact(show Tryz.prog.wantsStandIn t=false by simpa using List.all_eq_true.1 hall t hm)⟩)
  (by kernel_rfl)
#print axioms proved
end Go.Proofs.YtbkgghhngeibhaaGreatDoor.auditAccepts
