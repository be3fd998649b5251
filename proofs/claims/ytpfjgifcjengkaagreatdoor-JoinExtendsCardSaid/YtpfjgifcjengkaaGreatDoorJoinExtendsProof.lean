/-
  At of shares of a secret is the share of the secret with the index: the statement of P17.3 and P17.5. No condition.
-/
import Derived.Test.YtpfjgifcjengkaaGreatDoorCards
import Derived.Test.YtpfjgifcjengkaaGreatDoorChecked
import Derived.Test.YtpfjgifcjengkaaGreatDoorTie
import Derived.Test.YtpfjgifcjengkaaGreatDoorDealA
import Derived.Test.YtpfjgifcjengkaaGreatDoorJoinAlive
import Derived.Test.YtpfjgifcjengkaaGreatDoorPartR
import Derived.LaidMore
import Derived.ShutString
namespace Go.Proofs.YtpfjgifcjengkaaGreatDoor.joinExtends
open Lib (hid)
open Go.ChangeShapes Go.WideShapes Go.ChangeAt Go.RowKit
set_option linter.unusedVariables false

theorem own:ownKnob Tryz.prog.godebug=none:=by kernel_rfl
theorem laidOut:laidOutB Tryz.prog=true:=by kernel_rfl

set_option linter.unusedSimpArgs false
structure XW (W0:World) (c1:Array Value) (MM:List ShV) (N:Nat) (zs:List Nat) (f0 f1 f2 f3:Int) (b6 b7 b10 b14 b15:Bool) (g1:Nat) (vz:Value) (pa:Option Addr) (pc g2:Nat) (w:World):Prop where
 off:Off (fun _=>False) W0 w
 k1:b6=true->b7=false->w.heap[g1]?=some (.cells c1 22 (0,0))
 rz:b7=true->b10=false->RowS W0.heap.size w vz MM
 sh:b10=true->N<=pc/\VsAt w (.slice pa N pc) zs (fun _=>True)
 k2:b14=true->b15=false->W0.heap.size<=g2/\w.heap[g2]?=some (.cells #[.int .i64 0,.int .i64 0,.int .i64 0,.int .i64 0,.slice none 0 0] 38 (0,0))
 k3:b15=true->w.heap[g2]?=some (.cells #[.int .i64 f0,.int .i64 f1,.int .i64 f2,.int .i64 f3,.slice pa N pc] 38 (0,0))
section
variable {W0 w w':World} {c1:Array Value} {MM:List ShV} {N:Nat} {zs:List Nat} {f0 f1 f2 f3:Int} {b6 b7 b10 b14 b15:Bool} {g1:Nat} {vz:Value} {pa:Option Addr} {pc g2:Nat}
theorem XW.cast {d6 d7 d10 d14 d15:Bool} (h:XW W0 c1 MM N zs f0 f1 f2 f3 b6 b7 b10 b14 b15 g1 vz pa pc g2 w) (e6:d6=b6) (e7:d7=b7) (e10:d10=b10) (e14:d14=b14) (e15:d15=b15):XW W0 c1 MM N zs f0 f1 f2 f3 d6 d7 d10 d14 d15 g1 vz pa pc g2 w:=by subst e6 e7 e10 e14 e15;exact h
theorem XW.start:XW W0 c1 MM N zs f0 f1 f2 f3 false false false false false 0 undef none 0 0 W0.drew:=⟨(Off.refl _ _).drew,fun h=>(by cases h),fun h=>(by cases h),fun h=>(by cases h),fun h=>(by cases h),fun h=>(by cases h)⟩
theorem XW.mk1 (h:XW W0 c1 MM N zs f0 f1 f2 f3 false false b10 b14 b15 g1 vz pa pc g2 w):XW W0 c1 MM N zs f0 f1 f2 f3 true false b10 b14 b15 w.heap.size vz pa pc g2 (w.alloc (.cells c1 22)):=by
 have hO:Off (fun _=>False) w (w.alloc (.cells c1 22)):=(Off.refl _ w).alloc _
 exact⟨h.off.alloc _,fun _ _=>heap_new' rfl _,fun e=>(by cases e),fun e=>⟨(h.sh e).1,(h.sh e).2.off hO (fun _ _ _ c=>c)⟩,fun e f=>⟨(h.k2 e f).1,hO.heap (h.k2 e f).2 (fun c=>c)⟩,fun e=>hO.heap (h.k3 e) (fun c=>c)⟩
theorem XW.cat {v':Value} (h:XW W0 c1 MM N zs f0 f1 f2 f3 b6 false false b14 b15 g1 vz pa pc g2 w) (hO:Off (fun _=>False) w w') (hr:RowS W0.heap.size w' v' MM):XW W0 c1 MM N zs f0 f1 f2 f3 b6 true false b14 b15 g1 v' pa pc g2 w' :=
 ⟨h.off.trans hO (fun _ _ c=>c),fun _ e=>(by cases e),fun _ _=>hr,fun e=>(by cases e),fun e f=>⟨(h.k2 e f).1,hO.heap (h.k2 e f).2 (fun c=>c)⟩,fun e=>hO.heap (h.k3 e) (fun c=>c)⟩
theorem XW.ats {pa':Option Addr} {pc':Nat} (h:XW W0 c1 MM N zs f0 f1 f2 f3 b6 true false b14 false g1 vz pa pc g2 w) (hO:Off (fun _=>False) w w') (hp:N<=pc'/\VsAt w' (.slice pa' N pc') zs (fun _=>True)):XW W0 c1 MM N zs f0 f1 f2 f3 b6 true true b14 false g1 vz pa' pc' g2 w' :=
 ⟨h.off.trans hO (fun _ _ c=>c),fun _ e=>(by cases e),fun _ e=>(by cases e),fun _=>hp,fun e f=>⟨(h.k2 e f).1,hO.heap (h.k2 e f).2 (fun c=>c)⟩,fun e=>(by cases e)⟩
theorem XW.mk2 (h:XW W0 c1 MM N zs f0 f1 f2 f3 b6 b7 b10 false false g1 vz pa pc g2 w):XW W0 c1 MM N zs f0 f1 f2 f3 b6 b7 b10 true false g1 vz pa pc w.heap.size (w.alloc (.cells #[.int .i64 0,.int .i64 0,.int .i64 0,.int .i64 0,.slice none 0 0] 38)):=by
 have hO:Off (fun _=>False) w (w.alloc (.cells #[.int .i64 0,.int .i64 0,.int .i64 0,.int .i64 0,.slice none 0 0] 38)):=(Off.refl _ w).alloc _
 exact⟨h.off.alloc _,fun e f=>hO.heap (h.k1 e f) (fun c=>c),fun e f=>(h.rz e f).off hO,fun e=>⟨(h.sh e).1,(h.sh e).2.off hO (fun _ _ _ c=>c)⟩,fun _ _=>⟨h.off.size,heap_new' rfl _⟩,fun e=>(by cases e)⟩
theorem XW.put (h:XW W0 c1 MM N zs f0 f1 f2 f3 b6 true true true false g1 vz pa pc g2 w):XW W0 c1 MM N zs f0 f1 f2 f3 b6 true true true true g1 vz pa pc g2 (w.setCells g2 0 [.int .i64 f0,.int .i64 f1,.int .i64 f2,.int .i64 f3,.slice pa N pc]):=by
 have hk:=h.k2 rfl rfl
 refine⟨setCells_in (S:=fun _=>False) h.off (fun e=>absurd e (Nat.not_lt.2 hk.1)) _,fun _ e=>(by cases e),fun _ e=>(by cases e),fun _=>⟨(h.sh rfl).1,?_⟩,fun _ e=>(by cases e),fun _=>setCells_at (vs:=[.int .i64 f0,.int .i64 f1,.int .i64 f2,.int .i64 f3,.slice pa N pc]) hk.2 rfl⟩
 exact((vs_ne17 (h.sh rfl).2 hk.2).off (setCells_off g2 _ 0 w) (fun k _ h e=>h e)).wide (fun _ _ _=>trivial)
end
set_option maxRecDepth 100000 in
set_option maxHeartbeats 4000000 in
theorem walk (q0:Pms) (a0:Option Addr) (n0 cap0:Nat) (bs0:List Nat) (b0:Option Addr) (m0 dap0:Nat) (ys0:List Nat) (i1:Int) (i2:Int) (w:World) (w0:q0.ok/\n0=bs0.length/\n0<=cap0/\Small bs0/\BsAt w a0 bs0 (fun k=>k<w.heap.size)/\m0=ys0.length/\m0<=dap0/\Small ys0/\BsAt w b0 ys0 (fun k=>k<w.heap.size)) (w1:(Lit.int .u8 i1).wf=true) (w2:(Lit.int .u8 i2).wf=true) (hT:TabAt w) :
  Calls Tryz.prog 8 #[.agg #[.int .i64 q0.fd,.int .i64 q0.th,.int .i64 q0.sh,.int .i64 q0.ln,.slice a0 n0 cap0,.slice b0 m0 dap0],.int .u8 i1,.int .u8 i2] w fun e w'=>e=.returned (.bool true)/\Off (fun _=>False) w w':=by
 have FAL:Hid (∀ W,TabAt W->Calls Tryz.prog 10 #[] W fun e w'=>e=.returned (.bool true)/\Off (fun _=>False) W w'):=hid (fun W hT=>alive17_any W hT)
 have HT:=hid hT
 clear hT
 obtain⟨hq,hn1,hc1,hs1,hb1,hn2,hc2,hs2,hb2⟩:=w0
 obtain⟨c,hc⟩:∃ c,c=lrg16 q0 n0 m0:=⟨_,rfl⟩
 have HZ:=hid (show c=0->lrg16 q0 n0 m0=0 from fun h=>hc.symm.trans h)
 have hc01:=lrg16_cases q0 n0 m0
 rw[<-hc]at hc01
 have FL:=hid (fun W=>large16_any q0 a0 b0 n0 m0 cap0 dap0 W)
 rw[<-hc]at FL
 clear hc
 by_cases hbig:c=1
 ·subst hbig
  obtain⟨fd,th,sh,ln⟩:=q0
  unfold Pms.val at FL
  dsimp only at FL ⊢
  clear hq hn1 hc1 hs1 hb1 hn2 hc2 hs2 hb2 HZ hc01
  obtain⟨W0,hW0⟩:∃ W0,W0=w.alloc (.cells #[.int .i64 fd,.int .i64 th,.int .i64 sh,.int .i64 ln,.slice a0 n0 cap0,.slice b0 m0 dap0] 63):=⟨_,rfl⟩
  have HO0:=hid (show Off (fun _=>False) w W0 by rw[hW0];exact(Off.refl _ w).alloc _)
  have HG0:=hid (show W0.heap[w.heap.size]?=some (.cells #[.int .i64 fd,.int .i64 th,.int .i64 sh,.int .i64 ln,.slice a0 n0 cap0,.slice b0 m0 dap0] 63 (0,0)) by rw[hW0];exact heap_new' rfl _)
  have HW0:=hid hW0
  clear hW0
  go_enter Tryz.func8,Tryz.ntmps8
  go_upto_region 1 with fail
  rw[<-HW0.out]
  have g:=HG0.out
  have p0:=cell_of_heap g 0
  have p1:=cell_of_heap g 1
  have p2:=cell_of_heap g 2
  have p3:=cell_of_heap g 3
  have p4:=cell_of_heap g 4
  have p5:=cell_of_heap g 5
  have lp:=heap_lt g
  clear g
  go_wp2_with fail
  refine(FL.out _).mono ?_
  rintro e u1 ⟨rfl,hO⟩
  have HO1:=hid (HO0.out.trans hO (fun _ _ c=>c))
  have HG1:=hid (hO.heap HG0.out (fun c=>c))
  clear hO
  clear p0 p1 p2 p3 p4 p5 lp
  go_wp2_with fail
  refine(FAL.out _ (HT.out.off HO1.out)).mono ?_
  rintro e u2 ⟨rfl,hO⟩
  have HO2:=hid (HO1.out.trans hO (fun _ _ c=>c))
  clear hO
  go_wp2
  go_ret
  exact⟨rfl,HO2.out⟩
 obtain rfl:c=0:=by omega
 have hz:=HZ.out rfl
 have hz2:=lrg16_zero hz
 clear hbig hc01 HZ
 by_cases h8:8<q0.th
 ·obtain⟨fd,th,sh,ln⟩:=q0
  unfold Pms.val at FL
  dsimp only at FL h8 ⊢
  clear hq hn1 hc1 hs1 hb1 hn2 hc2 hs2 hb2 hz hz2
  obtain⟨W0,hW0⟩:∃ W0,W0=w.alloc (.cells #[.int .i64 fd,.int .i64 th,.int .i64 sh,.int .i64 ln,.slice a0 n0 cap0,.slice b0 m0 dap0] 63):=⟨_,rfl⟩
  have HO0:=hid (show Off (fun _=>False) w W0 by rw[hW0];exact(Off.refl _ w).alloc _)
  have HG0:=hid (show W0.heap[w.heap.size]?=some (.cells #[.int .i64 fd,.int .i64 th,.int .i64 sh,.int .i64 ln,.slice a0 n0 cap0,.slice b0 m0 dap0] 63 (0,0)) by rw[hW0];exact heap_new' rfl _)
  have HW0:=hid hW0
  clear hW0
  go_enter Tryz.func8,Tryz.ntmps8
  go_upto_region 1 with fail
  rw[<-HW0.out]
  have g:=HG0.out
  have p0:=cell_of_heap g 0
  have p1:=cell_of_heap g 1
  have p2:=cell_of_heap g 2
  have p3:=cell_of_heap g 3
  have p4:=cell_of_heap g 4
  have p5:=cell_of_heap g 5
  have lp:=heap_lt g
  clear g
  go_wp2_with fail
  refine(FL.out _).mono ?_
  rintro e u1 ⟨rfl,hO⟩
  have HO1:=hid (HO0.out.trans hO (fun _ _ c=>c))
  have HG1:=hid (hO.heap HG0.out (fun c=>c))
  clear hO
  clear p0 p1 p2 p3 p4 p5 lp
  have g:=HG1.out
  have p0:=cell_of_heap g 0
  have p1:=cell_of_heap g 1
  have p2:=cell_of_heap g 2
  have p3:=cell_of_heap g 3
  have p4:=cell_of_heap g 4
  have p5:=cell_of_heap g 5
  have lp:=heap_lt g
  clear g
  go_wp2_with fail
  refine(FAL.out _ (HT.out.off HO1.out)).mono ?_
  rintro e u2 ⟨rfl,hO⟩
  have HO2:=hid (HO1.out.trans hO (fun _ _ c=>c))
  clear hO
  go_wp2
  go_ret
  exact⟨rfl,HO2.out⟩
 obtain⟨r,hr⟩:∃ r,r=polE q0 bs0 ys0:=⟨_,rfl⟩
 have FR:=hid (fun W (h:Off (fun _=>False) w W)=>refdeal_any q0 hq a0 b0 n0 m0 cap0 dap0 bs0 ys0 (fun k=>k<w.heap.size) W (fun k hk=>Nat.lt_of_lt_of_le hk h.size) hn1 hn2 hc1 hc2 hs1 hs2 (by omega) (by omega) (hb1.off h (fun _ _ _ c=>c)) (hb2.off h (fun _ _ _ c=>c)))
 rw[<-hr]at FR
 by_cases h0:r=0
 ·have hz0:polE q0 bs0 ys0=0:=hr.symm.trans h0
  have hpe:=polE_ok hz0
  have hpr:=prN_ok hpe.1
  have hpos:=modN_pos hpr.1
  obtain⟨n,hn⟩:∃ n:Nat,n=q0.sh.toNat:=⟨_,rfl⟩
  obtain⟨T,hT'⟩:∃ T:Nat,T=q0.T:=⟨_,rfl⟩
  have hth:q0.th=(T:Int):=by rw[hT'];unfold Pms.T;omega
  have hT1:1<=T/\T<=8/\T<=n/\n<=255:=by rw[hT',hn];unfold Pms.T;omega
  have hcn:q0.cn<=7:=by unfold Pms.cn cntI cntN;split <;> omega
  have FR':Hid (∀ W,Off (fun _=>False) w W->Calls Tryz.prog 30 #[q0.val,.slice a0 n0 cap0,.slice b0 m0 dap0] W fun e w'=>∃ v L,e=.returned (.tuple #[v,.int .i64 0])/\(RowS W.heap.size w' v L/\L.length=n/\L.map ShV.sh=shrsN q0 (modN q0.fd) (polsN q0 bs0 ys0)/\∀ x∈L,PlAt w' x (fun j=>j<w'.heap.size))/\Off (fun _=>False) W w'):=hid (fun W h=>(FR.out W h).mono (fun e w' ⟨v,he,h1,_,h3⟩=>by
   obtain⟨L,h4,h5,h6,h7⟩:=EvL.rows17 hq (by omega) hpos.2 (by omega) (by rw[polsV_length];omega) (h1 h0)
   refine⟨v,L,by rw[he,h0];rfl,⟨h4,by rw[h5,hn],?_,h7⟩,h3⟩
   rw[<-shrsN_red17]
   exact h6))
  obtain⟨Q,hQ⟩:∃ Q:Pms,Q=q0:=⟨_,rfl⟩
  have HQ:=hid (show polE Q bs0 ys0=0/\T=Q.T/\Q.cn<=7/\n=Q.sh.toNat from by rw[hQ];exact⟨hz0,hT',hcn,hn⟩)
  have FR:Hid (∀ W,Off (fun _=>False) w W->Calls Tryz.prog 30 #[q0.val,.slice a0 n0 cap0,.slice b0 m0 dap0] W fun e w'=>∃ v L,e=.returned (.tuple #[v,.int .i64 0])/\(RowS W.heap.size w' v L/\L.length=n/\L.map ShV.sh=shrsN Q (modN Q.fd) (polsN Q bs0 ys0)/\∀ x∈L,PlAt w' x (fun j=>j<w'.heap.size))/\Off (fun _=>False) W w'):=by rw[hQ];exact FR'
  have HSec:=hid (And.intro hn1 (And.intro hs1 hb1))
  have HTn:=hid hT1
  clear FR' hr h0 hz0 hpe hpr hpos hn hT' hcn hT1 hQ hq hn1 hc1 hs1 hb1 hn2 hc2 hs2 hb2 hz hz2
  obtain⟨fd,th,sh,ln⟩:=q0
  dsimp only at hth h8
  have HTh:=hid hth
  clear hth
  unfold Pms.val at FL FR
  dsimp only at FL FR ⊢
  obtain⟨W0,hW0⟩:∃ W0,W0=w.alloc (.cells #[.int .i64 fd,.int .i64 th,.int .i64 sh,.int .i64 ln,.slice a0 n0 cap0,.slice b0 m0 dap0] 63):=⟨_,rfl⟩
  have HO0:=hid (show Off (fun _=>False) w W0 by rw[hW0];exact(Off.refl _ w).alloc _)
  have HG0:=hid (show W0.heap[w.heap.size]?=some (.cells #[.int .i64 fd,.int .i64 th,.int .i64 sh,.int .i64 ln,.slice a0 n0 cap0,.slice b0 m0 dap0] 63 (0,0)) by rw[hW0];exact heap_new' rfl _)
  have HW0:=hid hW0
  clear hW0
  go_enter Tryz.func8,Tryz.ntmps8
  go_upto_region 1 with fail
  rw[<-HW0.out]
  have g:=HG0.out
  have p0:=cell_of_heap g 0
  have p1:=cell_of_heap g 1
  have p2:=cell_of_heap g 2
  have p3:=cell_of_heap g 3
  have p4:=cell_of_heap g 4
  have p5:=cell_of_heap g 5
  have lp:=heap_lt g
  clear g
  go_wp2_with fail
  refine(FL.out _).mono ?_
  rintro e u1 ⟨rfl,hO⟩
  have HO1:=hid (HO0.out.trans hO (fun _ _ c=>c))
  have HG1:=hid (hO.heap HG0.out (fun c=>c))
  clear hO
  clear p0 p1 p2 p3 p4 p5 lp
  have g:=HG1.out
  have p0:=cell_of_heap g 0
  have p1:=cell_of_heap g 1
  have p2:=cell_of_heap g 2
  have p3:=cell_of_heap g 3
  have p4:=cell_of_heap g 4
  have p5:=cell_of_heap g 5
  have lp:=heap_lt g
  clear g
  go_wp2_with fail
  refine(FR.out _ HO1.out).mono ?_
  rintro e u2 ⟨v2,L,rfl,⟨hR,hLl,hLm,hPl⟩,hO⟩
  have HO2:=hid (HO1.out.trans hO (fun _ _ c=>c))
  have HG2:=hid (hO.heap HG1.out (fun c=>c))
  obtain⟨aL,cL,rfl,hcc,_⟩:=id hR.svs
  have hSv:=hR.svs
  rw[hLl]at hcc hSv ⊢
  have HSv:=hid hSv
  have HLm:=hid hLm
  have HPl:=hid hPl
  have HNL:=hid hLl
  clear hO hR hLl hLm hPl hSv
  clear p0 p1 p2 p3 p4 p5 lp
  obtain⟨kk,rfl⟩:∃ kk:Nat,i1=(kk:Int):=Int.eq_ofNat_of_zero_le (by have:=bounds_u8 w1;omega)
  have hkk:kk<256:=by have:=bounds_u8 w1;omega
  have hn8:=HTn.out
  obtain⟨q,hq⟩:∃ q,q=kk%n:=⟨_,rfl⟩
  have hqn:q<n:=by rw[hq];exact Nat.mod_lt _ (by omega)
  have r0:IntKind.i64.wrap (kk:Int)=(kk:Int):=by rw[IntKind.wrap_i64];omega
  have r1:¬(n:Int)=0:=by omega
  have r2:Int.tmod (kk:Int) (n:Int)=(q:Int):=by rw[hq];exact(Int.ofNat_tmod _ _).symm
  have r3:(kk:Int)%(n:Int)=(q:Int):=by rw[hq];exact(Int.natCast_emod _ _).symm
  have r4:IntKind.i64.wrap (q:Int)=(q:Int):=by rw[IntKind.wrap_i64];omega
  obtain⟨a1,hs1,hb1⟩:=shs_h aL n cL q (by omega) hcc
  obtain⟨a2,hs2,hb2⟩:=shs_l aL n cL q (by omega) hcc
  obtain⟨mm,rfl⟩:∃ mm:Nat,i2=(mm:Int):=Int.eq_ofNat_of_zero_le (by have:=bounds_u8 w2;omega)
  have hmm:mm<256:=by have:=bounds_u8 w2;omega
  obtain⟨kx,hkx⟩:∃ kx,kx=mm%n:=⟨_,rfl⟩
  have hkn:kx<n:=by rw[hkx];exact Nat.mod_lt _ (by omega)
  have s0:IntKind.i64.wrap (mm:Int)=(mm:Int):=by rw[IntKind.wrap_i64];omega
  have s1:Int.tmod (mm:Int) (n:Int)=(kx:Int):=by rw[hkx];exact(Int.ofNat_tmod _ _).symm
  have s2:(mm:Int)%(n:Int)=(kx:Int):=by rw[hkx];exact(Int.natCast_emod _ _).symm
  have s3:IntKind.i64.wrap (kx:Int)=(kx:Int):=by rw[IntKind.wrap_i64];omega
  have s4:IntKind.i64.wrap ((kx:Int)+1)=(kx:Int)+1:=by rw[IntKind.wrap_i64];omega
  have HKn:=hid (show q<n/\kx<n/\n<=255 by omega)
  obtain⟨a3,hs3,hb3⟩:=shs_one17 aL n cL kx hkn hcc
  obtain⟨zs,hzs⟩:∃ zs,zs=payN (modN Q.fd) (polsN Q bs0 ys0) (kx+1):=⟨_,rfl⟩
  have hML:(L.drop q++L.take q).length=n:=by rw[List.length_append,List.length_drop,List.length_take,HNL.out];omega
  have hone:=one_share17 HLm.out (k:=kx) (by rw[<-HQ.out.2.2.2];exact hkn)
  have hsv:shrN Q (modN Q.fd) (polsN Q bs0 ys0) (kx+1)=⟨Q.fd,Q.th,(kx:Int)+1,Q.ln,zs⟩:=by rw[hzs];unfold shrN;congr 1
  rw[hsv]at hone
  obtain⟨wq,hwq⟩:∃ wq,wq=u2:=⟨_,rfl⟩
  have HPq:=hid (show ∀ x∈L.drop q++L.take q,PlAt wq x (fun j=>j<wq.heap.size) from fun x hx=>by
   rw[hwq]
   refine HPl.out x ?_
   rw[List.mem_append]at hx
   rcases hx with hx | hx
   ·exact List.mem_of_mem_drop hx
   exact List.mem_of_mem_take hx)
  have hperm:(shrsN Q (modN Q.fd) (polsN Q bs0 ys0)).Perm ((L.drop q++L.take q).map ShV.sh):=by
   rw[<-HLm.out]
   refine List.Perm.map _ ?_
   refine List.Perm.symm (List.perm_append_comm.trans ?_)
   rw[List.take_append_drop]
  have FA:Hid (∀ W v,Off (fun _=>False) wq W->RowS wq.heap.size W v (L.drop q++L.take q)->TabAt W->Calls Tryz.prog 18 #[.pointer none,v,.int .i64 ((kx:Int)+1)] W fun e w'=>∃ pa pc,e=.returned (.tuple #[.agg #[.int .i64 Q.fd,.int .i64 Q.th,.int .i64 ((kx:Int)+1),.int .i64 Q.ln,.slice pa zs.length pc],.int .i64 0])/\(zs.length<=pc/\VsAt w' (.slice pa zs.length pc) zs (fun _=>True))/\Off (fun _=>False) W w'):=hid (fun W v hO hr hT=>by
   have hsh:=hr.shs (by rw[hML];have:=HKn.out;unfold maxLen;omega) HPq.out (S:=fun _=>False) hO (fun _ _ c=>c)
   obtain⟨g,gc,rfl,_,_⟩:=hr.form (by rw[hML];have:=HKn.out;omega)
   rw[hML]at hsh ⊢
   obtain⟨M,hM⟩:∃ M:List Sh,M=(L.drop q++L.take q).map ShV.sh:=⟨_,rfl⟩
   rw[<-hM]at hsh hperm
   have hMn:M.length=n:=by rw[hM,List.length_map,hML]
   have hsome:SomeS Q bs0 ys0 M:=⟨⟨M,hperm,List.Sublist.refl _⟩,by rw[hMn,<-HQ.out.2.1];have:=HTn.out;omega⟩
   have hat:=hsome.at HQ.out.1 (i:=kx+1) (by omega) (by have:=HKn.out;omega)
   have hhd:=hsome.head HQ.out.1
   have htc:TJ M=T/\cJ M=Q.cn:=by unfold TJ cJ;rw[hhd.2.1,hhd.2.2];exact⟨HQ.out.2.1.symm,rfl⟩
   have e1:((kx+1:Nat):Int)=(kx:Int)+1:=by omega
   rw[e1]at hat
   refine(at_big M (some ⟨g,0,none⟩) n gc hMn.symm (by have:=HKn.out;omega) (fun _=>by rw[htc.1];have:=HTn.out;omega) (fun s hs=>by
    obtain⟨i,_,_,e⟩:=hsome.share HQ.out.1 hs
    rw[e]
    show(payN _ _ _).length<=1000
    unfold payN
    rw[List.length_map,polsN_length]
    have:=HQ.out.2.2.1
    omega) ((kx:Int)+1) (WalkArith.wf_i64 (by have:=HKn.out;omega)) none [] (fun _=>False) (fun k=>k<W.heap.size) W (shs_old hsh) (fun b h=>⟨h,fun c=>c⟩) (Tp.none W) (fun _=>by
     rw[htc.1,htc.2]
     have:=j_ev1 T (by have:=HTn.out;omega) Q.cn (by have:=HQ.out.2.2.1;omega)
     simpa using this.2) hT).mono ?_
   rintro e w' ⟨pa,pc,rfl,hpc,hvs,_,_,hO'⟩
   rw[hat.1,hat.2,hsv]at *
   exact⟨pa,pc,rfl,⟨hpc,hvs.wide (fun _ _ _=>trivial)⟩,hO'⟩)
  have FCC:=hid (fun W g (hO:Off (fun _=>False) u2 W) (hb:W.heap[g]?=some (.cells #[.slice a2 (n-q) (cL-q),.slice a1 q cL] 22 (0,0)))=>concat_sh g _ _ (L.drop q) (L.take q) _ W (cell_of_heap hb 0) (cell_of_heap hb 1) (hb2 _ _ _ (HSv.out.off hO (fun _ _ _ c=>c))) (hb1 _ _ _ (HSv.out.off hO (fun _ _ _ c=>c))) (by rw[List.length_drop,List.length_take,HNL.out];omega))
  have HL3:=hid (show ShsAt u2 (.slice a3 1 (cL-kx)) [⟨Q.fd,Q.th,(kx:Int)+1,Q.ln,zs⟩] (fun _=>True) by
   rw[<-hone]
   exact(hb3 _ _ _ (SvsAt.wide HSv.out (S':=fun _=>True) (fun _ _ _=>trivial))).shs (by rw[List.length_take];unfold maxLen;omega) (fun x hx=>(HPl.out x (List.mem_of_mem_drop (List.mem_of_mem_take hx))).wide (S':=fun _=>True) (fun _ _ _=>trivial)) (fun _ _ _=>trivial))
  have HOk:=hid (show(⟨Q.fd,Q.th,(kx:Int)+1,Q.ln,zs⟩:Sh).ok by
   obtain⟨_,_,_,_,_,h,_⟩:=HL3.out
   exact h _ (by simp))
  rw[<-hwq]at FCC HO2 HG2 HL3 ⊢
  have HTq:=hid (HT.out.off HO2.out)
  clear hwq hb1 hb2 hb3 hcc hq hmm hkx hkk hn8 hML hone hsv hperm hzs
  go_upto_region 8 with fail
  obtain⟨x52,hx⟩:∃ vv:Value,vv=.slice aL n cL:=⟨_,rfl⟩
  have X52:=hid hx
  clear hx
  obtain⟨x53,hx⟩:∃ vv:Value,vv=.int .i64 q:=⟨_,rfl⟩
  have X53:=hid hx
  clear hx
  obtain⟨x54,hx⟩:∃ vv:Value,vv=.slice a2 (n-q) (cL-q):=⟨_,rfl⟩
  have X54:=hid hx
  clear hx
  obtain⟨x55,hx⟩:∃ vv:Value,vv=.slice aL n cL:=⟨_,rfl⟩
  have X55:=hid hx
  clear hx
  obtain⟨x56,hx⟩:∃ vv:Value,vv=.int .i64 q:=⟨_,rfl⟩
  have X56:=hid hx
  clear hx
  obtain⟨x57,hx⟩:∃ vv:Value,vv=.slice a1 q cL:=⟨_,rfl⟩
  have X57:=hid hx
  clear hx
  obtain⟨x60,hx⟩:∃ vv:Value,vv=.int .i64 kx:=⟨_,rfl⟩
  have X60:=hid hx
  clear hx
  obtain⟨x61,hx⟩:∃ vv:Value,vv=.int .i64 ((kx:Int)+1):=⟨_,rfl⟩
  have X61:=hid hx
  clear hx
  obtain⟨x64,hx⟩:∃ vv:Value,vv=.int .i64 0:=⟨_,rfl⟩
  have X64:=hid hx
  clear hx
  obtain⟨x12,hx⟩:∃ vv:Value,vv=.int .i64 0:=⟨_,rfl⟩
  have X12:=hid hx
  clear hx
  refine wp_region_clo (fun a0 l a' w'=>∃ (g1:Nat) (vz:Value) (pa:Option Addr) (pc:Nat) (g2:Nat),a'=(Act.put (Act.put (fill a0 51 [sel (l 11) (.tuple #[.agg #[.int .i64 Q.fd,.int .i64 Q.th,.int .i64 ((kx:Int)+1),.int .i64 Q.ln,.slice pa zs.length pc],.int .i64 0]) (undef),sel (l 0) x52 (undef),sel (l 1) x53 (undef),sel (l 2) x54 (undef),sel (l 3) x55 (undef),sel (l 4) x56 (undef),sel (l 5) x57 (undef),sel (l 6) (.slice (some ⟨g1,0,none⟩) 2 2) (undef),sel (l 7) (vz) (undef),sel (l 8) x60 (undef),sel (l 9) x61 (undef),sel (l 10) (.tuple #[.agg #[.int .i64 Q.fd,.int .i64 Q.th,.int .i64 ((kx:Int)+1),.int .i64 Q.ln,.slice pa zs.length pc],.int .i64 0]) (undef),sel (l 12) (.agg #[.int .i64 Q.fd,.int .i64 Q.th,.int .i64 ((kx:Int)+1),.int .i64 Q.ln,.slice pa zs.length pc]) (undef),sel (l 13) x64 (undef),undef,undef,undef,undef,undef,undef,undef,undef,undef,undef,undef,undef,undef,undef,undef]) (some 11) (sel (l 14) (.pointer (some ⟨g2,0,none⟩)) (undef))) (some 12) (sel (l 16) x12 (undef)))/\XW wq #[.slice a2 (n-q) (cL-q),.slice a1 q cL] (L.drop q++L.take q) zs.length zs Q.fd Q.th ((kx:Int)+1) Q.ln (l 6) (l 7) (l 10) (l 14) (l 15) g1 vz pa pc g2 w') (by kernel_rfl) (by kernel_rfl) ?_ ⟨?_,?_,?_,?_,?_,?_,?_,?_,?_,?_,?_,?_,?_,?_,?_,?_,?_,trivial⟩ ?_
  ·refine⟨0,undef,none,0,0,?_,XW.start⟩
   simp only[XF,XP,sel_start]
   try rfl
  all_goals try (rintro l a wr ⟨g1,vz,pa,pc,g2,ha,hV⟩ hc hl hd K' hK)
  ·as_aux_lemma =>
    have hx:=X52.out;subst hx
    simp only[XF,XP]at ha
    subst ha
    have HV:=hid hV
    clear hV
    rw[if_pos (by rfl)]
    go_simp
    refine Shut.out hK _ _ ⟨g1,vz,pa,pc,g2,?_,HV.out.cast (upd_ne l (by decide)) (upd_ne l (by decide)) (upd_ne l (by decide)) (upd_ne l (by decide)) (upd_ne l (by decide))⟩
    simp only[XF,XP,sel_new]
    try rfl
  ·as_aux_lemma =>
    have hx:=X53.out;subst hx
    simp only[XF,XP]at ha
    subst ha
    have HV:=hid hV
    clear hV
    rw[if_pos (by rfl)]
    go_simp
    refine Shut.out hK _ _ ⟨g1,vz,pa,pc,g2,?_,HV.out.cast (upd_ne l (by decide)) (upd_ne l (by decide)) (upd_ne l (by decide)) (upd_ne l (by decide)) (upd_ne l (by decide))⟩
    simp only[XF,XP,sel_new]
    try rfl
  ·as_aux_lemma =>
    have d0:=hd 0 (by decide)
    have d1:=hd 1 (by decide)
    have hx:=X52.out;subst hx
    have hx:=X53.out;subst hx
    have hx:=X54.out;subst hx
    simp only[XF,XP,sel_of d0,sel_of d1]at ha
    subst ha
    have HV:=hid hV
    clear hV
    rw[if_pos (by rfl)]
    go_simp
    refine Shut.out hK _ _ ⟨g1,vz,pa,pc,g2,?_,HV.out.cast (upd_ne l (by decide)) (upd_ne l (by decide)) (upd_ne l (by decide)) (upd_ne l (by decide)) (upd_ne l (by decide))⟩
    simp only[XF,XP,sel_new,sel_dep d0,sel_dep d1]
    try rfl
  ·as_aux_lemma =>
    have hx:=X55.out;subst hx
    simp only[XF,XP]at ha
    subst ha
    have HV:=hid hV
    clear hV
    rw[if_pos (by rfl)]
    go_simp
    refine Shut.out hK _ _ ⟨g1,vz,pa,pc,g2,?_,HV.out.cast (upd_ne l (by decide)) (upd_ne l (by decide)) (upd_ne l (by decide)) (upd_ne l (by decide)) (upd_ne l (by decide))⟩
    simp only[XF,XP,sel_new]
    try rfl
  ·as_aux_lemma =>
    have hx:=X56.out;subst hx
    simp only[XF,XP]at ha
    subst ha
    have HV:=hid hV
    clear hV
    rw[if_pos (by rfl)]
    go_simp
    refine Shut.out hK _ _ ⟨g1,vz,pa,pc,g2,?_,HV.out.cast (upd_ne l (by decide)) (upd_ne l (by decide)) (upd_ne l (by decide)) (upd_ne l (by decide)) (upd_ne l (by decide))⟩
    simp only[XF,XP,sel_new]
    try rfl
  ·as_aux_lemma =>
    have d3:=hd 3 (by decide)
    have d4:=hd 4 (by decide)
    have hx:=X55.out;subst hx
    have hx:=X56.out;subst hx
    have hx:=X57.out;subst hx
    simp only[XF,XP,sel_of d3,sel_of d4]at ha
    subst ha
    have HV:=hid hV
    clear hV
    rw[if_pos (by rfl)]
    go_simp
    refine Shut.out hK _ _ ⟨g1,vz,pa,pc,g2,?_,HV.out.cast (upd_ne l (by decide)) (upd_ne l (by decide)) (upd_ne l (by decide)) (upd_ne l (by decide)) (upd_ne l (by decide))⟩
    simp only[XF,XP,sel_new,sel_dep d3,sel_dep d4]
    try rfl
  ·have d2:=hd 2 (by decide)
   have d5:=hd 5 (by decide)
   have hx:=X54.out;subst hx
   have hx:=X57.out;subst hx
   have g7:=hc.not (i:=7) hl 17 (by kernel_rfl)
   have g10:=hc.not (i:=10) hl 17 (by kernel_rfl)
   have g11:=hc.not (i:=11) hl 17 (by kernel_rfl)
   have g12:=hc.not (i:=12) hl 17 (by kernel_rfl)
   have g13:=hc.not (i:=13) hl 17 (by kernel_rfl)
   have g15:=hc.not (i:=15) hl 17 (by kernel_rfl)
   have g16:=hc.not (i:=16) hl 17 (by kernel_rfl)
   simp only[XF,XP,sel_of d2,sel_of d5,sel_no g7,sel_no g10,sel_no g11,sel_no g12,sel_no g13,sel_no g15,sel_no g16,sel_no hl]at ha
   subst ha
   have G7:=hid g7
   have G10:=hid g10
   have G11:=hid g11
   have G12:=hid g12
   have G13:=hid g13
   have G15:=hid g15
   have G16:=hid g16
   clear g7
   clear g10
   clear g11
   clear g12
   clear g13
   clear g15
   clear g16
   have HV:=hid hV
   clear hV
   rw[if_pos (by rfl)]
   go_simp
   refine Shut.out hK _ _ ⟨wr.heap.size,vz,pa,pc,g2,?_,(XW.mk1 (HV.out.cast hl.symm G7.out.symm rfl rfl rfl)).cast (upd_same l 6) ((upd_ne l (by decide)).trans G7.out) (upd_ne l (by decide)) (upd_ne l (by decide)) (upd_ne l (by decide))⟩
   simp only[XF,XP,sel_new,sel_dep d2,sel_dep d5,sel_no (show upd l 6 7=false by rw[upd_ne l (by decide)];exact G7.out),sel_no (show upd l 6 10=false by rw[upd_ne l (by decide)];exact G10.out),sel_no (show upd l 6 11=false by rw[upd_ne l (by decide)];exact G11.out),sel_no (show upd l 6 12=false by rw[upd_ne l (by decide)];exact G12.out),sel_no (show upd l 6 13=false by rw[upd_ne l (by decide)];exact G13.out),sel_no (show upd l 6 15=false by rw[upd_ne l (by decide)];exact G15.out),sel_no (show upd l 6 16=false by rw[upd_ne l (by decide)];exact G16.out)]
   try rfl
  all_goals try (rintro l a wr ⟨g1,vz,pa,pc,g2,ha,hV⟩ hc hl hd K' hK)
  ·as_aux_lemma =>
    have d6:=hd 6 (by decide)
    have g10:=hc.not (i:=10) hl 17 (by kernel_rfl)
    have g11:=hc.not (i:=11) hl 17 (by kernel_rfl)
    have g12:=hc.not (i:=12) hl 17 (by kernel_rfl)
    have g13:=hc.not (i:=13) hl 17 (by kernel_rfl)
    have g15:=hc.not (i:=15) hl 17 (by kernel_rfl)
    have g16:=hc.not (i:=16) hl 17 (by kernel_rfl)
    simp only[XF,XP,sel_of d6,sel_no g10,sel_no g11,sel_no g12,sel_no g13,sel_no g15,sel_no g16,sel_no hl]at ha
    subst ha
    have G10:=hid g10
    have G11:=hid g11
    have G12:=hid g12
    have G13:=hid g13
    have G15:=hid g15
    have G16:=hid g16
    clear g10
    clear g11
    clear g12
    clear g13
    clear g15
    clear g16
    have HV:=hid hV
    clear hV
    rw[if_pos (by rfl)]
    go_simp
    refine(FCC.out wr g1 HV.out.off (HV.out.k1 d6 hl)).mono ?_
    rintro e w1 ⟨v',rfl,hP1,hO1⟩
    go_wp2_with fail
    refine Shut.out hK _ _ ⟨g1,v',pa,pc,g2,?_,(XW.cat (HV.out.cast rfl hl.symm G10.out.symm rfl rfl) hO1 (hP1.base HV.out.off.size)).cast (upd_ne l (by decide)) (upd_same l 7) ((upd_ne l (by decide)).trans G10.out) (upd_ne l (by decide)) (upd_ne l (by decide))⟩
    simp only[XF,XP,sel_new,sel_dep d6,sel_no (show upd l 7 10=false by rw[upd_ne l (by decide)];exact G10.out),sel_no (show upd l 7 11=false by rw[upd_ne l (by decide)];exact G11.out),sel_no (show upd l 7 12=false by rw[upd_ne l (by decide)];exact G12.out),sel_no (show upd l 7 13=false by rw[upd_ne l (by decide)];exact G13.out),sel_no (show upd l 7 15=false by rw[upd_ne l (by decide)];exact G15.out),sel_no (show upd l 7 16=false by rw[upd_ne l (by decide)];exact G16.out)]
    try rfl
  ·as_aux_lemma =>
    have hx:=X60.out;subst hx
    simp only[XF,XP]at ha
    subst ha
    have HV:=hid hV
    clear hV
    rw[if_pos (by rfl)]
    go_simp
    refine Shut.out hK _ _ ⟨g1,vz,pa,pc,g2,?_,HV.out.cast (upd_ne l (by decide)) (upd_ne l (by decide)) (upd_ne l (by decide)) (upd_ne l (by decide)) (upd_ne l (by decide))⟩
    simp only[XF,XP,sel_new]
    try rfl
  ·as_aux_lemma =>
    have d8:=hd 8 (by decide)
    have hx:=X60.out;subst hx
    have hx:=X61.out;subst hx
    simp only[XF,XP,sel_of d8]at ha
    subst ha
    have HV:=hid hV
    clear hV
    rw[if_pos (by rfl)]
    go_simp
    refine Shut.out hK _ _ ⟨g1,vz,pa,pc,g2,?_,HV.out.cast (upd_ne l (by decide)) (upd_ne l (by decide)) (upd_ne l (by decide)) (upd_ne l (by decide)) (upd_ne l (by decide))⟩
    simp only[XF,XP,sel_new,sel_dep d8]
    try rfl
  ·as_aux_lemma =>
    have d7:=hd 7 (by decide)
    have d9:=hd 9 (by decide)
    have hx:=X61.out;subst hx
    have g11:=hc.not (i:=11) hl 17 (by kernel_rfl)
    have g12:=hc.not (i:=12) hl 17 (by kernel_rfl)
    have g13:=hc.not (i:=13) hl 17 (by kernel_rfl)
    have g15:=hc.not (i:=15) hl 17 (by kernel_rfl)
    have g16:=hc.not (i:=16) hl 17 (by kernel_rfl)
    simp only[XF,XP,sel_of d7,sel_of d9,sel_no g11,sel_no g12,sel_no g13,sel_no g15,sel_no g16,sel_no hl]at ha
    subst ha
    have G11:=hid g11
    have G12:=hid g12
    have G13:=hid g13
    have G15:=hid g15
    have G16:=hid g16
    clear g11
    clear g12
    clear g13
    clear g15
    clear g16
    have HV:=hid hV
    clear hV
    rw[if_pos (by rfl)]
    go_simp
    refine(FA.out wr vz HV.out.off (HV.out.rz d7 hl) (HTq.out.off HV.out.off)).mono ?_
    rintro e w1 ⟨pa',pc',rfl,hP1,hO1⟩
    go_wp2_with fail
    refine Shut.out hK _ _ ⟨g1,vz,pa',pc',g2,?_,(XW.ats (HV.out.cast rfl d7.symm hl.symm rfl G15.out.symm) hO1 hP1).cast (upd_ne l (by decide)) ((upd_ne l (by decide)).trans d7) (upd_same l 10) (upd_ne l (by decide)) ((upd_ne l (by decide)).trans G15.out)⟩
    simp only[XF,XP,sel_new,sel_dep d7,sel_dep d9,sel_no (show upd l 10 11=false by rw[upd_ne l (by decide)];exact G11.out),sel_no (show upd l 10 12=false by rw[upd_ne l (by decide)];exact G12.out),sel_no (show upd l 10 13=false by rw[upd_ne l (by decide)];exact G13.out),sel_no (show upd l 10 15=false by rw[upd_ne l (by decide)];exact G15.out),sel_no (show upd l 10 16=false by rw[upd_ne l (by decide)];exact G16.out)]
    try rfl
  ·as_aux_lemma =>
    have d10:=hd 10 (by decide)
    simp only[XF,XP,sel_of d10]at ha
    subst ha
    have HV:=hid hV
    clear hV
    rw[if_pos (by rfl)]
    go_simp
    refine Shut.out hK _ _ ⟨g1,vz,pa,pc,g2,?_,HV.out.cast (upd_ne l (by decide)) (upd_ne l (by decide)) (upd_ne l (by decide)) (upd_ne l (by decide)) (upd_ne l (by decide))⟩
    simp only[XF,XP,sel_new,sel_dep d10]
    try rfl
  ·as_aux_lemma =>
    have d11:=hd 11 (by decide)
    simp only[XF,XP,sel_of d11]at ha
    subst ha
    have HV:=hid hV
    clear hV
    rw[if_pos (by rfl)]
    go_simp
    refine Shut.out hK _ _ ⟨g1,vz,pa,pc,g2,?_,HV.out.cast (upd_ne l (by decide)) (upd_ne l (by decide)) (upd_ne l (by decide)) (upd_ne l (by decide)) (upd_ne l (by decide))⟩
    simp only[XF,XP,sel_new,sel_dep d11]
    try rfl
  ·as_aux_lemma =>
    have d11:=hd 11 (by decide)
    have hx:=X64.out;subst hx
    simp only[XF,XP,sel_of d11]at ha
    subst ha
    have HV:=hid hV
    clear hV
    rw[if_pos (by rfl)]
    go_simp
    refine Shut.out hK _ _ ⟨g1,vz,pa,pc,g2,?_,HV.out.cast (upd_ne l (by decide)) (upd_ne l (by decide)) (upd_ne l (by decide)) (upd_ne l (by decide)) (upd_ne l (by decide))⟩
    simp only[XF,XP,sel_new,sel_dep d11]
    try rfl
  ·have g15:=hc.not (i:=15) hl 17 (by kernel_rfl)
   simp only[XF,XP,sel_no g15,sel_no hl]at ha
   subst ha
   have G15:=hid g15
   clear g15
   have HV:=hid hV
   clear hV
   rw[if_pos (by rfl)]
   go_simp
   refine Shut.out hK _ _ ⟨g1,vz,pa,pc,wr.heap.size,?_,(XW.mk2 (HV.out.cast rfl rfl rfl hl.symm G15.out.symm)).cast (upd_ne l (by decide)) (upd_ne l (by decide)) (upd_ne l (by decide)) (upd_same l 14) ((upd_ne l (by decide)).trans G15.out)⟩
   simp only[XF,XP,sel_new,sel_no (show upd l 14 15=false by rw[upd_ne l (by decide)];exact G15.out)]
   try rfl
  all_goals try (rintro l a wr ⟨g1,vz,pa,pc,g2,ha,hV⟩ hc hl hd K' hK)
  ·as_aux_lemma =>
    have d14:=hd 14 (by decide)
    have d12:=hd 12 (by decide)
    have u10:=hc.up 17 12 10 d12 (by kernel_rfl)
    have u7:=hc.up 17 12 7 d12 (by kernel_rfl)
    simp only[XF,XP,sel_of d14,sel_of d12]at ha
    subst ha
    have UU10:=hid u10
    have UU7:=hid u7
    clear u10
    clear u7
    have HV:=hid hV
    clear hV
    have hg:=(HV.out.k2 d14 hl).2
    have p0:=cell_of_heap hg 0
    have p1:=cell_of_heap hg 1
    have p2:=cell_of_heap hg 2
    have p3:=cell_of_heap hg 3
    have p4:=cell_of_heap hg 4
    have fz:=fun k=>frozen_of_heap hg k
    have lg:=heap_lt hg
    clear hg
    rw[if_pos (by rfl)]
    go_simp
    refine Shut.out hK _ _ ⟨g1,vz,pa,pc,g2,?_,(XW.put (HV.out.cast rfl UU7.out.symm UU10.out.symm d14.symm hl.symm)).cast (upd_ne l (by decide)) ((upd_ne l (by decide)).trans UU7.out) ((upd_ne l (by decide)).trans UU10.out) ((upd_ne l (by decide)).trans d14) (upd_same l 15)⟩
    simp only[XF,XP,sel_dep d14,sel_dep d12]
    try rfl
  ·as_aux_lemma =>
    have d13:=hd 13 (by decide)
    have hx:=X64.out;subst hx
    have hx:=X12.out;subst hx
    simp only[XF,XP,sel_of d13]at ha
    subst ha
    have HV:=hid hV
    clear hV
    rw[if_pos (by rfl)]
    go_simp
    refine Shut.out hK _ _ ⟨g1,vz,pa,pc,g2,?_,HV.out.cast (upd_ne l (by decide)) (upd_ne l (by decide)) (upd_ne l (by decide)) (upd_ne l (by decide)) (upd_ne l (by decide))⟩
    simp only[XF,XP,sel_new,sel_dep d13]
    try rfl
  rintro lz a wc ⟨g1,vz,pa,pc,g2,ha,hV⟩ hd
  simp only[XF,XP,sel_of (hd 0 (by decide)),sel_of (hd 1 (by decide)),sel_of (hd 2 (by decide)),sel_of (hd 3 (by decide)),sel_of (hd 4 (by decide)),sel_of (hd 5 (by decide)),sel_of (hd 6 (by decide)),sel_of (hd 7 (by decide)),sel_of (hd 8 (by decide)),sel_of (hd 9 (by decide)),sel_of (hd 10 (by decide)),sel_of (hd 11 (by decide)),sel_of (hd 12 (by decide)),sel_of (hd 13 (by decide)),sel_of (hd 14 (by decide)),sel_of (hd 16 (by decide))]at ha
  subst ha
  have hx:=X12.out;subst hx
  have hV:=hV.cast (hd 6 (by decide)).symm (hd 7 (by decide)).symm (hd 10 (by decide)).symm (hd 14 (by decide)).symm (hd 15 (by decide)).symm
  have hO:=hV.off
  have HOz:=hid (HO2.out.trans hO (fun _ _ c=>c))
  have HGz0:=hid (hV.k3 rfl)
  have HVz0:=hid (hV.sh rfl)
  have HL4:=hid (HL3.out.off hO (fun _ _ _ c=>c))
  clear hO hV hd
  obtain⟨wz,hwz⟩:∃ wz,wz=wc:=⟨_,rfl⟩
  rw[<-hwz]at HOz HGz0 HVz0 HL4 ⊢
  clear hwz
  have HGz:=HGz0
  have HTz:=hid (HT.out.off HOz.out)
  have FS:=hid (fun W b1 (hO:Off (fun _=>False) wz W) (h1:W.heap[b1]?=some (.cells #[.int .i64 Q.fd,.int .i64 Q.th,.int .i64 ((kx:Int)+1),.int .i64 Q.ln,.slice pa zs.length pc] 38 (0,0)))=>refsame_any [⟨Q.fd,Q.th,(kx:Int)+1,Q.ln,zs⟩] (some ⟨b1,0,none⟩) a3 1 1 (cL-kx) rfl (fun _=>True) (fun _=>True) W (one_at (s:=⟨Q.fd,Q.th,(kx:Int)+1,Q.ln,zs⟩) HOk.out h1 HVz0.out.1 (HVz0.out.2.off hO (fun _ _ _ c=>c))) (HL4.out.off hO (fun _ _ _ c=>c)))
  go_upto_region 9 with fail
  obtain⟨x65,hx⟩:∃ vv:Value,vv=.bool true:=⟨_,rfl⟩
  have X65:=hid hx
  clear hx
  obtain⟨x66,hx⟩:∃ vv:Value,vv=.bool true:=⟨_,rfl⟩
  have X66:=hid hx
  clear hx
  obtain⟨x67,hx⟩:∃ vv:Value,vv=.int .i64 0:=⟨_,rfl⟩
  have X67:=hid hx
  clear hx
  obtain⟨x68,hx⟩:∃ vv:Value,vv=.bool true:=⟨_,rfl⟩
  have X68:=hid hx
  clear hx
  obtain⟨x69,hx⟩:∃ vv:Value,vv=.bool true:=⟨_,rfl⟩
  have X69:=hid hx
  clear hx
  obtain⟨x70,hx⟩:∃ vv:Value,vv=.bool true:=⟨_,rfl⟩
  have X70:=hid hx
  clear hx
  obtain⟨x71,hx⟩:∃ vv:Value,vv=.agg #[.int .i64 Q.fd,.int .i64 Q.th,.int .i64 ((kx:Int)+1),.int .i64 Q.ln,.slice pa zs.length pc]:=⟨_,rfl⟩
  have X71:=hid hx
  clear hx
  obtain⟨x73,hx⟩:∃ vv:Value,vv=.slice aL n cL:=⟨_,rfl⟩
  have X73:=hid hx
  clear hx
  obtain⟨x74,hx⟩:∃ vv:Value,vv=.int .i64 kx:=⟨_,rfl⟩
  have X74:=hid hx
  clear hx
  obtain⟨x75,hx⟩:∃ vv:Value,vv=.int .i64 kx:=⟨_,rfl⟩
  have X75:=hid hx
  clear hx
  obtain⟨x76,hx⟩:∃ vv:Value,vv=.int .i64 ((kx:Int)+1):=⟨_,rfl⟩
  have X76:=hid hx
  clear hx
  obtain⟨x77,hx⟩:∃ vv:Value,vv=.slice a3 1 (cL-kx):=⟨_,rfl⟩
  have X77:=hid hx
  clear hx
  obtain⟨x78,hx⟩:∃ vv:Value,vv=.bool true:=⟨_,rfl⟩
  have X78:=hid hx
  clear hx
  obtain⟨x79,hx⟩:∃ vv:Value,vv=.bool true:=⟨_,rfl⟩
  have X79:=hid hx
  clear hx
  obtain⟨x6,hx⟩:∃ vv:Value,vv=.bool true:=⟨_,rfl⟩
  have X6:=hid hx
  clear hx
  refine wp_region_clo (fun a0 l a' w'=>∃ (gb:Nat),a'=(Act.put (fill a0 65 [sel (l 0) x65 (undef),sel (l 1) x66 (undef),sel (l 2) x67 (undef),sel (l 3) x68 (undef),sel (l 4) x69 (undef),sel (l 5) x70 (undef),sel (l 6) x71 (undef),sel (l 7) (.slice (some ⟨gb,0,none⟩) 1 1) (undef),sel (l 8) x73 (undef),sel (l 9) x74 (undef),sel (l 10) x75 (undef),sel (l 11) x76 (undef),sel (l 12) x77 (undef),sel (l 13) x78 (undef),sel (l 14) x79 (undef)]) (some 6) (sel (l 15) x6 (.bool false)))/\Off (fun _=>False) wz w'/\(l 7=true->w'.heap[gb]?=some (.cells #[.int .i64 Q.fd,.int .i64 Q.th,.int .i64 ((kx:Int)+1),.int .i64 Q.ln,.slice pa zs.length pc] 38 (0,0)))) (by kernel_rfl) (by kernel_rfl) ?_ ⟨?_,?_,?_,?_,?_,?_,?_,?_,?_,?_,?_,?_,?_,?_,?_,?_,trivial⟩ ?_
  ·refine⟨0,?_,(Off.refl _ wz).drew,(fun h=>by cases h)⟩
   simp only[XF,XP,sel_start]
   try rfl
  all_goals try (rintro l a wr ⟨gb,ha,hO,h7⟩ hc hl hd K' hK)
  ·as_aux_lemma =>
    have hx:=X65.out;subst hx
    simp only[XF,XP]at ha
    subst ha
    have H7:=hid h7
    clear h7
    rw[if_pos (by rfl)]
    go_simp
    refine(FAL.out wr (HTz.out.off hO)).mono ?_
    rintro e w1 ⟨rfl,hO1⟩
    go_wp2_with fail
    refine Shut.out hK _ _ ⟨gb,?_,(hO.trans hO1 (fun _ _ c=>c)),(fun h=>Off.heap hO1 (H7.out (show l 7=true by rwa [upd_ne l (by decide)]at h)) (fun c=>c))⟩
    simp only[XF,XP,sel_new]
    try rfl
  ·as_aux_lemma =>
    have d0:=hd 0 (by decide)
    have hx:=X65.out;subst hx
    have hx:=X66.out;subst hx
    simp only[XF,XP,sel_of d0]at ha
    subst ha
    have H7:=hid h7
    clear h7
    rw[if_pos (by rfl)]
    go_simp
    refine Shut.out hK _ _ ⟨gb,?_,hO,(fun h=>Off.heap (Off.refl (fun _=>False) wr) (H7.out (show l 7=true by rwa [upd_ne l (by decide)]at h)) (fun c=>c))⟩
    simp only[XF,XP,sel_new,sel_dep d0]
    try rfl
  ·as_aux_lemma =>
    have d1:=hd 1 (by decide)
    have hx:=X66.out;subst hx
    have hx:=X67.out;subst hx
    simp only[XF,XP,sel_of d1]at ha
    subst ha
    have H7:=hid h7
    clear h7
    rw[if_pos (by rfl)]
    go_simp
    refine Shut.out hK _ _ ⟨gb,?_,hO,(fun h=>Off.heap (Off.refl (fun _=>False) wr) (H7.out (show l 7=true by rwa [upd_ne l (by decide)]at h)) (fun c=>c))⟩
    simp only[XF,XP,sel_new,sel_dep d1]
    try rfl
  ·as_aux_lemma =>
    have d1:=hd 1 (by decide)
    have d2:=hd 2 (by decide)
    have hx:=X66.out;subst hx
    have hx:=X67.out;subst hx
    have hx:=X68.out;subst hx
    simp only[XF,XP,sel_of d1,sel_of d2]at ha
    subst ha
    have H7:=hid h7
    clear h7
    rw[if_pos (by rfl)]
    go_simp
    refine Shut.out hK _ _ ⟨gb,?_,hO,(fun h=>Off.heap (Off.refl (fun _=>False) wr) (H7.out (show l 7=true by rwa [upd_ne l (by decide)]at h)) (fun c=>c))⟩
    simp only[XF,XP,sel_new,sel_dep d1,sel_dep d2]
    try rfl
  ·as_aux_lemma =>
    have d1:=hd 1 (by decide)
    have d3:=hd 3 (by decide)
    have hx:=X66.out;subst hx
    have hx:=X68.out;subst hx
    have hx:=X69.out;subst hx
    simp only[XF,XP,sel_of d1,sel_of d3]at ha
    subst ha
    have H7:=hid h7
    clear h7
    rw[if_pos (by rfl)]
    go_simp
    refine Shut.out hK _ _ ⟨gb,?_,hO,(fun h=>Off.heap (Off.refl (fun _=>False) wr) (H7.out (show l 7=true by rwa [upd_ne l (by decide)]at h)) (fun c=>c))⟩
    simp only[XF,XP,sel_new,sel_dep d1,sel_dep d3]
    try rfl
  ·as_aux_lemma =>
    have d4:=hd 4 (by decide)
    have hx:=X69.out;subst hx
    have hx:=X70.out;subst hx
    simp only[XF,XP,sel_of d4]at ha
    subst ha
    have H7:=hid h7
    clear h7
    rw[if_pos (by rfl)]
    go_simp
    refine Shut.out hK _ _ ⟨gb,?_,hO,(fun h=>Off.heap (Off.refl (fun _=>False) wr) (H7.out (show l 7=true by rwa [upd_ne l (by decide)]at h)) (fun c=>c))⟩
    simp only[XF,XP,sel_new,sel_dep d4]
    try rfl
  ·as_aux_lemma =>
    have d5:=hd 5 (by decide)
    have hx:=X70.out;subst hx
    have hx:=X71.out;subst hx
    simp only[XF,XP,sel_of d5]at ha
    subst ha
    have H7:=hid h7
    clear h7
    have hg:=hO.heap HGz.out (fun c=>c)
    have p0:=cell_of_heap hg 0
    have p1:=cell_of_heap hg 1
    have p2:=cell_of_heap hg 2
    have p3:=cell_of_heap hg 3
    have p4:=cell_of_heap hg 4
    have lg:=heap_lt hg
    clear hg
    rw[if_pos (by rfl)]
    go_simp
    refine Shut.out hK _ _ ⟨gb,?_,hO,(fun h=>Off.heap (Off.refl (fun _=>False) wr) (H7.out (show l 7=true by rwa [upd_ne l (by decide)]at h)) (fun c=>c))⟩
    simp only[XF,XP,sel_new,sel_dep d5]
    try rfl
  ·have d5:=hd 5 (by decide)
   have d6:=hd 6 (by decide)
   have hx:=X70.out;subst hx
   have hx:=X71.out;subst hx
   have g13:=hc.not (i:=13) hl 16 (by kernel_rfl)
   have g14:=hc.not (i:=14) hl 16 (by kernel_rfl)
   have g15:=hc.not (i:=15) hl 16 (by kernel_rfl)
   simp only[XF,XP,sel_of d5,sel_of d6,sel_no g13,sel_no g14,sel_no g15,sel_no hl]at ha
   subst ha
   have G13:=hid g13
   clear g13
   have G14:=hid g14
   clear g14
   have G15:=hid g15
   clear g15
   have H7:=hid h7
   clear h7
   rw[if_pos (by rfl)]
   go_simp
   refine Shut.out hK _ _ ⟨wr.heap.size,?_,(hO.alloc _),(fun _=>heap_new' rfl _)⟩
   simp only[XF,XP,sel_new,sel_dep d5,sel_dep d6,sel_no (show upd l 7 13=false by rw[upd_ne l (by decide)];exact G13.out),sel_no (show upd l 7 14=false by rw[upd_ne l (by decide)];exact G14.out),sel_no (show upd l 7 15=false by rw[upd_ne l (by decide)];exact G15.out)]
   try rfl
  all_goals try (rintro l a wr ⟨gb,ha,hO,h7⟩ hc hl hd K' hK)
  ·as_aux_lemma =>
    have d5:=hd 5 (by decide)
    have hx:=X70.out;subst hx
    have hx:=X73.out;subst hx
    simp only[XF,XP,sel_of d5]at ha
    subst ha
    have H7:=hid h7
    clear h7
    rw[if_pos (by rfl)]
    go_simp
    refine Shut.out hK _ _ ⟨gb,?_,hO,(fun h=>Off.heap (Off.refl (fun _=>False) wr) (H7.out (show l 7=true by rwa [upd_ne l (by decide)]at h)) (fun c=>c))⟩
    simp only[XF,XP,sel_new,sel_dep d5]
    try rfl
  ·as_aux_lemma =>
    have d5:=hd 5 (by decide)
    have hx:=X70.out;subst hx
    have hx:=X74.out;subst hx
    simp only[XF,XP,sel_of d5]at ha
    subst ha
    have H7:=hid h7
    clear h7
    rw[if_pos (by rfl)]
    go_simp
    refine Shut.out hK _ _ ⟨gb,?_,hO,(fun h=>Off.heap (Off.refl (fun _=>False) wr) (H7.out (show l 7=true by rwa [upd_ne l (by decide)]at h)) (fun c=>c))⟩
    simp only[XF,XP,sel_new,sel_dep d5]
    try rfl
  ·as_aux_lemma =>
    have d5:=hd 5 (by decide)
    have hx:=X70.out;subst hx
    have hx:=X75.out;subst hx
    simp only[XF,XP,sel_of d5]at ha
    subst ha
    have H7:=hid h7
    clear h7
    rw[if_pos (by rfl)]
    go_simp
    refine Shut.out hK _ _ ⟨gb,?_,hO,(fun h=>Off.heap (Off.refl (fun _=>False) wr) (H7.out (show l 7=true by rwa [upd_ne l (by decide)]at h)) (fun c=>c))⟩
    simp only[XF,XP,sel_new,sel_dep d5]
    try rfl
  ·as_aux_lemma =>
    have d5:=hd 5 (by decide)
    have d10:=hd 10 (by decide)
    have hx:=X70.out;subst hx
    have hx:=X75.out;subst hx
    have hx:=X76.out;subst hx
    simp only[XF,XP,sel_of d5,sel_of d10]at ha
    subst ha
    have H7:=hid h7
    clear h7
    rw[if_pos (by rfl)]
    go_simp
    refine Shut.out hK _ _ ⟨gb,?_,hO,(fun h=>Off.heap (Off.refl (fun _=>False) wr) (H7.out (show l 7=true by rwa [upd_ne l (by decide)]at h)) (fun c=>c))⟩
    simp only[XF,XP,sel_new,sel_dep d5,sel_dep d10]
    try rfl
  ·as_aux_lemma =>
    have d5:=hd 5 (by decide)
    have d8:=hd 8 (by decide)
    have d9:=hd 9 (by decide)
    have d11:=hd 11 (by decide)
    have hx:=X70.out;subst hx
    have hx:=X73.out;subst hx
    have hx:=X74.out;subst hx
    have hx:=X76.out;subst hx
    have hx:=X77.out;subst hx
    simp only[XF,XP,sel_of d5,sel_of d8,sel_of d9,sel_of d11]at ha
    subst ha
    have H7:=hid h7
    clear h7
    rw[if_pos (by rfl)]
    go_simp
    refine Shut.out hK _ _ ⟨gb,?_,hO,(fun h=>Off.heap (Off.refl (fun _=>False) wr) (H7.out (show l 7=true by rwa [upd_ne l (by decide)]at h)) (fun c=>c))⟩
    simp only[XF,XP,sel_new,sel_dep d5,sel_dep d8,sel_dep d9,sel_dep d11]
    try rfl
  ·as_aux_lemma =>
    have d5:=hd 5 (by decide)
    have d7:=hd 7 (by decide)
    have d12:=hd 12 (by decide)
    have hx:=X70.out;subst hx
    have hx:=X77.out;subst hx
    have hx:=X78.out;subst hx
    simp only[XF,XP,sel_of d5,sel_of d7,sel_of d12]at ha
    subst ha
    have q7:=h7 d7
    have Q7:=hid q7
    clear q7
    have H7:=hid h7
    clear h7
    rw[if_pos (by rfl)]
    go_simp
    refine(FS.out wr gb hO Q7.out).mono ?_
    rintro e w1 ⟨rfl,hO1⟩
    go_wp2_with fail
    refine Shut.out hK _ _ ⟨gb,?_,(hO.trans hO1 (fun _ _ c=>c)),(fun h=>Off.heap hO1 (H7.out (show l 7=true by rwa [upd_ne l (by decide)]at h)) (fun c=>c))⟩
    simp only[XF,XP,sel_new,sel_dep d5,sel_dep d7,sel_dep d12]
    try rfl
  ·as_aux_lemma =>
    have d5:=hd 5 (by decide)
    have d13:=hd 13 (by decide)
    have hx:=X70.out;subst hx
    have hx:=X78.out;subst hx
    have hx:=X79.out;subst hx
    simp only[XF,XP,sel_of d5,sel_of d13]at ha
    subst ha
    have q7:=h7 (hc.up 16 13 7 d13 (by kernel_rfl))
    have Q7:=hid q7
    clear q7
    have H7:=hid h7
    clear h7
    rw[if_pos (by rfl)]
    go_simp
    refine Shut.out hK _ _ ⟨gb,?_,hO,(fun h=>Off.heap (Off.refl (fun _=>False) wr) (H7.out (show l 7=true by rwa [upd_ne l (by decide)]at h)) (fun c=>c))⟩
    simp only[XF,XP,sel_new,sel_dep d5,sel_dep d13]
    try rfl
  ·as_aux_lemma =>
    have d14:=hd 14 (by decide)
    have hx:=X79.out;subst hx
    have hx:=X6.out;subst hx
    simp only[XF,XP,sel_of d14]at ha
    subst ha
    have q7:=h7 (hc.up 16 14 7 d14 (by kernel_rfl))
    have Q7:=hid q7
    clear q7
    have H7:=hid h7
    clear h7
    rw[if_pos (by rfl)]
    go_simp
    refine Shut.out hK _ _ ⟨gb,?_,hO,(fun h=>Off.heap (Off.refl (fun _=>False) wr) (H7.out (show l 7=true by rwa [upd_ne l (by decide)]at h)) (fun c=>c))⟩
    simp only[XF,XP,sel_new,sel_dep d14]
    try rfl
  rintro l a wd ⟨gb,ha,hO,h7⟩ hd
  simp only[XF,XP,sel_of (hd 0 (by decide)),sel_of (hd 1 (by decide)),sel_of (hd 2 (by decide)),sel_of (hd 3 (by decide)),sel_of (hd 4 (by decide)),sel_of (hd 5 (by decide)),sel_of (hd 6 (by decide)),sel_of (hd 7 (by decide)),sel_of (hd 8 (by decide)),sel_of (hd 9 (by decide)),sel_of (hd 10 (by decide)),sel_of (hd 11 (by decide)),sel_of (hd 12 (by decide)),sel_of (hd 13 (by decide)),sel_of (hd 14 (by decide)),sel_of (hd 15 (by decide))]at ha
  subst ha
  have hx:=X6.out;subst hx
  have q7:=h7 (hd 7 (by decide))
  clear h7
  have HOf:=hid (HOz.out.trans hO (fun _ _ c=>c))
  clear hO hd
  go_wp2
  go_ret
  exact⟨rfl,HOf.out⟩
 have H0:=hid h0
 have k3:¬(r:Int)=0:=by omega
 have k2:((r:Int) != 0)=true:=by simp;omega
 clear hr hq hn1 hc1 hs1 hb1 hn2 hc2 hs2 hb2 hz hz2 h0
 obtain⟨fd,th,sh,ln⟩:=q0
 dsimp only at h8
 unfold Pms.val at FL FR
 dsimp only at FL FR ⊢
 obtain⟨W0,hW0⟩:∃ W0,W0=w.alloc (.cells #[.int .i64 fd,.int .i64 th,.int .i64 sh,.int .i64 ln,.slice a0 n0 cap0,.slice b0 m0 dap0] 63):=⟨_,rfl⟩
 have HO0:=hid (show Off (fun _=>False) w W0 by rw[hW0];exact(Off.refl _ w).alloc _)
 have HG0:=hid (show W0.heap[w.heap.size]?=some (.cells #[.int .i64 fd,.int .i64 th,.int .i64 sh,.int .i64 ln,.slice a0 n0 cap0,.slice b0 m0 dap0] 63 (0,0)) by rw[hW0];exact heap_new' rfl _)
 have HW0:=hid hW0
 clear hW0
 go_enter Tryz.func8,Tryz.ntmps8
 go_upto_region 1 with fail
 rw[<-HW0.out]
 have g:=HG0.out
 have p0:=cell_of_heap g 0
 have p1:=cell_of_heap g 1
 have p2:=cell_of_heap g 2
 have p3:=cell_of_heap g 3
 have p4:=cell_of_heap g 4
 have p5:=cell_of_heap g 5
 have lp:=heap_lt g
 clear g
 go_wp2_with fail
 refine(FL.out _).mono ?_
 rintro e u1 ⟨rfl,hO⟩
 have HO1:=hid (HO0.out.trans hO (fun _ _ c=>c))
 have HG1:=hid (hO.heap HG0.out (fun c=>c))
 clear hO
 clear p0 p1 p2 p3 p4 p5 lp
 have g:=HG1.out
 have p0:=cell_of_heap g 0
 have p1:=cell_of_heap g 1
 have p2:=cell_of_heap g 2
 have p3:=cell_of_heap g 3
 have p4:=cell_of_heap g 4
 have p5:=cell_of_heap g 5
 have lp:=heap_lt g
 clear g
 go_wp2_with fail
 refine(FR.out _ HO1.out).mono ?_
 rintro e u2 ⟨v2,rfl,_,_,hO⟩
 have HO2:=hid (HO1.out.trans hO (fun _ _ c=>c))
 clear hO
 clear p0 p1 p2 p3 p4 p5 lp
 go_wp2_with fail
 refine(FAL.out _ (HT.out.off HO2.out)).mono ?_
 rintro e u3 ⟨rfl,hO⟩
 have HO3:=hid (HO2.out.trans hO (fun _ _ c=>c))
 clear hO
 go_wp2
 go_ret
 exact⟨rfl,HO3.out⟩

theorem door_met (os : Os) (args : Array Value) : laidMetH Tryz.prog [("sharecore/field.fields",Rows.laid_sharecore_field_fields)] ((World.doorLaid Tryz.prog 400 os).forCall (fun _ _ => 0) ⟨#[],args,[]⟩).memory :=
 laidMetH_of_parts3 (fuel:=8) (laidMet_of_run' 8 (by kernel_rfl) (by kernel_rfl)) (by kernel_rfl) (by kernel_rfl)

set_option maxRecDepth 100000 in
theorem lifted (os:Os) (started:os.Started) (H:Type) (enc:TypeId × Value->H) :
  ReturnsInHanded {} Tryz.checked os 8 .any (fun w args => (Rows.joinExtendsSpec.pre enc Tryz.prog Tryz.f8 [] false w args /\ laidMetH Tryz.prog [("sharecore/field.fields",Rows.laid_sharecore_field_fields)] w) /\ sizedMet enc Tryz.prog Tryz.f8 (OpenSpec.ofChange Rows.joinExtendsSpec) false w args)
   (Rows.joinExtendsSpec.post enc Tryz.prog Tryz.f8 false true false false):=by
 refine returnsInHanded_of_change_and (C := Tryz.checked) (X := fun w _ => laidMetH Tryz.prog [("sharecore/field.fields",Rows.laid_sharecore_field_fields)] w) (fun _ _ _ hh h => h.of_heap hh) own started (by kernel_rfl) Tryz.func8
  (ChangeSpec.witness_shaped (enc := enc) (C := Tryz.checked) (os := os) (X := fun w _ => laidMetH Tryz.prog [("sharecore/field.fields",Rows.laid_sharecore_field_fields)] w) false (World.doorLaid Tryz.prog 400 os) #[.agg #[.int .i64 0,.int .i64 0,.int .i64 0,.int .i64 0,.slice none 0 0,.slice none 0 0],.int .u8 0,.int .u8 0] 8 rfl (World.shaped_of_RefB (by kernel_rfl) (by kernel_rfl)) (by kernel_rfl) (by kernel_rfl) (by kernel_rfl) (door_met os _)) ?_
 intro W base args ds gs before hval0 hW _ hsz hL _
 have hval:∀ (j:Nat) t v,Tryz.f8.params[j]?=some t->args[j]?=some v->Value.okWide Tryz.prog W .any base t v:=hval0
 have hW':=hW
 obtain⟨p,q,hA0,hV,rfl,hfz,hnd⟩:=hW
 have hA:DataW.TrodAll enc Tryz.prog W 0 (fun _=>true) true Tryz.f8.params.toList args.toList ds p:=hA0
 rw[Tryz.params8]at hA hval
 obtain⟨v0,vs0,d0,ds0,p0,q0,hargs,rfl,rfl,h0,r0⟩:=trodAll_cons hA
 obtain⟨v1,vs1,d1,ds1,p1,q1,rfl,rfl,rfl,h1,r1⟩:=trodAll_cons r0
 obtain⟨v2,vs2,d2,ds2,p2,q2,rfl,rfl,rfl,h2,r2⟩:=trodAll_cons r1
 obtain⟨rfl,rfl,rfl⟩:=trodAll_nil r2
 obtain rfl:args=#[v0,v1,v2]:=by cases args;simp_all
 obtain⟨rfl,rfl⟩:=trodVars_none hV
 have k0:=h0
 have lt0:∀ x∈p0,x.block<W.heap.size:=by obtain⟨m,hm⟩:=k0;exact DataW.trod_lt m _ _ _ hm
 obtain⟨q0,a0,n0,cap0,bs0,b0,m0,dap0,ys0,w0,rfl⟩:=open_secret (hval 0 63 v0 rfl rfl) h0
 obtain⟨i1,rfl,rfl,rfl,w1⟩:=open_int Tryz.underlying5 (hval 1 5 v1 rfl rfl) h1
 obtain⟨i2,rfl,rfl,rfl,w2⟩:=open_int Tryz.underlying5 (hval 2 5 v2 rfl rfl) h2
 have hT:=tab_of_laid hL
 clear hA0 hval0
 refine(walk q0 a0 n0 cap0 bs0 b0 m0 dap0 ys0 i1 i2 W w0 w1 w2 hT).mono fun e W' ⟨he,hoff⟩=>?_
 have bel:Below W.heap.size W W':=hoff.below (Nat.le_refl _) (fun _ _ c=>c)
 subst he
 exact⟨_,rfl,_,_,_,[],_,[],hW',trodAll_mk1 (shut_bool Tryz.underlying4 _),(trodAll_cons_mk (Below.trod laidOut (by kernel_rfl) (of_decide_eq_true (by kernel_rfl)) k0 bel lt0) (trodAll_cons_mk (shut_int Tryz.underlying5 w1) (trodAll_cons_mk (shut_int Tryz.underlying5 w2) trodAll_mk0))),rfl,bel.frame _,fun h=>by cases h⟩

theorem over:Rows.joinExtendsRow.holds Tryz.pinned (OpenSpec.ofChange Rows.joinExtendsSpec) :=
 OpenClaim.holds_of_wide 8 Tryz.f8 rfl rfl rfl rfl rfl rfl rfl ⟨rfl,rfl,rfl,rfl,rfl⟩ rfl rfl rfl rfl rfl (by kernel_rfl) Tryz.func8 (by kernel_rfl)
  (of_decide_eq_true (by kernel_rfl)) (by unfold Func.isWrapper;first | (rw[if_pos (by decide +kernel)];kernel_rfl) | (rw[if_neg (by decide +kernel)];exact⟨rfl,rfl⟩))
  (fun os started H enc _=>lifted os started H enc)

theorem proved:Rows.JoinExtendsCardSaid :=
 Claim7.holds_tied_plain_at .later [] [.data] true (true,"7bce38bddea7484173693267af3896808f2e64751bf740681a295740933c261b") false
  over (fun _ h=>by cases h) (by kernel_rfl) (fun _ h=>by cases h) joinExtends_row_tie rfl ⟨rfl,rfl⟩ (by kernel_rfl) rfl
  (fun f fn hf hfn=>by
   obtain rfl : f = 8 := Option.some.inj ((show Tryz.prog.funcNamed "sharecore/sharecorelaw17.JoinExtends" = some 8 by kernel_rfl).symm.trans hf) |>.symm
   obtain rfl:fn=Tryz.f8:=(Option.some.inj (Tryz.func8.symm.trans hfn)).symm
   exact⟨by kernel_rfl,fun j t ht=>by
    rw[Tryz.params8]at ht
    have hm:t∈[63,5]:=by simpa using Array.mem_of_getElem? ht
    have hall:([63,5].all fun u=>!Tryz.prog.wantsStandIn u)=true:=by kernel_rfl
    exact(show Tryz.prog.wantsStandIn t=false by simpa using List.all_eq_true.1 hall t hm)⟩)
  (by kernel_rfl)
#print axioms proved
end Go.Proofs.YtpfjgifcjengkaaGreatDoor.joinExtends
