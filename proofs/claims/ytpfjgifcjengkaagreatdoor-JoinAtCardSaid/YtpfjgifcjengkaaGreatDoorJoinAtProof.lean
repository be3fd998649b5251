/-
  For every list of up to 12 shares and every index, At returns the share with the values of the polynomials of the reference, or the error: the statement of P17.3. No condition.
-/
import Derived.Test.YtpfjgifcjengkaaGreatDoorCards
import Derived.Test.YtpfjgifcjengkaaGreatDoorChecked
import Derived.Test.YtpfjgifcjengkaaGreatDoorTie
import Derived.Test.YtpfjgifcjengkaaGreatDoorDealA
import Derived.Test.YtpfjgifcjengkaaGreatDoorJoinAlive
import Derived.Test.YtpfjgifcjengkaaGreatDoorPartV
import Derived.LaidMore
import Derived.ShutString
namespace Go.Proofs.YtpfjgifcjengkaaGreatDoor.joinAt
open Lib (hid)
open Go.ChangeShapes Go.WideShapes Go.ChangeAt Go.RowKit
set_option linter.unusedVariables false

theorem own:ownKnob Tryz.prog.godebug=none:=by kernel_rfl
theorem laidOut:laidOutB Tryz.prog=true:=by kernel_rfl

set_option linter.unusedSimpArgs false
set_option maxRecDepth 100000 in
set_option maxHeartbeats 4000000 in
theorem walk (a0:Option Addr) (n0 cap0:Nat) (l0:List Sh) (i1:Int) (w:World) (hn0:n0=l0.length) (w0:ShsAt w (.slice a0 n0 cap0) l0 (fun k=>k<w.heap.size)) (w1:(Lit.int .i64 i1).wf=true) (hT:TabAt w) :
  Calls Tryz.prog 5 #[.slice a0 n0 cap0,.int .i64 i1] w fun e w'=>e=.returned (.bool true)/\Off (fun _=>False) w w':=by
 have FAL:Hid (∀ W,TabAt W->Calls Tryz.prog 10 #[] W fun e w'=>e=.returned (.bool true)/\Off (fun _=>False) W w'):=hid (fun W hT=>alive17_any W hT)
 have HT:=hid hT
 clear hT
 obtain⟨c,hc⟩:∃ c,c=lrg17 l0:=⟨_,rfl⟩
 have HZ:=hid (show c=0->l0.length<=12/\∀ s∈l0,s.pl.length<=4 from fun h=>lrg17_zero (hc.symm.trans h))
 have hc01:=lrg17_cases l0
 rw[<-hc]at hc01
 have FL:=hid (large17_any l0 a0 n0 cap0 hn0 (fun k=>k<w.heap.size) w w0)
 rw[<-hc]at FL
 have HN:=hid hn0
 have HL:=hid w0
 clear hc hn0 w0
 by_cases hbig:c=1
 ·subst hbig
  clear hc01
  go_enter Tryz.func5,Tryz.ntmps5
  go_wp2_with fail
  refine FL.out.mono ?_
  rintro e u ⟨rfl,hO⟩
  have HOl:=hid hO
  clear hO
  go_wp2_with fail
  refine(FAL.out _ (HT.out.off HOl.out)).mono ?_
  rintro e u ⟨rfl,hO⟩
  have HOf:=hid (HOl.out.trans hO (fun _ _ c=>c))
  clear hO
  go_wp2
  go_ret
  exact⟨rfl,HOf.out⟩
 obtain rfl:c=0:=by omega
 have hz:=HZ.out rfl
 have hl3:n0<=12:=by rw[HN.out];exact hz.1
 have hp5:=hz.2
 have hcc:n0<=cap0:=by
  obtain⟨a',c',e,h,_⟩:=HL.out
  simp at e
  omega
 have hev:=fun h=>j_ev h hz.1 hz.2
 have hpt:∀ s∈l0,s.pl.length<=1000:=fun s hs=>Nat.le_trans (hp5 s hs) (by decide)
 clear hbig hc01 hz HZ
 have FA:=hid (fun W (hO:Off (fun _=>False) w W) hT=>at_join l0 a0 n0 cap0 HN.out (by omega) hpt i1 w1 none [] (fun _=>False) (fun k=>k<w.heap.size) W (HL.out.off hO (fun _ _ _ c=>c)) (fun b h=>⟨Nat.lt_of_lt_of_le h hO.size,fun c=>c⟩) (Tp.none W) (fun h=>Nat.le_trans (Nat.le_of_eq (Nat.zero_add _)) (hev h).2) hT)
 have FR:=hid (fun W (hO:Off (fun _=>False) w W)=>refshares_any l0 a0 n0 cap0 HN.out (fun k=>k<w.heap.size) W (HL.out.off hO (fun _ _ _ c=>c)))
 obtain⟨c,hc⟩:∃ c,c=shsN l0:=⟨_,rfl⟩
 rw[<-hc]at FR
 have HOz:=hid (Off.refl (fun _=>False) w)
 by_cases h0:c=0
 ·subst h0
  by_cases hx:i1<1\/255<i1
  ·by_cases h1:i1<1
   ·have hE:=atE_out (l:=l0) (ix:=i1) hc.symm hx
    have hS:=atS_no (l:=l0) (ix:=i1) (by rw[hE];decide)
    rw[hE,hS]at FA
    clear hE hS hc hl3 hcc hev hp5 hpt hx
    go_enter Tryz.func5,Tryz.ntmps5
    go_wp2_with fail
    refine(FL.out).mono ?_
    rintro e u1 ⟨rfl,hO⟩
    have HO1:=hid (HOz.out.trans hO (fun _ _ c=>c))
    clear hO
    go_wp2_with fail
    refine(FA.out _ HO1.out (HT.out.off HO1.out)).mono ?_
    rintro e u2 ⟨pa,pc,rfl,hpc,hvs,_,_,hO⟩
    simp only[Sh.val,List.length_nil]at hpc hvs ⊢
    obtain⟨W2,hW2⟩:∃ W,W=u2.alloc (.cells #[.int .i64 0,.int .i64 0,.int .i64 0,.int .i64 0,.slice pa 0 pc] 38):=⟨_,rfl⟩
    obtain⟨bs,hbs⟩:∃ b,b=u2.heap.size:=⟨_,rfl⟩
    have HG2:=hid (show W2.heap[bs]?=some (.cells #[.int .i64 0,.int .i64 0,.int .i64 0,.int .i64 0,.slice pa 0 pc] 38 (0,0)) by rw[hW2,hbs];exact heap_new' rfl _)
    have hO2:Off (fun _=>False) u2 W2:=by rw[hW2];exact(Off.refl _ _).alloc _
    have HV2:=hid (hvs.off hO2 (fun _ _ _ c=>c))
    have HPc:=hid hpc
    have HO2:=hid ((HO1.out.trans hO (fun _ _ c=>c)).trans hO2 (fun _ _ c=>c))
    have HW2:=hid hW2
    have HBs:=hid hbs
    clear hpc hvs hO FA hO2 hW2 hbs
    go_wp2_with fail
    rw[<-HW2.out,<-HBs.out]
    refine(FR.out _ HO2.out).mono ?_
    rintro e u3 ⟨rfl,hO⟩
    have HV3:=hid (HV2.out.off hO (fun _ _ _ c=>c))
    have HO3:=hid (HO2.out.trans hO (fun _ _ c=>c))
    have HG3:=hid (hO.heap HG2.out (fun c=>c))
    clear hO FR HV2 HG2
    go_wp2_with fail
    refine(FAL.out _ (HT.out.off HO3.out)).mono ?_
    rintro e u4 ⟨rfl,hO⟩
    have HO4:=hid (HO3.out.trans hO (fun _ _ c=>c))
    have hA4:=hid hO
    clear hO
    have HV4:=hid (HV3.out.off hA4.out (fun _ _ _ c=>c))
    have hg:=hA4.out.heap HG3.out (fun c=>c)
    have p0:=cell_of_heap hg 0
    have p1:=cell_of_heap hg 1
    have p2:=cell_of_heap hg 2
    have p3:=cell_of_heap hg 3
    have p4:=cell_of_heap hg 4
    have hlq:=heap_lt hg
    clear hg
    have FS:=hid (fun W b1 b2 (hO:Off (fun _=>False) u4 W) (h1:W.heap[b1]?=some (.cells #[.int .i64 0,.int .i64 0,.int .i64 0,.int .i64 0,.slice pa 0 pc] 38 (0,0))) (h2:W.heap[b2]?=some (.cells #[.int .i64 0,.int .i64 0,.int .i64 0,.int .i64 0,.slice none 0 0] 38 (0,0))) =>
     refsame_any [⟨0,0,0,0,[]⟩] (some ⟨b1,0,none⟩) (some ⟨b2,0,none⟩) 1 1 1 rfl (fun _=>True) (fun _=>True) W (one_at (s:=⟨0,0,0,0,[]⟩) ⟨rfl,rfl,rfl,rfl,fun x hx=>by simp at hx⟩ h1 HPc.out (HV4.out.off hO (fun _ _ _ c=>c))) (one_at (s:=⟨0,0,0,0,[]⟩) ⟨rfl,rfl,rfl,rfl,fun x hx=>by simp at hx⟩ h2 (Nat.le_refl _) (vs_nil17 W)))
    go_wp2_with fail
    refine(FS.out _ _ _ (((Off.refl _ u4).alloc _).alloc _) (heap_old' (heap_new' rfl _) _) (heap_new' (by simp) _)).mono ?_
    rintro e u5 ⟨rfl,hO⟩
    have HO5:=hid (HO4.out.trans ((((Off.refl _ u4).alloc _).alloc _).trans hO (fun _ _ c=>c)) (fun _ _ c=>c))
    clear hO
    go_wp2
    go_ret
    exact⟨rfl,HO5.out⟩
   have h2:255<i1:=by omega
   have hE:=atE_out (l:=l0) (ix:=i1) hc.symm hx
   have hS:=atS_no (l:=l0) (ix:=i1) (by rw[hE];decide)
   rw[hE,hS]at FA
   clear hE hS hc hl3 hcc hev hp5 hpt hx
   go_enter Tryz.func5,Tryz.ntmps5
   go_wp2_with fail
   refine(FL.out).mono ?_
   rintro e u1 ⟨rfl,hO⟩
   have HO1:=hid (HOz.out.trans hO (fun _ _ c=>c))
   clear hO
   go_wp2_with fail
   refine(FA.out _ HO1.out (HT.out.off HO1.out)).mono ?_
   rintro e u2 ⟨pa,pc,rfl,hpc,hvs,_,_,hO⟩
   simp only[Sh.val,List.length_nil]at hpc hvs ⊢
   obtain⟨W2,hW2⟩:∃ W,W=u2.alloc (.cells #[.int .i64 0,.int .i64 0,.int .i64 0,.int .i64 0,.slice pa 0 pc] 38):=⟨_,rfl⟩
   obtain⟨bs,hbs⟩:∃ b,b=u2.heap.size:=⟨_,rfl⟩
   have HG2:=hid (show W2.heap[bs]?=some (.cells #[.int .i64 0,.int .i64 0,.int .i64 0,.int .i64 0,.slice pa 0 pc] 38 (0,0)) by rw[hW2,hbs];exact heap_new' rfl _)
   have hO2:Off (fun _=>False) u2 W2:=by rw[hW2];exact(Off.refl _ _).alloc _
   have HV2:=hid (hvs.off hO2 (fun _ _ _ c=>c))
   have HPc:=hid hpc
   have HO2:=hid ((HO1.out.trans hO (fun _ _ c=>c)).trans hO2 (fun _ _ c=>c))
   have HW2:=hid hW2
   have HBs:=hid hbs
   clear hpc hvs hO FA hO2 hW2 hbs
   go_wp2_with fail
   rw[<-HW2.out,<-HBs.out]
   refine(FR.out _ HO2.out).mono ?_
   rintro e u3 ⟨rfl,hO⟩
   have HV3:=hid (HV2.out.off hO (fun _ _ _ c=>c))
   have HO3:=hid (HO2.out.trans hO (fun _ _ c=>c))
   have HG3:=hid (hO.heap HG2.out (fun c=>c))
   clear hO FR HV2 HG2
   go_wp2_with fail
   refine(FAL.out _ (HT.out.off HO3.out)).mono ?_
   rintro e u4 ⟨rfl,hO⟩
   have HO4:=hid (HO3.out.trans hO (fun _ _ c=>c))
   have hA4:=hid hO
   clear hO
   have HV4:=hid (HV3.out.off hA4.out (fun _ _ _ c=>c))
   have hg:=hA4.out.heap HG3.out (fun c=>c)
   have p0:=cell_of_heap hg 0
   have p1:=cell_of_heap hg 1
   have p2:=cell_of_heap hg 2
   have p3:=cell_of_heap hg 3
   have p4:=cell_of_heap hg 4
   have hlq:=heap_lt hg
   clear hg
   have FS:=hid (fun W b1 b2 (hO:Off (fun _=>False) u4 W) (h1:W.heap[b1]?=some (.cells #[.int .i64 0,.int .i64 0,.int .i64 0,.int .i64 0,.slice pa 0 pc] 38 (0,0))) (h2:W.heap[b2]?=some (.cells #[.int .i64 0,.int .i64 0,.int .i64 0,.int .i64 0,.slice none 0 0] 38 (0,0))) =>
    refsame_any [⟨0,0,0,0,[]⟩] (some ⟨b1,0,none⟩) (some ⟨b2,0,none⟩) 1 1 1 rfl (fun _=>True) (fun _=>True) W (one_at (s:=⟨0,0,0,0,[]⟩) ⟨rfl,rfl,rfl,rfl,fun x hx=>by simp at hx⟩ h1 HPc.out (HV4.out.off hO (fun _ _ _ c=>c))) (one_at (s:=⟨0,0,0,0,[]⟩) ⟨rfl,rfl,rfl,rfl,fun x hx=>by simp at hx⟩ h2 (Nat.le_refl _) (vs_nil17 W)))
   go_wp2_with fail
   refine(FS.out _ _ _ (((Off.refl _ u4).alloc _).alloc _) (heap_old' (heap_new' rfl _) _) (heap_new' (by simp) _)).mono ?_
   rintro e u5 ⟨rfl,hO⟩
   have HO5:=hid (HO4.out.trans ((((Off.refl _ u4).alloc _).alloc _).trans hO (fun _ _ c=>c)) (fun _ _ c=>c))
   clear hO
   go_wp2
   go_ret
   exact⟨rfl,HO5.out⟩
  have hz:shsN l0=0:=hc.symm
  have hA:=acc_hd hz
  have hn0:0<n0:=by have:=(List.getElem?_eq_some_iff.1 hA.first).1;rw[HN.out];exact this
  obtain⟨s1,b,off,hsx,hok,rfl,hSb,c0,c1,c2,c3,qa,qc,c4,_⟩:=HL.out.at (k:=0) hn0
  rw[hA.first]at hsx
  cases hsx
  simp only[Nat.zero_mul,Nat.add_zero]at c0 c1 c2 c3
  obtain⟨i,rfl⟩:∃ i:Nat,i1=(i:Int):=⟨i1.toNat,by omega⟩
  have hE:=atE_in (ix:=(i:Int)) hz hx
  have hS:=atS_in hE
  rw[hE,hS]at FA
  rw[show((i:Int)).toNat=i from rfl]at FA
  obtain⟨hp1,hp2⟩:=modN_pos hA.kn
  have hbig:=big_p hA.kn
  have htc:=j_tc hz (by rw[<-HN.out];exact hl3) hp5
  have FPl:=hid (fun W (hO:Off (fun _=>False) w W)=>(show Calls Tryz.prog 22 #[.slice (some ⟨b,off,none⟩) n0 cap0] W fun e w'=>∃ v,e=.returned v/\LLs w' v (jpls (pJ l0) (usJ l0) (cJ l0))/\Off (fun _=>False) W w' from refpols17 (hd0 l0) l0 hA (some ⟨b,off,none⟩) n0 cap0 HN.out hcc (by omega) (Nat.le_trans (Nat.le_of_lt htc.2) (by decide)) (fun k=>k<w.heap.size) W (HL.out.off hO (fun _ _ _ c=>c))))
  obtain⟨ps,hps⟩:∃ ps,ps=jpls (pJ l0) (usJ l0) (cJ l0):=⟨_,rfl⟩
  rw[<-hps]at FPl FA
  obtain⟨p,hp⟩:∃ p,p=pJ l0:=⟨_,rfl⟩
  have hpl:∀ c∈ps,∀ x∈c,x<p:=by rw[hps,hp];exact jpls_lt hz
  have FMo:=hid (fun W=>by have h:=mod_modulus (hd0 l0).fd W;rw[show modN (hd0 l0).fd=p from hp.symm]at h;exact h)
  rw[show modN (hd0 l0).fd=p from hp.symm]at hp1 hp2 hbig
  rw[<-hp]at FA
  have FPy:=hid (fun v W h=>refpay_any p hp2 hp1 ps hpl i (by omega) (Nat.lt_trans (show i<256 by omega) (Nat.lt_of_le_of_lt (by decide) hbig)) v W h)
  obtain⟨zs,hzs⟩:∃ zs,zs=payN p ps i:=⟨_,rfl⟩
  have hzR:∀ x∈zs,x<R256:=by rw[hzs];exact payN_lt17 hp2 (Nat.lt_trans (by decide) hp1) ps i
  have hzl:ps.length=zs.length:=by rw[hzs,payN_len17]
  rw[<-hzs]at FPy FA
  rw[hzl]at FPy
  obtain⟨fd,hfd⟩:∃ x,x=(hd0 l0).fd:=⟨_,rfl⟩
  obtain⟨th,hth⟩:∃ x,x=(hd0 l0).th:=⟨_,rfl⟩
  obtain⟨ln,hln⟩:∃ x,x=(hd0 l0).ln:=⟨_,rfl⟩
  rw[<-hfd]at FMo c0
  rw[<-hth]at c1
  rw[<-hln]at c3
  rw[<-hfd,<-hth,<-hln]at FA
  have hzok:(⟨fd,th,(i:Int),ln,zs⟩:Sh).ok:=by
   rw[hfd,hth,hln]
   exact⟨hok.1,hok.2.1,w1,hok.2.2.2.1,hzR⟩
  have HC:=hid (And.intro c0 (And.intro c1 c3))
  have HZk:=hid hzok
  have HZR:=hid hzR
  have HZN:=hid (show zs.length<=100000 by rw[<-hzl,hps];unfold jpls;rw[List.length_map,List.length_range];omega)
  have k4:¬((i:Int)<1):=by omega
  have k5:¬(255<(i:Int)):=by omega
  have hn0i:(0:Int)<(n0:Int):=by omega
  obtain⟨N,hN⟩:∃ N,N=zs.length:=⟨_,rfl⟩
  clear hz hA hok hSb c0 c1 c2 c3 c4 hE hS hp1 hp2 hbig htc hps hp hpl hzs hzR hzl hfd hth hln hzok hc hl3 hcc hev hp5 hpt hx
  go_enter Tryz.func5,Tryz.ntmps5
  go_wp2_with fail
  refine(FL.out).mono ?_
  rintro e u1 ⟨rfl,hO⟩
  have HO1:=hid (HOz.out.trans hO (fun _ _ c=>c))
  clear hO
  go_wp2_with fail
  refine(FA.out _ HO1.out (HT.out.off HO1.out)).mono ?_
  rintro e u2 ⟨pa,pc,rfl,hpc,hvs,_,_,hO⟩
  simp only[Sh.val,List.length_nil]at hpc hvs ⊢
  obtain⟨W2,hW2⟩:∃ W,W=u2.alloc (.cells #[.int .i64 fd,.int .i64 th,.int .i64 i,.int .i64 ln,.slice pa zs.length pc] 38):=⟨_,rfl⟩
  obtain⟨bs,hbs⟩:∃ b,b=u2.heap.size:=⟨_,rfl⟩
  have HG2:=hid (show W2.heap[bs]?=some (.cells #[.int .i64 fd,.int .i64 th,.int .i64 i,.int .i64 ln,.slice pa zs.length pc] 38 (0,0)) by rw[hW2,hbs];exact heap_new' rfl _)
  have hO2:Off (fun _=>False) u2 W2:=by rw[hW2];exact(Off.refl _ _).alloc _
  have HV2:=hid (hvs.off hO2 (fun _ _ _ c=>c))
  have HPc:=hid hpc
  have HO2:=hid ((HO1.out.trans hO (fun _ _ c=>c)).trans hO2 (fun _ _ c=>c))
  have HW2:=hid hW2
  have HBs:=hid hbs
  clear hpc hvs hO FA hO2 hW2 hbs
  go_wp2_with fail
  rw[<-HW2.out,<-HBs.out]
  refine(FR.out _ HO2.out).mono ?_
  rintro e u3 ⟨rfl,hO⟩
  have HV3:=hid (HV2.out.off hO (fun _ _ _ c=>c))
  have HO3:=hid (HO2.out.trans hO (fun _ _ c=>c))
  have HG3:=hid (hO.heap HG2.out (fun c=>c))
  clear hO FR HV2 HG2
  have c0:=HO3.out.cell HC.out.1 (fun c=>c)
  have c1:=HO3.out.cell HC.out.2.1 (fun c=>c)
  have c3:=HO3.out.cell HC.out.2.2 (fun c=>c)
  have lb:=World.block_lt_of_cell? u3 _ c0
  go_wp2_with fail
  clear c0 c1 c3 lb
  obtain⟨wq,hwq⟩:∃ wq,wq=u3:=⟨_,rfl⟩
  rw[<-hwq]at HO3 HV3 HG3 ⊢
  clear hwq
  have HCq:=hid (And.intro (HO3.out.cell HC.out.1 (fun c=>c)) (And.intro (HO3.out.cell HC.out.2.1 (fun c=>c)) (HO3.out.cell HC.out.2.2 (fun c=>c))))
  obtain⟨x46,hx⟩:∃ vv:Value,vv=.slice (some ⟨b,off,none⟩) n0 cap0:=⟨_,rfl⟩
  have X46:=hid hx
  clear hx
  obtain⟨x47,hx⟩:∃ vv:Value,vv=.pointer (some ⟨b,off,none⟩):=⟨_,rfl⟩
  have X47:=hid hx
  clear hx
  obtain⟨x48,hx⟩:∃ vv:Value,vv=.pointer (some ⟨b,off,none⟩):=⟨_,rfl⟩
  have X48:=hid hx
  clear hx
  obtain⟨x49,hx⟩:∃ vv:Value,vv=.int .i64 fd:=⟨_,rfl⟩
  have X49:=hid hx
  clear hx
  obtain⟨x50,hx⟩:∃ vv:Value,vv=.slice (some ⟨b,off,none⟩) n0 cap0:=⟨_,rfl⟩
  have X50:=hid hx
  clear hx
  obtain⟨x51,hx⟩:∃ vv:Value,vv=.pointer (some ⟨b,off,none⟩):=⟨_,rfl⟩
  have X51:=hid hx
  clear hx
  obtain⟨x52,hx⟩:∃ vv:Value,vv=.pointer (some ⟨b,off+1,none⟩):=⟨_,rfl⟩
  have X52:=hid hx
  clear hx
  obtain⟨x53,hx⟩:∃ vv:Value,vv=.int .i64 th:=⟨_,rfl⟩
  have X53:=hid hx
  clear hx
  obtain⟨x54,hx⟩:∃ vv:Value,vv=.int .i64 i:=⟨_,rfl⟩
  have X54:=hid hx
  clear hx
  obtain⟨x55,hx⟩:∃ vv:Value,vv=.slice (some ⟨b,off,none⟩) n0 cap0:=⟨_,rfl⟩
  have X55:=hid hx
  clear hx
  obtain⟨x56,hx⟩:∃ vv:Value,vv=.pointer (some ⟨b,off,none⟩):=⟨_,rfl⟩
  have X56:=hid hx
  clear hx
  obtain⟨x57,hx⟩:∃ vv:Value,vv=.pointer (some ⟨b,off+3,none⟩):=⟨_,rfl⟩
  have X57:=hid hx
  clear hx
  obtain⟨x58,hx⟩:∃ vv:Value,vv=.int .i64 ln:=⟨_,rfl⟩
  have X58:=hid hx
  clear hx
  obtain⟨x59,hx⟩:∃ vv:Value,vv=.agg #[.int .i64 fd,.int .i64 th,.int .i64 i,.int .i64 ln,.slice none 0 0]:=⟨_,rfl⟩
  have X59:=hid hx
  clear hx
  refine wp_region_clo (fun a0 l a' w'=>∃ (g8:Nat),a'=(Act.put (fill a0 46 [sel (l 0) x46 (undef),sel (l 1) x47 (undef),sel (l 2) x48 (undef),sel (l 3) x49 (undef),sel (l 4) x50 (undef),sel (l 5) x51 (undef),sel (l 6) x52 (undef),sel (l 7) x53 (undef),sel (l 8) x54 (undef),sel (l 9) x55 (undef),sel (l 10) x56 (undef),sel (l 11) x57 (undef),sel (l 12) x58 (undef),sel (l 13) x59 (undef),undef,undef,undef,undef,undef,undef,undef,undef,undef,undef,undef,undef,undef,undef,undef,undef,undef,undef,undef,undef]) (some 8) (sel (l 14) (.pointer (some ⟨g8,0,none⟩)) (undef)))/\(l 15=false->Off (fun _=>False) wq w'/\(l 14=true->(wq.heap.size<=g8/\w'.heap[g8]?=some (.cells #[.int .i64 0,.int .i64 0,.int .i64 0,.int .i64 0,.slice none 0 0] 38 (0,0)))))/\(l 15=true->(w'.heap[g8]?=some (.cells #[.int .i64 fd,.int .i64 th,.int .i64 i,.int .i64 ln,.slice none 0 0] 38 (0,0))/\wq.heap.size<=g8/\Off (fun _=>False) wq w'))) (by kernel_rfl) (by kernel_rfl) ?_ ⟨?_,?_,?_,?_,?_,?_,?_,?_,?_,?_,?_,?_,?_,?_,?_,?_,trivial⟩ ?_
  ·refine⟨0,?_,fun _=>⟨(Off.refl _ wq).drew,(fun h=>by cases h)⟩,fun h=>by cases h⟩
   simp only[XF,XP,sel_start]
   try rfl
  all_goals try (rintro l a wr ⟨g8,ha,hA,hB⟩ hc hl hd K' hK)
  ·as_aux_lemma =>
    have hx:=X46.out;subst hx
    have gF:l 15=false:=hc.not (i:=15) hl 16 (by kernel_rfl)
    obtain⟨hO,h14⟩:=hA gF
    have GF:=hid gF
    clear gF hA hB
    simp only[XF,XP]at ha
    subst ha
    have H14:=hid h14
    clear h14
    rw[if_pos (by rfl)]
    go_simp
    refine Shut.out hK _ _ ⟨g8,?_,fun _=>⟨hO,(fun h=>⟨(H14.out (show l 14=true by rwa [upd_ne l (by decide)]at h)).1,Off.heap (Off.refl (fun _=>False) wr) (H14.out (show l 14=true by rwa [upd_ne l (by decide)]at h)).2 (fun c=>c)⟩)⟩,fun h=>absurd (show(true:Bool)=false from(show l 15=true by rwa [upd_ne l (by decide)]at h).symm.trans GF.out) (by decide)⟩
    simp only[XF,XP,sel_new]
    try rfl
  ·as_aux_lemma =>
    have d0:=hd 0 (by decide)
    have hx:=X46.out;subst hx
    have hx:=X47.out;subst hx
    have gF:l 15=false:=hc.not (i:=15) hl 16 (by kernel_rfl)
    obtain⟨hO,h14⟩:=hA gF
    have GF:=hid gF
    clear gF hA hB
    simp only[XF,XP,sel_of d0]at ha
    subst ha
    have H14:=hid h14
    clear h14
    rw[if_pos (by rfl)]
    go_simp
    refine Shut.out hK _ _ ⟨g8,?_,fun _=>⟨hO,(fun h=>⟨(H14.out (show l 14=true by rwa [upd_ne l (by decide)]at h)).1,Off.heap (Off.refl (fun _=>False) wr) (H14.out (show l 14=true by rwa [upd_ne l (by decide)]at h)).2 (fun c=>c)⟩)⟩,fun h=>absurd (show(true:Bool)=false from(show l 15=true by rwa [upd_ne l (by decide)]at h).symm.trans GF.out) (by decide)⟩
    simp only[XF,XP,sel_new,sel_dep d0]
    try rfl
  ·as_aux_lemma =>
    have d1:=hd 1 (by decide)
    have hx:=X47.out;subst hx
    have hx:=X48.out;subst hx
    have gF:l 15=false:=hc.not (i:=15) hl 16 (by kernel_rfl)
    obtain⟨hO,h14⟩:=hA gF
    have GF:=hid gF
    clear gF hA hB
    simp only[XF,XP,sel_of d1]at ha
    subst ha
    have H14:=hid h14
    clear h14
    rw[if_pos (by rfl)]
    go_simp
    refine Shut.out hK _ _ ⟨g8,?_,fun _=>⟨hO,(fun h=>⟨(H14.out (show l 14=true by rwa [upd_ne l (by decide)]at h)).1,Off.heap (Off.refl (fun _=>False) wr) (H14.out (show l 14=true by rwa [upd_ne l (by decide)]at h)).2 (fun c=>c)⟩)⟩,fun h=>absurd (show(true:Bool)=false from(show l 15=true by rwa [upd_ne l (by decide)]at h).symm.trans GF.out) (by decide)⟩
    simp only[XF,XP,sel_new,sel_dep d1]
    try rfl
  ·as_aux_lemma =>
    have d2:=hd 2 (by decide)
    have hx:=X48.out;subst hx
    have hx:=X49.out;subst hx
    have gF:l 15=false:=hc.not (i:=15) hl 16 (by kernel_rfl)
    obtain⟨hO,h14⟩:=hA gF
    have GF:=hid gF
    clear gF hA hB
    simp only[XF,XP,sel_of d2]at ha
    subst ha
    have H14:=hid h14
    clear h14
    have c0:=hO.cell HCq.out.1 (fun c=>c)
    have lb:=World.block_lt_of_cell? wr _ c0
    rw[if_pos (by rfl)]
    go_simp
    refine Shut.out hK _ _ ⟨g8,?_,fun _=>⟨hO,(fun h=>⟨(H14.out (show l 14=true by rwa [upd_ne l (by decide)]at h)).1,Off.heap (Off.refl (fun _=>False) wr) (H14.out (show l 14=true by rwa [upd_ne l (by decide)]at h)).2 (fun c=>c)⟩)⟩,fun h=>absurd (show(true:Bool)=false from(show l 15=true by rwa [upd_ne l (by decide)]at h).symm.trans GF.out) (by decide)⟩
    simp only[XF,XP,sel_new,sel_dep d2]
    try rfl
  ·as_aux_lemma =>
    have hx:=X50.out;subst hx
    have gF:l 15=false:=hc.not (i:=15) hl 16 (by kernel_rfl)
    obtain⟨hO,h14⟩:=hA gF
    have GF:=hid gF
    clear gF hA hB
    simp only[XF,XP]at ha
    subst ha
    have H14:=hid h14
    clear h14
    rw[if_pos (by rfl)]
    go_simp
    refine Shut.out hK _ _ ⟨g8,?_,fun _=>⟨hO,(fun h=>⟨(H14.out (show l 14=true by rwa [upd_ne l (by decide)]at h)).1,Off.heap (Off.refl (fun _=>False) wr) (H14.out (show l 14=true by rwa [upd_ne l (by decide)]at h)).2 (fun c=>c)⟩)⟩,fun h=>absurd (show(true:Bool)=false from(show l 15=true by rwa [upd_ne l (by decide)]at h).symm.trans GF.out) (by decide)⟩
    simp only[XF,XP,sel_new]
    try rfl
  ·as_aux_lemma =>
    have d4:=hd 4 (by decide)
    have hx:=X50.out;subst hx
    have hx:=X51.out;subst hx
    have gF:l 15=false:=hc.not (i:=15) hl 16 (by kernel_rfl)
    obtain⟨hO,h14⟩:=hA gF
    have GF:=hid gF
    clear gF hA hB
    simp only[XF,XP,sel_of d4]at ha
    subst ha
    have H14:=hid h14
    clear h14
    rw[if_pos (by rfl)]
    go_simp
    refine Shut.out hK _ _ ⟨g8,?_,fun _=>⟨hO,(fun h=>⟨(H14.out (show l 14=true by rwa [upd_ne l (by decide)]at h)).1,Off.heap (Off.refl (fun _=>False) wr) (H14.out (show l 14=true by rwa [upd_ne l (by decide)]at h)).2 (fun c=>c)⟩)⟩,fun h=>absurd (show(true:Bool)=false from(show l 15=true by rwa [upd_ne l (by decide)]at h).symm.trans GF.out) (by decide)⟩
    simp only[XF,XP,sel_new,sel_dep d4]
    try rfl
  ·as_aux_lemma =>
    have d5:=hd 5 (by decide)
    have hx:=X51.out;subst hx
    have hx:=X52.out;subst hx
    have gF:l 15=false:=hc.not (i:=15) hl 16 (by kernel_rfl)
    obtain⟨hO,h14⟩:=hA gF
    have GF:=hid gF
    clear gF hA hB
    simp only[XF,XP,sel_of d5]at ha
    subst ha
    have H14:=hid h14
    clear h14
    rw[if_pos (by rfl)]
    go_simp
    refine Shut.out hK _ _ ⟨g8,?_,fun _=>⟨hO,(fun h=>⟨(H14.out (show l 14=true by rwa [upd_ne l (by decide)]at h)).1,Off.heap (Off.refl (fun _=>False) wr) (H14.out (show l 14=true by rwa [upd_ne l (by decide)]at h)).2 (fun c=>c)⟩)⟩,fun h=>absurd (show(true:Bool)=false from(show l 15=true by rwa [upd_ne l (by decide)]at h).symm.trans GF.out) (by decide)⟩
    simp only[XF,XP,sel_new,sel_dep d5]
    try rfl
  ·as_aux_lemma =>
    have d6:=hd 6 (by decide)
    have hx:=X52.out;subst hx
    have hx:=X53.out;subst hx
    have gF:l 15=false:=hc.not (i:=15) hl 16 (by kernel_rfl)
    obtain⟨hO,h14⟩:=hA gF
    have GF:=hid gF
    clear gF hA hB
    simp only[XF,XP,sel_of d6]at ha
    subst ha
    have H14:=hid h14
    clear h14
    have c1:=hO.cell HCq.out.2.1 (fun c=>c)
    have lb:=World.block_lt_of_cell? wr _ c1
    rw[if_pos (by rfl)]
    go_simp
    refine Shut.out hK _ _ ⟨g8,?_,fun _=>⟨hO,(fun h=>⟨(H14.out (show l 14=true by rwa [upd_ne l (by decide)]at h)).1,Off.heap (Off.refl (fun _=>False) wr) (H14.out (show l 14=true by rwa [upd_ne l (by decide)]at h)).2 (fun c=>c)⟩)⟩,fun h=>absurd (show(true:Bool)=false from(show l 15=true by rwa [upd_ne l (by decide)]at h).symm.trans GF.out) (by decide)⟩
    simp only[XF,XP,sel_new,sel_dep d6]
    try rfl
  ·as_aux_lemma =>
    have hx:=X54.out;subst hx
    have gF:l 15=false:=hc.not (i:=15) hl 16 (by kernel_rfl)
    obtain⟨hO,h14⟩:=hA gF
    have GF:=hid gF
    clear gF hA hB
    simp only[XF,XP]at ha
    subst ha
    have H14:=hid h14
    clear h14
    rw[if_pos (by rfl)]
    go_simp
    refine Shut.out hK _ _ ⟨g8,?_,fun _=>⟨hO,(fun h=>⟨(H14.out (show l 14=true by rwa [upd_ne l (by decide)]at h)).1,Off.heap (Off.refl (fun _=>False) wr) (H14.out (show l 14=true by rwa [upd_ne l (by decide)]at h)).2 (fun c=>c)⟩)⟩,fun h=>absurd (show(true:Bool)=false from(show l 15=true by rwa [upd_ne l (by decide)]at h).symm.trans GF.out) (by decide)⟩
    simp only[XF,XP,sel_new]
    try rfl
  ·as_aux_lemma =>
    have hx:=X55.out;subst hx
    have gF:l 15=false:=hc.not (i:=15) hl 16 (by kernel_rfl)
    obtain⟨hO,h14⟩:=hA gF
    have GF:=hid gF
    clear gF hA hB
    simp only[XF,XP]at ha
    subst ha
    have H14:=hid h14
    clear h14
    rw[if_pos (by rfl)]
    go_simp
    refine Shut.out hK _ _ ⟨g8,?_,fun _=>⟨hO,(fun h=>⟨(H14.out (show l 14=true by rwa [upd_ne l (by decide)]at h)).1,Off.heap (Off.refl (fun _=>False) wr) (H14.out (show l 14=true by rwa [upd_ne l (by decide)]at h)).2 (fun c=>c)⟩)⟩,fun h=>absurd (show(true:Bool)=false from(show l 15=true by rwa [upd_ne l (by decide)]at h).symm.trans GF.out) (by decide)⟩
    simp only[XF,XP,sel_new]
    try rfl
  ·as_aux_lemma =>
    have d9:=hd 9 (by decide)
    have hx:=X55.out;subst hx
    have hx:=X56.out;subst hx
    have gF:l 15=false:=hc.not (i:=15) hl 16 (by kernel_rfl)
    obtain⟨hO,h14⟩:=hA gF
    have GF:=hid gF
    clear gF hA hB
    simp only[XF,XP,sel_of d9]at ha
    subst ha
    have H14:=hid h14
    clear h14
    rw[if_pos (by rfl)]
    go_simp
    refine Shut.out hK _ _ ⟨g8,?_,fun _=>⟨hO,(fun h=>⟨(H14.out (show l 14=true by rwa [upd_ne l (by decide)]at h)).1,Off.heap (Off.refl (fun _=>False) wr) (H14.out (show l 14=true by rwa [upd_ne l (by decide)]at h)).2 (fun c=>c)⟩)⟩,fun h=>absurd (show(true:Bool)=false from(show l 15=true by rwa [upd_ne l (by decide)]at h).symm.trans GF.out) (by decide)⟩
    simp only[XF,XP,sel_new,sel_dep d9]
    try rfl
  ·as_aux_lemma =>
    have d10:=hd 10 (by decide)
    have hx:=X56.out;subst hx
    have hx:=X57.out;subst hx
    have gF:l 15=false:=hc.not (i:=15) hl 16 (by kernel_rfl)
    obtain⟨hO,h14⟩:=hA gF
    have GF:=hid gF
    clear gF hA hB
    simp only[XF,XP,sel_of d10]at ha
    subst ha
    have H14:=hid h14
    clear h14
    rw[if_pos (by rfl)]
    go_simp
    refine Shut.out hK _ _ ⟨g8,?_,fun _=>⟨hO,(fun h=>⟨(H14.out (show l 14=true by rwa [upd_ne l (by decide)]at h)).1,Off.heap (Off.refl (fun _=>False) wr) (H14.out (show l 14=true by rwa [upd_ne l (by decide)]at h)).2 (fun c=>c)⟩)⟩,fun h=>absurd (show(true:Bool)=false from(show l 15=true by rwa [upd_ne l (by decide)]at h).symm.trans GF.out) (by decide)⟩
    simp only[XF,XP,sel_new,sel_dep d10]
    try rfl
  ·as_aux_lemma =>
    have d11:=hd 11 (by decide)
    have hx:=X57.out;subst hx
    have hx:=X58.out;subst hx
    have gF:l 15=false:=hc.not (i:=15) hl 16 (by kernel_rfl)
    obtain⟨hO,h14⟩:=hA gF
    have GF:=hid gF
    clear gF hA hB
    simp only[XF,XP,sel_of d11]at ha
    subst ha
    have H14:=hid h14
    clear h14
    have c3:=hO.cell HCq.out.2.2 (fun c=>c)
    have lb:=World.block_lt_of_cell? wr _ c3
    rw[if_pos (by rfl)]
    go_simp
    refine Shut.out hK _ _ ⟨g8,?_,fun _=>⟨hO,(fun h=>⟨(H14.out (show l 14=true by rwa [upd_ne l (by decide)]at h)).1,Off.heap (Off.refl (fun _=>False) wr) (H14.out (show l 14=true by rwa [upd_ne l (by decide)]at h)).2 (fun c=>c)⟩)⟩,fun h=>absurd (show(true:Bool)=false from(show l 15=true by rwa [upd_ne l (by decide)]at h).symm.trans GF.out) (by decide)⟩
    simp only[XF,XP,sel_new,sel_dep d11]
    try rfl
  ·as_aux_lemma =>
    have d3:=hd 3 (by decide)
    have d7:=hd 7 (by decide)
    have d8:=hd 8 (by decide)
    have d12:=hd 12 (by decide)
    have hx:=X49.out;subst hx
    have hx:=X53.out;subst hx
    have hx:=X54.out;subst hx
    have hx:=X58.out;subst hx
    have hx:=X59.out;subst hx
    have gF:l 15=false:=hc.not (i:=15) hl 16 (by kernel_rfl)
    obtain⟨hO,h14⟩:=hA gF
    have GF:=hid gF
    clear gF hA hB
    simp only[XF,XP,sel_of d3,sel_of d7,sel_of d8,sel_of d12]at ha
    subst ha
    have H14:=hid h14
    clear h14
    rw[if_pos (by rfl)]
    go_simp
    refine Shut.out hK _ _ ⟨g8,?_,fun _=>⟨hO,(fun h=>⟨(H14.out (show l 14=true by rwa [upd_ne l (by decide)]at h)).1,Off.heap (Off.refl (fun _=>False) wr) (H14.out (show l 14=true by rwa [upd_ne l (by decide)]at h)).2 (fun c=>c)⟩)⟩,fun h=>absurd (show(true:Bool)=false from(show l 15=true by rwa [upd_ne l (by decide)]at h).symm.trans GF.out) (by decide)⟩
    simp only[XF,XP,sel_new,sel_dep d3,sel_dep d7,sel_dep d8,sel_dep d12]
    try rfl
  ·have gF:l 15=false:=hc.not (i:=15) hl 16 (by kernel_rfl)
   obtain⟨hO,h14⟩:=hA gF
   have GF:=hid gF
   clear gF hA hB
   have g15:=hc.not (i:=15) hl 16 (by kernel_rfl)
   simp only[XF,XP,sel_no g15,sel_no hl]at ha
   subst ha
   have G15:=hid g15
   clear g15
   have H14:=hid h14
   clear h14
   rw[if_pos (by rfl)]
   go_simp
   refine Shut.out hK _ _ ⟨wr.heap.size,?_,fun _=>⟨(hO.alloc _),(fun _=>⟨hO.size,heap_new' rfl _⟩)⟩,fun h=>absurd (show(true:Bool)=false from(show l 15=true by rwa [upd_ne l (by decide)]at h).symm.trans GF.out) (by decide)⟩
   simp only[XF,XP,sel_new,sel_no (show upd l 14 15=false by rw[upd_ne l (by decide)];exact G15.out)]
   try rfl
  ·as_aux_lemma =>
    have d13:=hd 13 (by decide)
    have d14:=hd 14 (by decide)
    have hx:=X59.out;subst hx
    have gF:l 15=false:=hl
    obtain⟨hO,h14⟩:=hA gF
    have GF:=hid gF
    clear gF hA hB
    simp only[XF,XP,sel_of d13,sel_of d14]at ha
    subst ha
    have q14:=h14 d14
    have Q14:=hid q14
    clear q14
    have H14:=hid h14
    clear h14
    have hg:=Q14.out.2
    have p0:=cell_of_heap hg 0
    have p1:=cell_of_heap hg 1
    have p2:=cell_of_heap hg 2
    have p3:=cell_of_heap hg 3
    have p4:=cell_of_heap hg 4
    have fz:=fun k=>frozen_of_heap hg k
    have lg:=heap_lt hg
    clear hg
    rw[if_pos (by rfl)]
    go_simp
    refine Shut.out hK _ _ ⟨g8,?_,fun h=>absurd h (by rw[upd_same];decide),fun _=>⟨setCells_at (vs:=[.int .i64 fd,.int .i64 th,.int .i64 i,.int .i64 ln,.slice none 0 0]) Q14.out.2 rfl,Q14.out.1,setCells_in (S:=fun _=>False) hO (fun h=>absurd h (Nat.not_lt.2 Q14.out.1)) [.int .i64 fd,.int .i64 th,.int .i64 i,.int .i64 ln,.slice none 0 0]⟩⟩
    simp only[XF,XP,sel_dep d13,sel_dep d14]
    try rfl
  rintro l a wc ⟨g8,ha,hA,hB⟩ hd
  simp only[XF,XP,sel_of (hd 0 (by decide)),sel_of (hd 1 (by decide)),sel_of (hd 2 (by decide)),sel_of (hd 3 (by decide)),sel_of (hd 4 (by decide)),sel_of (hd 5 (by decide)),sel_of (hd 6 (by decide)),sel_of (hd 7 (by decide)),sel_of (hd 8 (by decide)),sel_of (hd 9 (by decide)),sel_of (hd 10 (by decide)),sel_of (hd 11 (by decide)),sel_of (hd 12 (by decide)),sel_of (hd 13 (by decide)),sel_of (hd 14 (by decide))]at ha
  subst ha
  have hPP:=hB (hd 15 (by decide))
  clear hA hB
  obtain⟨hg8,hb8,hO⟩:=hPP
  have HG8:=hid hg8
  have HB8:=hid hb8
  have HO4:=hid (HO3.out.trans hO (fun _ _ c=>c))
  have HV4:=hid ((vs_old HV3.out).off hO (fun _ _ _ c=>c))
  have HG4:=hid (hO.heap HG3.out (fun c=>c))
  have p0:=cell_of_heap hg8 0
  have lg:=heap_lt hg8
  clear hg8 hb8 hO hd
  go_wp2_with fail
  refine(FMo.out wc).mono ?_
  rintro e u5 ⟨rfl,hO⟩
  have HO5:=hid (HO4.out.trans hO (fun _ _ c=>c))
  have HG5:=hid (hO.heap HG8.out (fun c=>c))
  have HS5:=hid (hO.heap HG4.out (fun c=>c))
  have HV5:=hid (HV4.out.off hO (fun _ _ _ c=>c))
  have HB5:=hid hO.size
  clear hO p0 lg
  go_wp2_with fail
  refine(FPl.out u5 HO5.out).mono ?_
  rintro e u6 ⟨v6,rfl,hL,hO⟩
  have HL6:=hid hL
  have HO6:=hid (HO5.out.trans hO (fun _ _ c=>c))
  have HG6:=hid (hO.heap HG5.out (fun c=>c))
  have HS6:=hid (hO.heap HS5.out (fun c=>c))
  have HV6:=hid (HV5.out.off hO (fun _ _ _ c=>c))
  clear hL hO
  go_wp2_with fail
  refine(FPy.out _ u6 HL6.out).mono ?_
  rintro e u7 ⟨a7,c7,rfl,hown,hO⟩
  have hg7:=hO.heap HG6.out (fun c=>c)
  have HS7:=hid (hO.heap HS6.out (fun c=>c))
  have HV7:=hid (HV6.out.off hO (fun _ _ _ c=>c))
  have HO7:=hid (HO6.out.trans hO (fun _ _ c=>c))
  have HX7:=hid (vs_of_ls17 (ls_of_own hown rfl HZN.out) HZR.out)
  have HXc:=hid (own_cap17 hown)
  obtain⟨W8,hW8⟩:∃ W,W=u7.setCell ⟨g8,4,none⟩ (.slice a7 zs.length c7):=⟨_,rfl⟩
  have hne:bs≠g8:=fun e=>by
   have:=heap_lt HG3.out
   have:=HB8.out
   omega
  have hO78:Off (fun k=>k=g8) u7 W8:=by rw[hW8];exact setCells_off g8 [.slice a7 zs.length c7] 4 u7
  have HO8:=hid (show Off (fun _=>False) w W8 by rw[hW8];exact setCells_offB HO7.out (fun h=>absurd h (by have:=HB8.out;have:=HO3.out.size;omega)) 4 [.slice a7 zs.length c7])
  have HG9:=hid (show W8.heap[g8]?=some (.cells #[.int .i64 fd,.int .i64 th,.int .i64 i,.int .i64 ln,.slice a7 zs.length c7] 38 (0,0)) by rw[hW8];exact setCells_heap g8 [.slice a7 zs.length c7] [.int .i64 fd,.int .i64 th,.int .i64 i,.int .i64 ln] [.slice none 0 0] u7 4 rfl rfl hg7)
  have HS8:=hid (hO78.heap HS7.out hne)
  have p4:=cell_of_heap hg7 4
  have fz:=fun k=>frozen_of_heap hg7 k
  have lg:=heap_lt hg7
  have HW8:=hid hW8
  have H78:=hid hO78
  have HV8:=hid (HV7.out.off hO78 (fun k _ c e=>by have:=c;have:=HB8.out;omega))
  have HX8:=hid (HX7.out.off hO78 (fun k _ c e=>by have:=c.1;have:=heap_lt HG6.out;omega))
  clear hown hO hg7 hW8 hne hO78
  go_wp2_with fail
  rw[<-HW8.out]
  refine(FAL.out _ (HT.out.off HO8.out)).mono ?_
  rintro e u9 ⟨rfl,hO⟩
  have hs:=hO.heap HS8.out (fun c=>c)
  have hx:=hO.heap HG9.out (fun c=>c)
  have HO9:=hid (HO8.out.trans hO (fun _ _ c=>c))
  have HV9:=hid (HV8.out.off hO (fun _ _ _ c=>c))
  have HX9:=hid (HX8.out.off hO (fun _ _ _ c=>c))
  have s0:=cell_of_heap hs 0
  have s1:=cell_of_heap hs 1
  have s2:=cell_of_heap hs 2
  have s3:=cell_of_heap hs 3
  have s4:=cell_of_heap hs 4
  have ls:=heap_lt hs
  have x0:=cell_of_heap hx 0
  have x1:=cell_of_heap hx 1
  have x2:=cell_of_heap hx 2
  have x3:=cell_of_heap hx 3
  have x4:=cell_of_heap hx 4
  have lx:=heap_lt hx
  have FS:=hid (fun W b1 b2 (hO:Off (fun _=>False) u9 W) (h1:W.heap[b1]?=some (.cells #[.int .i64 fd,.int .i64 th,.int .i64 i,.int .i64 ln,.slice pa zs.length pc] 38 (0,0))) (h2:W.heap[b2]?=some (.cells #[.int .i64 fd,.int .i64 th,.int .i64 i,.int .i64 ln,.slice a7 zs.length c7] 38 (0,0))) =>
   refsame_any [⟨fd,th,(i:Int),ln,zs⟩] (some ⟨b1,0,none⟩) (some ⟨b2,0,none⟩) 1 1 1 rfl (fun _=>True) (fun _=>True) W (one_at (s:=⟨fd,th,(i:Int),ln,zs⟩) HZk.out h1 HPc.out (HV9.out.off hO (fun _ _ _ c=>c))) (one_at (s:=⟨fd,th,(i:Int),ln,zs⟩) HZk.out h2 HXc.out (HX9.out.off hO (fun _ _ _ c=>c))))
  clear hs hx hO p4 fz lg
  go_wp2_with fail
  refine(FS.out _ _ _ (((Off.refl _ u9).alloc _).alloc _) (heap_old' (heap_new' rfl _) _) (heap_new' (by simp) _)).mono ?_
  rintro e u10 ⟨rfl,hO⟩
  have HOe:=hid (HO9.out.trans ((((Off.refl _ u9).alloc _).alloc _).trans hO (fun _ _ c=>c)) (fun _ _ c=>c))
  clear hO
  go_wp2
  go_ret
  exact⟨rfl,HOe.out⟩
 have hE:=atE_bad (ix:=i1) hc h0
 have hS:=atS_no (l:=l0) (ix:=i1) (by rw[hE];exact h0)
 rw[hE,hS]at FA
 have k1:((c:Int)==0)=false:=by simp;omega
 have k2:((c:Int) != 0)=true:=by simp;omega
 have k3:¬(c:Int)=0:=by omega
 clear hE hS hc hl3 hcc hev hp5 hpt h0
 go_enter Tryz.func5,Tryz.ntmps5
 go_wp2_with fail
 refine(FL.out).mono ?_
 rintro e u1 ⟨rfl,hO⟩
 have HO1:=hid (HOz.out.trans hO (fun _ _ c=>c))
 clear hO
 go_wp2_with fail
 refine(FA.out _ HO1.out (HT.out.off HO1.out)).mono ?_
 rintro e u2 ⟨pa,pc,rfl,hpc,hvs,_,_,hO⟩
 simp only[Sh.val,List.length_nil]at hpc hvs ⊢
 obtain⟨W2,hW2⟩:∃ W,W=u2.alloc (.cells #[.int .i64 0,.int .i64 0,.int .i64 0,.int .i64 0,.slice pa 0 pc] 38):=⟨_,rfl⟩
 obtain⟨bs,hbs⟩:∃ b,b=u2.heap.size:=⟨_,rfl⟩
 have HG2:=hid (show W2.heap[bs]?=some (.cells #[.int .i64 0,.int .i64 0,.int .i64 0,.int .i64 0,.slice pa 0 pc] 38 (0,0)) by rw[hW2,hbs];exact heap_new' rfl _)
 have hO2:Off (fun _=>False) u2 W2:=by rw[hW2];exact(Off.refl _ _).alloc _
 have HV2:=hid (hvs.off hO2 (fun _ _ _ c=>c))
 have HPc:=hid hpc
 have HO2:=hid ((HO1.out.trans hO (fun _ _ c=>c)).trans hO2 (fun _ _ c=>c))
 have HW2:=hid hW2
 have HBs:=hid hbs
 clear hpc hvs hO FA hO2 hW2 hbs
 go_wp2_with fail
 rw[<-HW2.out,<-HBs.out]
 refine(FR.out _ HO2.out).mono ?_
 rintro e u3 ⟨rfl,hO⟩
 have HV3:=hid (HV2.out.off hO (fun _ _ _ c=>c))
 have HO3:=hid (HO2.out.trans hO (fun _ _ c=>c))
 have HG3:=hid (hO.heap HG2.out (fun c=>c))
 clear hO FR HV2 HG2
 go_wp2_with fail
 refine(FAL.out _ (HT.out.off HO3.out)).mono ?_
 rintro e u4 ⟨rfl,hO⟩
 have HO4:=hid (HO3.out.trans hO (fun _ _ c=>c))
 have hA4:=hid hO
 clear hO
 have HV4:=hid (HV3.out.off hA4.out (fun _ _ _ c=>c))
 have hg:=hA4.out.heap HG3.out (fun c=>c)
 have p0:=cell_of_heap hg 0
 have p1:=cell_of_heap hg 1
 have p2:=cell_of_heap hg 2
 have p3:=cell_of_heap hg 3
 have p4:=cell_of_heap hg 4
 have hlq:=heap_lt hg
 clear hg
 have FS:=hid (fun W b1 b2 (hO:Off (fun _=>False) u4 W) (h1:W.heap[b1]?=some (.cells #[.int .i64 0,.int .i64 0,.int .i64 0,.int .i64 0,.slice pa 0 pc] 38 (0,0))) (h2:W.heap[b2]?=some (.cells #[.int .i64 0,.int .i64 0,.int .i64 0,.int .i64 0,.slice none 0 0] 38 (0,0))) =>
  refsame_any [⟨0,0,0,0,[]⟩] (some ⟨b1,0,none⟩) (some ⟨b2,0,none⟩) 1 1 1 rfl (fun _=>True) (fun _=>True) W (one_at (s:=⟨0,0,0,0,[]⟩) ⟨rfl,rfl,rfl,rfl,fun x hx=>by simp at hx⟩ h1 HPc.out (HV4.out.off hO (fun _ _ _ c=>c))) (one_at (s:=⟨0,0,0,0,[]⟩) ⟨rfl,rfl,rfl,rfl,fun x hx=>by simp at hx⟩ h2 (Nat.le_refl _) (vs_nil17 W)))
 go_wp2_with fail
 refine(FS.out _ _ _ (((Off.refl _ u4).alloc _).alloc _) (heap_old' (heap_new' rfl _) _) (heap_new' (by simp) _)).mono ?_
 rintro e u5 ⟨rfl,hO⟩
 have HO5:=hid (HO4.out.trans ((((Off.refl _ u4).alloc _).alloc _).trans hO (fun _ _ c=>c)) (fun _ _ c=>c))
 clear hO
 go_wp2
 go_ret
 exact⟨rfl,HO5.out⟩

theorem door_met (os : Os) (args : Array Value) : laidMetH Tryz.prog [("sharecore/field.fields",Rows.laid_sharecore_field_fields)] ((World.doorLaid Tryz.prog 400 os).forCall (fun _ _ => 0) ⟨#[],args,[]⟩).memory :=
 laidMetH_of_parts3 (fuel:=8) (laidMet_of_run' 8 (by kernel_rfl) (by kernel_rfl)) (by kernel_rfl) (by kernel_rfl)

set_option maxRecDepth 100000 in
theorem lifted (os:Os) (started:os.Started) (H:Type) (enc:TypeId × Value->H) :
  ReturnsInHanded {} Tryz.checked os 5 .any (fun w args => (Rows.joinAtSpec.pre enc Tryz.prog Tryz.f5 [] false w args /\ laidMetH Tryz.prog [("sharecore/field.fields",Rows.laid_sharecore_field_fields)] w) /\ sizedMet enc Tryz.prog Tryz.f5 (OpenSpec.ofChange Rows.joinAtSpec) false w args)
   (Rows.joinAtSpec.post enc Tryz.prog Tryz.f5 false true false false):=by
 refine returnsInHanded_of_change_and (C := Tryz.checked) (X := fun w _ => laidMetH Tryz.prog [("sharecore/field.fields",Rows.laid_sharecore_field_fields)] w) (fun _ _ _ hh h => h.of_heap hh) own started (by kernel_rfl) Tryz.func5
  (ChangeSpec.witness_shaped (enc := enc) (C := Tryz.checked) (os := os) (X := fun w _ => laidMetH Tryz.prog [("sharecore/field.fields",Rows.laid_sharecore_field_fields)] w) false (World.doorLaid Tryz.prog 400 os) #[.slice none 0 0,.int .i64 0] 8 rfl (World.shaped_of_RefB (by kernel_rfl) (by kernel_rfl)) (by kernel_rfl) (by kernel_rfl) (by kernel_rfl) (door_met os _)) ?_
 intro W base args ds gs before hval0 hW _ hsz hL _
 have hval:∀ (j:Nat) t v,Tryz.f5.params[j]?=some t->args[j]?=some v->Value.okWide Tryz.prog W .any base t v:=hval0
 have hW':=hW
 obtain⟨p,q,hA0,hV,rfl,hfz,hnd⟩:=hW
 have hA:DataW.TrodAll enc Tryz.prog W 0 (fun _=>true) true Tryz.f5.params.toList args.toList ds p:=hA0
 rw[Tryz.params5]at hA hval
 obtain⟨v0,vs0,d0,ds0,p0,q0,hargs,rfl,rfl,h0,r0⟩:=trodAll_cons hA
 obtain⟨v1,vs1,d1,ds1,p1,q1,rfl,rfl,rfl,h1,r1⟩:=trodAll_cons r0
 obtain⟨rfl,rfl,rfl⟩:=trodAll_nil r1
 obtain rfl:args=#[v0,v1]:=by cases args;simp_all
 obtain⟨rfl,rfl⟩:=trodVars_none hV
 obtain⟨a0,n0,cap0,rfl⟩:=okWide_slice Tryz.underlying22 (hval 0 22 v0 rfl rfl)
 have k0:=h0
 have lt0:∀ x∈p0,x.block<W.heap.size:=by obtain⟨m,hm⟩:=k0;exact DataW.trod_lt m _ _ _ hm
 obtain⟨l0,hn0,w0⟩:∃ l,n0=l.length/\ShsAt W (.slice a0 n0 cap0) l (fun k=>k<W.heap.size):=by
  obtain⟨fuel,hf⟩:=h0
  exact shares_of_trod hf
 obtain⟨i1,rfl,rfl,rfl,w1⟩:=open_int Tryz.underlying3 (hval 1 3 v1 rfl rfl) h1
 have hT:=tab_of_laid hL
 clear hA0 hval0
 refine(walk a0 n0 cap0 l0 i1 W hn0 w0 w1 hT).mono fun e W' ⟨he,hoff⟩=>?_
 have bel:Below W.heap.size W W':=hoff.below (Nat.le_refl _) (fun _ _ c=>c)
 subst he
 exact⟨_,rfl,_,_,_,[],_,[],hW',trodAll_mk1 (shut_bool Tryz.underlying4 _),(trodAll_cons_mk (Below.trod laidOut (by kernel_rfl) (of_decide_eq_true (by kernel_rfl)) k0 bel lt0) (trodAll_cons_mk (shut_int Tryz.underlying3 w1) trodAll_mk0)),rfl,bel.frame _,fun h=>by cases h⟩

theorem over:Rows.joinAtRow.holds Tryz.pinned (OpenSpec.ofChange Rows.joinAtSpec) :=
 OpenClaim.holds_of_wide 5 Tryz.f5 rfl rfl rfl rfl rfl rfl rfl ⟨rfl,rfl,rfl,rfl,rfl⟩ rfl rfl rfl rfl rfl (by kernel_rfl) Tryz.func5 (by kernel_rfl)
  (of_decide_eq_true (by kernel_rfl)) (by unfold Func.isWrapper;first | (rw[if_pos (by decide +kernel)];kernel_rfl) | (rw[if_neg (by decide +kernel)];exact⟨rfl,rfl⟩))
  (fun os started H enc _=>lifted os started H enc)

theorem proved:Rows.JoinAtCardSaid :=
 Claim7.holds_tied_plain_at .later [] [.data] true (true,"7bce38bddea7484173693267af3896808f2e64751bf740681a295740933c261b") false
  over (fun _ h=>by cases h) (by kernel_rfl) (fun _ h=>by cases h) joinAt_row_tie rfl ⟨rfl,rfl⟩ (by kernel_rfl) rfl
  (fun f fn hf hfn=>by
   obtain rfl : f = 5 := Option.some.inj ((show Tryz.prog.funcNamed "sharecore/sharecorelaw17.JoinAt" = some 5 by kernel_rfl).symm.trans hf) |>.symm
   obtain rfl:fn=Tryz.f5:=(Option.some.inj (Tryz.func5.symm.trans hfn)).symm
   exact⟨by kernel_rfl,fun j t ht=>by
    rw[Tryz.params5]at ht
    have hm:t∈[22,3]:=by simpa using Array.mem_of_getElem? ht
    have hall:([22,3].all fun u=>!Tryz.prog.wantsStandIn u)=true:=by kernel_rfl
    exact(show Tryz.prog.wantsStandIn t=false by simpa using List.all_eq_true.1 hall t hm)⟩)
  (by kernel_rfl)
#print axioms proved
end Go.Proofs.YtpfjgifcjengkaaGreatDoor.joinAt
