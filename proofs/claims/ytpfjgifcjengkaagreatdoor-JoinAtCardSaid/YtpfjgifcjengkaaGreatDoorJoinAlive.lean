/-
  The statements' own alive of layer 17 over this seat's translation. Condition: the table of fields lies in memory as it was laid.
-/
import Derived.Test.YtpfjgifcjengkaaGreatDoorJoinC
import Derived.Test.YtpfjgifcjengkaaGreatDoorSrcCat
namespace Go.Proofs.YtpfjgifcjengkaaGreatDoor
open Lib (hid)
open Go.RowKit
attribute [local go_sem ↓] Go.wp_at_zero Go.wp_at_succ
set_option maxRecDepth 100000
set_option maxHeartbeats 4000000
set_option linter.unusedSimpArgs false
def q17:Pms:=⟨1,2,2,1⟩
def rnd17:List Nat:=3::List.replicate 63 0
def l17:List Sh:=[shrN q17 (modN 1) (polsN q17 [5] rnd17) 1,shrN q17 (modN 1) (polsN q17 [5] rnd17) 2]
theorem l17_ok:shsN l17=0:=by decide +kernel
theorem l17_smj:Smj q17 (modN 1) [5] rnd17 (usJ l17):=by
 refine⟨rfl,fun s hs=>?_,by decide⟩
 have:s∈l17:=List.mem_of_mem_take hs
 simp only[l17,List.mem_cons,List.not_mem_nil,or_false]at this
 rcases this with rfl | rfl
 ·exact⟨1,by omega,by omega,rfl⟩
 exact⟨2,by omega,by omega,rfl⟩
theorem l17_pol:jpl (modN 1) (usJ l17) 0=[5,3]:=by
 have h:=fld_full fld1
 rw[l17_smj.jpl fld1.mp (by decide) h.2.1 (by decide) (by decide) (k:=0) (by decide)]
 decide +kernel
theorem l17_vals:vlJ l17=[5]:=by
 show [(jpl (modN 1) (usJ l17) 0).getD 0 0]=[5]
 rw[l17_pol];rfl
theorem l17_comb:cmbJ l17=([5],0):=by
 unfold cmbJ
 rw[if_neg (fun h=>h l17_ok),l17_vals]
 decide +kernel
theorem l17_atE:atE l17 3=0:=by unfold atE;rw[if_neg (fun h=>h l17_ok)];rfl
theorem l17_atS:atS l17 3=⟨1,2,3,1,[fm (modN 1) 14]⟩:=by
 unfold atS
 rw[if_neg (fun h=>h l17_atE)]
 show(⟨1,2,3,1,payN (modN 1) [jpl (modN 1) (usJ l17) 0] 3⟩:Sh)=_
 rw[l17_pol,show payN (modN 1) [[5,3]] 3=[fm (modN 1) 14] by decide +kernel]
theorem l17_pl:l17.map Sh.pl=[[fm (modN 1) 8],[fm (modN 1) 11]]:=by decide +kernel
theorem l17_ev:(vlsEv (TJ l17) (cJ l17)).length<=50000/\(atEv (TJ l17) (cJ l17)).length<=50000:=by decide +kernel
theorem by5j {W:World} {b:Nat} (h:W.heap[b]?=some (.cells #[.int .u8 5] 5 (0,0))):BsAt W (some ⟨b,0,none⟩) [5] (fun k=>k<W.heap.size):=BsAt.of_blk (T:=5) h (heap_lt h)
theorem l17_pls:∀ s∈l17,s.pl.length<=1000:=fun s hs=>by
 simp only[l17,List.mem_cons,List.not_mem_nil,or_false]at hs
 rcases hs with rfl | rfl <;> decide +kernel
theorem vs_old {W:World} {v:Value} {xs:List Nat} {S:Nat->Prop} (h:VsAt W v xs S):VsAt W v xs (fun k=>k<W.heap.size):=by
 obtain⟨a,cap,hv,h1,h2,h4⟩:=h
 refine⟨a,cap,hv,h1,h2,fun hp=>?_⟩
 obtain⟨b,off,ha,_,hx⟩:=h4 hp
 obtain⟨x,hx0⟩:∃ x,xs[0]?=some x:=⟨_,List.getElem?_eq_getElem hp⟩
 exact⟨b,off,ha,World.block_lt_of_cell? W _ (hx 0 x hx0).1,hx⟩
theorem shs_old {W:World} {v:Value} {l:List Sh} {S:Nat->Prop} (h:ShsAt W v l S):ShsAt W v l (fun k=>k<W.heap.size):=by
 obtain⟨a,cap,hv,hc,h1,h2,h4⟩:=h
 refine⟨a,cap,hv,hc,h1,h2,fun hp=>?_⟩
 obtain⟨b,off,ha,_,hx⟩:=h4 hp
 have hb:b<W.heap.size:=by
  obtain⟨s,hs⟩:∃ s,l[0]?=some s:=⟨_,List.getElem?_eq_getElem hp⟩
  have:=(hx 0 s hs).1
  exact World.block_lt_of_cell? W _ this
 refine⟨b,off,ha,hb,fun j s hj=>?_⟩
 obtain⟨c0,c1,c2,c3,pa,pc,c4,c5,c6⟩:=hx j s hj
 exact⟨c0,c1,c2,c3,pa,pc,c4,c5,vs_old c6⟩
theorem l17_at {W:World} {nb g8 g11 z8 z11:Nat} (e8:z8=fm (modN 1) 8) (e11:z11=fm (modN 1) 11) (h8:NumsAt W g8 34 [z8]) (h11:NumsAt W g11 34 [z11]) (hn:W.heap[nb]?=some (.cells #[.int .i64 1,.int .i64 2,.int .i64 1,.int .i64 1,.slice (some ⟨g8,0,none⟩) 1 1,.int .i64 1,.int .i64 2,.int .i64 2,.int .i64 1,.slice (some ⟨g11,0,none⟩) 1 1] 38 (0,0))):ShsAt W (.slice (some ⟨nb,0,none⟩) 2 2) l17 (fun _=>True):=by
 have hpl:=l17_pl
 simp only[l17,List.map_cons,List.map_nil,List.cons.injEq,and_true]at hpl
 obtain⟨p8,p11⟩:=hpl
 rw[<-e8]at p8
 rw[<-e11]at p11
 have hR:∀ k,fm (modN 1) k<R256:=fun k=>Nat.lt_trans (fm_lt (by decide) k) (by decide)
 have v8:∀ {g z:Nat},z<R256->NumsAt W g 34 [z]->VsAt W (.slice (some ⟨g,0,none⟩) 1 1) [z] (fun _=>True):=fun {g z} hz h=>by
  obtain⟨a,c,e,h1,h2⟩:=Ls.of_all (cap:=1) h (by simp)
  exact⟨a,c,e,by unfold maxLen;simp,fun x hx=>by rw[List.mem_singleton.1 hx];exact hz,h2⟩
 refine⟨some ⟨nb,0,none⟩,2,rfl,Nat.le_refl _,by unfold maxLen;simp[l17],fun s hs=>?_,fun _=>⟨nb,0,rfl,trivial,fun j s hj=>?_⟩⟩
 ·simp only[l17,List.mem_cons,List.not_mem_nil,or_false]at hs
  rcases hs with rfl | rfl
  ·exact⟨rfl,rfl,rfl,rfl,fun x hx=>by rw[p8,List.mem_singleton]at hx;rw[hx,e8];exact hR _⟩
  exact⟨rfl,rfl,rfl,rfl,fun x hx=>by rw[p11,List.mem_singleton]at hx;rw[hx,e11];exact hR _⟩
 match j,hj with
 | 0,hj =>
  cases hj
  refine⟨cell_of_heap hn 0,cell_of_heap hn 1,cell_of_heap hn 2,cell_of_heap hn 3,some ⟨g8,0,none⟩,1,?_,?_,?_⟩
  ·rw[p8];exact cell_of_heap hn 4
  ·rw[p8];exact Nat.le_refl _
  rw[p8];exact v8 (by rw[e8];exact hR _) h8
 | 1,hj =>
  cases hj
  refine⟨cell_of_heap hn 5,cell_of_heap hn 6,cell_of_heap hn 7,cell_of_heap hn 8,some ⟨g11,0,none⟩,1,?_,?_,?_⟩
  ·rw[p11];exact cell_of_heap hn 9
  ·rw[p11];exact Nat.le_refl _
  rw[p11];exact v8 (by rw[e11];exact hR _) h11
 | n+2,hj=>simp[l17]at hj
theorem x17_any (p:Nat) (hp:p<R256) (h1:1<p) (b v:Nat) (hv:v<256) (w:World) (hb:w.heap[b]?=some (.cells #[.int .u64 (wd p 0),.int .u64 (wd p 1),.int .u64 (wd p 2),.int .u64 (wd p 3)] 33 (0,0))) :
  Calls Tryz.prog 33 #[.int .u64 v,.pointer (some ⟨b,0,none⟩)] w fun e w'=>∃ g,e=.returned (.slice (some ⟨g,0,none⟩) 1 1)/\NumsAt w' g 34 [fm p v]/\Off (fun _=>False) w w':=by
 have FF:=hid (fun W=>form_any p v hp h1 (Nat.lt_trans hv (by decide)) W)
 rw[lit_small v (by omega)]at FF
 obtain⟨z,hz⟩:∃ z,z=fm p v:=⟨_,rfl⟩
 rw[<-hz]at FF ⊢
 obtain⟨p0,p1,p2,p3⟩:=cells4 hb
 have lb:=heap_lt hb
 clear hz
 go_enter Tryz.func33,Tryz.ntmps33
 go_wp2_with fail
 refine(FF.out _).mono ?_
 rintro e u ⟨rfl,hO⟩
 have HO:=hid hO
 clear hO p0 p1 p2 p3 lb
 go_wp2
 go_ret
 exact⟨_,rfl,heap_new' rfl _,HO.out.alloc _⟩
theorem alive17_any (w:World) (hT:TabAt w):Calls Tryz.prog 10 #[] w fun e w'=>e=.returned (.bool true)/\Off (fun _=>False) w w':=by
 have HT:=hid hT
 clear hT
 obtain⟨p,hp⟩:∃ p,p=modN 1:=⟨_,rfl⟩
 have FM:=hid (fun W=>mod_modulus 1 W)
 rw[<-hp]at FM
 have hp1:1<p/\p<R256:=by rw[hp];exact modN_pos (.inl rfl)
 obtain⟨z8,h8⟩:∃ z,z=fm p 8:=⟨_,rfl⟩
 obtain⟨z11,h11⟩:∃ z,z=fm p 11:=⟨_,rfl⟩
 obtain⟨z5,h5⟩:∃ z,z=fm p 5:=⟨_,rfl⟩
 obtain⟨z14,h14⟩:∃ z,z=fm p 14:=⟨_,rfl⟩
 have HP:=hid (And.intro hp hp1)
 have HZ:=hid (And.intro h5 (And.intro h8 (And.intro h11 h14)))
 have hmf:∀ (fn:Fn) (first cap:Array Value) (W:World),(Instr.makeFunc fn first cap).run Tryz.prog W=.ok (.func fn first cap) W:=fun _ _ _ _=>rfl
 clear hp hp1 h5 h8 h11 h14
 go_enter Tryz.func10,Tryz.ntmps10
 go_wp2_with fail
 refine(FM.out _).mono ?_
 rintro e u ⟨rfl,hO⟩
 obtain⟨W1,hW1⟩:∃ W1,W1=u.alloc (.cells #[.int .u64 (wd p 0),.int .u64 (wd p 1),.int .u64 (wd p 2),.int .u64 (wd p 3)] 33):=⟨_,rfl⟩
 obtain⟨bp,hbp⟩:∃ bp,bp=u.heap.size:=⟨_,rfl⟩
 have HG:=hid (show W1.heap[bp]?=some (.cells #[.int .u64 (wd p 0),.int .u64 (wd p 1),.int .u64 (wd p 2),.int .u64 (wd p 3)] 33 (0,0)) by rw[hW1,hbp];exact heap_new' rfl _)
 have HO1:=hid (show Off (fun _=>False) w W1 by rw[hW1];exact hO.alloc _)
 have FX:=hid (fun v (hv:v<256) W (h:Off (fun _=>False) W1 W)=>x17_any p HP.out.2.2 HP.out.2.1 bp v hv W (h.heap HG.out (fun c=>c)))
 have F8:Hid (∀ W,Off (fun _=>False) W1 W->Calls Tryz.prog 33 #[.int .u64 8,.pointer (some ⟨bp,0,none⟩)] W fun e w'=>∃ g,e=.returned (.slice (some ⟨g,0,none⟩) 1 1)/\NumsAt w' g 34 [z8]/\Off (fun _=>False) W w'):=hid (fun W h=>by rw[HZ.out.2.1];exact FX.out 8 (by omega) W h)
 have F11:Hid (∀ W,Off (fun _=>False) W1 W->Calls Tryz.prog 33 #[.int .u64 11,.pointer (some ⟨bp,0,none⟩)] W fun e w'=>∃ g,e=.returned (.slice (some ⟨g,0,none⟩) 1 1)/\NumsAt w' g 34 [z11]/\Off (fun _=>False) W w'):=hid (fun W h=>by rw[HZ.out.2.2.1];exact FX.out 11 (by omega) W h)
 have HW1:=hid hW1
 have HBp:=hid hbp
 clear hW1 hbp hO FM
 go_upto_region 2 with fail
 rw[<-HW1.out,<-HBp.out]
 go_wp2_with fail
 refine(F8.out W1 (Off.refl _ _)).mono ?_
 rintro e u3 ⟨g8,rfl,h8,hO⟩
 have H8:=hid h8
 have HO3:=hid hO
 clear h8 hO
 go_wp2_with fail
 refine(F11.out u3 HO3.out).mono ?_
 rintro e u4 ⟨g11,rfl,h11,hO⟩
 obtain⟨W5,hW5⟩:∃ W5,W5=u4.alloc (.cells #[.int .i64 1,.int .i64 2,.int .i64 1,.int .i64 1,.slice (some ⟨g8,0,none⟩) 1 1,.int .i64 1,.int .i64 2,.int .i64 2,.int .i64 1,.slice (some ⟨g11,0,none⟩) 1 1] 38):=⟨_,rfl⟩
 obtain⟨nb,hnb⟩:∃ nb,nb=u4.heap.size:=⟨_,rfl⟩
 have HN5:=hid (show W5.heap[nb]?=some (.cells #[.int .i64 1,.int .i64 2,.int .i64 1,.int .i64 1,.slice (some ⟨g8,0,none⟩) 1 1,.int .i64 1,.int .i64 2,.int .i64 2,.int .i64 1,.slice (some ⟨g11,0,none⟩) 1 1] 38 (0,0)) by rw[hW5,hnb];exact heap_new' rfl _)
 have hO5:Off (fun _=>False) u4 W5:=by rw[hW5];exact(Off.refl _ _).alloc _
 have HS5:=hid (show ShsAt W5 (.slice (some ⟨nb,0,none⟩) 2 2) l17 (fun _=>True) from l17_at (by rw[HZ.out.2.1,HP.out.1]) (by rw[HZ.out.2.2.1,HP.out.1]) ((H8.out.off hO (fun c=>c)).off hO5 (fun c=>c)) (h11.off hO5 (fun c=>c)) HN5.out)
 have HO15:=hid ((HO3.out.trans hO (fun _ _ c=>c)).trans hO5 (fun _ _ c=>c))
 have HOw5:=hid (HO1.out.trans HO15.out (fun _ _ c=>c))
 have HW5:=hid hW5
 have HNb:=hid hnb
 clear h11 hO hW5 hnb hO5 H8 HO3 F8 F11
 go_upto_region 4 with fail
 rw[<-HW5.out,<-HNb.out]
 have HSx:=hid (fun W (h:Off (fun _=>False) W5 W)=>(show ShsAt W (.slice (some ⟨nb,0,none⟩) 2 2) l17 (fun k=>k<W.heap.size) from shs_old (HS5.out.off h (fun _ _ _ c=>c))))
 have FV:=hid (fun W (h:Off (fun _=>False) W5 W)=>vals_join l17 (some ⟨nb,0,none⟩) 2 2 rfl (by omega) l17_pls none [] (fun _=>False) _ W (HSx.out W h) (fun b h=>⟨h,fun c=>c⟩) (Tp.none W) (fun _=>l17_ev.1) (HT.out.off (HOw5.out.trans h (fun _ _ c=>c))))
 have FC:=hid (fun W (h:Off (fun _=>False) W5 W)=>comb_join l17 (some ⟨nb,0,none⟩) 2 2 rfl (by omega) l17_pls none [] (fun _=>False) _ W (HSx.out W h) (fun b h=>⟨h,fun c=>c⟩) (Tp.none W) (fun _=>l17_ev.1) (HT.out.off (HOw5.out.trans h (fun _ _ c=>c))) (fun c=>c))
 have FA:=hid (fun W (h:Off (fun _=>False) W5 W)=>at_join l17 (some ⟨nb,0,none⟩) 2 2 rfl (by omega) l17_pls 3 rfl none [] (fun _=>False) _ W (HSx.out W h) (fun b h=>⟨h,fun c=>c⟩) (Tp.none W) (fun _=>l17_ev.2) (HT.out.off (HOw5.out.trans h (fun _ _ c=>c))))
 rw[l17_ok]at FV
 rw[l17_comb]at FC
 rw[l17_atS,l17_atE]at FA
 go_wp2_with fail
 refine(FV.out W5 (Off.refl _ _)).mono ?_
 rintro e u5 ⟨v5,rfl,_,hv,hO⟩
 have hv:=(hv trivial).1
 rw[l17_vals,show pJ l17=p from HP.out.1.symm]at hv
 have hv5:LsAt u5 v5 [z5] (fun _=>True):=by rw[HZ.out.1];exact hv.mono (fun _ _ _=>trivial)
 obtain⟨va,vc,rfl,_,_⟩:=id hv5
 have H5:=hid hv5
 have HO5:=hid (show Off (fun _=>False) W5 u5 from hO)
 clear hv hv5 hO FV
 go_wp2_with fail
 refine(FC.out u5 HO5.out).mono ?_
 rintro e u6 ⟨sv,rfl,hs,_,_,hO⟩
 obtain⟨sa,sn,sc,rfl,rfl,_,hb5⟩:=hs
 have HB6:=hid hb5
 have HO6:=hid (show Off (fun _=>False) W5 u6 from HO5.out.trans hO (fun _ _ c=>c))
 have H6:=hid (H5.out.off hO (fun _ _ _ c=>c))
 clear hb5 hO FC
 go_wp2_with fail
 refine(FA.out u6 HO6.out).mono ?_
 rintro e u7 ⟨ga,gc,rfl,_,hvs,_,_,hO⟩
 simp only[Sh.val,List.length_cons,List.length_nil,Nat.zero_add]at hvs ⊢
 obtain⟨W9,hW9⟩:∃ W,W=u7.alloc (.cells #[.int .i64 1,.int .i64 2,.int .i64 3,.int .i64 1,.slice ga 1 gc] 38):=⟨_,rfl⟩
 obtain⟨bs,hbs⟩:∃ b,b=u7.heap.size:=⟨_,rfl⟩
 have HSh:=hid (show W9.heap[bs]?=some (.cells #[.int .i64 1,.int .i64 2,.int .i64 3,.int .i64 1,.slice ga 1 gc] 38 (0,0)) by rw[hW9,hbs];exact heap_new' rfl _)
 have hO79:Off (fun _=>False) u7 W9:=by rw[hW9];exact(Off.refl _ _).alloc _
 have hO69:Off (fun _=>False) u6 W9:=Off.trans hO hO79 (fun _ _ c=>c)
 have HV5:=hid (Ls.of (H6.out.off hO69 (fun _ _ _ c=>c)))
 have HB5:=hid (BsAt.off HB6.out hO69 (fun _ _ _ c=>c))
 have HV14:=hid (show Ls W9 (.slice ga 1 gc) [z14] by rw[HZ.out.2.2.2,HP.out.1];exact(ls_of_vs hvs (by decide)).off hO79)
 have HO19:=hid (HO15.out.trans (HO6.out.trans hO69 (fun _ _ c=>c)) (fun _ _ c=>c))
 have HOw9:=hid (HO1.out.trans HO19.out (fun _ _ c=>c))
 have F5:Hid (∀ W,Off (fun _=>False) W9 W->Calls Tryz.prog 33 #[.int .u64 5,.pointer (some ⟨bp,0,none⟩)] W fun e w'=>∃ g,e=.returned (.slice (some ⟨g,0,none⟩) 1 1)/\NumsAt w' g 34 [z5]/\Off (fun _=>False) W w'):=hid (fun W h=>by rw[HZ.out.1];exact FX.out 5 (by omega) W (HO19.out.trans h (fun _ _ c=>c)))
 have F14:Hid (∀ W,Off (fun _=>False) W9 W->Calls Tryz.prog 33 #[.int .u64 14,.pointer (some ⟨bp,0,none⟩)] W fun e w'=>∃ g,e=.returned (.slice (some ⟨g,0,none⟩) 1 1)/\NumsAt w' g 34 [z14]/\Off (fun _=>False) W w'):=hid (fun W h=>by rw[HZ.out.2.2.2];exact FX.out 14 (by omega) W (HO19.out.trans h (fun _ _ c=>c)))
 have HW9:=hid hW9
 have HBs:=hid hbs
 clear hvs hO hW9 hbs hO79 hO69 FA FX H6 HB6
 go_upto_region 7 with fail
 rw[<-HW9.out,<-HBs.out]
 obtain⟨x34,hx⟩:∃ vv:Value,vv=.int .i64 0:=⟨_,rfl⟩
 have X34:=hid hx
 clear hx
 obtain⟨x35,hx⟩:∃ vv:Value,vv=.bool true:=⟨_,rfl⟩
 have X35:=hid hx
 clear hx
 obtain⟨x36,hx⟩:∃ vv:Value,vv=.bool true:=⟨_,rfl⟩
 have X36:=hid hx
 clear hx
 obtain⟨x37,hx⟩:∃ vv:Value,vv=.slice va 1 vc:=⟨_,rfl⟩
 have X37:=hid hx
 clear hx
 obtain⟨x38,hx⟩:∃ vv:Value,vv=.func (.func 33) #[] #[.pointer (some ⟨bp,0,none⟩)]:=⟨_,rfl⟩
 have X38:=hid hx
 clear hx
 obtain⟨x40,hx⟩:∃ vv:Value,vv=.bool true:=⟨_,rfl⟩
 have X40:=hid hx
 clear hx
 obtain⟨x41,hx⟩:∃ vv:Value,vv=.bool true:=⟨_,rfl⟩
 have X41:=hid hx
 clear hx
 obtain⟨x42,hx⟩:∃ vv:Value,vv=.bool true:=⟨_,rfl⟩
 have X42:=hid hx
 clear hx
 obtain⟨x43,hx⟩:∃ vv:Value,vv=.int .i64 0:=⟨_,rfl⟩
 have X43:=hid hx
 clear hx
 obtain⟨x44,hx⟩:∃ vv:Value,vv=.bool true:=⟨_,rfl⟩
 have X44:=hid hx
 clear hx
 obtain⟨x45,hx⟩:∃ vv:Value,vv=.bool true:=⟨_,rfl⟩
 have X45:=hid hx
 clear hx
 obtain⟨x46,hx⟩:∃ vv:Value,vv=.bool true:=⟨_,rfl⟩
 have X46:=hid hx
 clear hx
 obtain⟨x47,hx⟩:∃ vv:Value,vv=.slice sa 1 sc:=⟨_,rfl⟩
 have X47:=hid hx
 clear hx
 obtain⟨x49,hx⟩:∃ vv:Value,vv=.bool true:=⟨_,rfl⟩
 have X49:=hid hx
 clear hx
 obtain⟨x50,hx⟩:∃ vv:Value,vv=.bool true:=⟨_,rfl⟩
 have X50:=hid hx
 clear hx
 obtain⟨x51,hx⟩:∃ vv:Value,vv=.bool true:=⟨_,rfl⟩
 have X51:=hid hx
 clear hx
 obtain⟨x52,hx⟩:∃ vv:Value,vv=.int .i64 0:=⟨_,rfl⟩
 have X52:=hid hx
 clear hx
 obtain⟨x53,hx⟩:∃ vv:Value,vv=.bool true:=⟨_,rfl⟩
 have X53:=hid hx
 clear hx
 obtain⟨x54,hx⟩:∃ vv:Value,vv=.bool true:=⟨_,rfl⟩
 have X54:=hid hx
 clear hx
 obtain⟨x55,hx⟩:∃ vv:Value,vv=.bool true:=⟨_,rfl⟩
 have X55:=hid hx
 clear hx
 obtain⟨x56,hx⟩:∃ vv:Value,vv=.pointer (some ⟨bs,2,none⟩):=⟨_,rfl⟩
 have X56:=hid hx
 clear hx
 obtain⟨x57,hx⟩:∃ vv:Value,vv=.int .i64 3:=⟨_,rfl⟩
 have X57:=hid hx
 clear hx
 obtain⟨x58,hx⟩:∃ vv:Value,vv=.bool true:=⟨_,rfl⟩
 have X58:=hid hx
 clear hx
 obtain⟨x59,hx⟩:∃ vv:Value,vv=.bool true:=⟨_,rfl⟩
 have X59:=hid hx
 clear hx
 obtain⟨x60,hx⟩:∃ vv:Value,vv=.bool true:=⟨_,rfl⟩
 have X60:=hid hx
 clear hx
 obtain⟨x61,hx⟩:∃ vv:Value,vv=.pointer (some ⟨bs,4,none⟩):=⟨_,rfl⟩
 have X61:=hid hx
 clear hx
 obtain⟨x62,hx⟩:∃ vv:Value,vv=.slice ga 1 gc:=⟨_,rfl⟩
 have X62:=hid hx
 clear hx
 obtain⟨x63,hx⟩:∃ vv:Value,vv=.func (.func 33) #[] #[.pointer (some ⟨bp,0,none⟩)]:=⟨_,rfl⟩
 have X63:=hid hx
 clear hx
 obtain⟨x65,hx⟩:∃ vv:Value,vv=.bool true:=⟨_,rfl⟩
 have X65:=hid hx
 clear hx
 obtain⟨x66,hx⟩:∃ vv:Value,vv=.bool true:=⟨_,rfl⟩
 have X66:=hid hx
 clear hx
 obtain⟨x0,hx⟩:∃ vv:Value,vv=.bool true:=⟨_,rfl⟩
 have X0:=hid hx
 clear hx
 refine wp_region_clo (fun a0 l a' w'=>∃ (g39:Nat) (b48:Nat) (g64:Nat),a'=(Act.put (fill a0 34 [sel (l 0) x34 (undef),sel (l 1) x35 (undef),sel (l 2) x36 (undef),sel (l 3) x37 (undef),sel (l 4) x38 (undef),sel (l 5) (.slice (some ⟨g39,0,none⟩) 1 1) (undef),sel (l 6) x40 (undef),sel (l 7) x41 (undef),sel (l 8) x42 (undef),sel (l 9) x43 (undef),sel (l 10) x44 (undef),sel (l 11) x45 (undef),sel (l 12) x46 (undef),sel (l 13) x47 (undef),sel (l 14) (.slice (some ⟨b48,0,none⟩) 1 1) (undef),sel (l 15) x49 (undef),sel (l 16) x50 (undef),sel (l 17) x51 (undef),sel (l 18) x52 (undef),sel (l 19) x53 (undef),sel (l 20) x54 (undef),sel (l 21) x55 (undef),sel (l 22) x56 (undef),sel (l 23) x57 (undef),sel (l 24) x58 (undef),sel (l 25) x59 (undef),sel (l 26) x60 (undef),sel (l 27) x61 (undef),sel (l 28) x62 (undef),sel (l 29) x63 (undef),sel (l 30) (.slice (some ⟨g64,0,none⟩) 1 1) (undef),sel (l 31) x65 (undef),sel (l 32) x66 (undef)]) (some 0) (sel (l 33) x0 (.bool false)))/\Off (fun _=>False) W9 w'/\(l 5=true->NumsAt w' g39 34 [z5])/\(l 14=true->w'.heap[b48]?=some (.cells #[.int .u8 5] 5 (0,0)))/\(l 30=true->NumsAt w' g64 34 [z14])) (by kernel_rfl) (by kernel_rfl) ?_ ⟨?_,?_,?_,?_,?_,?_,?_,?_,?_,?_,?_,?_,?_,?_,?_,?_,?_,?_,?_,?_,?_,?_,?_,?_,?_,?_,?_,?_,?_,?_,?_,?_,?_,?_,trivial⟩ ?_
 ·refine⟨0,0,0,?_,(Off.refl _ W9).drew,(fun h=>by cases h),(fun h=>by cases h),(fun h=>by cases h)⟩
  simp only[XF,XP,sel_start]
  try rfl
 all_goals try (rintro l a wr ⟨g39,b48,g64,ha,hO,h5,h14,h30⟩ hc hl hd K' hK)
 ·as_aux_lemma =>
   have hx:=X34.out;subst hx
   simp only[XF,XP]at ha
   subst ha
   have H5:=hid h5
   clear h5
   have H14:=hid h14
   clear h14
   have H30:=hid h30
   clear h30
   rw[if_pos (by rfl)]
   go_simp
   refine Shut.out hK _ _ ⟨g39,b48,g64,?_,hO,(fun h=>NumsAt.off (H5.out (show l 5=true by rwa [upd_ne l (by decide)]at h)) (Off.refl (fun _=>False) wr) (fun c=>c)),(fun h=>Off.heap (Off.refl (fun _=>False) wr) (H14.out (show l 14=true by rwa [upd_ne l (by decide)]at h)) (fun c=>c)),(fun h=>NumsAt.off (H30.out (show l 30=true by rwa [upd_ne l (by decide)]at h)) (Off.refl (fun _=>False) wr) (fun c=>c))⟩
   simp only[XF,XP,sel_new]
   try rfl
 ·as_aux_lemma =>
   have d0:=hd 0 (by decide)
   have hx:=X34.out;subst hx
   have hx:=X35.out;subst hx
   simp only[XF,XP,sel_of d0]at ha
   subst ha
   have H5:=hid h5
   clear h5
   have H14:=hid h14
   clear h14
   have H30:=hid h30
   clear h30
   rw[if_pos (by rfl)]
   go_simp
   refine Shut.out hK _ _ ⟨g39,b48,g64,?_,hO,(fun h=>NumsAt.off (H5.out (show l 5=true by rwa [upd_ne l (by decide)]at h)) (Off.refl (fun _=>False) wr) (fun c=>c)),(fun h=>Off.heap (Off.refl (fun _=>False) wr) (H14.out (show l 14=true by rwa [upd_ne l (by decide)]at h)) (fun c=>c)),(fun h=>NumsAt.off (H30.out (show l 30=true by rwa [upd_ne l (by decide)]at h)) (Off.refl (fun _=>False) wr) (fun c=>c))⟩
   simp only[XF,XP,sel_new,sel_dep d0]
   try rfl
 ·as_aux_lemma =>
   have d1:=hd 1 (by decide)
   have hx:=X35.out;subst hx
   have hx:=X36.out;subst hx
   simp only[XF,XP,sel_of d1]at ha
   subst ha
   have H5:=hid h5
   clear h5
   have H14:=hid h14
   clear h14
   have H30:=hid h30
   clear h30
   rw[if_pos (by rfl)]
   go_simp
   refine Shut.out hK _ _ ⟨g39,b48,g64,?_,hO,(fun h=>NumsAt.off (H5.out (show l 5=true by rwa [upd_ne l (by decide)]at h)) (Off.refl (fun _=>False) wr) (fun c=>c)),(fun h=>Off.heap (Off.refl (fun _=>False) wr) (H14.out (show l 14=true by rwa [upd_ne l (by decide)]at h)) (fun c=>c)),(fun h=>NumsAt.off (H30.out (show l 30=true by rwa [upd_ne l (by decide)]at h)) (Off.refl (fun _=>False) wr) (fun c=>c))⟩
   simp only[XF,XP,sel_new,sel_dep d1]
   try rfl
 ·as_aux_lemma =>
   have d2:=hd 2 (by decide)
   have hx:=X36.out;subst hx
   have hx:=X37.out;subst hx
   simp only[XF,XP,sel_of d2]at ha
   subst ha
   have H5:=hid h5
   clear h5
   have H14:=hid h14
   clear h14
   have H30:=hid h30
   clear h30
   rw[if_pos (by rfl)]
   go_simp
   refine Shut.out hK _ _ ⟨g39,b48,g64,?_,hO,(fun h=>NumsAt.off (H5.out (show l 5=true by rwa [upd_ne l (by decide)]at h)) (Off.refl (fun _=>False) wr) (fun c=>c)),(fun h=>Off.heap (Off.refl (fun _=>False) wr) (H14.out (show l 14=true by rwa [upd_ne l (by decide)]at h)) (fun c=>c)),(fun h=>NumsAt.off (H30.out (show l 30=true by rwa [upd_ne l (by decide)]at h)) (Off.refl (fun _=>False) wr) (fun c=>c))⟩
   simp only[XF,XP,sel_new,sel_dep d2]
   try rfl
 ·as_aux_lemma =>
   have d2:=hd 2 (by decide)
   have hx:=X36.out;subst hx
   have hx:=X38.out;subst hx
   simp only[XF,XP,sel_of d2]at ha
   subst ha
   have H5:=hid h5
   clear h5
   have H14:=hid h14
   clear h14
   have H30:=hid h30
   clear h30
   rw[if_pos (by rfl)]
   go_simp
   refine Shut.out hK _ _ ⟨g39,b48,g64,?_,hO,(fun h=>NumsAt.off (H5.out (show l 5=true by rwa [upd_ne l (by decide)]at h)) (Off.refl (fun _=>False) wr) (fun c=>c)),(fun h=>Off.heap (Off.refl (fun _=>False) wr) (H14.out (show l 14=true by rwa [upd_ne l (by decide)]at h)) (fun c=>c)),(fun h=>NumsAt.off (H30.out (show l 30=true by rwa [upd_ne l (by decide)]at h)) (Off.refl (fun _=>False) wr) (fun c=>c))⟩
   simp only[XF,XP,sel_new,sel_dep d2]
   try rfl
 ·as_aux_lemma =>
   have d2:=hd 2 (by decide)
   have d4:=hd 4 (by decide)
   have hx:=X36.out;subst hx
   have hx:=X38.out;subst hx
   have g6:=hc.not (i:=6) hl 34 (by kernel_rfl)
   have g7:=hc.not (i:=7) hl 34 (by kernel_rfl)
   have g8:=hc.not (i:=8) hl 34 (by kernel_rfl)
   have g9:=hc.not (i:=9) hl 34 (by kernel_rfl)
   have g10:=hc.not (i:=10) hl 34 (by kernel_rfl)
   have g11:=hc.not (i:=11) hl 34 (by kernel_rfl)
   have g12:=hc.not (i:=12) hl 34 (by kernel_rfl)
   have g13:=hc.not (i:=13) hl 34 (by kernel_rfl)
   have g14:=hc.not (i:=14) hl 34 (by kernel_rfl)
   have g15:=hc.not (i:=15) hl 34 (by kernel_rfl)
   have g16:=hc.not (i:=16) hl 34 (by kernel_rfl)
   have g17:=hc.not (i:=17) hl 34 (by kernel_rfl)
   have g18:=hc.not (i:=18) hl 34 (by kernel_rfl)
   have g19:=hc.not (i:=19) hl 34 (by kernel_rfl)
   have g20:=hc.not (i:=20) hl 34 (by kernel_rfl)
   have g21:=hc.not (i:=21) hl 34 (by kernel_rfl)
   have g22:=hc.not (i:=22) hl 34 (by kernel_rfl)
   have g23:=hc.not (i:=23) hl 34 (by kernel_rfl)
   have g24:=hc.not (i:=24) hl 34 (by kernel_rfl)
   have g25:=hc.not (i:=25) hl 34 (by kernel_rfl)
   have g26:=hc.not (i:=26) hl 34 (by kernel_rfl)
   have g27:=hc.not (i:=27) hl 34 (by kernel_rfl)
   have g28:=hc.not (i:=28) hl 34 (by kernel_rfl)
   have g29:=hc.not (i:=29) hl 34 (by kernel_rfl)
   have g30:=hc.not (i:=30) hl 34 (by kernel_rfl)
   have g31:=hc.not (i:=31) hl 34 (by kernel_rfl)
   have g32:=hc.not (i:=32) hl 34 (by kernel_rfl)
   have g33:=hc.not (i:=33) hl 34 (by kernel_rfl)
   simp only[XF,XP,sel_of d2,sel_of d4,sel_no g6,sel_no g7,sel_no g8,sel_no g9,sel_no g10,sel_no g11,sel_no g12,sel_no g13,sel_no g14,sel_no g15,sel_no g16,sel_no g17,sel_no g18,sel_no g19,sel_no g20,sel_no g21,sel_no g22,sel_no g23,sel_no g24,sel_no g25,sel_no g26,sel_no g27,sel_no g28,sel_no g29,sel_no g30,sel_no g31,sel_no g32,sel_no g33,sel_no hl]at ha
   subst ha
   have G6:=hid g6
   clear g6
   have G7:=hid g7
   clear g7
   have G8:=hid g8
   clear g8
   have G9:=hid g9
   clear g9
   have G10:=hid g10
   clear g10
   have G11:=hid g11
   clear g11
   have G12:=hid g12
   clear g12
   have G13:=hid g13
   clear g13
   have G14:=hid g14
   clear g14
   have G15:=hid g15
   clear g15
   have G16:=hid g16
   clear g16
   have G17:=hid g17
   clear g17
   have G18:=hid g18
   clear g18
   have G19:=hid g19
   clear g19
   have G20:=hid g20
   clear g20
   have G21:=hid g21
   clear g21
   have G22:=hid g22
   clear g22
   have G23:=hid g23
   clear g23
   have G24:=hid g24
   clear g24
   have G25:=hid g25
   clear g25
   have G26:=hid g26
   clear g26
   have G27:=hid g27
   clear g27
   have G28:=hid g28
   clear g28
   have G29:=hid g29
   clear g29
   have G30:=hid g30
   clear g30
   have G31:=hid g31
   clear g31
   have G32:=hid g32
   clear g32
   have G33:=hid g33
   clear g33
   have H5:=hid h5
   clear h5
   have H14:=hid h14
   clear h14
   have H30:=hid h30
   clear h30
   rw[if_pos (by rfl)]
   go_simp
   refine(F5.out wr hO).mono ?_
   rintro e w1 ⟨g39',rfl,hP1,hO1⟩
   go_wp2_with fail
   refine Shut.out hK _ _ ⟨g39',b48,g64,?_,(hO.trans hO1 (fun _ _ c=>c)),(fun _=>hP1),(fun h=>absurd (show(true:Bool)=false from(show l 14=true by rwa [upd_ne l (by decide)]at h).symm.trans G14.out) (by decide)),(fun h=>absurd (show(true:Bool)=false from(show l 30=true by rwa [upd_ne l (by decide)]at h).symm.trans G30.out) (by decide))⟩
   simp only[XF,XP,sel_new,sel_dep d2,sel_dep d4,sel_no (show upd l 5 6=false by rw[upd_ne l (by decide)];exact G6.out),sel_no (show upd l 5 7=false by rw[upd_ne l (by decide)];exact G7.out),sel_no (show upd l 5 8=false by rw[upd_ne l (by decide)];exact G8.out),sel_no (show upd l 5 9=false by rw[upd_ne l (by decide)];exact G9.out),sel_no (show upd l 5 10=false by rw[upd_ne l (by decide)];exact G10.out),sel_no (show upd l 5 11=false by rw[upd_ne l (by decide)];exact G11.out),sel_no (show upd l 5 12=false by rw[upd_ne l (by decide)];exact G12.out),sel_no (show upd l 5 13=false by rw[upd_ne l (by decide)];exact G13.out),sel_no (show upd l 5 14=false by rw[upd_ne l (by decide)];exact G14.out),sel_no (show upd l 5 15=false by rw[upd_ne l (by decide)];exact G15.out),sel_no (show upd l 5 16=false by rw[upd_ne l (by decide)];exact G16.out),sel_no (show upd l 5 17=false by rw[upd_ne l (by decide)];exact G17.out),sel_no (show upd l 5 18=false by rw[upd_ne l (by decide)];exact G18.out),sel_no (show upd l 5 19=false by rw[upd_ne l (by decide)];exact G19.out),sel_no (show upd l 5 20=false by rw[upd_ne l (by decide)];exact G20.out),sel_no (show upd l 5 21=false by rw[upd_ne l (by decide)];exact G21.out),sel_no (show upd l 5 22=false by rw[upd_ne l (by decide)];exact G22.out),sel_no (show upd l 5 23=false by rw[upd_ne l (by decide)];exact G23.out),sel_no (show upd l 5 24=false by rw[upd_ne l (by decide)];exact G24.out),sel_no (show upd l 5 25=false by rw[upd_ne l (by decide)];exact G25.out),sel_no (show upd l 5 26=false by rw[upd_ne l (by decide)];exact G26.out),sel_no (show upd l 5 27=false by rw[upd_ne l (by decide)];exact G27.out),sel_no (show upd l 5 28=false by rw[upd_ne l (by decide)];exact G28.out),sel_no (show upd l 5 29=false by rw[upd_ne l (by decide)];exact G29.out),sel_no (show upd l 5 30=false by rw[upd_ne l (by decide)];exact G30.out),sel_no (show upd l 5 31=false by rw[upd_ne l (by decide)];exact G31.out),sel_no (show upd l 5 32=false by rw[upd_ne l (by decide)];exact G32.out),sel_no (show upd l 5 33=false by rw[upd_ne l (by decide)];exact G33.out)]
   try rfl
 ·as_aux_lemma =>
   have d2:=hd 2 (by decide)
   have d3:=hd 3 (by decide)
   have d5:=hd 5 (by decide)
   have hx:=X36.out;subst hx
   have hx:=X37.out;subst hx
   have hx:=X40.out;subst hx
   simp only[XF,XP,sel_of d2,sel_of d3,sel_of d5]at ha
   subst ha
   have q5:=h5 d5
   have Q5:=hid q5
   clear q5
   have H5:=hid h5
   clear h5
   have H14:=hid h14
   clear h14
   have H30:=hid h30
   clear h30
   rw[if_pos (by rfl)]
   go_simp
   refine(eleq_any [z5] _ _ wr (HV5.out.off hO) (Ls.of_all (cap:=1) Q5.out (by simp))).mono ?_
   rintro e w1 ⟨rfl,hO1⟩
   go_wp2_with fail
   refine Shut.out hK _ _ ⟨g39,b48,g64,?_,(hO.trans hO1 (fun _ _ c=>c)),(fun h=>NumsAt.off (H5.out (show l 5=true by rwa [upd_ne l (by decide)]at h)) hO1 (fun c=>c)),(fun h=>Off.heap hO1 (H14.out (show l 14=true by rwa [upd_ne l (by decide)]at h)) (fun c=>c)),(fun h=>NumsAt.off (H30.out (show l 30=true by rwa [upd_ne l (by decide)]at h)) hO1 (fun c=>c))⟩
   simp only[XF,XP,sel_new,sel_dep d2,sel_dep d3,sel_dep d5]
   try rfl
 ·as_aux_lemma =>
   have d2:=hd 2 (by decide)
   have d6:=hd 6 (by decide)
   have hx:=X36.out;subst hx
   have hx:=X40.out;subst hx
   have hx:=X41.out;subst hx
   simp only[XF,XP,sel_of d2,sel_of d6]at ha
   subst ha
   have q5:=h5 (hc.up 34 6 5 d6 (by kernel_rfl))
   have Q5:=hid q5
   clear q5
   have H5:=hid h5
   clear h5
   have H14:=hid h14
   clear h14
   have H30:=hid h30
   clear h30
   rw[if_pos (by rfl)]
   go_simp
   refine Shut.out hK _ _ ⟨g39,b48,g64,?_,hO,(fun h=>NumsAt.off (H5.out (show l 5=true by rwa [upd_ne l (by decide)]at h)) (Off.refl (fun _=>False) wr) (fun c=>c)),(fun h=>Off.heap (Off.refl (fun _=>False) wr) (H14.out (show l 14=true by rwa [upd_ne l (by decide)]at h)) (fun c=>c)),(fun h=>NumsAt.off (H30.out (show l 30=true by rwa [upd_ne l (by decide)]at h)) (Off.refl (fun _=>False) wr) (fun c=>c))⟩
   simp only[XF,XP,sel_new,sel_dep d2,sel_dep d6]
   try rfl
 ·as_aux_lemma =>
   have d7:=hd 7 (by decide)
   have hx:=X41.out;subst hx
   have hx:=X42.out;subst hx
   simp only[XF,XP,sel_of d7]at ha
   subst ha
   have q5:=h5 (hc.up 34 7 5 d7 (by kernel_rfl))
   have Q5:=hid q5
   clear q5
   have H5:=hid h5
   clear h5
   have H14:=hid h14
   clear h14
   have H30:=hid h30
   clear h30
   rw[if_pos (by rfl)]
   go_simp
   refine Shut.out hK _ _ ⟨g39,b48,g64,?_,hO,(fun h=>NumsAt.off (H5.out (show l 5=true by rwa [upd_ne l (by decide)]at h)) (Off.refl (fun _=>False) wr) (fun c=>c)),(fun h=>Off.heap (Off.refl (fun _=>False) wr) (H14.out (show l 14=true by rwa [upd_ne l (by decide)]at h)) (fun c=>c)),(fun h=>NumsAt.off (H30.out (show l 30=true by rwa [upd_ne l (by decide)]at h)) (Off.refl (fun _=>False) wr) (fun c=>c))⟩
   simp only[XF,XP,sel_new,sel_dep d7]
   try rfl
 ·as_aux_lemma =>
   have d8:=hd 8 (by decide)
   have hx:=X42.out;subst hx
   have hx:=X43.out;subst hx
   simp only[XF,XP,sel_of d8]at ha
   subst ha
   have q5:=h5 (hc.up 34 8 5 d8 (by kernel_rfl))
   have Q5:=hid q5
   clear q5
   have H5:=hid h5
   clear h5
   have H14:=hid h14
   clear h14
   have H30:=hid h30
   clear h30
   rw[if_pos (by rfl)]
   go_simp
   refine Shut.out hK _ _ ⟨g39,b48,g64,?_,hO,(fun h=>NumsAt.off (H5.out (show l 5=true by rwa [upd_ne l (by decide)]at h)) (Off.refl (fun _=>False) wr) (fun c=>c)),(fun h=>Off.heap (Off.refl (fun _=>False) wr) (H14.out (show l 14=true by rwa [upd_ne l (by decide)]at h)) (fun c=>c)),(fun h=>NumsAt.off (H30.out (show l 30=true by rwa [upd_ne l (by decide)]at h)) (Off.refl (fun _=>False) wr) (fun c=>c))⟩
   simp only[XF,XP,sel_new,sel_dep d8]
   try rfl
 ·as_aux_lemma =>
   have d8:=hd 8 (by decide)
   have d9:=hd 9 (by decide)
   have hx:=X42.out;subst hx
   have hx:=X43.out;subst hx
   have hx:=X44.out;subst hx
   simp only[XF,XP,sel_of d8,sel_of d9]at ha
   subst ha
   have q5:=h5 (hc.up 34 8 5 d8 (by kernel_rfl))
   have Q5:=hid q5
   clear q5
   have H5:=hid h5
   clear h5
   have H14:=hid h14
   clear h14
   have H30:=hid h30
   clear h30
   rw[if_pos (by rfl)]
   go_simp
   refine Shut.out hK _ _ ⟨g39,b48,g64,?_,hO,(fun h=>NumsAt.off (H5.out (show l 5=true by rwa [upd_ne l (by decide)]at h)) (Off.refl (fun _=>False) wr) (fun c=>c)),(fun h=>Off.heap (Off.refl (fun _=>False) wr) (H14.out (show l 14=true by rwa [upd_ne l (by decide)]at h)) (fun c=>c)),(fun h=>NumsAt.off (H30.out (show l 30=true by rwa [upd_ne l (by decide)]at h)) (Off.refl (fun _=>False) wr) (fun c=>c))⟩
   simp only[XF,XP,sel_new,sel_dep d8,sel_dep d9]
   try rfl
 ·as_aux_lemma =>
   have d8:=hd 8 (by decide)
   have d10:=hd 10 (by decide)
   have hx:=X42.out;subst hx
   have hx:=X44.out;subst hx
   have hx:=X45.out;subst hx
   simp only[XF,XP,sel_of d8,sel_of d10]at ha
   subst ha
   have q5:=h5 (hc.up 34 8 5 d8 (by kernel_rfl))
   have Q5:=hid q5
   clear q5
   have H5:=hid h5
   clear h5
   have H14:=hid h14
   clear h14
   have H30:=hid h30
   clear h30
   rw[if_pos (by rfl)]
   go_simp
   refine Shut.out hK _ _ ⟨g39,b48,g64,?_,hO,(fun h=>NumsAt.off (H5.out (show l 5=true by rwa [upd_ne l (by decide)]at h)) (Off.refl (fun _=>False) wr) (fun c=>c)),(fun h=>Off.heap (Off.refl (fun _=>False) wr) (H14.out (show l 14=true by rwa [upd_ne l (by decide)]at h)) (fun c=>c)),(fun h=>NumsAt.off (H30.out (show l 30=true by rwa [upd_ne l (by decide)]at h)) (Off.refl (fun _=>False) wr) (fun c=>c))⟩
   simp only[XF,XP,sel_new,sel_dep d8,sel_dep d10]
   try rfl
 ·as_aux_lemma =>
   have d11:=hd 11 (by decide)
   have hx:=X45.out;subst hx
   have hx:=X46.out;subst hx
   simp only[XF,XP,sel_of d11]at ha
   subst ha
   have q5:=h5 (hc.up 34 11 5 d11 (by kernel_rfl))
   have Q5:=hid q5
   clear q5
   have H5:=hid h5
   clear h5
   have H14:=hid h14
   clear h14
   have H30:=hid h30
   clear h30
   rw[if_pos (by rfl)]
   go_simp
   refine Shut.out hK _ _ ⟨g39,b48,g64,?_,hO,(fun h=>NumsAt.off (H5.out (show l 5=true by rwa [upd_ne l (by decide)]at h)) (Off.refl (fun _=>False) wr) (fun c=>c)),(fun h=>Off.heap (Off.refl (fun _=>False) wr) (H14.out (show l 14=true by rwa [upd_ne l (by decide)]at h)) (fun c=>c)),(fun h=>NumsAt.off (H30.out (show l 30=true by rwa [upd_ne l (by decide)]at h)) (Off.refl (fun _=>False) wr) (fun c=>c))⟩
   simp only[XF,XP,sel_new,sel_dep d11]
   try rfl
 ·as_aux_lemma =>
   have d12:=hd 12 (by decide)
   have hx:=X46.out;subst hx
   have hx:=X47.out;subst hx
   simp only[XF,XP,sel_of d12]at ha
   subst ha
   have q5:=h5 (hc.up 34 12 5 d12 (by kernel_rfl))
   have Q5:=hid q5
   clear q5
   have H5:=hid h5
   clear h5
   have H14:=hid h14
   clear h14
   have H30:=hid h30
   clear h30
   rw[if_pos (by rfl)]
   go_simp
   refine Shut.out hK _ _ ⟨g39,b48,g64,?_,hO,(fun h=>NumsAt.off (H5.out (show l 5=true by rwa [upd_ne l (by decide)]at h)) (Off.refl (fun _=>False) wr) (fun c=>c)),(fun h=>Off.heap (Off.refl (fun _=>False) wr) (H14.out (show l 14=true by rwa [upd_ne l (by decide)]at h)) (fun c=>c)),(fun h=>NumsAt.off (H30.out (show l 30=true by rwa [upd_ne l (by decide)]at h)) (Off.refl (fun _=>False) wr) (fun c=>c))⟩
   simp only[XF,XP,sel_new,sel_dep d12]
   try rfl
 ·have d12:=hd 12 (by decide)
  have hx:=X46.out;subst hx
  have g15:=hc.not (i:=15) hl 34 (by kernel_rfl)
  have g16:=hc.not (i:=16) hl 34 (by kernel_rfl)
  have g17:=hc.not (i:=17) hl 34 (by kernel_rfl)
  have g18:=hc.not (i:=18) hl 34 (by kernel_rfl)
  have g19:=hc.not (i:=19) hl 34 (by kernel_rfl)
  have g20:=hc.not (i:=20) hl 34 (by kernel_rfl)
  have g21:=hc.not (i:=21) hl 34 (by kernel_rfl)
  have g22:=hc.not (i:=22) hl 34 (by kernel_rfl)
  have g23:=hc.not (i:=23) hl 34 (by kernel_rfl)
  have g24:=hc.not (i:=24) hl 34 (by kernel_rfl)
  have g25:=hc.not (i:=25) hl 34 (by kernel_rfl)
  have g26:=hc.not (i:=26) hl 34 (by kernel_rfl)
  have g27:=hc.not (i:=27) hl 34 (by kernel_rfl)
  have g28:=hc.not (i:=28) hl 34 (by kernel_rfl)
  have g29:=hc.not (i:=29) hl 34 (by kernel_rfl)
  have g30:=hc.not (i:=30) hl 34 (by kernel_rfl)
  have g31:=hc.not (i:=31) hl 34 (by kernel_rfl)
  have g32:=hc.not (i:=32) hl 34 (by kernel_rfl)
  have g33:=hc.not (i:=33) hl 34 (by kernel_rfl)
  simp only[XF,XP,sel_of d12,sel_no g15,sel_no g16,sel_no g17,sel_no g18,sel_no g19,sel_no g20,sel_no g21,sel_no g22,sel_no g23,sel_no g24,sel_no g25,sel_no g26,sel_no g27,sel_no g28,sel_no g29,sel_no g30,sel_no g31,sel_no g32,sel_no g33,sel_no hl]at ha
  subst ha
  have G15:=hid g15
  clear g15
  have G16:=hid g16
  clear g16
  have G17:=hid g17
  clear g17
  have G18:=hid g18
  clear g18
  have G19:=hid g19
  clear g19
  have G20:=hid g20
  clear g20
  have G21:=hid g21
  clear g21
  have G22:=hid g22
  clear g22
  have G23:=hid g23
  clear g23
  have G24:=hid g24
  clear g24
  have G25:=hid g25
  clear g25
  have G26:=hid g26
  clear g26
  have G27:=hid g27
  clear g27
  have G28:=hid g28
  clear g28
  have G29:=hid g29
  clear g29
  have G30:=hid g30
  clear g30
  have G31:=hid g31
  clear g31
  have G32:=hid g32
  clear g32
  have G33:=hid g33
  clear g33
  have q5:=h5 (hc.up 34 12 5 d12 (by kernel_rfl))
  have Q5:=hid q5
  clear q5
  have H5:=hid h5
  clear h5
  have H14:=hid h14
  clear h14
  have H30:=hid h30
  clear h30
  rw[if_pos (by rfl)]
  go_simp
  refine Shut.out hK _ _ ⟨g39,wr.heap.size,g64,?_,(hO.alloc _),(fun h=>NumsAt.off (H5.out (show l 5=true by rwa [upd_ne l (by decide)]at h)) ((Off.refl (fun _=>False) wr).alloc _) (fun c=>c)),(fun _=>heap_new' rfl _),(fun h=>absurd (show(true:Bool)=false from(show l 30=true by rwa [upd_ne l (by decide)]at h).symm.trans G30.out) (by decide))⟩
  simp only[XF,XP,sel_new,sel_dep d12,sel_no (show upd l 14 15=false by rw[upd_ne l (by decide)];exact G15.out),sel_no (show upd l 14 16=false by rw[upd_ne l (by decide)];exact G16.out),sel_no (show upd l 14 17=false by rw[upd_ne l (by decide)];exact G17.out),sel_no (show upd l 14 18=false by rw[upd_ne l (by decide)];exact G18.out),sel_no (show upd l 14 19=false by rw[upd_ne l (by decide)];exact G19.out),sel_no (show upd l 14 20=false by rw[upd_ne l (by decide)];exact G20.out),sel_no (show upd l 14 21=false by rw[upd_ne l (by decide)];exact G21.out),sel_no (show upd l 14 22=false by rw[upd_ne l (by decide)];exact G22.out),sel_no (show upd l 14 23=false by rw[upd_ne l (by decide)];exact G23.out),sel_no (show upd l 14 24=false by rw[upd_ne l (by decide)];exact G24.out),sel_no (show upd l 14 25=false by rw[upd_ne l (by decide)];exact G25.out),sel_no (show upd l 14 26=false by rw[upd_ne l (by decide)];exact G26.out),sel_no (show upd l 14 27=false by rw[upd_ne l (by decide)];exact G27.out),sel_no (show upd l 14 28=false by rw[upd_ne l (by decide)];exact G28.out),sel_no (show upd l 14 29=false by rw[upd_ne l (by decide)];exact G29.out),sel_no (show upd l 14 30=false by rw[upd_ne l (by decide)];exact G30.out),sel_no (show upd l 14 31=false by rw[upd_ne l (by decide)];exact G31.out),sel_no (show upd l 14 32=false by rw[upd_ne l (by decide)];exact G32.out),sel_no (show upd l 14 33=false by rw[upd_ne l (by decide)];exact G33.out)]
  try rfl
 all_goals try (rintro l a wr ⟨g39,b48,g64,ha,hO,h5,h14,h30⟩ hc hl hd K' hK)
 ·as_aux_lemma =>
   have d12:=hd 12 (by decide)
   have d13:=hd 13 (by decide)
   have d14:=hd 14 (by decide)
   have hx:=X46.out;subst hx
   have hx:=X47.out;subst hx
   have hx:=X49.out;subst hx
   simp only[XF,XP,sel_of d12,sel_of d13,sel_of d14]at ha
   subst ha
   have q5:=h5 (hc.up 34 12 5 d12 (by kernel_rfl))
   have Q5:=hid q5
   clear q5
   have q14:=h14 d14
   have Q14:=hid q14
   clear q14
   have H5:=hid h5
   clear h5
   have H14:=hid h14
   clear h14
   have H30:=hid h30
   clear h30
   rw[if_pos (by rfl)]
   go_simp
   refine(bequal_any (BsAt.off HB5.out hO (fun _ _ _ c=>c)) rfl (by5j Q14.out) rfl).mono ?_
   rintro e w1 ⟨rfl,hO1⟩
   go_wp2_with fail
   refine Shut.out hK _ _ ⟨g39,b48,g64,?_,(hO.trans hO1 (fun _ _ c=>c)),(fun h=>NumsAt.off (H5.out (show l 5=true by rwa [upd_ne l (by decide)]at h)) hO1 (fun c=>c)),(fun h=>Off.heap hO1 (H14.out (show l 14=true by rwa [upd_ne l (by decide)]at h)) (fun c=>c)),(fun h=>NumsAt.off (H30.out (show l 30=true by rwa [upd_ne l (by decide)]at h)) hO1 (fun c=>c))⟩
   simp only[XF,XP,sel_new,sel_dep d12,sel_dep d13,sel_dep d14]
   try rfl
 ·as_aux_lemma =>
   have d12:=hd 12 (by decide)
   have d15:=hd 15 (by decide)
   have hx:=X46.out;subst hx
   have hx:=X49.out;subst hx
   have hx:=X50.out;subst hx
   simp only[XF,XP,sel_of d12,sel_of d15]at ha
   subst ha
   have q5:=h5 (hc.up 34 12 5 d12 (by kernel_rfl))
   have Q5:=hid q5
   clear q5
   have q14:=h14 (hc.up 34 15 14 d15 (by kernel_rfl))
   have Q14:=hid q14
   clear q14
   have H5:=hid h5
   clear h5
   have H14:=hid h14
   clear h14
   have H30:=hid h30
   clear h30
   rw[if_pos (by rfl)]
   go_simp
   refine Shut.out hK _ _ ⟨g39,b48,g64,?_,hO,(fun h=>NumsAt.off (H5.out (show l 5=true by rwa [upd_ne l (by decide)]at h)) (Off.refl (fun _=>False) wr) (fun c=>c)),(fun h=>Off.heap (Off.refl (fun _=>False) wr) (H14.out (show l 14=true by rwa [upd_ne l (by decide)]at h)) (fun c=>c)),(fun h=>NumsAt.off (H30.out (show l 30=true by rwa [upd_ne l (by decide)]at h)) (Off.refl (fun _=>False) wr) (fun c=>c))⟩
   simp only[XF,XP,sel_new,sel_dep d12,sel_dep d15]
   try rfl
 ·as_aux_lemma =>
   have d16:=hd 16 (by decide)
   have hx:=X50.out;subst hx
   have hx:=X51.out;subst hx
   simp only[XF,XP,sel_of d16]at ha
   subst ha
   have q5:=h5 (hc.up 34 16 5 d16 (by kernel_rfl))
   have Q5:=hid q5
   clear q5
   have q14:=h14 (hc.up 34 16 14 d16 (by kernel_rfl))
   have Q14:=hid q14
   clear q14
   have H5:=hid h5
   clear h5
   have H14:=hid h14
   clear h14
   have H30:=hid h30
   clear h30
   rw[if_pos (by rfl)]
   go_simp
   refine Shut.out hK _ _ ⟨g39,b48,g64,?_,hO,(fun h=>NumsAt.off (H5.out (show l 5=true by rwa [upd_ne l (by decide)]at h)) (Off.refl (fun _=>False) wr) (fun c=>c)),(fun h=>Off.heap (Off.refl (fun _=>False) wr) (H14.out (show l 14=true by rwa [upd_ne l (by decide)]at h)) (fun c=>c)),(fun h=>NumsAt.off (H30.out (show l 30=true by rwa [upd_ne l (by decide)]at h)) (Off.refl (fun _=>False) wr) (fun c=>c))⟩
   simp only[XF,XP,sel_new,sel_dep d16]
   try rfl
 ·as_aux_lemma =>
   have d17:=hd 17 (by decide)
   have hx:=X51.out;subst hx
   have hx:=X52.out;subst hx
   simp only[XF,XP,sel_of d17]at ha
   subst ha
   have q5:=h5 (hc.up 34 17 5 d17 (by kernel_rfl))
   have Q5:=hid q5
   clear q5
   have q14:=h14 (hc.up 34 17 14 d17 (by kernel_rfl))
   have Q14:=hid q14
   clear q14
   have H5:=hid h5
   clear h5
   have H14:=hid h14
   clear h14
   have H30:=hid h30
   clear h30
   rw[if_pos (by rfl)]
   go_simp
   refine Shut.out hK _ _ ⟨g39,b48,g64,?_,hO,(fun h=>NumsAt.off (H5.out (show l 5=true by rwa [upd_ne l (by decide)]at h)) (Off.refl (fun _=>False) wr) (fun c=>c)),(fun h=>Off.heap (Off.refl (fun _=>False) wr) (H14.out (show l 14=true by rwa [upd_ne l (by decide)]at h)) (fun c=>c)),(fun h=>NumsAt.off (H30.out (show l 30=true by rwa [upd_ne l (by decide)]at h)) (Off.refl (fun _=>False) wr) (fun c=>c))⟩
   simp only[XF,XP,sel_new,sel_dep d17]
   try rfl
 ·as_aux_lemma =>
   have d17:=hd 17 (by decide)
   have d18:=hd 18 (by decide)
   have hx:=X51.out;subst hx
   have hx:=X52.out;subst hx
   have hx:=X53.out;subst hx
   simp only[XF,XP,sel_of d17,sel_of d18]at ha
   subst ha
   have q5:=h5 (hc.up 34 17 5 d17 (by kernel_rfl))
   have Q5:=hid q5
   clear q5
   have q14:=h14 (hc.up 34 17 14 d17 (by kernel_rfl))
   have Q14:=hid q14
   clear q14
   have H5:=hid h5
   clear h5
   have H14:=hid h14
   clear h14
   have H30:=hid h30
   clear h30
   rw[if_pos (by rfl)]
   go_simp
   refine Shut.out hK _ _ ⟨g39,b48,g64,?_,hO,(fun h=>NumsAt.off (H5.out (show l 5=true by rwa [upd_ne l (by decide)]at h)) (Off.refl (fun _=>False) wr) (fun c=>c)),(fun h=>Off.heap (Off.refl (fun _=>False) wr) (H14.out (show l 14=true by rwa [upd_ne l (by decide)]at h)) (fun c=>c)),(fun h=>NumsAt.off (H30.out (show l 30=true by rwa [upd_ne l (by decide)]at h)) (Off.refl (fun _=>False) wr) (fun c=>c))⟩
   simp only[XF,XP,sel_new,sel_dep d17,sel_dep d18]
   try rfl
 ·as_aux_lemma =>
   have d17:=hd 17 (by decide)
   have d19:=hd 19 (by decide)
   have hx:=X51.out;subst hx
   have hx:=X53.out;subst hx
   have hx:=X54.out;subst hx
   simp only[XF,XP,sel_of d17,sel_of d19]at ha
   subst ha
   have q5:=h5 (hc.up 34 17 5 d17 (by kernel_rfl))
   have Q5:=hid q5
   clear q5
   have q14:=h14 (hc.up 34 17 14 d17 (by kernel_rfl))
   have Q14:=hid q14
   clear q14
   have H5:=hid h5
   clear h5
   have H14:=hid h14
   clear h14
   have H30:=hid h30
   clear h30
   rw[if_pos (by rfl)]
   go_simp
   refine Shut.out hK _ _ ⟨g39,b48,g64,?_,hO,(fun h=>NumsAt.off (H5.out (show l 5=true by rwa [upd_ne l (by decide)]at h)) (Off.refl (fun _=>False) wr) (fun c=>c)),(fun h=>Off.heap (Off.refl (fun _=>False) wr) (H14.out (show l 14=true by rwa [upd_ne l (by decide)]at h)) (fun c=>c)),(fun h=>NumsAt.off (H30.out (show l 30=true by rwa [upd_ne l (by decide)]at h)) (Off.refl (fun _=>False) wr) (fun c=>c))⟩
   simp only[XF,XP,sel_new,sel_dep d17,sel_dep d19]
   try rfl
 ·as_aux_lemma =>
   have d20:=hd 20 (by decide)
   have hx:=X54.out;subst hx
   have hx:=X55.out;subst hx
   simp only[XF,XP,sel_of d20]at ha
   subst ha
   have q5:=h5 (hc.up 34 20 5 d20 (by kernel_rfl))
   have Q5:=hid q5
   clear q5
   have q14:=h14 (hc.up 34 20 14 d20 (by kernel_rfl))
   have Q14:=hid q14
   clear q14
   have H5:=hid h5
   clear h5
   have H14:=hid h14
   clear h14
   have H30:=hid h30
   clear h30
   rw[if_pos (by rfl)]
   go_simp
   refine Shut.out hK _ _ ⟨g39,b48,g64,?_,hO,(fun h=>NumsAt.off (H5.out (show l 5=true by rwa [upd_ne l (by decide)]at h)) (Off.refl (fun _=>False) wr) (fun c=>c)),(fun h=>Off.heap (Off.refl (fun _=>False) wr) (H14.out (show l 14=true by rwa [upd_ne l (by decide)]at h)) (fun c=>c)),(fun h=>NumsAt.off (H30.out (show l 30=true by rwa [upd_ne l (by decide)]at h)) (Off.refl (fun _=>False) wr) (fun c=>c))⟩
   simp only[XF,XP,sel_new,sel_dep d20]
   try rfl
 ·as_aux_lemma =>
   have d21:=hd 21 (by decide)
   have hx:=X55.out;subst hx
   have hx:=X56.out;subst hx
   simp only[XF,XP,sel_of d21]at ha
   subst ha
   have q5:=h5 (hc.up 34 21 5 d21 (by kernel_rfl))
   have Q5:=hid q5
   clear q5
   have q14:=h14 (hc.up 34 21 14 d21 (by kernel_rfl))
   have Q14:=hid q14
   clear q14
   have H5:=hid h5
   clear h5
   have H14:=hid h14
   clear h14
   have H30:=hid h30
   clear h30
   have ls:=heap_lt (hO.heap HSh.out (fun c=>c))
   rw[if_pos (by rfl)]
   go_simp
   refine Shut.out hK _ _ ⟨g39,b48,g64,?_,hO,(fun h=>NumsAt.off (H5.out (show l 5=true by rwa [upd_ne l (by decide)]at h)) (Off.refl (fun _=>False) wr) (fun c=>c)),(fun h=>Off.heap (Off.refl (fun _=>False) wr) (H14.out (show l 14=true by rwa [upd_ne l (by decide)]at h)) (fun c=>c)),(fun h=>NumsAt.off (H30.out (show l 30=true by rwa [upd_ne l (by decide)]at h)) (Off.refl (fun _=>False) wr) (fun c=>c))⟩
   simp only[XF,XP,sel_new,sel_dep d21]
   try rfl
 ·as_aux_lemma =>
   have d21:=hd 21 (by decide)
   have d22:=hd 22 (by decide)
   have hx:=X55.out;subst hx
   have hx:=X56.out;subst hx
   have hx:=X57.out;subst hx
   simp only[XF,XP,sel_of d21,sel_of d22]at ha
   subst ha
   have q5:=h5 (hc.up 34 21 5 d21 (by kernel_rfl))
   have Q5:=hid q5
   clear q5
   have q14:=h14 (hc.up 34 21 14 d21 (by kernel_rfl))
   have Q14:=hid q14
   clear q14
   have H5:=hid h5
   clear h5
   have H14:=hid h14
   clear h14
   have H30:=hid h30
   clear h30
   have p2:=cell_of_heap (hO.heap HSh.out (fun c=>c)) 2
   have ls:=heap_lt (hO.heap HSh.out (fun c=>c))
   rw[if_pos (by rfl)]
   go_simp
   refine Shut.out hK _ _ ⟨g39,b48,g64,?_,hO,(fun h=>NumsAt.off (H5.out (show l 5=true by rwa [upd_ne l (by decide)]at h)) (Off.refl (fun _=>False) wr) (fun c=>c)),(fun h=>Off.heap (Off.refl (fun _=>False) wr) (H14.out (show l 14=true by rwa [upd_ne l (by decide)]at h)) (fun c=>c)),(fun h=>NumsAt.off (H30.out (show l 30=true by rwa [upd_ne l (by decide)]at h)) (Off.refl (fun _=>False) wr) (fun c=>c))⟩
   simp only[XF,XP,sel_new,sel_dep d21,sel_dep d22]
   try rfl
 ·as_aux_lemma =>
   have d21:=hd 21 (by decide)
   have d23:=hd 23 (by decide)
   have hx:=X55.out;subst hx
   have hx:=X57.out;subst hx
   have hx:=X58.out;subst hx
   simp only[XF,XP,sel_of d21,sel_of d23]at ha
   subst ha
   have q5:=h5 (hc.up 34 21 5 d21 (by kernel_rfl))
   have Q5:=hid q5
   clear q5
   have q14:=h14 (hc.up 34 21 14 d21 (by kernel_rfl))
   have Q14:=hid q14
   clear q14
   have H5:=hid h5
   clear h5
   have H14:=hid h14
   clear h14
   have H30:=hid h30
   clear h30
   rw[if_pos (by rfl)]
   go_simp
   refine Shut.out hK _ _ ⟨g39,b48,g64,?_,hO,(fun h=>NumsAt.off (H5.out (show l 5=true by rwa [upd_ne l (by decide)]at h)) (Off.refl (fun _=>False) wr) (fun c=>c)),(fun h=>Off.heap (Off.refl (fun _=>False) wr) (H14.out (show l 14=true by rwa [upd_ne l (by decide)]at h)) (fun c=>c)),(fun h=>NumsAt.off (H30.out (show l 30=true by rwa [upd_ne l (by decide)]at h)) (Off.refl (fun _=>False) wr) (fun c=>c))⟩
   simp only[XF,XP,sel_new,sel_dep d21,sel_dep d23]
   try rfl
 ·as_aux_lemma =>
   have d21:=hd 21 (by decide)
   have d24:=hd 24 (by decide)
   have hx:=X55.out;subst hx
   have hx:=X58.out;subst hx
   have hx:=X59.out;subst hx
   simp only[XF,XP,sel_of d21,sel_of d24]at ha
   subst ha
   have q5:=h5 (hc.up 34 21 5 d21 (by kernel_rfl))
   have Q5:=hid q5
   clear q5
   have q14:=h14 (hc.up 34 21 14 d21 (by kernel_rfl))
   have Q14:=hid q14
   clear q14
   have H5:=hid h5
   clear h5
   have H14:=hid h14
   clear h14
   have H30:=hid h30
   clear h30
   rw[if_pos (by rfl)]
   go_simp
   refine Shut.out hK _ _ ⟨g39,b48,g64,?_,hO,(fun h=>NumsAt.off (H5.out (show l 5=true by rwa [upd_ne l (by decide)]at h)) (Off.refl (fun _=>False) wr) (fun c=>c)),(fun h=>Off.heap (Off.refl (fun _=>False) wr) (H14.out (show l 14=true by rwa [upd_ne l (by decide)]at h)) (fun c=>c)),(fun h=>NumsAt.off (H30.out (show l 30=true by rwa [upd_ne l (by decide)]at h)) (Off.refl (fun _=>False) wr) (fun c=>c))⟩
   simp only[XF,XP,sel_new,sel_dep d21,sel_dep d24]
   try rfl
 ·as_aux_lemma =>
   have d25:=hd 25 (by decide)
   have hx:=X59.out;subst hx
   have hx:=X60.out;subst hx
   simp only[XF,XP,sel_of d25]at ha
   subst ha
   have q5:=h5 (hc.up 34 25 5 d25 (by kernel_rfl))
   have Q5:=hid q5
   clear q5
   have q14:=h14 (hc.up 34 25 14 d25 (by kernel_rfl))
   have Q14:=hid q14
   clear q14
   have H5:=hid h5
   clear h5
   have H14:=hid h14
   clear h14
   have H30:=hid h30
   clear h30
   rw[if_pos (by rfl)]
   go_simp
   refine Shut.out hK _ _ ⟨g39,b48,g64,?_,hO,(fun h=>NumsAt.off (H5.out (show l 5=true by rwa [upd_ne l (by decide)]at h)) (Off.refl (fun _=>False) wr) (fun c=>c)),(fun h=>Off.heap (Off.refl (fun _=>False) wr) (H14.out (show l 14=true by rwa [upd_ne l (by decide)]at h)) (fun c=>c)),(fun h=>NumsAt.off (H30.out (show l 30=true by rwa [upd_ne l (by decide)]at h)) (Off.refl (fun _=>False) wr) (fun c=>c))⟩
   simp only[XF,XP,sel_new,sel_dep d25]
   try rfl
 ·as_aux_lemma =>
   have d26:=hd 26 (by decide)
   have hx:=X60.out;subst hx
   have hx:=X61.out;subst hx
   simp only[XF,XP,sel_of d26]at ha
   subst ha
   have q5:=h5 (hc.up 34 26 5 d26 (by kernel_rfl))
   have Q5:=hid q5
   clear q5
   have q14:=h14 (hc.up 34 26 14 d26 (by kernel_rfl))
   have Q14:=hid q14
   clear q14
   have H5:=hid h5
   clear h5
   have H14:=hid h14
   clear h14
   have H30:=hid h30
   clear h30
   have ls:=heap_lt (hO.heap HSh.out (fun c=>c))
   rw[if_pos (by rfl)]
   go_simp
   refine Shut.out hK _ _ ⟨g39,b48,g64,?_,hO,(fun h=>NumsAt.off (H5.out (show l 5=true by rwa [upd_ne l (by decide)]at h)) (Off.refl (fun _=>False) wr) (fun c=>c)),(fun h=>Off.heap (Off.refl (fun _=>False) wr) (H14.out (show l 14=true by rwa [upd_ne l (by decide)]at h)) (fun c=>c)),(fun h=>NumsAt.off (H30.out (show l 30=true by rwa [upd_ne l (by decide)]at h)) (Off.refl (fun _=>False) wr) (fun c=>c))⟩
   simp only[XF,XP,sel_new,sel_dep d26]
   try rfl
 ·as_aux_lemma =>
   have d26:=hd 26 (by decide)
   have d27:=hd 27 (by decide)
   have hx:=X60.out;subst hx
   have hx:=X61.out;subst hx
   have hx:=X62.out;subst hx
   simp only[XF,XP,sel_of d26,sel_of d27]at ha
   subst ha
   have q5:=h5 (hc.up 34 26 5 d26 (by kernel_rfl))
   have Q5:=hid q5
   clear q5
   have q14:=h14 (hc.up 34 26 14 d26 (by kernel_rfl))
   have Q14:=hid q14
   clear q14
   have H5:=hid h5
   clear h5
   have H14:=hid h14
   clear h14
   have H30:=hid h30
   clear h30
   have p4:=cell_of_heap (hO.heap HSh.out (fun c=>c)) 4
   have ls:=heap_lt (hO.heap HSh.out (fun c=>c))
   rw[if_pos (by rfl)]
   go_simp
   refine Shut.out hK _ _ ⟨g39,b48,g64,?_,hO,(fun h=>NumsAt.off (H5.out (show l 5=true by rwa [upd_ne l (by decide)]at h)) (Off.refl (fun _=>False) wr) (fun c=>c)),(fun h=>Off.heap (Off.refl (fun _=>False) wr) (H14.out (show l 14=true by rwa [upd_ne l (by decide)]at h)) (fun c=>c)),(fun h=>NumsAt.off (H30.out (show l 30=true by rwa [upd_ne l (by decide)]at h)) (Off.refl (fun _=>False) wr) (fun c=>c))⟩
   simp only[XF,XP,sel_new,sel_dep d26,sel_dep d27]
   try rfl
 ·as_aux_lemma =>
   have d26:=hd 26 (by decide)
   have hx:=X60.out;subst hx
   have hx:=X63.out;subst hx
   simp only[XF,XP,sel_of d26]at ha
   subst ha
   have q5:=h5 (hc.up 34 26 5 d26 (by kernel_rfl))
   have Q5:=hid q5
   clear q5
   have q14:=h14 (hc.up 34 26 14 d26 (by kernel_rfl))
   have Q14:=hid q14
   clear q14
   have H5:=hid h5
   clear h5
   have H14:=hid h14
   clear h14
   have H30:=hid h30
   clear h30
   rw[if_pos (by rfl)]
   go_simp
   refine Shut.out hK _ _ ⟨g39,b48,g64,?_,hO,(fun h=>NumsAt.off (H5.out (show l 5=true by rwa [upd_ne l (by decide)]at h)) (Off.refl (fun _=>False) wr) (fun c=>c)),(fun h=>Off.heap (Off.refl (fun _=>False) wr) (H14.out (show l 14=true by rwa [upd_ne l (by decide)]at h)) (fun c=>c)),(fun h=>NumsAt.off (H30.out (show l 30=true by rwa [upd_ne l (by decide)]at h)) (Off.refl (fun _=>False) wr) (fun c=>c))⟩
   simp only[XF,XP,sel_new,sel_dep d26]
   try rfl
 ·as_aux_lemma =>
   have d26:=hd 26 (by decide)
   have d29:=hd 29 (by decide)
   have hx:=X60.out;subst hx
   have hx:=X63.out;subst hx
   have g31:=hc.not (i:=31) hl 34 (by kernel_rfl)
   have g32:=hc.not (i:=32) hl 34 (by kernel_rfl)
   have g33:=hc.not (i:=33) hl 34 (by kernel_rfl)
   simp only[XF,XP,sel_of d26,sel_of d29,sel_no g31,sel_no g32,sel_no g33,sel_no hl]at ha
   subst ha
   have G31:=hid g31
   clear g31
   have G32:=hid g32
   clear g32
   have G33:=hid g33
   clear g33
   have q5:=h5 (hc.up 34 26 5 d26 (by kernel_rfl))
   have Q5:=hid q5
   clear q5
   have q14:=h14 (hc.up 34 26 14 d26 (by kernel_rfl))
   have Q14:=hid q14
   clear q14
   have H5:=hid h5
   clear h5
   have H14:=hid h14
   clear h14
   have H30:=hid h30
   clear h30
   rw[if_pos (by rfl)]
   go_simp
   refine(F14.out wr hO).mono ?_
   rintro e w1 ⟨g64',rfl,hP1,hO1⟩
   go_wp2_with fail
   refine Shut.out hK _ _ ⟨g39,b48,g64',?_,(hO.trans hO1 (fun _ _ c=>c)),(fun h=>NumsAt.off (H5.out (show l 5=true by rwa [upd_ne l (by decide)]at h)) hO1 (fun c=>c)),(fun h=>Off.heap hO1 (H14.out (show l 14=true by rwa [upd_ne l (by decide)]at h)) (fun c=>c)),(fun _=>hP1)⟩
   simp only[XF,XP,sel_new,sel_dep d26,sel_dep d29,sel_no (show upd l 30 31=false by rw[upd_ne l (by decide)];exact G31.out),sel_no (show upd l 30 32=false by rw[upd_ne l (by decide)];exact G32.out),sel_no (show upd l 30 33=false by rw[upd_ne l (by decide)];exact G33.out)]
   try rfl
 ·as_aux_lemma =>
   have d26:=hd 26 (by decide)
   have d28:=hd 28 (by decide)
   have d30:=hd 30 (by decide)
   have hx:=X60.out;subst hx
   have hx:=X62.out;subst hx
   have hx:=X65.out;subst hx
   simp only[XF,XP,sel_of d26,sel_of d28,sel_of d30]at ha
   subst ha
   have q5:=h5 (hc.up 34 26 5 d26 (by kernel_rfl))
   have Q5:=hid q5
   clear q5
   have q14:=h14 (hc.up 34 26 14 d26 (by kernel_rfl))
   have Q14:=hid q14
   clear q14
   have q30:=h30 d30
   have Q30:=hid q30
   clear q30
   have H5:=hid h5
   clear h5
   have H14:=hid h14
   clear h14
   have H30:=hid h30
   clear h30
   rw[if_pos (by rfl)]
   go_simp
   refine(eleq_any [z14] _ _ wr (HV14.out.off hO) (Ls.of_all (cap:=1) Q30.out (by simp))).mono ?_
   rintro e w1 ⟨rfl,hO1⟩
   go_wp2_with fail
   refine Shut.out hK _ _ ⟨g39,b48,g64,?_,(hO.trans hO1 (fun _ _ c=>c)),(fun h=>NumsAt.off (H5.out (show l 5=true by rwa [upd_ne l (by decide)]at h)) hO1 (fun c=>c)),(fun h=>Off.heap hO1 (H14.out (show l 14=true by rwa [upd_ne l (by decide)]at h)) (fun c=>c)),(fun h=>NumsAt.off (H30.out (show l 30=true by rwa [upd_ne l (by decide)]at h)) hO1 (fun c=>c))⟩
   simp only[XF,XP,sel_new,sel_dep d26,sel_dep d28,sel_dep d30]
   try rfl
 ·as_aux_lemma =>
   have d26:=hd 26 (by decide)
   have d31:=hd 31 (by decide)
   have hx:=X60.out;subst hx
   have hx:=X65.out;subst hx
   have hx:=X66.out;subst hx
   simp only[XF,XP,sel_of d26,sel_of d31]at ha
   subst ha
   have q5:=h5 (hc.up 34 26 5 d26 (by kernel_rfl))
   have Q5:=hid q5
   clear q5
   have q14:=h14 (hc.up 34 26 14 d26 (by kernel_rfl))
   have Q14:=hid q14
   clear q14
   have q30:=h30 (hc.up 34 31 30 d31 (by kernel_rfl))
   have Q30:=hid q30
   clear q30
   have H5:=hid h5
   clear h5
   have H14:=hid h14
   clear h14
   have H30:=hid h30
   clear h30
   rw[if_pos (by rfl)]
   go_simp
   refine Shut.out hK _ _ ⟨g39,b48,g64,?_,hO,(fun h=>NumsAt.off (H5.out (show l 5=true by rwa [upd_ne l (by decide)]at h)) (Off.refl (fun _=>False) wr) (fun c=>c)),(fun h=>Off.heap (Off.refl (fun _=>False) wr) (H14.out (show l 14=true by rwa [upd_ne l (by decide)]at h)) (fun c=>c)),(fun h=>NumsAt.off (H30.out (show l 30=true by rwa [upd_ne l (by decide)]at h)) (Off.refl (fun _=>False) wr) (fun c=>c))⟩
   simp only[XF,XP,sel_new,sel_dep d26,sel_dep d31]
   try rfl
 ·as_aux_lemma =>
   have d32:=hd 32 (by decide)
   have hx:=X66.out;subst hx
   have hx:=X0.out;subst hx
   simp only[XF,XP,sel_of d32]at ha
   subst ha
   have q5:=h5 (hc.up 34 32 5 d32 (by kernel_rfl))
   have Q5:=hid q5
   clear q5
   have q14:=h14 (hc.up 34 32 14 d32 (by kernel_rfl))
   have Q14:=hid q14
   clear q14
   have q30:=h30 (hc.up 34 32 30 d32 (by kernel_rfl))
   have Q30:=hid q30
   clear q30
   have H5:=hid h5
   clear h5
   have H14:=hid h14
   clear h14
   have H30:=hid h30
   clear h30
   rw[if_pos (by rfl)]
   go_simp
   refine Shut.out hK _ _ ⟨g39,b48,g64,?_,hO,(fun h=>NumsAt.off (H5.out (show l 5=true by rwa [upd_ne l (by decide)]at h)) (Off.refl (fun _=>False) wr) (fun c=>c)),(fun h=>Off.heap (Off.refl (fun _=>False) wr) (H14.out (show l 14=true by rwa [upd_ne l (by decide)]at h)) (fun c=>c)),(fun h=>NumsAt.off (H30.out (show l 30=true by rwa [upd_ne l (by decide)]at h)) (Off.refl (fun _=>False) wr) (fun c=>c))⟩
   simp only[XF,XP,sel_new,sel_dep d32]
   try rfl
 rintro l a wc ⟨g39,b48,g64,ha,hO,h5,h14,h30⟩ hd
 simp only[XF,XP,sel_of (hd 0 (by decide)),sel_of (hd 1 (by decide)),sel_of (hd 2 (by decide)),sel_of (hd 3 (by decide)),sel_of (hd 4 (by decide)),sel_of (hd 5 (by decide)),sel_of (hd 6 (by decide)),sel_of (hd 7 (by decide)),sel_of (hd 8 (by decide)),sel_of (hd 9 (by decide)),sel_of (hd 10 (by decide)),sel_of (hd 11 (by decide)),sel_of (hd 12 (by decide)),sel_of (hd 13 (by decide)),sel_of (hd 14 (by decide)),sel_of (hd 15 (by decide)),sel_of (hd 16 (by decide)),sel_of (hd 17 (by decide)),sel_of (hd 18 (by decide)),sel_of (hd 19 (by decide)),sel_of (hd 20 (by decide)),sel_of (hd 21 (by decide)),sel_of (hd 22 (by decide)),sel_of (hd 23 (by decide)),sel_of (hd 24 (by decide)),sel_of (hd 25 (by decide)),sel_of (hd 26 (by decide)),sel_of (hd 27 (by decide)),sel_of (hd 28 (by decide)),sel_of (hd 29 (by decide)),sel_of (hd 30 (by decide)),sel_of (hd 31 (by decide)),sel_of (hd 32 (by decide)),sel_of (hd 33 (by decide))]at ha
 subst ha
 have hx:=X0.out;subst hx
 have q5:=h5 (hd 5 (by decide))
 have q14:=h14 (hd 14 (by decide))
 have q30:=h30 (hd 30 (by decide))
 clear h5 h14 h30
 have HO:=hid (HOw9.out.trans hO (fun _ _ c=>c))
 clear hO
 go_wp2
 exact bodyPost_ret (v:=.bool true) (by simp[results,Tryz.results10,go_sem]) rfl ⟨rfl,HO.out⟩
end Go.Proofs.YtpfjgifcjengkaaGreatDoor
