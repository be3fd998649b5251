/-
  For every list of up to 12 shares, Values returns the same elements, or the same error, as the reference: the statement of P17.1. No condition.
-/
import Derived.Test.YtpfjgifcjengkaaGreatDoorCards
import Derived.Test.YtpfjgifcjengkaaGreatDoorChecked
import Derived.Test.YtpfjgifcjengkaaGreatDoorTie
import Derived.Test.YtpfjgifcjengkaaGreatDoorDealA
import Derived.Test.YtpfjgifcjengkaaGreatDoorJoinAlive
import Derived.Test.YtpfjgifcjengkaaGreatDoorPartV
import Derived.LaidMore
import Derived.ShutString
namespace Go.Proofs.YtpfjgifcjengkaaGreatDoor.joinValues
open Lib (hid)
open Go.ChangeShapes Go.WideShapes Go.ChangeAt Go.RowKit
set_option linter.unusedVariables false

theorem own:ownKnob Tryz.prog.godebug=none:=by kernel_rfl
theorem laidOut:laidOutB Tryz.prog=true:=by kernel_rfl

set_option linter.unusedSimpArgs false
set_option maxRecDepth 100000 in
set_option maxHeartbeats 4000000 in
theorem walk (a0:Option Addr) (n0 cap0:Nat) (l0:List Sh) (w:World) (hn0:n0=l0.length) (w0:ShsAt w (.slice a0 n0 cap0) l0 (fun k=>k<w.heap.size)) (hT:TabAt w) :
  Calls Tryz.prog 3 #[.slice a0 n0 cap0] w fun e w'=>e=.returned (.bool true)/\Off (fun _=>False) w w':=by
 have FAL:Hid (∀ W,TabAt W->Calls Tryz.prog 10 #[] W fun e w'=>e=.returned (.bool true)/\Off (fun _=>False) W w'):=hid (fun W hT=>alive17_any W hT)
 have HT:=hid hT
 clear hT
 obtain⟨c,hc⟩:∃ c,c=lrg17 l0:=⟨_,rfl⟩
 have HZ:=hid (show c=0->l0.length<=12/\∀ s∈l0,s.pl.length<=4 from fun h=>lrg17_zero (hc.symm.trans h))
 have hc01:=lrg17_cases l0
 rw[<-hc]at hc01
 have FL:=hid (large17_any l0 a0 n0 cap0 hn0 (fun k=>k<w.heap.size) w w0)
 rw[<-hc]at FL
 have HN:=hid hn0
 have HL:=hid w0
 clear hc hn0 w0
 by_cases hbig:c=1
 ·subst hbig
  clear hc01
  go_enter Tryz.func3,Tryz.ntmps3
  go_wp2_with fail
  refine FL.out.mono ?_
  rintro e u ⟨rfl,hO⟩
  have HOl:=hid hO
  clear hO
  go_wp2_with fail
  refine(FAL.out _ (HT.out.off HOl.out)).mono ?_
  rintro e u ⟨rfl,hO⟩
  have HOf:=hid (HOl.out.trans hO (fun _ _ c=>c))
  clear hO
  go_wp2
  go_ret
  exact⟨rfl,HOf.out⟩
 obtain rfl:c=0:=by omega
 have hz:=HZ.out rfl
 have hl3:n0<=12:=by rw[HN.out];exact hz.1
 have hp5:=hz.2
 have hcc:n0<=cap0:=by
  obtain⟨a',c',e,h,_⟩:=HL.out
  simp at e
  omega
 have hev:=fun h=>j_ev h hz.1 hz.2
 have hpt:∀ s∈l0,s.pl.length<=1000:=fun s hs=>Nat.le_trans (hp5 s hs) (by decide)
 clear hbig hc01 hz HZ
 have FC:=hid (fun W (hO:Off (fun _=>False) w W) hT=>vals_join l0 a0 n0 cap0 HN.out (by omega) hpt none [] (fun _=>False) (fun k=>k<w.heap.size) W (HL.out.off hO (fun _ _ _ c=>c)) (fun b h=>⟨Nat.lt_of_lt_of_le h hO.size,fun c=>c⟩) (Tp.none W) (fun h=>Nat.le_trans (Nat.le_of_eq (Nat.zero_add _)) (hev h).1) hT)
 have FR:=hid (fun W (hO:Off (fun _=>False) w W)=>refvals17 l0 a0 n0 cap0 HN.out hcc (by omega) hpt (fun k=>k<w.heap.size) W (HL.out.off hO (fun _ _ _ c=>c)))
 obtain⟨r,hr⟩:∃ r,r=shsN l0:=⟨_,rfl⟩
 rw[<-hr]at FC FR
 have HE:=hid hr
 have HP5:=hid hp5
 clear hr hl3 hcc hev hp5 hpt
 have HOz:=hid (Off.refl (fun _=>False) w)
 go_enter Tryz.func3,Tryz.ntmps3
 go_wp2_with fail
 refine(FL.out).mono ?_
 rintro e u1 ⟨rfl,hO⟩
 have HO1:=hid (HOz.out.trans hO (fun _ _ c=>c))
 clear hO
 go_wp2_with fail
 refine(FC.out _ HO1.out (HT.out.off HO1.out)).mono ?_
 rintro e u2 ⟨v2,rfl,h0,h1,hO⟩
 have HO2:=hid (HO1.out.trans hO (fun _ _ c=>c))
 clear hO FC
 go_wp2_with fail
 refine(FR.out _ HO2.out).mono ?_
 rintro e u3 ⟨v3,rfl,hs,hO⟩
 obtain⟨L,hL⟩:∃ L,L=if r=0 then vlJ l0 else []:=⟨_,rfl⟩
 rw[<-hL]at hs
 have hx:Ls u2 v2 (L.map (fm (pJ l0))):=by
  by_cases h:r=0
  ·rw[hL,if_pos h];exact Ls.of (h1 h).1
  rw[hL,if_neg h,(h0 h).1];exact⟨none,0,rfl,Nat.zero_le _,fun hp=>by simp at hp⟩
 obtain⟨m,hm⟩:∃ m,m=L.length:=⟨_,rfl⟩
 obtain⟨va,vc,rfl,_,_⟩:=id hx
 rw[List.length_map,<-hm]at hx ⊢
 obtain⟨ra,rc,rfl,_,_⟩:=id hs
 rw[<-hm]at hs ⊢
 have HX:=hid (Ls.off hx hO)
 have HS:=hid hs
 have HO3:=hid (HO2.out.trans hO (fun _ _ c=>c))
 have HLm:=hid (And.intro hL hm)
 have j1:((m:Int) != (m:Int))=false:=by simp
 have j2:((r:Int) != (r:Int))=false:=by simp
 have hml:m<=1000:=by
  rw[hm,hL]
  split
  ·next h=>exact Nat.le_trans (vlJ_len (HE.out.symm.trans h) HP5.out) (by decide)
  exact Nat.zero_le _
 have HML:=hid hml
 clear h0 h1 hx hs hO hL hm FR hml
 go_wp2_with fail
 go_loopw [34] (fun i wr=>∃ k:Nat,k<=m/\i=.int .i64 k/\Off (fun _=>False) u3 wr) (fun i _=>m-(intOf i).toNat)
 case atStart=>exact⟨0,Nat.zero_le _,rfl,Off.refl _ _⟩
 case round =>
  obtain⟨k,hk,rfl,hO⟩:=hrel
  by_cases hlt:k<m
  ·obtain⟨y,hy⟩:∃ y,L[k]?=some y:=⟨_,List.getElem?_eq_getElem (by rw[<-HLm.out.2];exact hlt)⟩
   obtain⟨x,hxe⟩:∃ x,x=fm (pJ l0) y:=⟨_,rfl⟩
   obtain⟨xb,xo,rfl,_,hex⟩:=(HX.out.off hO).get (j:=k) (x:=x) (by rw[List.getElem?_map,hy,hxe];rfl)
   obtain⟨yb,yo,rfl,_,hey⟩:=(HS.out.off hO).get hy
   have hr0:r=0:=Decidable.byContradiction (fun h=>by rw[HLm.out.1,if_neg h]at hy;simp at hy)
   have hym:y∈vlJ l0:=by rw[HLm.out.1,if_pos hr0]at hy;exact List.mem_of_getElem? hy
   have hz:shsN l0=0:=HE.out.symm.trans hr0
   have hA:=acc_hd hz
   have hn0:0<n0:=by have:=(List.getElem?_eq_some_iff.1 hA.first).1;rw[HN.out];exact this
   obtain⟨s1,b,off,hsx,_,rfl,_,c0,_⟩:=(HL.out.off (HO3.out.trans hO (fun _ _ c=>c)) (fun _ _ _ c=>c)).at (k:=0) hn0
   rw[hA.first]at hsx
   cases hsx
   have hyp:=vlJ_lt hz y hym
   obtain⟨hp1,hp2⟩:=modN_pos hA.kn
   obtain⟨fd,hfd⟩:∃ fd,fd=(hd0 l0).fd:=⟨_,rfl⟩
   have hpe:pJ l0=modN fd:=by rw[hfd];rfl
   obtain⟨p,hp⟩:∃ p,p=modN fd:=⟨_,rfl⟩
   rw[<-hfd]at c0 hp1 hp2
   rw[<-hp]at hp1 hp2 hpe
   rw[hpe]at hxe hyp
   have FMo:=hid (fun W=>by have h:=mod_modulus fd W;rw[<-hp]at h;exact h)
   have FFm:=hid (fun W=>by have h:=form_any p y hp2 hp1 (Nat.lt_trans hyp hp2) W;rw[<-hxe]at h;exact h)
   obtain⟨wq,hwq⟩:∃ wq,wq=wr:=⟨_,rfl⟩
   rw[<-hwq]at hO hex hey c0 ⊢
   simp only[Nat.zero_mul,Nat.add_zero]at c0
   have HXq:=hid hex
   have HYq:=hid hey
   have HC0:=hid c0
   have HOq:=hid hO
   have HK:=hid hlt
   have hkn:(k:Int)<(m:Int):=by omega
   have hnn:(0:Int)<(n0:Int):=by omega
   have w2:IntKind.i64.wrap ((k:Int)+1)=(k:Int)+1:=by rw[IntKind.wrap_i64];have:=HML.out;omega
   clear hO hex hey c0 hy hxe hr0 hym hz hA hyp hp1 hp2 hfd hpe hp hwq hk hlt
   go_upto_region 10 with fail
   obtain⟨x37,hx⟩:∃ vv:Value,vv=.slice (some ⟨xb,xo,none⟩) m vc:=⟨_,rfl⟩
   have X37:=hid hx
   clear hx
   obtain⟨x38,hx⟩:∃ vv:Value,vv=.int .i64 k:=⟨_,rfl⟩
   have X38:=hid hx
   clear hx
   obtain⟨x39,hx⟩:∃ vv:Value,vv=.pointer (some ⟨xb,xo+k*4,none⟩):=⟨_,rfl⟩
   have X39:=hid hx
   clear hx
   obtain⟨x40,hx⟩:∃ vv:Value,vv=V x:=⟨_,rfl⟩
   have X40:=hid hx
   clear hx
   obtain⟨x41,hx⟩:∃ vv:Value,vv=.slice (some ⟨b,off,none⟩) n0 cap0:=⟨_,rfl⟩
   have X41:=hid hx
   clear hx
   obtain⟨x42,hx⟩:∃ vv:Value,vv=.pointer (some ⟨b,off,none⟩):=⟨_,rfl⟩
   have X42:=hid hx
   clear hx
   obtain⟨x43,hx⟩:∃ vv:Value,vv=.pointer (some ⟨b,off,none⟩):=⟨_,rfl⟩
   have X43:=hid hx
   clear hx
   obtain⟨x44,hx⟩:∃ vv:Value,vv=.int .i64 fd:=⟨_,rfl⟩
   have X44:=hid hx
   clear hx
   obtain⟨x45,hx⟩:∃ vv:Value,vv=V p:=⟨_,rfl⟩
   have X45:=hid hx
   clear hx
   obtain⟨x46,hx⟩:∃ vv:Value,vv=.slice (some ⟨yb,yo,none⟩) m rc:=⟨_,rfl⟩
   have X46:=hid hx
   clear hx
   obtain⟨x47,hx⟩:∃ vv:Value,vv=.int .i64 k:=⟨_,rfl⟩
   have X47:=hid hx
   clear hx
   obtain⟨x48,hx⟩:∃ vv:Value,vv=.pointer (some ⟨yb,yo+k*4,none⟩):=⟨_,rfl⟩
   have X48:=hid hx
   clear hx
   obtain⟨x49,hx⟩:∃ vv:Value,vv=V y:=⟨_,rfl⟩
   have X49:=hid hx
   clear hx
   obtain⟨x50,hx⟩:∃ vv:Value,vv=V x:=⟨_,rfl⟩
   have X50:=hid hx
   clear hx
   obtain⟨x51,hx⟩:∃ vv:Value,vv=.bool false:=⟨_,rfl⟩
   have X51:=hid hx
   clear hx
   refine wp_region_clo (fun a0 l a' w'=>a'=(fill a0 37 [sel (l 0) x37 (u37),sel (l 1) x38 (u38),sel (l 2) x39 (u39),sel (l 3) x40 (u40),sel (l 4) x41 (u41),sel (l 5) x42 (u42),sel (l 6) x43 (u43),sel (l 7) x44 (u44),sel (l 8) x45 (u45),sel (l 9) x46 (u46),sel (l 10) x47 (u47),sel (l 11) x48 (u48),sel (l 12) x49 (u49),sel (l 13) x50 (u50),sel (l 14) x51 (u51),u52,undef])/\Off (fun _=>False) wq w') (by kernel_rfl) (by kernel_rfl) ?_ ⟨?_,?_,?_,?_,?_,?_,?_,?_,?_,?_,?_,?_,?_,?_,?_,trivial⟩ ?_
   ·refine⟨?_,(Off.refl _ wq).drew⟩
    simp only[XF,XP,sel_start]
    try rfl
   all_goals try (rintro l a wr ⟨ha,hO⟩ hc hl hd K' hK)
   ·as_aux_lemma =>
     have hx:=X37.out;subst hx
     simp only[XF,XP]at ha
     subst ha
     rw[if_pos (by rfl)]
     go_simp
     refine Shut.out hK _ _ ⟨?_,hO⟩
     simp only[XF,XP,sel_new]
     try rfl
   ·as_aux_lemma =>
     have hx:=X38.out;subst hx
     simp only[XF,XP]at ha
     subst ha
     rw[if_pos (by rfl)]
     go_simp
     refine Shut.out hK _ _ ⟨?_,hO⟩
     simp only[XF,XP,sel_new]
     try rfl
   ·as_aux_lemma =>
     have d0:=hd 0 (by decide)
     have d1:=hd 1 (by decide)
     have hx:=X37.out;subst hx
     have hx:=X38.out;subst hx
     have hx:=X39.out;subst hx
     simp only[XF,XP,sel_of d0,sel_of d1]at ha
     subst ha
     rw[if_pos (by rfl)]
     go_simp
     refine Shut.out hK _ _ ⟨?_,hO⟩
     simp only[XF,XP,sel_new,sel_dep d0,sel_dep d1]
     try rfl
   ·as_aux_lemma =>
     have d2:=hd 2 (by decide)
     have hx:=X39.out;subst hx
     have hx:=X40.out;subst hx
     simp only[XF,XP,sel_of d2]at ha
     subst ha
     obtain⟨x0,x1,x2,x3⟩:=HXq.out.off hO (fun c=>c)
     have lx:=World.block_lt_of_cell? wr _ x0
     rw[if_pos (by rfl)]
     go_simp
     refine Shut.out hK _ _ ⟨?_,hO⟩
     simp only[XF,XP,sel_new,sel_dep d2]
     try rfl
   ·as_aux_lemma =>
     have hx:=X41.out;subst hx
     simp only[XF,XP]at ha
     subst ha
     rw[if_pos (by rfl)]
     go_simp
     refine Shut.out hK _ _ ⟨?_,hO⟩
     simp only[XF,XP,sel_new]
     try rfl
   ·as_aux_lemma =>
     have d4:=hd 4 (by decide)
     have hx:=X41.out;subst hx
     have hx:=X42.out;subst hx
     simp only[XF,XP,sel_of d4]at ha
     subst ha
     rw[if_pos (by rfl)]
     go_simp
     refine Shut.out hK _ _ ⟨?_,hO⟩
     simp only[XF,XP,sel_new,sel_dep d4]
     try rfl
   ·as_aux_lemma =>
     have d5:=hd 5 (by decide)
     have hx:=X42.out;subst hx
     have hx:=X43.out;subst hx
     simp only[XF,XP,sel_of d5]at ha
     subst ha
     rw[if_pos (by rfl)]
     go_simp
     refine Shut.out hK _ _ ⟨?_,hO⟩
     simp only[XF,XP,sel_new,sel_dep d5]
     try rfl
   ·as_aux_lemma =>
     have d6:=hd 6 (by decide)
     have hx:=X43.out;subst hx
     have hx:=X44.out;subst hx
     simp only[XF,XP,sel_of d6]at ha
     subst ha
     have c0:=hO.cell HC0.out (fun c=>c)
     have lb:=World.block_lt_of_cell? wr _ c0
     rw[if_pos (by rfl)]
     go_simp
     refine Shut.out hK _ _ ⟨?_,hO⟩
     simp only[XF,XP,sel_new,sel_dep d6]
     try rfl
   ·as_aux_lemma =>
     have d7:=hd 7 (by decide)
     have hx:=X44.out;subst hx
     have hx:=X45.out;subst hx
     simp only[XF,XP,sel_of d7]at ha
     subst ha
     rw[if_pos (by rfl)]
     go_simp
     refine(FMo.out wr).mono ?_
     rintro e w1 ⟨rfl,hO1⟩
     go_wp2_with fail
     refine Shut.out hK _ _ ⟨?_,(hO.trans hO1 (fun _ _ c=>c))⟩
     simp only[XF,XP,sel_new,sel_dep d7]
     try rfl
   ·as_aux_lemma =>
     have hx:=X46.out;subst hx
     simp only[XF,XP]at ha
     subst ha
     rw[if_pos (by rfl)]
     go_simp
     refine Shut.out hK _ _ ⟨?_,hO⟩
     simp only[XF,XP,sel_new]
     try rfl
   ·as_aux_lemma =>
     have hx:=X47.out;subst hx
     simp only[XF,XP]at ha
     subst ha
     rw[if_pos (by rfl)]
     go_simp
     refine Shut.out hK _ _ ⟨?_,hO⟩
     simp only[XF,XP,sel_new]
     try rfl
   ·as_aux_lemma =>
     have d9:=hd 9 (by decide)
     have d10:=hd 10 (by decide)
     have hx:=X46.out;subst hx
     have hx:=X47.out;subst hx
     have hx:=X48.out;subst hx
     simp only[XF,XP,sel_of d9,sel_of d10]at ha
     subst ha
     rw[if_pos (by rfl)]
     go_simp
     refine Shut.out hK _ _ ⟨?_,hO⟩
     simp only[XF,XP,sel_new,sel_dep d9,sel_dep d10]
     try rfl
   ·as_aux_lemma =>
     have d11:=hd 11 (by decide)
     have hx:=X48.out;subst hx
     have hx:=X49.out;subst hx
     simp only[XF,XP,sel_of d11]at ha
     subst ha
     obtain⟨y0,y1,y2,y3⟩:=HYq.out.off hO (fun c=>c)
     have ly:=World.block_lt_of_cell? wr _ y0
     rw[if_pos (by rfl)]
     go_simp
     refine Shut.out hK _ _ ⟨?_,hO⟩
     simp only[XF,XP,sel_new,sel_dep d11]
     try rfl
   ·as_aux_lemma =>
     have d8:=hd 8 (by decide)
     have d12:=hd 12 (by decide)
     have hx:=X45.out;subst hx
     have hx:=X49.out;subst hx
     have hx:=X50.out;subst hx
     simp only[XF,XP,sel_of d8,sel_of d12]at ha
     subst ha
     rw[if_pos (by rfl)]
     go_simp
     refine(FFm.out wr).mono ?_
     rintro e w1 ⟨rfl,hO1⟩
     go_wp2_with fail
     refine Shut.out hK _ _ ⟨?_,(hO.trans hO1 (fun _ _ c=>c))⟩
     simp only[XF,XP,sel_new,sel_dep d8,sel_dep d12]
     try rfl
   ·as_aux_lemma =>
     have d3:=hd 3 (by decide)
     have d13:=hd 13 (by decide)
     have hx:=X40.out;subst hx
     have hx:=X50.out;subst hx
     have hx:=X51.out;subst hx
     simp only[XF,XP,sel_of d3,sel_of d13]at ha
     subst ha
     have f1:=fun W=>eqel_same x W
     rw[if_pos (by rfl)]
     go_simp
     refine Shut.out hK _ _ ⟨?_,hO⟩
     simp only[XF,XP,sel_new,sel_dep d3,sel_dep d13]
     try rfl
   rintro l a wc ⟨ha,hO⟩ hd
   simp only[XF,XP,sel_of (hd 0 (by decide)),sel_of (hd 1 (by decide)),sel_of (hd 2 (by decide)),sel_of (hd 3 (by decide)),sel_of (hd 4 (by decide)),sel_of (hd 5 (by decide)),sel_of (hd 6 (by decide)),sel_of (hd 7 (by decide)),sel_of (hd 8 (by decide)),sel_of (hd 9 (by decide)),sel_of (hd 10 (by decide)),sel_of (hd 11 (by decide)),sel_of (hd 12 (by decide)),sel_of (hd 13 (by decide)),sel_of (hd 14 (by decide))]at ha
   subst ha
   have hx:=X51.out;subst hx
   have HOw:=hid (HOq.out.trans hO (fun _ _ c=>c))
   clear hO
   go_wp2
   go_roundw
   case rel=>exact⟨k+1,HK.out,by simp,HOw.out⟩
   case measure=>simp[intOf];have:=HK.out;omega
  obtain rfl:k=m:=by omega
  have hkn:¬(k:Int)<(k:Int):=by omega
  have HO4:=hid (HO3.out.trans hO (fun _ _ c=>c))
  clear hO
  go_wp2_with fail
  refine(FAL.out _ (HT.out.off HO4.out)).mono ?_
  rintro e u5 ⟨rfl,hO⟩
  have HO5:=hid (HO4.out.trans hO (fun _ _ c=>c))
  have hA5:=hid hO
  clear hO
  go_wp2
  go_ret
  exact⟨rfl,HO5.out⟩

theorem door_met (os : Os) (args : Array Value) : laidMetH Tryz.prog [("sharecore/field.fields",Rows.laid_sharecore_field_fields)] ((World.doorLaid Tryz.prog 400 os).forCall (fun _ _ => 0) ⟨#[],args,[]⟩).memory :=
 laidMetH_of_parts3 (fuel:=8) (laidMet_of_run' 8 (by kernel_rfl) (by kernel_rfl)) (by kernel_rfl) (by kernel_rfl)

set_option maxRecDepth 100000 in
theorem lifted (os:Os) (started:os.Started) (H:Type) (enc:TypeId × Value->H) :
  ReturnsInHanded {} Tryz.checked os 3 .any (fun w args => (Rows.joinValuesSpec.pre enc Tryz.prog Tryz.f3 [] false w args /\ laidMetH Tryz.prog [("sharecore/field.fields",Rows.laid_sharecore_field_fields)] w) /\ sizedMet enc Tryz.prog Tryz.f3 (OpenSpec.ofChange Rows.joinValuesSpec) false w args)
   (Rows.joinValuesSpec.post enc Tryz.prog Tryz.f3 false true false false):=by
 refine returnsInHanded_of_change_and (C := Tryz.checked) (X := fun w _ => laidMetH Tryz.prog [("sharecore/field.fields",Rows.laid_sharecore_field_fields)] w) (fun _ _ _ hh h => h.of_heap hh) own started (by kernel_rfl) Tryz.func3
  (ChangeSpec.witness_shaped (enc := enc) (C := Tryz.checked) (os := os) (X := fun w _ => laidMetH Tryz.prog [("sharecore/field.fields",Rows.laid_sharecore_field_fields)] w) false (World.doorLaid Tryz.prog 400 os) #[.slice none 0 0] 8 rfl (World.shaped_of_RefB (by kernel_rfl) (by kernel_rfl)) (by kernel_rfl) (by kernel_rfl) (by kernel_rfl) (door_met os _)) ?_
 intro W base args ds gs before hval0 hW _ hsz hL _
 have hval:∀ (j:Nat) t v,Tryz.f3.params[j]?=some t->args[j]?=some v->Value.okWide Tryz.prog W .any base t v:=hval0
 have hW':=hW
 obtain⟨p,q,hA0,hV,rfl,hfz,hnd⟩:=hW
 have hA:DataW.TrodAll enc Tryz.prog W 0 (fun _=>true) true Tryz.f3.params.toList args.toList ds p:=hA0
 rw[Tryz.params3]at hA hval
 obtain⟨v0,vs0,d0,ds0,p0,q0,hargs,rfl,rfl,h0,r0⟩:=trodAll_cons hA
 obtain⟨rfl,rfl,rfl⟩:=trodAll_nil r0
 obtain rfl:args=#[v0]:=by cases args;simp_all
 obtain⟨rfl,rfl⟩:=trodVars_none hV
 obtain⟨a0,n0,cap0,rfl⟩:=okWide_slice Tryz.underlying22 (hval 0 22 v0 rfl rfl)
 have k0:=h0
 have lt0:∀ x∈p0,x.block<W.heap.size:=by obtain⟨m,hm⟩:=k0;exact DataW.trod_lt m _ _ _ hm
 obtain⟨l0,hn0,w0⟩:∃ l,n0=l.length/\ShsAt W (.slice a0 n0 cap0) l (fun k=>k<W.heap.size):=by
  obtain⟨fuel,hf⟩:=h0
  exact shares_of_trod hf
 have hT:=tab_of_laid hL
 clear hA0 hval0
 refine(walk a0 n0 cap0 l0 W hn0 w0 hT).mono fun e W' ⟨he,hoff⟩=>?_
 have bel:Below W.heap.size W W':=hoff.below (Nat.le_refl _) (fun _ _ c=>c)
 subst he
 exact⟨_,rfl,_,_,_,[],_,[],hW',trodAll_mk1 (shut_bool Tryz.underlying4 _),(trodAll_cons_mk (Below.trod laidOut (by kernel_rfl) (of_decide_eq_true (by kernel_rfl)) k0 bel lt0) trodAll_mk0),rfl,bel.frame _,fun h=>by cases h⟩

theorem over:Rows.joinValuesRow.holds Tryz.pinned (OpenSpec.ofChange Rows.joinValuesSpec) :=
 OpenClaim.holds_of_wide 3 Tryz.f3 rfl rfl rfl rfl rfl rfl rfl ⟨rfl,rfl,rfl,rfl,rfl⟩ rfl rfl rfl rfl rfl (by kernel_rfl) Tryz.func3 (by kernel_rfl)
  (of_decide_eq_true (by kernel_rfl)) (by unfold Func.isWrapper;first | (rw[if_pos (by decide +kernel)];kernel_rfl) | (rw[if_neg (by decide +kernel)];exact⟨rfl,rfl⟩))
  (fun os started H enc _=>lifted os started H enc)

theorem proved:Rows.JoinValuesCardSaid :=
 Claim7.holds_tied_plain_at .later [] [.data] true (true,"7bce38bddea7484173693267af3896808f2e64751bf740681a295740933c261b") false
  over (fun _ h=>by cases h) (by kernel_rfl) (fun _ h=>by cases h) joinValues_row_tie rfl ⟨rfl,rfl⟩ (by kernel_rfl) rfl
  (fun f fn hf hfn=>by
   obtain rfl : f = 3 := Option.some.inj ((show Tryz.prog.funcNamed "sharecore/sharecorelaw17.JoinValues" = some 3 by kernel_rfl).symm.trans hf) |>.symm
   obtain rfl:fn=Tryz.f3:=(Option.some.inj (Tryz.func3.symm.trans hfn)).symm
   exact⟨by kernel_rfl,fun j t ht=>by
    rw[Tryz.params3]at ht
    have hm:t∈[22]:=by simpa using Array.mem_of_getElem? ht
    have hall:([22].all fun u=>!Tryz.prog.wantsStandIn u)=true:=by kernel_rfl
    exact(show Tryz.prog.wantsStandIn t=false by simpa using List.all_eq_true.1 hall t hm)⟩)
  (by kernel_rfl)
#print axioms proved
end Go.Proofs.YtpfjgifcjengkaaGreatDoor.joinValues
