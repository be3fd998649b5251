/-
  For every list of up to 7 shares, Suspects returns the same positions, or the same error, as the reference: the statement of P18.3. No condition.
-/
import Derived.Test.YtbkgghhngeibhaaGreatDoorCards
import Derived.Test.YtbkgghhngeibhaaGreatDoorChecked
import Derived.Test.YtbkgghhngeibhaaGreatDoorTie
import Derived.Test.YtbkgghhngeibhaaGreatDoorAudAlive
import Derived.Test.YtbkgghhngeibhaaGreatDoorPartL
import Derived.LaidMore
import Derived.ShutString
namespace Go.Proofs.YtbkgghhngeibhaaGreatDoor.auditSuspects
open Lib (hid)
open Go.ChangeShapes Go.WideShapes Go.ChangeAt Go.RowKit
set_option linter.unusedVariables false

theorem own:ownKnob Tryz.prog.godebug=none:=by kernel_rfl
theorem laidOut:laidOutB Tryz.prog=true:=by kernel_rfl

set_option linter.unusedSimpArgs false
set_option maxRecDepth 100000 in
set_option maxHeartbeats 4000000 in
theorem walk (a0:Option Addr) (n0 cap0:Nat) (l0:List Sh) (w:World) (hn0:n0=l0.length) (w0:ShsAt w (.slice a0 n0 cap0) l0 (fun k=>k<w.heap.size)) (hT:TabAt w) :
  Calls Tryz.prog 5 #[.slice a0 n0 cap0] w fun e w'=>e=.returned (.bool true)/\Off (fun _=>False) w w':=by
 have FAL:Hid (∀ W,TabAt W->Calls Tryz.prog 10 #[] W fun e w'=>e=.returned (.bool true)/\Off (fun _=>False) W w'):=hid (fun W hT=>alive18_any W hT)
 have HT:=hid hT
 clear hT
 obtain⟨c,hc⟩:∃ c,c=lrg17 l0:=⟨_,rfl⟩
 have HZ:=hid (show c=0->l0.length<=12/\∀ s∈l0,s.pl.length<=4 from fun h=>lrg17_zero (hc.symm.trans h))
 have hc01:=lrg17_cases l0
 rw[<-hc]at hc01
 have FL:=hid (large17_any l0 a0 n0 cap0 hn0 (fun k=>k<w.heap.size) w w0)
 rw[<-hc]at FL
 have HN:=hid hn0
 have HL:=hid w0
 clear hc hn0 w0
 by_cases hbig:c=1
 ·subst hbig
  clear hc01
  go_enter Tryz.func5,Tryz.ntmps5
  go_wp2_with fail
  refine FL.out.mono ?_
  rintro e u ⟨rfl,hO⟩
  have HOl:=hid hO
  clear hO
  go_wp2_with fail
  refine(FAL.out _ (HT.out.off HOl.out)).mono ?_
  rintro e u ⟨rfl,hO⟩
  have HOf:=hid (HOl.out.trans hO (fun _ _ c=>c))
  clear hO
  go_wp2
  go_ret
  exact⟨rfl,HOf.out⟩
 obtain rfl:c=0:=by omega
 have hz:=HZ.out rfl
 have hl3:n0<=12:=by rw[HN.out];exact hz.1
 have hp5:=hz.2
 have hcc:n0<=cap0:=by
  obtain⟨a',c',e,h,_⟩:=HL.out
  simp at e
  omega
 have hev:=fun h=>aud_ev h hz.1 hz.2
 have hpt:∀ s∈l0,s.pl.length<=1000:=fun s hs=>Nat.le_trans (hp5 s hs) (by decide)
 rw[<-HN.out]at hev
 clear hbig hc01 hz HZ
 by_cases h7:7<n0
 ·have h7i:(7:Int)<(n0:Int):=by omega
  clear hev hpt hp5 hl3 hcc
  go_enter Tryz.func5,Tryz.ntmps5
  go_wp2_with fail
  refine FL.out.mono ?_
  rintro e u ⟨rfl,hO⟩
  have HOl:=hid hO
  clear hO
  go_wp2_with fail
  refine(FAL.out _ (HT.out.off HOl.out)).mono ?_
  rintro e u ⟨rfl,hO⟩
  have HOf:=hid (HOl.out.trans hO (fun _ _ c=>c))
  clear hO
  go_wp2
  go_ret
  exact⟨rfl,HOf.out⟩
 have h7i:¬(7:Int)<(n0:Int):=by omega
 have hl7:n0<=7:=by omega
 have hes:=fun h=>aud_sus h (by rw[<-HN.out];exact hl7) hp5
 rw[<-HN.out]at hes
 clear h7
 have FS:=hid (fun W (hO:Off (fun _=>False) w W) hT=>sus_aud l0 a0 n0 cap0 HN.out (by omega) hpt none [] (fun _=>False) (fun k=>k<w.heap.size) W (HL.out.off hO (fun _ _ _ c=>c)) (fun b h=>⟨Nat.lt_of_lt_of_le h hO.size,fun c=>c⟩) (Tp.none W) (fun _=>Room.nil _) hT (fun c=>c))
 have FR:=hid (fun W (hO:Off (fun _=>False) w W)=>refsus18 l0 a0 n0 cap0 HN.out (by omega) hpt (fun k=>k<w.heap.size) W (HL.out.off hO (fun _ _ _ c=>c)))
 have HOz:=hid (Off.refl (fun _=>False) w)
 have HPl:=hid (show(posI (susV l0)).length<=100000 by rw[posI_len];unfold susV;split;(· exact Nat.zero_le _);(· have:=susL_len l0 l0.length;have:=HN.out;omega))
 obtain⟨r,hr⟩:∃ r,r=susE l0:=⟨_,rfl⟩
 obtain⟨xs,hx⟩:∃ x,x=posI (susV l0):=⟨_,rfl⟩
 rw[<-hr,<-hx]at FS FR
 rw[<-hx]at HPl
 clear hr hx hes hl7 hev hpt hp5 hl3 hcc
 go_enter Tryz.func5,Tryz.ntmps5
 go_wp2_with fail
 refine(FL.out).mono ?_
 rintro e u1 ⟨rfl,hO⟩
 have HO1:=hid (HOz.out.trans hO (fun _ _ c=>c))
 clear hO
 go_wp2_with fail
 refine(FS.out _ HO1.out (HT.out.off HO1.out)).mono ?_
 rintro e u2 ⟨v2,rfl,hv,_,_,hO⟩
 have HO2:=hid (HO1.out.trans hO (fun _ _ c=>c))
 have HV2:=hid hv
 clear hO hv FS
 go_wp2_with fail
 refine(FR.out _ HO2.out).mono ?_
 rintro e u3 ⟨v3,rfl,hv,hO⟩
 have HO3:=hid (HO2.out.trans hO (fun _ _ c=>c))
 have HV3:=hid (HV2.out.off hO)
 have HW3:=hid hv
 clear hO hv FR
 go_wp2_with fail
 refine(FAL.out _ (HT.out.off HO3.out)).mono ?_
 rintro e u4 ⟨rfl,hO⟩
 have HO4:=hid (HO3.out.trans hO (fun _ _ c=>c))
 have hA4:=hid hO
 clear hO
 have HV4:=hid (HV3.out.off hA4.out)
 have HW4:=hid (HW3.out.off hA4.out)
 go_wp2_with fail
 refine(intseq18 xs HPl.out _ _ _ HV4.out HW4.out).mono ?_
 rintro e u5 ⟨rfl,hO⟩
 have HO5:=hid (HO4.out.trans hO (fun _ _ c=>c))
 clear hO
 go_wp2
 go_ret
 exact⟨rfl,HO5.out⟩

theorem door_met (os : Os) (args : Array Value) : laidMetH Tryz.prog [("sharecore/field.fields",Rows.laid_sharecore_field_fields)] ((World.doorLaid Tryz.prog 400 os).forCall (fun _ _ => 0) ⟨#[],args,[]⟩).memory :=
 laidMetH_of_parts3 (fuel:=8) (laidMet_of_run' 8 (by kernel_rfl) (by kernel_rfl)) (by kernel_rfl) (by kernel_rfl)

set_option maxRecDepth 100000 in
theorem lifted (os:Os) (started:os.Started) (H:Type) (enc:TypeId × Value->H) :
  ReturnsInHanded {} Tryz.checked os 5 .any (fun w args => (Rows.auditSuspectsSpec.pre enc Tryz.prog Tryz.f5 [] false w args /\ laidMetH Tryz.prog [("sharecore/field.fields",Rows.laid_sharecore_field_fields)] w) /\ sizedMet enc Tryz.prog Tryz.f5 (OpenSpec.ofChange Rows.auditSuspectsSpec) false w args)
   (Rows.auditSuspectsSpec.post enc Tryz.prog Tryz.f5 false true false false):=by
 refine returnsInHanded_of_change_and (C := Tryz.checked) (X := fun w _ => laidMetH Tryz.prog [("sharecore/field.fields",Rows.laid_sharecore_field_fields)] w) (fun _ _ _ hh h => h.of_heap hh) own started (by kernel_rfl) Tryz.func5
  (ChangeSpec.witness_shaped (enc := enc) (C := Tryz.checked) (os := os) (X := fun w _ => laidMetH Tryz.prog [("sharecore/field.fields",Rows.laid_sharecore_field_fields)] w) false (World.doorLaid Tryz.prog 400 os) #[.slice none 0 0] 8 rfl (World.shaped_of_RefB (by kernel_rfl) (by kernel_rfl)) (by kernel_rfl) (by kernel_rfl) (by kernel_rfl) (door_met os _)) ?_
 intro W base args ds gs before hval0 hW _ hsz hL _
 have hval:∀ (j:Nat) t v,Tryz.f5.params[j]?=some t->args[j]?=some v->Value.okWide Tryz.prog W .any base t v:=hval0
 have hW':=hW
 obtain⟨p,q,hA0,hV,rfl,hfz,hnd⟩:=hW
 have hA:DataW.TrodAll enc Tryz.prog W 0 (fun _=>true) true Tryz.f5.params.toList args.toList ds p:=hA0
 rw[Tryz.params5]at hA hval
 obtain⟨v0,vs0,d0,ds0,p0,q0,hargs,rfl,rfl,h0,r0⟩:=trodAll_cons hA
 obtain⟨rfl,rfl,rfl⟩:=trodAll_nil r0
 obtain rfl:args=#[v0]:=by cases args;simp_all
 obtain⟨rfl,rfl⟩:=trodVars_none hV
 obtain⟨a0,n0,cap0,rfl⟩:=okWide_slice Tryz.underlying22 (hval 0 22 v0 rfl rfl)
 have k0:=h0
 have lt0:∀ x∈p0,x.block<W.heap.size:=by obtain⟨m,hm⟩:=k0;exact DataW.trod_lt m _ _ _ hm
 obtain⟨l0,hn0,w0⟩:∃ l,n0=l.length/\ShsAt W (.slice a0 n0 cap0) l (fun k=>k<W.heap.size):=by
  obtain⟨fuel,hf⟩:=h0
  exact shares_of_trod hf
 have hT:=tab_of_laid hL
 clear hA0 hval0
 refine(walk a0 n0 cap0 l0 W hn0 w0 hT).mono fun e W' ⟨he,hoff⟩=>?_
 have bel:Below W.heap.size W W':=hoff.below (Nat.le_refl _) (fun _ _ c=>c)
 subst he
 exact⟨_,rfl,_,_,_,[],_,[],hW',trodAll_mk1 (shut_bool Tryz.underlying4 _),(trodAll_cons_mk (Below.trod laidOut (by kernel_rfl) (of_decide_eq_true (by kernel_rfl)) k0 bel lt0) trodAll_mk0),rfl,bel.frame _,fun h=>by cases h⟩

theorem over:Rows.auditSuspectsRow.holds Tryz.pinned (OpenSpec.ofChange Rows.auditSuspectsSpec) :=
 OpenClaim.holds_of_wide 5 Tryz.f5 rfl rfl rfl rfl rfl rfl rfl ⟨rfl,rfl,rfl,rfl,rfl⟩ rfl rfl rfl rfl rfl (by kernel_rfl) Tryz.func5 (by kernel_rfl)
  (of_decide_eq_true (by kernel_rfl)) (by unfold Func.isWrapper;first | (rw[if_pos (by decide +kernel)];kernel_rfl) | (rw[if_neg (by decide +kernel)];exact⟨rfl,rfl⟩))
  (fun os started H enc _=>lifted os started H enc)

theorem proved:Rows.AuditSuspectsCardSaid :=
 Claim7.holds_tied_plain_at .later [] [.data] true (true,"0fc5020064acd828dfc8f62f6b9ca55535e9ae70cf342fa538ab833d24d2144e") false
  over (fun _ h=>by cases h) (by kernel_rfl) (fun _ h=>by cases h) auditSuspects_row_tie rfl ⟨rfl,rfl⟩ (by kernel_rfl) rfl
  (fun f fn hf hfn=>by
   obtain rfl : f = 5 := Option.some.inj ((show Tryz.prog.funcNamed "sharecore/sharecorelaw18.AuditSuspects" = some 5 by kernel_rfl).symm.trans hf) |>.symm
   obtain rfl:fn=Tryz.f5:=(Option.some.inj (Tryz.func5.symm.trans hfn)).symm
   exact⟨by kernel_rfl,fun j t ht=>by
    rw[Tryz.params5]at ht
    have hm:t∈[22]:=by simpa using Array.mem_of_getElem? ht
    have hall:([22].all fun u=>!Tryz.prog.wantsStandIn u)=true:=by kernel_rfl
    exact(show Tryz.prog.wantsStandIn t=false by simpa using List.all_eq_true.1 hall t hm)⟩)
  (by kernel_rfl)
#print axioms proved
end Go.Proofs.YtbkgghhngeibhaaGreatDoor.auditSuspects
