/-
  For every list of up to 12 shares, Consistent returns the same result, or the same error, as the reference: the statement of P18.1. No condition.
-/
import Derived.Test.YtbkgghhngeibhaaGreatDoorCards
import Derived.Test.YtbkgghhngeibhaaGreatDoorChecked
import Derived.Test.YtbkgghhngeibhaaGreatDoorTie
import Derived.Test.YtbkgghhngeibhaaGreatDoorAudAlive
import Derived.Test.YtbkgghhngeibhaaGreatDoorPartL
import Derived.LaidMore
import Derived.ShutString
namespace Go.Proofs.YtbkgghhngeibhaaGreatDoor.auditConsistent
open Lib (hid)
open Go.ChangeShapes Go.WideShapes Go.ChangeAt Go.RowKit
set_option linter.unusedVariables false

theorem own:ownKnob Tryz.prog.godebug=none:=by kernel_rfl
theorem laidOut:laidOutB Tryz.prog=true:=by kernel_rfl

set_option linter.unusedSimpArgs false
set_option maxRecDepth 100000 in
set_option maxHeartbeats 4000000 in
theorem walk (a0:Option Addr) (n0 cap0:Nat) (l0:List Sh) (w:World) (hn0:n0=l0.length) (w0:ShsAt w (.slice a0 n0 cap0) l0 (fun k=>k<w.heap.size)) (hT:TabAt w) :
  Calls Tryz.prog 3 #[.slice a0 n0 cap0] w fun e w'=>e=.returned (.bool true)/\Off (fun _=>False) w w':=by
 have FAL:Hid (∀ W,TabAt W->Calls Tryz.prog 10 #[] W fun e w'=>e=.returned (.bool true)/\Off (fun _=>False) W w'):=hid (fun W hT=>alive18_any W hT)
 have HT:=hid hT
 clear hT
 obtain⟨c,hc⟩:∃ c,c=lrg17 l0:=⟨_,rfl⟩
 have HZ:=hid (show c=0->l0.length<=12/\∀ s∈l0,s.pl.length<=4 from fun h=>lrg17_zero (hc.symm.trans h))
 have hc01:=lrg17_cases l0
 rw[<-hc]at hc01
 have FL:=hid (large17_any l0 a0 n0 cap0 hn0 (fun k=>k<w.heap.size) w w0)
 rw[<-hc]at FL
 have HN:=hid hn0
 have HL:=hid w0
 clear hc hn0 w0
 by_cases hbig:c=1
 ·subst hbig
  clear hc01
  go_enter Tryz.func3,Tryz.ntmps3
  go_wp2_with fail
  refine FL.out.mono ?_
  rintro e u ⟨rfl,hO⟩
  have HOl:=hid hO
  clear hO
  go_wp2_with fail
  refine(FAL.out _ (HT.out.off HOl.out)).mono ?_
  rintro e u ⟨rfl,hO⟩
  have HOf:=hid (HOl.out.trans hO (fun _ _ c=>c))
  clear hO
  go_wp2
  go_ret
  exact⟨rfl,HOf.out⟩
 obtain rfl:c=0:=by omega
 have hz:=HZ.out rfl
 have hl3:n0<=12:=by rw[HN.out];exact hz.1
 have hp5:=hz.2
 have hcc:n0<=cap0:=by
  obtain⟨a',c',e,h,_⟩:=HL.out
  simp at e
  omega
 have hev:=fun h=>aud_ev h hz.1 hz.2
 have hpt:∀ s∈l0,s.pl.length<=1000:=fun s hs=>Nat.le_trans (hp5 s hs) (by decide)
 rw[<-HN.out]at hev
 clear hbig hc01 hz HZ
 have FC:=hid (fun W (hO:Off (fun _=>False) w W) hT=>cons_aud l0 a0 n0 cap0 HN.out (by omega) hpt none [] (fun _=>False) (fun k=>k<w.heap.size) W (HL.out.off hO (fun _ _ _ c=>c)) (fun b h=>⟨Nat.lt_of_lt_of_le h hO.size,fun c=>c⟩) (Tp.none W) (fun _=>Room.nil _) hT)
 have FR:=hid (fun W (hO:Off (fun _=>False) w W)=>refshares_any l0 a0 n0 cap0 HN.out (fun k=>k<w.heap.size) W (HL.out.off hO (fun _ _ _ c=>c)))
 have hcn:shsN l0=0->cJ l0<=1000:=fun h=>Nat.le_trans (Nat.le_of_lt (cJ_small h hp5)) (by decide)
 have FK:=hid (fun(h:shsN l0=0) W (hO:Off (fun _=>False) w W)=>refcon18 l0 h a0 n0 cap0 HN.out hcc (by omega) (hcn h) (fun k=>k<w.heap.size) W (HL.out.off hO (fun _ _ _ c=>c)))
 have HOz:=hid (Off.refl (fun _=>False) w)
 by_cases h0:shsN l0=0
 ·rw[h0,show decide ((0:Nat)=0)=true from rfl,Bool.true_and]at FC
  rw[h0]at FR
  have FK:=hid (FK.out h0)
  obtain⟨y,hy⟩:∃ y,y=conL l0:=⟨_,rfl⟩
  rw[<-hy]at FC FK
  have hyy:(y==y)=true:=beq_self_eq_true y
  clear h0 hy hcn hev hpt hp5 hl3 hcc
  go_enter Tryz.func3,Tryz.ntmps3
  go_wp2_with fail
  refine(FL.out).mono ?_
  rintro e u1 ⟨rfl,hO⟩
  have HO1:=hid (HOz.out.trans hO (fun _ _ c=>c))
  clear hO
  go_wp2_with fail
  refine(FC.out _ HO1.out (HT.out.off HO1.out)).mono ?_
  rintro e u2 ⟨rfl,_,_,hO⟩
  have HO2:=hid (HO1.out.trans hO (fun _ _ c=>c))
  clear hO FC
  go_wp2_with fail
  refine(FR.out _ HO2.out).mono ?_
  rintro e u3 ⟨rfl,hO⟩
  have HO3:=hid (HO2.out.trans hO (fun _ _ c=>c))
  clear hO
  go_wp2_with fail
  refine(FAL.out _ (HT.out.off HO3.out)).mono ?_
  rintro e u4 ⟨rfl,hO⟩
  have HO4:=hid (HO3.out.trans hO (fun _ _ c=>c))
  have hA4:=hid hO
  clear hO
  go_wp2_with fail
  refine(FK.out _ HO4.out).mono ?_
  rintro e u5 ⟨rfl,hO⟩
  have HO5:=hid (HO4.out.trans hO (fun _ _ c=>c))
  clear hO
  go_wp2
  go_ret
  exact⟨rfl,HO5.out⟩
 obtain⟨r,hr⟩:∃ r,r=shsN l0:=⟨_,rfl⟩
 rw[decide_eq_false h0,Bool.false_and]at FC
 rw[<-hr]at FC FR h0
 have k2:((r:Int) != 0)=true:=by simp;omega
 have k3:¬(r:Int)=0:=by omega
 clear h0 hr hcn hev hpt hp5 hl3 hcc FK
 go_enter Tryz.func3,Tryz.ntmps3
 go_wp2_with fail
 refine(FL.out).mono ?_
 rintro e u1 ⟨rfl,hO⟩
 have HO1:=hid (HOz.out.trans hO (fun _ _ c=>c))
 clear hO
 go_wp2_with fail
 refine(FC.out _ HO1.out (HT.out.off HO1.out)).mono ?_
 rintro e u2 ⟨rfl,_,_,hO⟩
 have HO2:=hid (HO1.out.trans hO (fun _ _ c=>c))
 clear hO FC
 go_wp2_with fail
 refine(FR.out _ HO2.out).mono ?_
 rintro e u3 ⟨rfl,hO⟩
 have HO3:=hid (HO2.out.trans hO (fun _ _ c=>c))
 clear hO
 go_wp2_with fail
 refine(FAL.out _ (HT.out.off HO3.out)).mono ?_
 rintro e u4 ⟨rfl,hO⟩
 have HO4:=hid (HO3.out.trans hO (fun _ _ c=>c))
 have hA4:=hid hO
 clear hO
 go_wp2
 go_ret
 exact⟨rfl,HO4.out⟩

theorem door_met (os : Os) (args : Array Value) : laidMetH Tryz.prog [("sharecore/field.fields",Rows.laid_sharecore_field_fields)] ((World.doorLaid Tryz.prog 400 os).forCall (fun _ _ => 0) ⟨#[],args,[]⟩).memory :=
 laidMetH_of_parts3 (fuel:=8) (laidMet_of_run' 8 (by kernel_rfl) (by kernel_rfl)) (by kernel_rfl) (by kernel_rfl)

set_option maxRecDepth 100000 in
theorem lifted (os:Os) (started:os.Started) (H:Type) (enc:TypeId × Value->H) :
  ReturnsInHanded {} Tryz.checked os 3 .any (fun w args => (Rows.auditConsistentSpec.pre enc Tryz.prog Tryz.f3 [] false w args /\ laidMetH Tryz.prog [("sharecore/field.fields",Rows.laid_sharecore_field_fields)] w) /\ sizedMet enc Tryz.prog Tryz.f3 (OpenSpec.ofChange Rows.auditConsistentSpec) false w args)
   (Rows.auditConsistentSpec.post enc Tryz.prog Tryz.f3 false true false false):=by
 refine returnsInHanded_of_change_and (C := Tryz.checked) (X := fun w _ => laidMetH Tryz.prog [("sharecore/field.fields",Rows.laid_sharecore_field_fields)] w) (fun _ _ _ hh h => h.of_heap hh) own started (by kernel_rfl) Tryz.func3
  (ChangeSpec.witness_shaped (enc := enc) (C := Tryz.checked) (os := os) (X := fun w _ => laidMetH Tryz.prog [("sharecore/field.fields",Rows.laid_sharecore_field_fields)] w) false (World.doorLaid Tryz.prog 400 os) #[.slice none 0 0] 8 rfl (World.shaped_of_RefB (by kernel_rfl) (by kernel_rfl)) (by kernel_rfl) (by kernel_rfl) (by kernel_rfl) (door_met os _)) ?_
 intro W base args ds gs before hval0 hW _ hsz hL _
 have hval:∀ (j:Nat) t v,Tryz.f3.params[j]?=some t->args[j]?=some v->Value.okWide Tryz.prog W .any base t v:=hval0
 have hW':=hW
 obtain⟨p,q,hA0,hV,rfl,hfz,hnd⟩:=hW
 have hA:DataW.TrodAll enc Tryz.prog W 0 (fun _=>true) true Tryz.f3.params.toList args.toList ds p:=hA0
 rw[Tryz.params3]at hA hval
 obtain⟨v0,vs0,d0,ds0,p0,q0,hargs,rfl,rfl,h0,r0⟩:=trodAll_cons hA
 obtain⟨rfl,rfl,rfl⟩:=trodAll_nil r0
 obtain rfl:args=#[v0]:=by cases args;simp_all
 obtain⟨rfl,rfl⟩:=trodVars_none hV
 obtain⟨a0,n0,cap0,rfl⟩:=okWide_slice Tryz.underlying22 (hval 0 22 v0 rfl rfl)
 have k0:=h0
 have lt0:∀ x∈p0,x.block<W.heap.size:=by obtain⟨m,hm⟩:=k0;exact DataW.trod_lt m _ _ _ hm
 obtain⟨l0,hn0,w0⟩:∃ l,n0=l.length/\ShsAt W (.slice a0 n0 cap0) l (fun k=>k<W.heap.size):=by
  obtain⟨fuel,hf⟩:=h0
  exact shares_of_trod hf
 have hT:=tab_of_laid hL
 clear hA0 hval0
 refine(walk a0 n0 cap0 l0 W hn0 w0 hT).mono fun e W' ⟨he,hoff⟩=>?_
 have bel:Below W.heap.size W W':=hoff.below (Nat.le_refl _) (fun _ _ c=>c)
 subst he
 exact⟨_,rfl,_,_,_,[],_,[],hW',trodAll_mk1 (shut_bool Tryz.underlying4 _),(trodAll_cons_mk (Below.trod laidOut (by kernel_rfl) (of_decide_eq_true (by kernel_rfl)) k0 bel lt0) trodAll_mk0),rfl,bel.frame _,fun h=>by cases h⟩

theorem over:Rows.auditConsistentRow.holds Tryz.pinned (OpenSpec.ofChange Rows.auditConsistentSpec) :=
 OpenClaim.holds_of_wide 3 Tryz.f3 rfl rfl rfl rfl rfl rfl rfl ⟨rfl,rfl,rfl,rfl,rfl⟩ rfl rfl rfl rfl rfl (by kernel_rfl) Tryz.func3 (by kernel_rfl)
  (of_decide_eq_true (by kernel_rfl)) (by unfold Func.isWrapper;first | (rw[if_pos (by decide +kernel)];kernel_rfl) | (rw[if_neg (by decide +kernel)];exact⟨rfl,rfl⟩))
  (fun os started H enc _=>lifted os started H enc)

theorem proved:Rows.AuditConsistentCardSaid :=
 Claim7.holds_tied_plain_at .later [] [.data] true (true,"0fc5020064acd828dfc8f62f6b9ca55535e9ae70cf342fa538ab833d24d2144e") false
  over (fun _ h=>by cases h) (by kernel_rfl) (fun _ h=>by cases h) auditConsistent_row_tie rfl ⟨rfl,rfl⟩ (by kernel_rfl) rfl
  (fun f fn hf hfn=>by
   obtain rfl : f = 3 := Option.some.inj ((show Tryz.prog.funcNamed "sharecore/sharecorelaw18.AuditConsistent" = some 3 by kernel_rfl).symm.trans hf) |>.symm
   obtain rfl:fn=Tryz.f3:=(Option.some.inj (Tryz.func3.symm.trans hfn)).symm
   exact⟨by kernel_rfl,fun j t ht=>by
    rw[Tryz.params3]at ht
    have hm:t∈[22]:=by simpa using Array.mem_of_getElem? ht
    have hall:([22].all fun u=>!Tryz.prog.wantsStandIn u)=true:=by kernel_rfl
    exact(show Tryz.prog.wantsStandIn t=false by simpa using List.all_eq_true.1 hall t hm)⟩)
  (by kernel_rfl)
#print axioms proved
end Go.Proofs.YtbkgghhngeibhaaGreatDoor.auditConsistent
