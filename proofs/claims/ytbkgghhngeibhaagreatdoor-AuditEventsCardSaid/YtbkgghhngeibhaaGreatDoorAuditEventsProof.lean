/-
  The events of Consistent, Chunks and Suspects are those of the reference for the headers and the number of shares, and there are none together with an error: the statement of P18.4. No condition.
-/
import Derived.Test.YtbkgghhngeibhaaGreatDoorCards
import Derived.Test.YtbkgghhngeibhaaGreatDoorChecked
import Derived.Test.YtbkgghhngeibhaaGreatDoorTie
import Derived.Test.YtbkgghhngeibhaaGreatDoorAudAlive
import Derived.Test.YtbkgghhngeibhaaGreatDoorPartE
import Derived.Test.YtbkgghhngeibhaaGreatDoorPartQ
import Derived.LaidMore
import Derived.ShutString
namespace Go.Proofs.YtbkgghhngeibhaaGreatDoor.auditEvents
open Lib (hid)
open Go.ChangeShapes Go.WideShapes Go.ChangeAt Go.RowKit
set_option linter.unusedVariables false

theorem own:ownKnob Tryz.prog.godebug=none:=by kernel_rfl
theorem laidOut:laidOutB Tryz.prog=true:=by kernel_rfl

set_option linter.unusedSimpArgs false
def EvAny (w:World) (v:Value) (es:List Ev):Prop:=EvsAt w v es (fun _=>True)
theorem EvAny.off {w w':World} {v:Value} {es:List Ev} (h:EvAny w v es) (ho:Off (fun _=>False) w w'):EvAny w' v es:=EvsAt.off h ho (fun _ _ _ c=>c)
theorem ev_row {B:Nat} {w:World} {v:Value} {es:List Ev} (h:RowE B w v es):EvAny w v es:=(evs_of_own h).mono (fun _ _ _=>trivial)
theorem ev_none (w:World):EvAny w (.slice none 0 0) []:=ev_row (B:=0) (World.ownsRow_nil _ _ _ _)
theorem ev_events {w:World} {t:Option Addr} {es:List Ev} {S:Nat->Prop} (h:Tp w t es S) (hl:es.length<=66000):Calls Tryz.prog 25 #[.pointer t] w fun e w'=>∃ v,e=.returned v/\EvAny w' v es/\Off (fun _=>False) w w' :=
 (events_any t es S w h.1 (by omega)).mono fun _ _ ⟨v,h1,h2,h3⟩=>⟨v,h1,h2.mono (fun _ _ _=>trivial),h3⟩
theorem ev_same {w:World} {v u:Value} {es:List Ev} (h1:EvAny w v es) (h2:EvAny w u es) (hl:es.length<=66000):Calls Tryz.prog 24 #[v,u] w fun e w'=>e=.returned (.bool true)/\Off (fun _=>False) w w':=by
 have h:=same_any v u es es _ _ w h1 h2 (by omega) (by omega)
 rw[show decide (es=es)=true by simp]at h
 exact h
set_option maxRecDepth 100000 in
set_option maxHeartbeats 4000000 in
theorem walk (a0:Option Addr) (n0 cap0:Nat) (l0:List Sh) (w:World) (hn0:n0=l0.length) (w0:ShsAt w (.slice a0 n0 cap0) l0 (fun k=>k<w.heap.size)) (hT:TabAt w) :
  Calls Tryz.prog 6 #[.slice a0 n0 cap0] w fun e w'=>e=.returned (.bool true)/\Off (fun _=>False) w w':=by
 have FAL:Hid (∀ W,TabAt W->Calls Tryz.prog 10 #[] W fun e w'=>e=.returned (.bool true)/\Off (fun _=>False) W w'):=hid (fun W hT=>alive18_any W hT)
 have HT:=hid hT
 clear hT
 obtain⟨c,hc⟩:∃ c,c=lrg17 l0:=⟨_,rfl⟩
 have HZ:=hid (show c=0->l0.length<=12/\∀ s∈l0,s.pl.length<=4 from fun h=>lrg17_zero (hc.symm.trans h))
 have hc01:=lrg17_cases l0
 rw[<-hc]at hc01
 have FL:=hid (large17_any l0 a0 n0 cap0 hn0 (fun k=>k<w.heap.size) w w0)
 rw[<-hc]at FL
 have HN:=hid hn0
 have HL:=hid w0
 clear hc hn0 w0
 by_cases hbig:c=1
 ·subst hbig
  clear hc01
  go_enter Tryz.func6,Tryz.ntmps6
  go_wp2_with fail
  refine FL.out.mono ?_
  rintro e u ⟨rfl,hO⟩
  have HOl:=hid hO
  clear hO
  go_wp2_with fail
  refine(FAL.out _ (HT.out.off HOl.out)).mono ?_
  rintro e u ⟨rfl,hO⟩
  have HOf:=hid (HOl.out.trans hO (fun _ _ c=>c))
  clear hO
  go_wp2
  go_ret
  exact⟨rfl,HOf.out⟩
 obtain rfl:c=0:=by omega
 have hz:=HZ.out rfl
 have hl3:n0<=12:=by rw[HN.out];exact hz.1
 have hp5:=hz.2
 have hcc:n0<=cap0:=by
  obtain⟨a',c',e,h,_⟩:=HL.out
  simp at e
  omega
 have hev:=fun h=>aud_ev h hz.1 hz.2
 have hpt:∀ s∈l0,s.pl.length<=1000:=fun s hs=>Nat.le_trans (hp5 s hs) (by decide)
 rw[<-HN.out]at hev
 clear hbig hc01 hz HZ
 by_cases h7:7<n0
 ·have h7i:(7:Int)<(n0:Int):=by omega
  clear hev hpt hp5 hl3 hcc
  go_enter Tryz.func6,Tryz.ntmps6
  go_wp2_with fail
  refine FL.out.mono ?_
  rintro e u ⟨rfl,hO⟩
  have HOl:=hid hO
  clear hO
  go_wp2_with fail
  refine(FAL.out _ (HT.out.off HOl.out)).mono ?_
  rintro e u ⟨rfl,hO⟩
  have HOf:=hid (HOl.out.trans hO (fun _ _ c=>c))
  clear hO
  go_wp2
  go_ret
  exact⟨rfl,HOf.out⟩
 have h7i:¬(7:Int)<(n0:Int):=by omega
 have hl7:n0<=7:=by omega
 have hes:=fun h=>aud_sus h (by rw[<-HN.out];exact hl7) hp5
 rw[<-HN.out]at hes
 clear h7
 have FV:=hid (fun W (hO:Off (fun _=>False) w W) t S (hS:Tp W t [] S) (hb:∀ b,S b->w.heap.size<=b) hT=>(cons_aud l0 a0 n0 cap0 HN.out (by omega) hpt t [] S (fun k=>k<w.heap.size) W (HL.out.off hO (fun _ _ _ c=>c)) (fun b h=>⟨Nat.lt_of_lt_of_le h hO.size,fun c=>by have:=hb b c;omega⟩) hS (fun h=>Room.of (Nat.le_trans (Nat.le_of_eq (Nat.zero_add _)) (hev h))) hT).mono (fun e w' ⟨he,h1,h2,hO⟩=>show e=Ending.returned (.tuple #[.bool (decide (shsN l0=0)&&conL l0),.int .i64 (shsN l0:Int)])/\Noted W.heap.size t [] (if shsN l0=0 then alE n0 (TJ l0:Int) (cJ l0) else []) S w'/\Off S W w' from⟨he,by
  split
  ·next h=>exact h2 h
  next h=>exact h1 h,hO⟩))
 have FC:=hid (fun W (hO:Off (fun _=>False) w W) t S (hS:Tp W t [] S) (hb:∀ b,S b->w.heap.size<=b) hT=>(chks_aud l0 a0 n0 cap0 HN.out (by omega) hpt t [] S (fun k=>k<w.heap.size) W (HL.out.off hO (fun _ _ _ c=>c)) (fun b h=>⟨Nat.lt_of_lt_of_le h hO.size,fun c=>by have:=hb b c;omega⟩) hS (fun h=>Room.of (Nat.le_trans (Nat.le_of_eq (Nat.zero_add _)) (hev h))) hT).mono (fun e w' ⟨v,he,h1,h2,hO⟩=>show ∃ v,e=Ending.returned (.tuple #[v,.int .i64 (shsN l0:Int)])/\Noted W.heap.size t [] (if shsN l0=0 then alE n0 (TJ l0:Int) (cJ l0) else []) S w'/\Off S W w' from⟨v,he,by
  split
  ·next h=>exact(h2 h).2
  next h=>exact(h1 h).2,hO⟩))
 have FA:=hid (fun W (hO:Off (fun _=>False) w W) t S (hS:Tp W t [] S) (hb:∀ b,S b->w.heap.size<=b) hT=>(sus_aud l0 a0 n0 cap0 HN.out (by omega) hpt t [] S (fun k=>k<w.heap.size) W (HL.out.off hO (fun _ _ _ c=>c)) (fun b h=>⟨Nat.lt_of_lt_of_le h hO.size,fun c=>by have:=hb b c;omega⟩) hS (fun h=>Room.of (Nat.le_trans (Nat.le_of_eq (Nat.zero_add _)) (hes (by rcases susE_cases l0 with ⟨e1,e2⟩ | ⟨e1,e2,_⟩ | ⟨e1,e2,_⟩;(· exact absurd (e1.symm.trans h) e2);(· exact e2);(· exact e2))))) hT (fun c=>by have h1:=hb _ c;have h2:=tab_lt18 HT.out;omega)).mono (fun e w' ⟨v,he,_,h1,h2,hO⟩=>show ∃ v,e=Ending.returned (.tuple #[v,.int .i64 (susE l0:Int)])/\Noted W.heap.size t [] (if susE l0=0 then susEv n0 (TJ l0:Int) (cJ l0) n0 else []) S w'/\Off S W w' from⟨v,he,by
  split
  ·next h=>exact h2 h
  next h=>exact h1 h,hO⟩))
 have FR:=hid (fun W (hO:Off (fun _=>False) w W)=>refshares_any l0 a0 n0 cap0 HN.out (fun k=>k<w.heap.size) W (HL.out.off hO (fun _ _ _ c=>c)))
 obtain⟨c,hc⟩:∃ c,c=shsN l0:=⟨_,rfl⟩
 obtain⟨se,hse⟩:∃ se,se=susE l0:=⟨_,rfl⟩
 obtain⟨bl,hbl⟩:∃ bl,bl=(decide (shsN l0=0)&&conL l0):=⟨_,rfl⟩
 rw[<-hbl]at FV
 rw[<-hc]at FR FV FC
 rw[<-hse]at FA
 have HOz:=hid (Off.refl (fun _=>False) w)
 by_cases h0:c=0
 ·subst h0
  rw[if_pos rfl]at FV FC
  have hz:shsN l0=0:=hc.symm
  have hA:=acc_hd hz
  have hn0:0<n0:=by rw[HN.out];exact hA.pos
  have hn0i:(0:Int)<(n0:Int):=by omega
  obtain⟨s1,b,off,hsx,hok,rfl,hSb,c0,c1,c2,c3,qa,qc,c4,_⟩:=HL.out.at (k:=0) hn0
  rw[hA.first]at hsx
  cases hsx
  simp only[Nat.zero_mul,Nat.add_zero]at c0 c1 c2 c3 c4
  have hcs:=susE_cases l0
  obtain⟨T,hT'⟩:∃ T,T=TJ l0:=⟨_,rfl⟩
  obtain⟨cn,hcn⟩:∃ cn,cn=cJ l0:=⟨_,rfl⟩
  have hth:(hd0 l0).th=(T:Int):=by rw[hT'];unfold TJ;have:=hA.th1;omega
  have hpl:(hd0 l0).pl.length=cn:=by rw[hcn];exact(hA.all _ (List.mem_of_getElem? hA.first)).2.2.2.1
  have hc5:=cJ_small hz hp5
  rw[hth]at c1
  rw[hpl]at c4
  have hev:=hev hz
  have hes:=hes hz
  rw[<-hT',<-hcn]at hev hes
  rw[<-hT',<-hcn]at FV FC FA
  rw[<-hcn]at hc5
  have HC1:=hid c1
  have HC4:=hid c4
  obtain⟨ev1,he1⟩:∃ ev,ev=alE n0 (T:Int) cn:=⟨_,rfl⟩
  obtain⟨ev2,he2⟩:∃ ev,ev=susEv n0 (T:Int) cn n0:=⟨_,rfl⟩
  have FE:=hid (fun W=>(aevents_own n0 (by omega) (T:Int) cn (by omega) W).mono (fun e w' ⟨v,he,hr,hO⟩=>show ∃ v,e=Ending.returned v/\EvAny w' v ev1/\Off (fun _=>False) W w' from⟨v,he,by rw[he1];exact ev_row hr,hO⟩))
  have FE2:=hid (fun W=>(refsusev18 n0 cn (T:Int) hn0 (by omega) (by omega) hes W).mono (fun e w' ⟨v,he,hr,hO⟩=>show ∃ v,e=Ending.returned v/\EvAny w' v ev2/\Off (fun _=>False) W w' from⟨v,he,by rw[he2];exact ev_row hr,hO⟩))
  have hse3:if T<n0 then se=0 else se≠0:=by
   rw[<-HN.out,<-hT',<-hse]at hcs
   rcases hcs with ⟨_,e⟩ | ⟨e1,_,e3⟩ | ⟨e1,_,e3⟩
   ·exact absurd hz e
   ·rw[if_neg (by omega),e1];decide
   rw[if_pos e3,e1]
  rw[<-he1]at hev
  rw[<-he2]at hes
  rw[<-he1]at FV FC
  rw[<-he2]at FA
  have HEv:=hid (And.intro hev hes)
  clear hz hA hok hSb c0 c1 c2 c3 c4 hT' hcn hth hpl hev hes he1 he2 hc hse hbl hcs hc5 hpt hp5 hl3 hcc hl7
  by_cases htn:T<n0
  ·rw[if_pos htn]at hse3
   rw[if_pos hse3]at FA
   have hgt:(T:Int)<(n0:Int):=by omega
   clear hse3 htn
   go_enter Tryz.func6,Tryz.ntmps6
   go_wp2_with fail
   refine(FL.out).mono ?_
   rintro e u1 ⟨rfl,hO⟩
   have HO1:=hid (HOz.out.trans hO (fun _ _ c=>c))
   clear hO
   go_wp2_with fail
   refine(new_tp _).mono ?_
   rintro e u2 ⟨rfl,hTp,hO⟩
   obtain⟨t2,ht⟩:∃ t,t=u1.heap.size:=⟨_,rfl⟩
   rw[<-ht]at hTp ⊢
   have HZ2:=hid (show t2=u1.heap.size/\w.heap.size<=t2 from⟨ht,by rw[ht];exact HO1.out.size⟩)
   have HO2:=hid (HO1.out.trans hO (fun _ _ c=>c))
   obtain⟨S2,hS⟩:∃ S:Nat->Prop,S=fun k=>t2<=k/\k<u2.heap.size:=⟨_,rfl⟩
   rw[<-hS]at hTp
   have HB2:=hid (show ∀ k,S2 k->t2<=k/\k<u2.heap.size from fun k c=>by rw[hS]at c;exact c)
   have HP2:=hid hTp
   have HSz2:=hid hO.size
   clear hTp ht hS hO
   go_wp2_with fail
   refine(new_tp _).mono ?_
   rintro e u3 ⟨rfl,hTp,hO⟩
   obtain⟨t3,ht⟩:∃ t,t=u2.heap.size:=⟨_,rfl⟩
   rw[<-ht]at hTp ⊢
   have HZ3:=hid (show t3=u2.heap.size/\w.heap.size<=t3 from⟨ht,by rw[ht];exact HO2.out.size⟩)
   have HO3:=hid (HO2.out.trans hO (fun _ _ c=>c))
   obtain⟨S3,hS⟩:∃ S:Nat->Prop,S=fun k=>t3<=k/\k<u3.heap.size:=⟨_,rfl⟩
   rw[<-hS]at hTp
   have HB3:=hid (show ∀ k,S3 k->t3<=k/\k<u3.heap.size from fun k c=>by rw[hS]at c;exact c)
   have HP3:=hid hTp
   have HP2:=hid (HP2.out.off0 hO)
   have HSz3:=hid hO.size
   clear hTp ht hS hO
   go_wp2_with fail
   refine(new_tp _).mono ?_
   rintro e u4 ⟨rfl,hTp,hO⟩
   obtain⟨t4,ht⟩:∃ t,t=u3.heap.size:=⟨_,rfl⟩
   rw[<-ht]at hTp ⊢
   have HZ4:=hid (show t4=u3.heap.size/\w.heap.size<=t4 from⟨ht,by rw[ht];exact HO3.out.size⟩)
   have HO4:=hid (HO3.out.trans hO (fun _ _ c=>c))
   obtain⟨S4,hS⟩:∃ S:Nat->Prop,S=fun k=>t4<=k/\k<u4.heap.size:=⟨_,rfl⟩
   rw[<-hS]at hTp
   have HB4:=hid (show ∀ k,S4 k->t4<=k/\k<u4.heap.size from fun k c=>by rw[hS]at c;exact c)
   have HP4:=hid hTp
   have HP2:=hid (HP2.out.off0 hO)
   have HP3:=hid (HP3.out.off0 hO)
   have HSz4:=hid hO.size
   clear hTp ht hS hO
   have HS4:=hid (show u1.heap.size=t2/\t3=u2.heap.size/\t4=u3.heap.size/\u2.heap.size<=u3.heap.size/\u3.heap.size<=u4.heap.size/\t2<=t3 from⟨HZ2.out.1.symm,HZ3.out.1,HZ4.out.1,HSz3.out,HSz4.out,by rw[HZ2.out.1,HZ3.out.1];exact HSz2.out⟩)
   have HL4:=hid (Nat.le_refl u4.heap.size)
   go_wp2_with fail
   refine(FV.out _ HO4.out _ S2 HP2.out (fun b c=>Nat.le_trans HZ2.out.2 (HB2.out b c).1) (HT.out.off HO4.out)).mono ?_
   rintro e u5 ⟨rfl,hN,hO⟩
   obtain⟨S2',hp,hs⟩:=hN
   rw[ext_new]at hp
   have HP3:=hid (HP3.out.off hO (fun k c d=>by have h1:=HB2.out k c;have h2:=HB3.out k d;have h3:=HS4.out;omega))
   have HP4:=hid (HP4.out.off hO (fun k c d=>by have h1:=HB2.out k c;have h2:=HB4.out k d;have h3:=HS4.out;omega))
   have HP2:=hid hp
   have HQ2:=hid (show ∀ k,S2' k->S2 k\/u4.heap.size<=k from fun k c=>(hs k c).imp id (fun c=>Nat.le_trans HL4.out c))
   have HO5:=hid (HO4.out.trans hO (fun k hk c=>by have:=(HB2.out k c).1;have:=HZ2.out.2;omega))
   have HL5:=hid (Nat.le_trans HL4.out hO.size)
   clear hp hs hO
   go_wp2_with fail
   refine(FC.out _ HO5.out _ S3 HP3.out (fun b c=>Nat.le_trans HZ3.out.2 (HB3.out b c).1) (HT.out.off HO5.out)).mono ?_
   rintro e u6 ⟨v6,rfl,hN,hO⟩
   obtain⟨S3',hp,hs⟩:=hN
   rw[ext_new]at hp
   have HP2:=hid (HP2.out.off hO (fun k c d=>by rcases HQ2.out k d with d | d;(have h1:=HB3.out k c;have h2:=HB2.out k d;have h3:=HS4.out;omega);(have h1:=HB3.out k c;have h3:=HS4.out;omega)))
   have HP4:=hid (HP4.out.off hO (fun k c d=>by have h1:=HB3.out k c;have h2:=HB4.out k d;have h3:=HS4.out;omega))
   have HP3:=hid hp
   have HQ3:=hid (show ∀ k,S3' k->S3 k\/u4.heap.size<=k from fun k c=>(hs k c).imp id (fun c=>Nat.le_trans HL5.out c))
   have HO6:=hid (HO5.out.trans hO (fun k hk c=>by have:=(HB3.out k c).1;have:=HZ3.out.2;omega))
   have HL6:=hid (Nat.le_trans HL5.out hO.size)
   clear hp hs hO
   go_wp2_with fail
   refine(FA.out _ HO6.out _ S4 HP4.out (fun b c=>Nat.le_trans HZ4.out.2 (HB4.out b c).1) (HT.out.off HO6.out)).mono ?_
   rintro e u7 ⟨v7,rfl,hN,hO⟩
   obtain⟨S4',hp,hs⟩:=hN
   rw[ext_new]at hp
   have HP2:=hid (HP2.out.off hO (fun k c d=>by rcases HQ2.out k d with d | d;(have h1:=HB4.out k c;have h2:=HB2.out k d;have h3:=HS4.out;omega);(have h1:=HB4.out k c;have h3:=HS4.out;omega)))
   have HP3:=hid (HP3.out.off hO (fun k c d=>by rcases HQ3.out k d with d | d;(have h1:=HB4.out k c;have h2:=HB3.out k d;have h3:=HS4.out;omega);(have h1:=HB4.out k c;have h3:=HS4.out;omega)))
   have HP4:=hid hp
   have HQ4:=hid (show ∀ k,S4' k->S4 k\/u4.heap.size<=k from fun k c=>(hs k c).imp id (fun c=>Nat.le_trans HL6.out c))
   have HO7:=hid (HO6.out.trans hO (fun k hk c=>by have:=(HB4.out k c).1;have:=HZ4.out.2;omega))
   have HL7:=hid (Nat.le_trans HL6.out hO.size)
   clear hp hs hO
   go_wp2_with fail
   refine(FR.out _ HO7.out).mono ?_
   rintro e u8 ⟨rfl,hO⟩
   have HO8:=hid (HO7.out.trans hO (fun _ _ c=>c))
   have HP2:=hid (HP2.out.off0 hO)
   have HP3:=hid (HP3.out.off0 hO)
   have HP4:=hid (HP4.out.off0 hO)
   clear hO
   obtain⟨wq,hwq⟩:∃ wq,wq=u8:=⟨_,rfl⟩
   rw[<-hwq]at HO8 HP2 HP3 HP4 ⊢
   clear hwq
   have HC1q:=hid (HO8.out.cell HC1.out (fun c=>c))
   have HC4q:=hid (HO8.out.cell HC4.out (fun c=>c))
   go_upto_region 9 with fail
   obtain⟨x47,hx⟩:∃ vv:Value,vv=.slice (some ⟨b,off,none⟩) n0 cap0:=⟨_,rfl⟩
   have X47:=hid hx
   clear hx
   obtain⟨x48,hx⟩:∃ vv:Value,vv=.int .i64 n0:=⟨_,rfl⟩
   have X48:=hid hx
   clear hx
   obtain⟨x49,hx⟩:∃ vv:Value,vv=.slice (some ⟨b,off,none⟩) n0 cap0:=⟨_,rfl⟩
   have X49:=hid hx
   clear hx
   obtain⟨x50,hx⟩:∃ vv:Value,vv=.pointer (some ⟨b,off,none⟩):=⟨_,rfl⟩
   have X50:=hid hx
   clear hx
   obtain⟨x51,hx⟩:∃ vv:Value,vv=.pointer (some ⟨b,off+1,none⟩):=⟨_,rfl⟩
   have X51:=hid hx
   clear hx
   obtain⟨x52,hx⟩:∃ vv:Value,vv=.int .i64 T:=⟨_,rfl⟩
   have X52:=hid hx
   clear hx
   obtain⟨x53,hx⟩:∃ vv:Value,vv=.slice (some ⟨b,off,none⟩) n0 cap0:=⟨_,rfl⟩
   have X53:=hid hx
   clear hx
   obtain⟨x54,hx⟩:∃ vv:Value,vv=.pointer (some ⟨b,off,none⟩):=⟨_,rfl⟩
   have X54:=hid hx
   clear hx
   obtain⟨x55,hx⟩:∃ vv:Value,vv=.pointer (some ⟨b,off+4,none⟩):=⟨_,rfl⟩
   have X55:=hid hx
   clear hx
   obtain⟨x56,hx⟩:∃ vv:Value,vv=.slice qa cn qc:=⟨_,rfl⟩
   have X56:=hid hx
   clear hx
   obtain⟨x57,hx⟩:∃ vv:Value,vv=.int .i64 cn:=⟨_,rfl⟩
   have X57:=hid hx
   clear hx
   obtain⟨x6,hx⟩:∃ vv:Value,vv=.int .i64 n0:=⟨_,rfl⟩
   have X6:=hid hx
   clear hx
   obtain⟨x7,hx⟩:∃ vv:Value,vv=.int .i64 T:=⟨_,rfl⟩
   have X7:=hid hx
   clear hx
   obtain⟨x8,hx⟩:∃ vv:Value,vv=.int .i64 cn:=⟨_,rfl⟩
   have X8:=hid hx
   clear hx
   refine wp_region_clo (fun a0 l a' w'=>a'=(Act.put (Act.put (Act.put (fill a0 47 [sel (l 0) x47 (undef),sel (l 1) x48 (undef),sel (l 2) x49 (undef),sel (l 3) x50 (undef),sel (l 4) x51 (undef),sel (l 5) x52 (undef),sel (l 6) x53 (undef),sel (l 7) x54 (undef),sel (l 8) x55 (undef),sel (l 9) x56 (undef),sel (l 10) x57 (undef),undef,undef,undef,undef,undef,undef,undef,undef,undef,undef,undef,undef,undef,undef,undef,undef,undef,undef,undef,undef,undef,undef,undef,undef,undef,undef,undef,undef,undef,undef]) (some 6) (sel (l 11) x6 (undef))) (some 7) (sel (l 12) x7 (undef))) (some 8) (sel (l 13) x8 (undef)))/\Off (fun _=>False) wq w') (by kernel_rfl) (by kernel_rfl) ?_ ⟨?_,?_,?_,?_,?_,?_,?_,?_,?_,?_,?_,?_,?_,?_,trivial⟩ ?_
   ·refine⟨?_,(Off.refl _ wq).drew⟩
    simp only[XF,XP,sel_start]
    try rfl
   all_goals try (rintro l a wr ⟨ha,hO⟩ hc hl hd K' hK)
   ·as_aux_lemma =>
     have hx:=X47.out;subst hx
     simp only[XF,XP]at ha
     subst ha
     rw[if_pos (by rfl)]
     go_simp
     refine Shut.out hK _ _ ⟨?_,hO⟩
     simp only[XF,XP,sel_new]
     try rfl
   ·as_aux_lemma =>
     have d0:=hd 0 (by decide)
     have hx:=X47.out;subst hx
     have hx:=X48.out;subst hx
     simp only[XF,XP,sel_of d0]at ha
     subst ha
     rw[if_pos (by rfl)]
     go_simp
     refine Shut.out hK _ _ ⟨?_,hO⟩
     simp only[XF,XP,sel_new,sel_dep d0]
     try rfl
   ·as_aux_lemma =>
     have hx:=X49.out;subst hx
     simp only[XF,XP]at ha
     subst ha
     rw[if_pos (by rfl)]
     go_simp
     refine Shut.out hK _ _ ⟨?_,hO⟩
     simp only[XF,XP,sel_new]
     try rfl
   ·as_aux_lemma =>
     have d2:=hd 2 (by decide)
     have hx:=X49.out;subst hx
     have hx:=X50.out;subst hx
     simp only[XF,XP,sel_of d2]at ha
     subst ha
     rw[if_pos (by rfl)]
     go_simp
     refine Shut.out hK _ _ ⟨?_,hO⟩
     simp only[XF,XP,sel_new,sel_dep d2]
     try rfl
   ·as_aux_lemma =>
     have d3:=hd 3 (by decide)
     have hx:=X50.out;subst hx
     have hx:=X51.out;subst hx
     simp only[XF,XP,sel_of d3]at ha
     subst ha
     rw[if_pos (by rfl)]
     go_simp
     refine Shut.out hK _ _ ⟨?_,hO⟩
     simp only[XF,XP,sel_new,sel_dep d3]
     try rfl
   ·as_aux_lemma =>
     have d4:=hd 4 (by decide)
     have hx:=X51.out;subst hx
     have hx:=X52.out;subst hx
     simp only[XF,XP,sel_of d4]at ha
     subst ha
     have c1:=hO.cell HC1q.out (fun c=>c)
     have lb:=World.block_lt_of_cell? wr _ c1
     rw[if_pos (by rfl)]
     go_simp
     refine Shut.out hK _ _ ⟨?_,hO⟩
     simp only[XF,XP,sel_new,sel_dep d4]
     try rfl
   ·as_aux_lemma =>
     have hx:=X53.out;subst hx
     simp only[XF,XP]at ha
     subst ha
     rw[if_pos (by rfl)]
     go_simp
     refine Shut.out hK _ _ ⟨?_,hO⟩
     simp only[XF,XP,sel_new]
     try rfl
   ·as_aux_lemma =>
     have d6:=hd 6 (by decide)
     have hx:=X53.out;subst hx
     have hx:=X54.out;subst hx
     simp only[XF,XP,sel_of d6]at ha
     subst ha
     rw[if_pos (by rfl)]
     go_simp
     refine Shut.out hK _ _ ⟨?_,hO⟩
     simp only[XF,XP,sel_new,sel_dep d6]
     try rfl
   ·as_aux_lemma =>
     have d7:=hd 7 (by decide)
     have hx:=X54.out;subst hx
     have hx:=X55.out;subst hx
     simp only[XF,XP,sel_of d7]at ha
     subst ha
     rw[if_pos (by rfl)]
     go_simp
     refine Shut.out hK _ _ ⟨?_,hO⟩
     simp only[XF,XP,sel_new,sel_dep d7]
     try rfl
   ·as_aux_lemma =>
     have d8:=hd 8 (by decide)
     have hx:=X55.out;subst hx
     have hx:=X56.out;subst hx
     simp only[XF,XP,sel_of d8]at ha
     subst ha
     have c4:=hO.cell HC4q.out (fun c=>c)
     have lb:=World.block_lt_of_cell? wr _ c4
     rw[if_pos (by rfl)]
     go_simp
     refine Shut.out hK _ _ ⟨?_,hO⟩
     simp only[XF,XP,sel_new,sel_dep d8]
     try rfl
   ·as_aux_lemma =>
     have d9:=hd 9 (by decide)
     have hx:=X56.out;subst hx
     have hx:=X57.out;subst hx
     simp only[XF,XP,sel_of d9]at ha
     subst ha
     rw[if_pos (by rfl)]
     go_simp
     refine Shut.out hK _ _ ⟨?_,hO⟩
     simp only[XF,XP,sel_new,sel_dep d9]
     try rfl
   ·as_aux_lemma =>
     have d1:=hd 1 (by decide)
     have hx:=X48.out;subst hx
     have hx:=X6.out;subst hx
     simp only[XF,XP,sel_of d1]at ha
     subst ha
     rw[if_pos (by rfl)]
     go_simp
     refine Shut.out hK _ _ ⟨?_,hO⟩
     simp only[XF,XP,sel_new,sel_dep d1]
     try rfl
   ·as_aux_lemma =>
     have d5:=hd 5 (by decide)
     have hx:=X52.out;subst hx
     have hx:=X7.out;subst hx
     simp only[XF,XP,sel_of d5]at ha
     subst ha
     rw[if_pos (by rfl)]
     go_simp
     refine Shut.out hK _ _ ⟨?_,hO⟩
     simp only[XF,XP,sel_new,sel_dep d5]
     try rfl
   ·as_aux_lemma =>
     have d10:=hd 10 (by decide)
     have hx:=X57.out;subst hx
     have hx:=X8.out;subst hx
     simp only[XF,XP,sel_of d10]at ha
     subst ha
     rw[if_pos (by rfl)]
     go_simp
     refine Shut.out hK _ _ ⟨?_,hO⟩
     simp only[XF,XP,sel_new,sel_dep d10]
     try rfl
   rintro l a wc ⟨ha,hO⟩ hd
   simp only[XF,XP,sel_of (hd 0 (by decide)),sel_of (hd 1 (by decide)),sel_of (hd 2 (by decide)),sel_of (hd 3 (by decide)),sel_of (hd 4 (by decide)),sel_of (hd 5 (by decide)),sel_of (hd 6 (by decide)),sel_of (hd 7 (by decide)),sel_of (hd 8 (by decide)),sel_of (hd 9 (by decide)),sel_of (hd 10 (by decide)),sel_of (hd 11 (by decide)),sel_of (hd 12 (by decide)),sel_of (hd 13 (by decide))]at ha
   subst ha
   have hx:=X6.out;subst hx
   have hx:=X7.out;subst hx
   have hx:=X8.out;subst hx
   have HO9:=hid (HO8.out.trans hO (fun _ _ c=>c))
   have HP2:=hid (HP2.out.off0 hO)
   have HP3:=hid (HP3.out.off0 hO)
   have HP4:=hid (HP4.out.off0 hO)
   clear hO hd
   go_wp2_with fail
   refine(FE.out _).mono ?_
   rintro e u10 ⟨v10,rfl,hv,hO⟩
   have HO10:=hid (HO9.out.trans hO (fun _ _ c=>c))
   have HV:=hid hv
   have HP2:=hid (HP2.out.off0 hO)
   have HP3:=hid (HP3.out.off0 hO)
   have HP4:=hid (HP4.out.off0 hO)
   clear hO hv
   go_wp2_with fail
   refine(FE2.out _).mono ?_
   rintro e u11 ⟨v11,rfl,hv,hO⟩
   have HO11:=hid (HO10.out.trans hO (fun _ _ c=>c))
   have HU:=hid hv
   have HP2:=hid (HP2.out.off0 hO)
   have HP3:=hid (HP3.out.off0 hO)
   have HP4:=hid (HP4.out.off0 hO)
   have HV:=hid (HV.out.off hO)
   clear hO hv
   go_wp2_with fail
   refine(FAL.out _ (HT.out.off HO11.out)).mono ?_
   rintro e u12 ⟨rfl,hO⟩
   have HO12:=hid (HO11.out.trans hO (fun _ _ c=>c))
   have HV:=hid (HV.out.off hO)
   have HU:=hid (HU.out.off hO)
   have HP2:=hid (HP2.out.off0 hO)
   have HP3:=hid (HP3.out.off0 hO)
   have HP4:=hid (HP4.out.off0 hO)
   clear hO
   go_wp2_with fail
   refine(ev_events HP2.out (by have:=HEv.out;omega)).mono ?_
   rintro e u13 ⟨v13,rfl,hv,hO⟩
   have HO13:=hid (HO12.out.trans hO (fun _ _ c=>c))
   have HV:=hid (HV.out.off hO)
   have HU:=hid (HU.out.off hO)
   have HG:=hid hv
   have HP2:=hid (HP2.out.off0 hO)
   have HP3:=hid (HP3.out.off0 hO)
   have HP4:=hid (HP4.out.off0 hO)
   clear hO hv
   go_wp2_with fail
   refine(ev_same HG.out HV.out (by have:=HEv.out;omega)).mono ?_
   rintro e u14 ⟨rfl,hO⟩
   have HO14:=hid (HO13.out.trans hO (fun _ _ c=>c))
   have HV:=hid (HV.out.off hO)
   have HU:=hid (HU.out.off hO)
   have HP2:=hid (HP2.out.off0 hO)
   have HP3:=hid (HP3.out.off0 hO)
   have HP4:=hid (HP4.out.off0 hO)
   clear hO HG
   go_wp2_with fail
   refine(ev_events HP3.out (by have:=HEv.out;omega)).mono ?_
   rintro e u15 ⟨v15,rfl,hv,hO⟩
   have HO15:=hid (HO14.out.trans hO (fun _ _ c=>c))
   have HV:=hid (HV.out.off hO)
   have HU:=hid (HU.out.off hO)
   have HG:=hid hv
   have HP2:=hid (HP2.out.off0 hO)
   have HP3:=hid (HP3.out.off0 hO)
   have HP4:=hid (HP4.out.off0 hO)
   clear hO hv
   go_wp2_with fail
   refine(ev_same HG.out HV.out (by have:=HEv.out;omega)).mono ?_
   rintro e u16 ⟨rfl,hO⟩
   have HO16:=hid (HO15.out.trans hO (fun _ _ c=>c))
   have HV:=hid (HV.out.off hO)
   have HU:=hid (HU.out.off hO)
   have HP2:=hid (HP2.out.off0 hO)
   have HP3:=hid (HP3.out.off0 hO)
   have HP4:=hid (HP4.out.off0 hO)
   clear hO HG
   go_wp2_with fail
   refine(ev_events HP4.out (by have:=HEv.out;omega)).mono ?_
   rintro e u17 ⟨v17,rfl,hv,hO⟩
   have HO17:=hid (HO16.out.trans hO (fun _ _ c=>c))
   have HV:=hid (HV.out.off hO)
   have HU:=hid (HU.out.off hO)
   have HG:=hid hv
   have HP2:=hid (HP2.out.off0 hO)
   have HP3:=hid (HP3.out.off0 hO)
   have HP4:=hid (HP4.out.off0 hO)
   clear hO hv
   go_wp2_with fail
   refine(ev_same HG.out HU.out (by have:=HEv.out;omega)).mono ?_
   rintro e u18 ⟨rfl,hO⟩
   have HO18:=hid (HO17.out.trans hO (fun _ _ c=>c))
   have HV:=hid (HV.out.off hO)
   have HU:=hid (HU.out.off hO)
   have HP2:=hid (HP2.out.off0 hO)
   have HP3:=hid (HP3.out.off0 hO)
   have HP4:=hid (HP4.out.off0 hO)
   clear hO HG
   go_wp2
   go_ret
   exact⟨rfl,HO18.out⟩
  rw[if_neg htn]at hse3
  rw[if_neg hse3]at FA
  have hgt:¬(T:Int)<(n0:Int):=by omega
  clear hse3 htn
  go_enter Tryz.func6,Tryz.ntmps6
  go_wp2_with fail
  refine(FL.out).mono ?_
  rintro e u1 ⟨rfl,hO⟩
  have HO1:=hid (HOz.out.trans hO (fun _ _ c=>c))
  clear hO
  go_wp2_with fail
  refine(new_tp _).mono ?_
  rintro e u2 ⟨rfl,hTp,hO⟩
  obtain⟨t2,ht⟩:∃ t,t=u1.heap.size:=⟨_,rfl⟩
  rw[<-ht]at hTp ⊢
  have HZ2:=hid (show t2=u1.heap.size/\w.heap.size<=t2 from⟨ht,by rw[ht];exact HO1.out.size⟩)
  have HO2:=hid (HO1.out.trans hO (fun _ _ c=>c))
  obtain⟨S2,hS⟩:∃ S:Nat->Prop,S=fun k=>t2<=k/\k<u2.heap.size:=⟨_,rfl⟩
  rw[<-hS]at hTp
  have HB2:=hid (show ∀ k,S2 k->t2<=k/\k<u2.heap.size from fun k c=>by rw[hS]at c;exact c)
  have HP2:=hid hTp
  have HSz2:=hid hO.size
  clear hTp ht hS hO
  go_wp2_with fail
  refine(new_tp _).mono ?_
  rintro e u3 ⟨rfl,hTp,hO⟩
  obtain⟨t3,ht⟩:∃ t,t=u2.heap.size:=⟨_,rfl⟩
  rw[<-ht]at hTp ⊢
  have HZ3:=hid (show t3=u2.heap.size/\w.heap.size<=t3 from⟨ht,by rw[ht];exact HO2.out.size⟩)
  have HO3:=hid (HO2.out.trans hO (fun _ _ c=>c))
  obtain⟨S3,hS⟩:∃ S:Nat->Prop,S=fun k=>t3<=k/\k<u3.heap.size:=⟨_,rfl⟩
  rw[<-hS]at hTp
  have HB3:=hid (show ∀ k,S3 k->t3<=k/\k<u3.heap.size from fun k c=>by rw[hS]at c;exact c)
  have HP3:=hid hTp
  have HP2:=hid (HP2.out.off0 hO)
  have HSz3:=hid hO.size
  clear hTp ht hS hO
  go_wp2_with fail
  refine(new_tp _).mono ?_
  rintro e u4 ⟨rfl,hTp,hO⟩
  obtain⟨t4,ht⟩:∃ t,t=u3.heap.size:=⟨_,rfl⟩
  rw[<-ht]at hTp ⊢
  have HZ4:=hid (show t4=u3.heap.size/\w.heap.size<=t4 from⟨ht,by rw[ht];exact HO3.out.size⟩)
  have HO4:=hid (HO3.out.trans hO (fun _ _ c=>c))
  obtain⟨S4,hS⟩:∃ S:Nat->Prop,S=fun k=>t4<=k/\k<u4.heap.size:=⟨_,rfl⟩
  rw[<-hS]at hTp
  have HB4:=hid (show ∀ k,S4 k->t4<=k/\k<u4.heap.size from fun k c=>by rw[hS]at c;exact c)
  have HP4:=hid hTp
  have HP2:=hid (HP2.out.off0 hO)
  have HP3:=hid (HP3.out.off0 hO)
  have HSz4:=hid hO.size
  clear hTp ht hS hO
  have HS4:=hid (show u1.heap.size=t2/\t3=u2.heap.size/\t4=u3.heap.size/\u2.heap.size<=u3.heap.size/\u3.heap.size<=u4.heap.size/\t2<=t3 from⟨HZ2.out.1.symm,HZ3.out.1,HZ4.out.1,HSz3.out,HSz4.out,by rw[HZ2.out.1,HZ3.out.1];exact HSz2.out⟩)
  have HL4:=hid (Nat.le_refl u4.heap.size)
  go_wp2_with fail
  refine(FV.out _ HO4.out _ S2 HP2.out (fun b c=>Nat.le_trans HZ2.out.2 (HB2.out b c).1) (HT.out.off HO4.out)).mono ?_
  rintro e u5 ⟨rfl,hN,hO⟩
  obtain⟨S2',hp,hs⟩:=hN
  rw[ext_new]at hp
  have HP3:=hid (HP3.out.off hO (fun k c d=>by have h1:=HB2.out k c;have h2:=HB3.out k d;have h3:=HS4.out;omega))
  have HP4:=hid (HP4.out.off hO (fun k c d=>by have h1:=HB2.out k c;have h2:=HB4.out k d;have h3:=HS4.out;omega))
  have HP2:=hid hp
  have HQ2:=hid (show ∀ k,S2' k->S2 k\/u4.heap.size<=k from fun k c=>(hs k c).imp id (fun c=>Nat.le_trans HL4.out c))
  have HO5:=hid (HO4.out.trans hO (fun k hk c=>by have:=(HB2.out k c).1;have:=HZ2.out.2;omega))
  have HL5:=hid (Nat.le_trans HL4.out hO.size)
  clear hp hs hO
  go_wp2_with fail
  refine(FC.out _ HO5.out _ S3 HP3.out (fun b c=>Nat.le_trans HZ3.out.2 (HB3.out b c).1) (HT.out.off HO5.out)).mono ?_
  rintro e u6 ⟨v6,rfl,hN,hO⟩
  obtain⟨S3',hp,hs⟩:=hN
  rw[ext_new]at hp
  have HP2:=hid (HP2.out.off hO (fun k c d=>by rcases HQ2.out k d with d | d;(have h1:=HB3.out k c;have h2:=HB2.out k d;have h3:=HS4.out;omega);(have h1:=HB3.out k c;have h3:=HS4.out;omega)))
  have HP4:=hid (HP4.out.off hO (fun k c d=>by have h1:=HB3.out k c;have h2:=HB4.out k d;have h3:=HS4.out;omega))
  have HP3:=hid hp
  have HQ3:=hid (show ∀ k,S3' k->S3 k\/u4.heap.size<=k from fun k c=>(hs k c).imp id (fun c=>Nat.le_trans HL5.out c))
  have HO6:=hid (HO5.out.trans hO (fun k hk c=>by have:=(HB3.out k c).1;have:=HZ3.out.2;omega))
  have HL6:=hid (Nat.le_trans HL5.out hO.size)
  clear hp hs hO
  go_wp2_with fail
  refine(FA.out _ HO6.out _ S4 HP4.out (fun b c=>Nat.le_trans HZ4.out.2 (HB4.out b c).1) (HT.out.off HO6.out)).mono ?_
  rintro e u7 ⟨v7,rfl,hN,hO⟩
  obtain⟨S4',hp,hs⟩:=hN
  rw[ext_new]at hp
  have HP2:=hid (HP2.out.off hO (fun k c d=>by rcases HQ2.out k d with d | d;(have h1:=HB4.out k c;have h2:=HB2.out k d;have h3:=HS4.out;omega);(have h1:=HB4.out k c;have h3:=HS4.out;omega)))
  have HP3:=hid (HP3.out.off hO (fun k c d=>by rcases HQ3.out k d with d | d;(have h1:=HB4.out k c;have h2:=HB3.out k d;have h3:=HS4.out;omega);(have h1:=HB4.out k c;have h3:=HS4.out;omega)))
  have HP4:=hid hp
  have HQ4:=hid (show ∀ k,S4' k->S4 k\/u4.heap.size<=k from fun k c=>(hs k c).imp id (fun c=>Nat.le_trans HL6.out c))
  have HO7:=hid (HO6.out.trans hO (fun k hk c=>by have:=(HB4.out k c).1;have:=HZ4.out.2;omega))
  have HL7:=hid (Nat.le_trans HL6.out hO.size)
  clear hp hs hO
  go_wp2_with fail
  refine(FR.out _ HO7.out).mono ?_
  rintro e u8 ⟨rfl,hO⟩
  have HO8:=hid (HO7.out.trans hO (fun _ _ c=>c))
  have HP2:=hid (HP2.out.off0 hO)
  have HP3:=hid (HP3.out.off0 hO)
  have HP4:=hid (HP4.out.off0 hO)
  clear hO
  obtain⟨wq,hwq⟩:∃ wq,wq=u8:=⟨_,rfl⟩
  rw[<-hwq]at HO8 HP2 HP3 HP4 ⊢
  clear hwq
  have HC1q:=hid (HO8.out.cell HC1.out (fun c=>c))
  have HC4q:=hid (HO8.out.cell HC4.out (fun c=>c))
  go_upto_region 9 with fail
  obtain⟨x47,hx⟩:∃ vv:Value,vv=.slice (some ⟨b,off,none⟩) n0 cap0:=⟨_,rfl⟩
  have X47:=hid hx
  clear hx
  obtain⟨x48,hx⟩:∃ vv:Value,vv=.int .i64 n0:=⟨_,rfl⟩
  have X48:=hid hx
  clear hx
  obtain⟨x49,hx⟩:∃ vv:Value,vv=.slice (some ⟨b,off,none⟩) n0 cap0:=⟨_,rfl⟩
  have X49:=hid hx
  clear hx
  obtain⟨x50,hx⟩:∃ vv:Value,vv=.pointer (some ⟨b,off,none⟩):=⟨_,rfl⟩
  have X50:=hid hx
  clear hx
  obtain⟨x51,hx⟩:∃ vv:Value,vv=.pointer (some ⟨b,off+1,none⟩):=⟨_,rfl⟩
  have X51:=hid hx
  clear hx
  obtain⟨x52,hx⟩:∃ vv:Value,vv=.int .i64 T:=⟨_,rfl⟩
  have X52:=hid hx
  clear hx
  obtain⟨x53,hx⟩:∃ vv:Value,vv=.slice (some ⟨b,off,none⟩) n0 cap0:=⟨_,rfl⟩
  have X53:=hid hx
  clear hx
  obtain⟨x54,hx⟩:∃ vv:Value,vv=.pointer (some ⟨b,off,none⟩):=⟨_,rfl⟩
  have X54:=hid hx
  clear hx
  obtain⟨x55,hx⟩:∃ vv:Value,vv=.pointer (some ⟨b,off+4,none⟩):=⟨_,rfl⟩
  have X55:=hid hx
  clear hx
  obtain⟨x56,hx⟩:∃ vv:Value,vv=.slice qa cn qc:=⟨_,rfl⟩
  have X56:=hid hx
  clear hx
  obtain⟨x57,hx⟩:∃ vv:Value,vv=.int .i64 cn:=⟨_,rfl⟩
  have X57:=hid hx
  clear hx
  obtain⟨x6,hx⟩:∃ vv:Value,vv=.int .i64 n0:=⟨_,rfl⟩
  have X6:=hid hx
  clear hx
  obtain⟨x7,hx⟩:∃ vv:Value,vv=.int .i64 T:=⟨_,rfl⟩
  have X7:=hid hx
  clear hx
  obtain⟨x8,hx⟩:∃ vv:Value,vv=.int .i64 cn:=⟨_,rfl⟩
  have X8:=hid hx
  clear hx
  refine wp_region_clo (fun a0 l a' w'=>a'=(Act.put (Act.put (Act.put (fill a0 47 [sel (l 0) x47 (undef),sel (l 1) x48 (undef),sel (l 2) x49 (undef),sel (l 3) x50 (undef),sel (l 4) x51 (undef),sel (l 5) x52 (undef),sel (l 6) x53 (undef),sel (l 7) x54 (undef),sel (l 8) x55 (undef),sel (l 9) x56 (undef),sel (l 10) x57 (undef),undef,undef,undef,undef,undef,undef,undef,undef,undef,undef,undef,undef,undef,undef,undef,undef,undef,undef,undef,undef,undef,undef,undef,undef,undef,undef,undef,undef,undef,undef]) (some 6) (sel (l 11) x6 (undef))) (some 7) (sel (l 12) x7 (undef))) (some 8) (sel (l 13) x8 (undef)))/\Off (fun _=>False) wq w') (by kernel_rfl) (by kernel_rfl) ?_ ⟨?_,?_,?_,?_,?_,?_,?_,?_,?_,?_,?_,?_,?_,?_,trivial⟩ ?_
  ·refine⟨?_,(Off.refl _ wq).drew⟩
   simp only[XF,XP,sel_start]
   try rfl
  all_goals try (rintro l a wr ⟨ha,hO⟩ hc hl hd K' hK)
  ·as_aux_lemma =>
    have hx:=X47.out;subst hx
    simp only[XF,XP]at ha
    subst ha
    rw[if_pos (by rfl)]
    go_simp
    refine Shut.out hK _ _ ⟨?_,hO⟩
    simp only[XF,XP,sel_new]
    try rfl
  ·as_aux_lemma =>
    have d0:=hd 0 (by decide)
    have hx:=X47.out;subst hx
    have hx:=X48.out;subst hx
    simp only[XF,XP,sel_of d0]at ha
    subst ha
    rw[if_pos (by rfl)]
    go_simp
    refine Shut.out hK _ _ ⟨?_,hO⟩
    simp only[XF,XP,sel_new,sel_dep d0]
    try rfl
  ·as_aux_lemma =>
    have hx:=X49.out;subst hx
    simp only[XF,XP]at ha
    subst ha
    rw[if_pos (by rfl)]
    go_simp
    refine Shut.out hK _ _ ⟨?_,hO⟩
    simp only[XF,XP,sel_new]
    try rfl
  ·as_aux_lemma =>
    have d2:=hd 2 (by decide)
    have hx:=X49.out;subst hx
    have hx:=X50.out;subst hx
    simp only[XF,XP,sel_of d2]at ha
    subst ha
    rw[if_pos (by rfl)]
    go_simp
    refine Shut.out hK _ _ ⟨?_,hO⟩
    simp only[XF,XP,sel_new,sel_dep d2]
    try rfl
  ·as_aux_lemma =>
    have d3:=hd 3 (by decide)
    have hx:=X50.out;subst hx
    have hx:=X51.out;subst hx
    simp only[XF,XP,sel_of d3]at ha
    subst ha
    rw[if_pos (by rfl)]
    go_simp
    refine Shut.out hK _ _ ⟨?_,hO⟩
    simp only[XF,XP,sel_new,sel_dep d3]
    try rfl
  ·as_aux_lemma =>
    have d4:=hd 4 (by decide)
    have hx:=X51.out;subst hx
    have hx:=X52.out;subst hx
    simp only[XF,XP,sel_of d4]at ha
    subst ha
    have c1:=hO.cell HC1q.out (fun c=>c)
    have lb:=World.block_lt_of_cell? wr _ c1
    rw[if_pos (by rfl)]
    go_simp
    refine Shut.out hK _ _ ⟨?_,hO⟩
    simp only[XF,XP,sel_new,sel_dep d4]
    try rfl
  ·as_aux_lemma =>
    have hx:=X53.out;subst hx
    simp only[XF,XP]at ha
    subst ha
    rw[if_pos (by rfl)]
    go_simp
    refine Shut.out hK _ _ ⟨?_,hO⟩
    simp only[XF,XP,sel_new]
    try rfl
  ·as_aux_lemma =>
    have d6:=hd 6 (by decide)
    have hx:=X53.out;subst hx
    have hx:=X54.out;subst hx
    simp only[XF,XP,sel_of d6]at ha
    subst ha
    rw[if_pos (by rfl)]
    go_simp
    refine Shut.out hK _ _ ⟨?_,hO⟩
    simp only[XF,XP,sel_new,sel_dep d6]
    try rfl
  ·as_aux_lemma =>
    have d7:=hd 7 (by decide)
    have hx:=X54.out;subst hx
    have hx:=X55.out;subst hx
    simp only[XF,XP,sel_of d7]at ha
    subst ha
    rw[if_pos (by rfl)]
    go_simp
    refine Shut.out hK _ _ ⟨?_,hO⟩
    simp only[XF,XP,sel_new,sel_dep d7]
    try rfl
  ·as_aux_lemma =>
    have d8:=hd 8 (by decide)
    have hx:=X55.out;subst hx
    have hx:=X56.out;subst hx
    simp only[XF,XP,sel_of d8]at ha
    subst ha
    have c4:=hO.cell HC4q.out (fun c=>c)
    have lb:=World.block_lt_of_cell? wr _ c4
    rw[if_pos (by rfl)]
    go_simp
    refine Shut.out hK _ _ ⟨?_,hO⟩
    simp only[XF,XP,sel_new,sel_dep d8]
    try rfl
  ·as_aux_lemma =>
    have d9:=hd 9 (by decide)
    have hx:=X56.out;subst hx
    have hx:=X57.out;subst hx
    simp only[XF,XP,sel_of d9]at ha
    subst ha
    rw[if_pos (by rfl)]
    go_simp
    refine Shut.out hK _ _ ⟨?_,hO⟩
    simp only[XF,XP,sel_new,sel_dep d9]
    try rfl
  ·as_aux_lemma =>
    have d1:=hd 1 (by decide)
    have hx:=X48.out;subst hx
    have hx:=X6.out;subst hx
    simp only[XF,XP,sel_of d1]at ha
    subst ha
    rw[if_pos (by rfl)]
    go_simp
    refine Shut.out hK _ _ ⟨?_,hO⟩
    simp only[XF,XP,sel_new,sel_dep d1]
    try rfl
  ·as_aux_lemma =>
    have d5:=hd 5 (by decide)
    have hx:=X52.out;subst hx
    have hx:=X7.out;subst hx
    simp only[XF,XP,sel_of d5]at ha
    subst ha
    rw[if_pos (by rfl)]
    go_simp
    refine Shut.out hK _ _ ⟨?_,hO⟩
    simp only[XF,XP,sel_new,sel_dep d5]
    try rfl
  ·as_aux_lemma =>
    have d10:=hd 10 (by decide)
    have hx:=X57.out;subst hx
    have hx:=X8.out;subst hx
    simp only[XF,XP,sel_of d10]at ha
    subst ha
    rw[if_pos (by rfl)]
    go_simp
    refine Shut.out hK _ _ ⟨?_,hO⟩
    simp only[XF,XP,sel_new,sel_dep d10]
    try rfl
  rintro l a wc ⟨ha,hO⟩ hd
  simp only[XF,XP,sel_of (hd 0 (by decide)),sel_of (hd 1 (by decide)),sel_of (hd 2 (by decide)),sel_of (hd 3 (by decide)),sel_of (hd 4 (by decide)),sel_of (hd 5 (by decide)),sel_of (hd 6 (by decide)),sel_of (hd 7 (by decide)),sel_of (hd 8 (by decide)),sel_of (hd 9 (by decide)),sel_of (hd 10 (by decide)),sel_of (hd 11 (by decide)),sel_of (hd 12 (by decide)),sel_of (hd 13 (by decide))]at ha
  subst ha
  have hx:=X6.out;subst hx
  have hx:=X7.out;subst hx
  have hx:=X8.out;subst hx
  have HO9:=hid (HO8.out.trans hO (fun _ _ c=>c))
  have HP2:=hid (HP2.out.off0 hO)
  have HP3:=hid (HP3.out.off0 hO)
  have HP4:=hid (HP4.out.off0 hO)
  clear hO hd
  go_wp2_with fail
  refine(FE.out _).mono ?_
  rintro e u10 ⟨v10,rfl,hv,hO⟩
  have HO10:=hid (HO9.out.trans hO (fun _ _ c=>c))
  have HV:=hid hv
  have HP2:=hid (HP2.out.off0 hO)
  have HP3:=hid (HP3.out.off0 hO)
  have HP4:=hid (HP4.out.off0 hO)
  clear hO hv
  have HU:=hid (ev_none u10)
  go_wp2_with fail
  refine(FAL.out _ (HT.out.off HO10.out)).mono ?_
  rintro e u11 ⟨rfl,hO⟩
  have HO11:=hid (HO10.out.trans hO (fun _ _ c=>c))
  have HV:=hid (HV.out.off hO)
  have HU:=hid (HU.out.off hO)
  have HP2:=hid (HP2.out.off0 hO)
  have HP3:=hid (HP3.out.off0 hO)
  have HP4:=hid (HP4.out.off0 hO)
  clear hO
  go_wp2_with fail
  refine(ev_events HP2.out (by have:=HEv.out;omega)).mono ?_
  rintro e u12 ⟨v12,rfl,hv,hO⟩
  have HO12:=hid (HO11.out.trans hO (fun _ _ c=>c))
  have HV:=hid (HV.out.off hO)
  have HU:=hid (HU.out.off hO)
  have HG:=hid hv
  have HP2:=hid (HP2.out.off0 hO)
  have HP3:=hid (HP3.out.off0 hO)
  have HP4:=hid (HP4.out.off0 hO)
  clear hO hv
  go_wp2_with fail
  refine(ev_same HG.out HV.out (by have:=HEv.out;omega)).mono ?_
  rintro e u13 ⟨rfl,hO⟩
  have HO13:=hid (HO12.out.trans hO (fun _ _ c=>c))
  have HV:=hid (HV.out.off hO)
  have HU:=hid (HU.out.off hO)
  have HP2:=hid (HP2.out.off0 hO)
  have HP3:=hid (HP3.out.off0 hO)
  have HP4:=hid (HP4.out.off0 hO)
  clear hO HG
  go_wp2_with fail
  refine(ev_events HP3.out (by have:=HEv.out;omega)).mono ?_
  rintro e u14 ⟨v14,rfl,hv,hO⟩
  have HO14:=hid (HO13.out.trans hO (fun _ _ c=>c))
  have HV:=hid (HV.out.off hO)
  have HU:=hid (HU.out.off hO)
  have HG:=hid hv
  have HP2:=hid (HP2.out.off0 hO)
  have HP3:=hid (HP3.out.off0 hO)
  have HP4:=hid (HP4.out.off0 hO)
  clear hO hv
  go_wp2_with fail
  refine(ev_same HG.out HV.out (by have:=HEv.out;omega)).mono ?_
  rintro e u15 ⟨rfl,hO⟩
  have HO15:=hid (HO14.out.trans hO (fun _ _ c=>c))
  have HV:=hid (HV.out.off hO)
  have HU:=hid (HU.out.off hO)
  have HP2:=hid (HP2.out.off0 hO)
  have HP3:=hid (HP3.out.off0 hO)
  have HP4:=hid (HP4.out.off0 hO)
  clear hO HG
  go_wp2_with fail
  refine(ev_events HP4.out (Nat.zero_le _)).mono ?_
  rintro e u16 ⟨v16,rfl,hv,hO⟩
  have HO16:=hid (HO15.out.trans hO (fun _ _ c=>c))
  have HV:=hid (HV.out.off hO)
  have HU:=hid (HU.out.off hO)
  have HG:=hid hv
  have HP2:=hid (HP2.out.off0 hO)
  have HP3:=hid (HP3.out.off0 hO)
  have HP4:=hid (HP4.out.off0 hO)
  clear hO hv
  go_wp2_with fail
  refine(ev_same HG.out HU.out (Nat.zero_le _)).mono ?_
  rintro e u17 ⟨rfl,hO⟩
  have HO17:=hid (HO16.out.trans hO (fun _ _ c=>c))
  have HV:=hid (HV.out.off hO)
  have HU:=hid (HU.out.off hO)
  have HP2:=hid (HP2.out.off0 hO)
  have HP3:=hid (HP3.out.off0 hO)
  have HP4:=hid (HP4.out.off0 hO)
  clear hO HG
  go_wp2
  go_ret
  exact⟨rfl,HO17.out⟩
 have hse3:se≠0:=by
  rcases susE_cases l0 with ⟨e1,e2⟩ | ⟨_,e2,_⟩ | ⟨_,e2,_⟩
  ·rw[hse,e1];exact e2
  ·exact absurd (hc.trans e2) h0
  exact absurd (hc.trans e2) h0
 rw[if_neg h0]at FV FC
 rw[if_neg hse3]at FA
 have k3:¬(c:Int)=0:=by omega
 have k2:((c:Int) != 0)=true:=by simp;omega
 clear h0 hse3 hc hse hbl hpt hp5 hl3 hcc hl7 hev hes
 go_enter Tryz.func6,Tryz.ntmps6
 go_wp2_with fail
 refine(FL.out).mono ?_
 rintro e u1 ⟨rfl,hO⟩
 have HO1:=hid (HOz.out.trans hO (fun _ _ c=>c))
 clear hO
 go_wp2_with fail
 refine(new_tp _).mono ?_
 rintro e u2 ⟨rfl,hTp,hO⟩
 obtain⟨t2,ht⟩:∃ t,t=u1.heap.size:=⟨_,rfl⟩
 rw[<-ht]at hTp ⊢
 have HZ2:=hid (show t2=u1.heap.size/\w.heap.size<=t2 from⟨ht,by rw[ht];exact HO1.out.size⟩)
 have HO2:=hid (HO1.out.trans hO (fun _ _ c=>c))
 obtain⟨S2,hS⟩:∃ S:Nat->Prop,S=fun k=>t2<=k/\k<u2.heap.size:=⟨_,rfl⟩
 rw[<-hS]at hTp
 have HB2:=hid (show ∀ k,S2 k->t2<=k/\k<u2.heap.size from fun k c=>by rw[hS]at c;exact c)
 have HP2:=hid hTp
 have HSz2:=hid hO.size
 clear hTp ht hS hO
 go_wp2_with fail
 refine(new_tp _).mono ?_
 rintro e u3 ⟨rfl,hTp,hO⟩
 obtain⟨t3,ht⟩:∃ t,t=u2.heap.size:=⟨_,rfl⟩
 rw[<-ht]at hTp ⊢
 have HZ3:=hid (show t3=u2.heap.size/\w.heap.size<=t3 from⟨ht,by rw[ht];exact HO2.out.size⟩)
 have HO3:=hid (HO2.out.trans hO (fun _ _ c=>c))
 obtain⟨S3,hS⟩:∃ S:Nat->Prop,S=fun k=>t3<=k/\k<u3.heap.size:=⟨_,rfl⟩
 rw[<-hS]at hTp
 have HB3:=hid (show ∀ k,S3 k->t3<=k/\k<u3.heap.size from fun k c=>by rw[hS]at c;exact c)
 have HP3:=hid hTp
 have HP2:=hid (HP2.out.off0 hO)
 have HSz3:=hid hO.size
 clear hTp ht hS hO
 go_wp2_with fail
 refine(new_tp _).mono ?_
 rintro e u4 ⟨rfl,hTp,hO⟩
 obtain⟨t4,ht⟩:∃ t,t=u3.heap.size:=⟨_,rfl⟩
 rw[<-ht]at hTp ⊢
 have HZ4:=hid (show t4=u3.heap.size/\w.heap.size<=t4 from⟨ht,by rw[ht];exact HO3.out.size⟩)
 have HO4:=hid (HO3.out.trans hO (fun _ _ c=>c))
 obtain⟨S4,hS⟩:∃ S:Nat->Prop,S=fun k=>t4<=k/\k<u4.heap.size:=⟨_,rfl⟩
 rw[<-hS]at hTp
 have HB4:=hid (show ∀ k,S4 k->t4<=k/\k<u4.heap.size from fun k c=>by rw[hS]at c;exact c)
 have HP4:=hid hTp
 have HP2:=hid (HP2.out.off0 hO)
 have HP3:=hid (HP3.out.off0 hO)
 have HSz4:=hid hO.size
 clear hTp ht hS hO
 have HS4:=hid (show u1.heap.size=t2/\t3=u2.heap.size/\t4=u3.heap.size/\u2.heap.size<=u3.heap.size/\u3.heap.size<=u4.heap.size/\t2<=t3 from⟨HZ2.out.1.symm,HZ3.out.1,HZ4.out.1,HSz3.out,HSz4.out,by rw[HZ2.out.1,HZ3.out.1];exact HSz2.out⟩)
 have HL4:=hid (Nat.le_refl u4.heap.size)
 go_wp2_with fail
 refine(FV.out _ HO4.out _ S2 HP2.out (fun b c=>Nat.le_trans HZ2.out.2 (HB2.out b c).1) (HT.out.off HO4.out)).mono ?_
 rintro e u5 ⟨rfl,hN,hO⟩
 obtain⟨S2',hp,hs⟩:=hN
 rw[ext_new]at hp
 have HP3:=hid (HP3.out.off hO (fun k c d=>by have h1:=HB2.out k c;have h2:=HB3.out k d;have h3:=HS4.out;omega))
 have HP4:=hid (HP4.out.off hO (fun k c d=>by have h1:=HB2.out k c;have h2:=HB4.out k d;have h3:=HS4.out;omega))
 have HP2:=hid hp
 have HQ2:=hid (show ∀ k,S2' k->S2 k\/u4.heap.size<=k from fun k c=>(hs k c).imp id (fun c=>Nat.le_trans HL4.out c))
 have HO5:=hid (HO4.out.trans hO (fun k hk c=>by have:=(HB2.out k c).1;have:=HZ2.out.2;omega))
 have HL5:=hid (Nat.le_trans HL4.out hO.size)
 clear hp hs hO
 go_wp2_with fail
 refine(FC.out _ HO5.out _ S3 HP3.out (fun b c=>Nat.le_trans HZ3.out.2 (HB3.out b c).1) (HT.out.off HO5.out)).mono ?_
 rintro e u6 ⟨v6,rfl,hN,hO⟩
 obtain⟨S3',hp,hs⟩:=hN
 rw[ext_new]at hp
 have HP2:=hid (HP2.out.off hO (fun k c d=>by rcases HQ2.out k d with d | d;(have h1:=HB3.out k c;have h2:=HB2.out k d;have h3:=HS4.out;omega);(have h1:=HB3.out k c;have h3:=HS4.out;omega)))
 have HP4:=hid (HP4.out.off hO (fun k c d=>by have h1:=HB3.out k c;have h2:=HB4.out k d;have h3:=HS4.out;omega))
 have HP3:=hid hp
 have HQ3:=hid (show ∀ k,S3' k->S3 k\/u4.heap.size<=k from fun k c=>(hs k c).imp id (fun c=>Nat.le_trans HL5.out c))
 have HO6:=hid (HO5.out.trans hO (fun k hk c=>by have:=(HB3.out k c).1;have:=HZ3.out.2;omega))
 have HL6:=hid (Nat.le_trans HL5.out hO.size)
 clear hp hs hO
 go_wp2_with fail
 refine(FA.out _ HO6.out _ S4 HP4.out (fun b c=>Nat.le_trans HZ4.out.2 (HB4.out b c).1) (HT.out.off HO6.out)).mono ?_
 rintro e u7 ⟨v7,rfl,hN,hO⟩
 obtain⟨S4',hp,hs⟩:=hN
 rw[ext_new]at hp
 have HP2:=hid (HP2.out.off hO (fun k c d=>by rcases HQ2.out k d with d | d;(have h1:=HB4.out k c;have h2:=HB2.out k d;have h3:=HS4.out;omega);(have h1:=HB4.out k c;have h3:=HS4.out;omega)))
 have HP3:=hid (HP3.out.off hO (fun k c d=>by rcases HQ3.out k d with d | d;(have h1:=HB4.out k c;have h2:=HB3.out k d;have h3:=HS4.out;omega);(have h1:=HB4.out k c;have h3:=HS4.out;omega)))
 have HP4:=hid hp
 have HQ4:=hid (show ∀ k,S4' k->S4 k\/u4.heap.size<=k from fun k c=>(hs k c).imp id (fun c=>Nat.le_trans HL6.out c))
 have HO7:=hid (HO6.out.trans hO (fun k hk c=>by have:=(HB4.out k c).1;have:=HZ4.out.2;omega))
 have HL7:=hid (Nat.le_trans HL6.out hO.size)
 clear hp hs hO
 go_wp2_with fail
 refine(FR.out _ HO7.out).mono ?_
 rintro e u8 ⟨rfl,hO⟩
 have HO8:=hid (HO7.out.trans hO (fun _ _ c=>c))
 have HP2:=hid (HP2.out.off0 hO)
 have HP3:=hid (HP3.out.off0 hO)
 have HP4:=hid (HP4.out.off0 hO)
 clear hO
 go_wp2_with fail
 refine(FAL.out _ (HT.out.off HO8.out)).mono ?_
 rintro e u9 ⟨rfl,hO⟩
 have HO9:=hid (HO8.out.trans hO (fun _ _ c=>c))
 have HP2:=hid (HP2.out.off0 hO)
 have HP3:=hid (HP3.out.off0 hO)
 have HP4:=hid (HP4.out.off0 hO)
 clear hO
 go_wp2_with fail
 refine(len_any _ _ _ _ HP2.out.1).mono ?_
 rintro e y2 ⟨rfl,rfl⟩
 go_wp2_with fail
 refine(len_any _ _ _ _ HP3.out.1).mono ?_
 rintro e y3 ⟨rfl,rfl⟩
 go_wp2_with fail
 refine(len_any _ _ _ _ HP4.out.1).mono ?_
 rintro e y4 ⟨rfl,rfl⟩
 go_wp2
 go_ret
 exact⟨rfl,HO9.out⟩

theorem door_met (os : Os) (args : Array Value) : laidMetH Tryz.prog [("sharecore/field.fields",Rows.laid_sharecore_field_fields)] ((World.doorLaid Tryz.prog 400 os).forCall (fun _ _ => 0) ⟨#[],args,[]⟩).memory :=
 laidMetH_of_parts3 (fuel:=8) (laidMet_of_run' 8 (by kernel_rfl) (by kernel_rfl)) (by kernel_rfl) (by kernel_rfl)

set_option maxRecDepth 100000 in
theorem lifted (os:Os) (started:os.Started) (H:Type) (enc:TypeId × Value->H) :
  ReturnsInHanded {} Tryz.checked os 6 .any (fun w args => (Rows.auditEventsSpec.pre enc Tryz.prog Tryz.f6 [] false w args /\ laidMetH Tryz.prog [("sharecore/field.fields",Rows.laid_sharecore_field_fields)] w) /\ sizedMet enc Tryz.prog Tryz.f6 (OpenSpec.ofChange Rows.auditEventsSpec) false w args)
   (Rows.auditEventsSpec.post enc Tryz.prog Tryz.f6 false true false false):=by
 refine returnsInHanded_of_change_and (C := Tryz.checked) (X := fun w _ => laidMetH Tryz.prog [("sharecore/field.fields",Rows.laid_sharecore_field_fields)] w) (fun _ _ _ hh h => h.of_heap hh) own started (by kernel_rfl) Tryz.func6
  (ChangeSpec.witness_shaped (enc := enc) (C := Tryz.checked) (os := os) (X := fun w _ => laidMetH Tryz.prog [("sharecore/field.fields",Rows.laid_sharecore_field_fields)] w) false (World.doorLaid Tryz.prog 400 os) #[.slice none 0 0] 8 rfl (World.shaped_of_RefB (by kernel_rfl) (by kernel_rfl)) (by kernel_rfl) (by kernel_rfl) (by kernel_rfl) (door_met os _)) ?_
 intro W base args ds gs before hval0 hW _ hsz hL _
 have hval:∀ (j:Nat) t v,Tryz.f6.params[j]?=some t->args[j]?=some v->Value.okWide Tryz.prog W .any base t v:=hval0
 have hW':=hW
 obtain⟨p,q,hA0,hV,rfl,hfz,hnd⟩:=hW
 have hA:DataW.TrodAll enc Tryz.prog W 0 (fun _=>true) true Tryz.f6.params.toList args.toList ds p:=hA0
 rw[Tryz.params6]at hA hval
 obtain⟨v0,vs0,d0,ds0,p0,q0,hargs,rfl,rfl,h0,r0⟩:=trodAll_cons hA
 obtain⟨rfl,rfl,rfl⟩:=trodAll_nil r0
 obtain rfl:args=#[v0]:=by cases args;simp_all
 obtain⟨rfl,rfl⟩:=trodVars_none hV
 obtain⟨a0,n0,cap0,rfl⟩:=okWide_slice Tryz.underlying22 (hval 0 22 v0 rfl rfl)
 have k0:=h0
 have lt0:∀ x∈p0,x.block<W.heap.size:=by obtain⟨m,hm⟩:=k0;exact DataW.trod_lt m _ _ _ hm
 obtain⟨l0,hn0,w0⟩:∃ l,n0=l.length/\ShsAt W (.slice a0 n0 cap0) l (fun k=>k<W.heap.size):=by
  obtain⟨fuel,hf⟩:=h0
  exact shares_of_trod hf
 have hT:=tab_of_laid hL
 clear hA0 hval0
 refine(walk a0 n0 cap0 l0 W hn0 w0 hT).mono fun e W' ⟨he,hoff⟩=>?_
 have bel:Below W.heap.size W W':=hoff.below (Nat.le_refl _) (fun _ _ c=>c)
 subst he
 exact⟨_,rfl,_,_,_,[],_,[],hW',trodAll_mk1 (shut_bool Tryz.underlying4 _),(trodAll_cons_mk (Below.trod laidOut (by kernel_rfl) (of_decide_eq_true (by kernel_rfl)) k0 bel lt0) trodAll_mk0),rfl,bel.frame _,fun h=>by cases h⟩

theorem over:Rows.auditEventsRow.holds Tryz.pinned (OpenSpec.ofChange Rows.auditEventsSpec) :=
 OpenClaim.holds_of_wide 6 Tryz.f6 rfl rfl rfl rfl rfl rfl rfl ⟨rfl,rfl,rfl,rfl,rfl⟩ rfl rfl rfl rfl rfl (by kernel_rfl) Tryz.func6 (by kernel_rfl)
  (of_decide_eq_true (by kernel_rfl)) (by unfold Func.isWrapper;first | (rw[if_pos (by decide +kernel)];kernel_rfl) | (rw[if_neg (by decide +kernel)];exact⟨rfl,rfl⟩))
  (fun os started H enc _=>lifted os started H enc)

theorem proved:Rows.AuditEventsCardSaid :=
 Claim7.holds_tied_plain_at .later [] [.data] true (true,"0fc5020064acd828dfc8f62f6b9ca55535e9ae70cf342fa538ab833d24d2144e") false
  over (fun _ h=>by cases h) (by kernel_rfl) (fun _ h=>by cases h) auditEvents_row_tie rfl ⟨rfl,rfl⟩ (by kernel_rfl) rfl
  (fun f fn hf hfn=>by
   obtain rfl : f = 6 := Option.some.inj ((show Tryz.prog.funcNamed "sharecore/sharecorelaw18.AuditEvents" = some 6 by kernel_rfl).symm.trans hf) |>.symm
   obtain rfl:fn=Tryz.f6:=(Option.some.inj (Tryz.func6.symm.trans hfn)).symm
   exact⟨by kernel_rfl,fun j t ht=>by
    rw[Tryz.params6]at ht
    have hm:t∈[22]:=by simpa using Array.mem_of_getElem? ht
    have hall:([22].all fun u=>!Tryz.prog.wantsStandIn u)=true:=by kernel_rfl
    exact(show Tryz.prog.wantsStandIn t=false by simpa using List.all_eq_true.1 hall t hm)⟩)
  (by kernel_rfl)
#print axioms proved
end Go.Proofs.YtbkgghhngeibhaaGreatDoor.auditEvents
