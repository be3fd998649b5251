/-
  The statements' own alive of layer 18 over this seat's translation. Condition: the table of fields lies in memory as it was laid.
-/
import Derived.Test.YtbkgghhngeibhaaGreatDoorAudEq
import Derived.Test.YtbkgghhngeibhaaGreatDoorAudSome
import Derived.Test.YtbkgghhngeibhaaGreatDoorAudTwo
namespace Go.Proofs.YtbkgghhngeibhaaGreatDoor
open Lib (hid)
open Go.RowKit
attribute [local go_sem ↓] Go.wp_at_zero Go.wp_at_succ
set_option maxRecDepth 100000
set_option maxHeartbeats 4000000
set_option linter.unusedSimpArgs false
def q18:Pms:=⟨1,2,3,1⟩
def rnd18:List Nat:=3::List.replicate 63 0
def tri (z1 z2 z3:Nat):List Sh:=[⟨1,2,1,1,[z1]⟩,⟨1,2,2,1,[z2]⟩,⟨1,2,3,1,[z3]⟩]
def F18 (n:Nat):Nat:=fm (modN 1) n
theorem pol18:polE q18 [5] rnd18=0:=by decide +kernel
theorem a18_eq:shrsN q18 (modN q18.fd) (polsN q18 [5] rnd18)=tri (F18 8) (F18 11) (F18 14):=by
 have p1:payN (modN 1) (polsN q18 [5] rnd18) 1=[F18 8]:=by decide +kernel
 have p2:payN (modN 1) (polsN q18 [5] rnd18) 2=[F18 11]:=by decide +kernel
 have p3:payN (modN 1) (polsN q18 [5] rnd18) 3=[F18 14]:=by decide +kernel
 show [shrN q18 (modN 1) (polsN q18 [5] rnd18) 1,shrN q18 (modN 1) (polsN q18 [5] rnd18) 2,shrN q18 (modN 1) (polsN q18 [5] rnd18) 3]=_
 unfold shrN
 rw[p1,p2,p3];rfl
theorem a18_some:SomeS q18 [5] rnd18 (tri (F18 8) (F18 11) (F18 14)):=⟨⟨_,List.Perm.refl _,by rw[a18_eq];exact List.Sublist.refl _⟩,by decide⟩
theorem a18_ok:shsN (tri (F18 8) (F18 11) (F18 14))=0:=a18_some.ok pol18
theorem a18_con:conL (tri (F18 8) (F18 11) (F18 14))=true:=a18_some.con pol18
theorem b18_chg:Chg q18 (tri (F18 8) (F18 11) (F18 15)) 2 0 (F18 1):=by
 have h:=a18_some.chg pol18 (i:=2) (k:=0) (s:=⟨1,2,3,1,[F18 14]⟩) rfl (by decide) (d:=F18 1) (fm_lt (by decide) 1) (x:=F18 14) rfl (by decide)
 have e:(F18 14+F18 1)%modN q18.fd=F18 15:=by
  show(fm (modN 1) 14+fm (modN 1) 1)%modN 1=fm (modN 1) 15
  rw[fm_add];rfl
 rw[e]at h
 exact h
theorem b18_ne:decide (F18 1=0)=false:=by decide +kernel
theorem b18_con:conL (tri (F18 8) (F18 11) (F18 15))=false:=by rw[b18_chg.con,b18_ne]
theorem b18_cJ (z1 z2 z3:Nat):cJ (tri z1 z2 z3)=1:=by show cntI 1=1;decide
theorem b18_chs:chsL (tri (F18 8) (F18 11) (F18 15))=[false]:=by
 have h:=b18_chg.atk
 rw[b18_ne]at h
 have hl:(chsL (tri (F18 8) (F18 11) (F18 15))).length=1:=by unfold chsL;rw[List.length_map,List.length_range,b18_cJ]
 match hc:chsL (tri (F18 8) (F18 11) (F18 15)),hl with
 | [y],_=>rw[hc]at h;simp at h;rw[h]
theorem b18_sus:susE (tri (F18 8) (F18 11) (F18 15))=0/\susV (tri (F18 8) (F18 11) (F18 15))=[0,1,2]:=by
 have h0:=b18_chg.ok
 have hT:TJ (tri (F18 8) (F18 11) (F18 15))=2:=rfl
 have hE:susE (tri (F18 8) (F18 11) (F18 15))=0:=by
  unfold susE
  rw[if_neg (fun c=>c h0),if_neg (by decide)]
 refine⟨hE,?_⟩
 have hc:∀ i,i<3->conL ((tri (F18 8) (F18 11) (F18 15)).eraseIdx i)=true:=fun i hi=>con_few (by
  rw[(acc_erase h0 (by decide) i).2.2.1,hT,List.length_eraseIdx]
  split
  ·exact Nat.le_refl 2
  next c=>exact absurd hi c)
 unfold susV
 rw[if_neg (fun c=>c hE)]
 show(List.range 3).filter _=_
 simp only[List.range_succ,List.range_zero,List.nil_append,List.cons_append,List.filter_cons,List.filter_nil,hc 0 (by omega),hc 1 (by omega),hc 2 (by omega),if_pos]
theorem tri_pl (z1 z2 z3:Nat):∀ s∈tri z1 z2 z3,s.pl.length<=1000:=fun s hs=>by
 simp only[tri,List.mem_cons,List.not_mem_nil,or_false]at hs
 rcases hs with rfl | rfl | rfl <;> simp
def tricells (g1 g2 g3:Nat):Array Value:=#[.int .i64 1,.int .i64 2,.int .i64 1,.int .i64 1,.slice (some ⟨g1,0,none⟩) 1 1,.int .i64 1,.int .i64 2,.int .i64 2,.int .i64 1,.slice (some ⟨g2,0,none⟩) 1 1,.int .i64 1,.int .i64 2,.int .i64 3,.int .i64 1,.slice (some ⟨g3,0,none⟩) 1 1]
theorem tri_at {W:World} {nb g1 g2 g3 z1 z2 z3:Nat} (e1:z1<R256) (e2:z2<R256) (e3:z3<R256) (h1:NumsAt W g1 66 [z1]) (h2:NumsAt W g2 66 [z2]) (h3:NumsAt W g3 66 [z3]) (hn:W.heap[nb]?=some (.cells (tricells g1 g2 g3) 45 (0,0))):ShsAt W (.slice (some ⟨nb,0,none⟩) 3 3) (tri z1 z2 z3) (fun k=>k<W.heap.size):=by
 have v8:∀ {g z:Nat},z<R256->NumsAt W g 66 [z]->VsAt W (.slice (some ⟨g,0,none⟩) 1 1) [z] (fun k=>k<W.heap.size):=fun {g z} hz h=>by
  refine⟨some ⟨g,0,none⟩,1,rfl,by unfold maxLen;simp,fun x hx=>by rw[List.mem_singleton.1 hx];exact hz,fun _=>⟨g,0,rfl,NumsAt.lt h,fun j x hj=>?_⟩⟩
  have:=NumsAt.cell h hj
  rw[Nat.zero_add]
  exact this
 have hok:∀ (i:Int) (z:Nat),1<=i/\i<=3->z<R256->(⟨1,2,i,1,[z]⟩:Sh).ok:=fun i z hi hz=>⟨rfl,rfl,WalkArith.wf_i64 (by show -9223372036854775808<=i/\i<=9223372036854775807;omega),rfl,fun x hx=>by rw[List.mem_singleton.1 hx];exact hz⟩
 refine⟨some ⟨nb,0,none⟩,3,rfl,Nat.le_refl _,by unfold maxLen;simp[tri],fun s hs=>?_,fun _=>⟨nb,0,rfl,heap_lt hn,fun j s hj=>?_⟩⟩
 ·simp only[tri,List.mem_cons,List.not_mem_nil,or_false]at hs
  rcases hs with rfl | rfl | rfl
  ·exact hok _ _ (by omega) e1
  ·exact hok _ _ (by omega) e2
  exact hok _ _ (by omega) e3
 match j,hj with
 | 0,hj =>
  cases hj
  exact⟨cell_of_heap hn 0,cell_of_heap hn 1,cell_of_heap hn 2,cell_of_heap hn 3,some ⟨g1,0,none⟩,1,cell_of_heap hn 4,Nat.le_refl _,v8 e1 h1⟩
 | 1,hj =>
  cases hj
  exact⟨cell_of_heap hn 5,cell_of_heap hn 6,cell_of_heap hn 7,cell_of_heap hn 8,some ⟨g2,0,none⟩,1,cell_of_heap hn 9,Nat.le_refl _,v8 e2 h2⟩
 | 2,hj =>
  cases hj
  exact⟨cell_of_heap hn 10,cell_of_heap hn 11,cell_of_heap hn 12,cell_of_heap hn 13,some ⟨g3,0,none⟩,1,cell_of_heap hn 14,Nat.le_refl _,v8 e3 h3⟩
 | n+3,hj=>simp[tri]at hj
theorem s18_any (p:Nat) (hp:p<R256) (h1:1<p) (b v:Nat) (hv:v<256) (i:Int) (w:World) (hb:w.heap[b]?=some (.cells #[.int .u64 (wd p 0),.int .u64 (wd p 1),.int .u64 (wd p 2),.int .u64 (wd p 3)] 63 (0,0))) :
  Calls Tryz.prog 34 #[.int .i64 i,.int .u64 v,.pointer (some ⟨b,0,none⟩)] w fun e w'=>∃ g,e=.returned (.agg #[.int .i64 1,.int .i64 2,.int .i64 i,.int .i64 1,.slice (some ⟨g,0,none⟩) 1 1])/\NumsAt w' g 66 [fm p v]/\Off (fun _=>False) w w':=by
 have FF:=hid (fun W=>form_any p v hp h1 (Nat.lt_trans hv (by decide)) W)
 rw[lit_small v (by omega)]at FF
 obtain⟨z,hz⟩:∃ z,z=fm p v:=⟨_,rfl⟩
 rw[<-hz]at FF ⊢
 obtain⟨W0,hW0⟩:∃ W0,W0=w.alloc (.cells #[.int .i64 0,.int .i64 0,.int .i64 0,.int .i64 0,.slice none 0 0] 45):=⟨_,rfl⟩
 have hO0:Off (fun _=>False) w W0:=by rw[hW0];exact(Off.refl _ w).alloc _
 have HG0:=hid (show W0.heap[w.heap.size]?=some (.cells #[.int .i64 0,.int .i64 0,.int .i64 0,.int .i64 0,.slice none 0 0] 45 (0,0)) by rw[hW0];exact heap_new' rfl _)
 obtain⟨p0,p1,p2,p3⟩:=cells4 (hO0.heap hb (fun c=>c))
 have lb:=heap_lt (hO0.heap hb (fun c=>c))
 have HO0:=hid hO0
 have HW0:=hid hW0
 clear hz hb hO0 hW0
 go_enter Tryz.func34,Tryz.ntmps34
 go_upto_region 1 with fail
 rw[<-HW0.out]
 go_wp2_with fail
 refine(FF.out _).mono ?_
 rintro e u ⟨rfl,hO⟩
 obtain⟨U,hU⟩:∃ U,U=u.alloc (.cells #[.int .u64 (wd z 0),.int .u64 (wd z 1),.int .u64 (wd z 2),.int .u64 (wd z 3)] 66):=⟨_,rfl⟩
 have hOU:Off (fun _=>False) W0 U:=by rw[hU];exact hO.alloc _
 obtain⟨g,hg⟩:∃ g,g=u.heap.size:=⟨_,rfl⟩
 have hN:NumsAt U g 66 [z]:=by rw[hU,hg];exact heap_new' rfl _
 have hG:=hOU.heap HG0.out (fun c=>c)
 have m0:=cell_of_heap hG 0
 have m1:=cell_of_heap hG 1
 have m2:=cell_of_heap hG 2
 have m3:=cell_of_heap hG 3
 have m4:=cell_of_heap hG 4
 have fz:=fun k=>frozen_of_heap hG k
 have lg:=heap_lt hG
 obtain⟨W1,hW1⟩:∃ W1,W1=U.setCells w.heap.size 0 [.int .i64 1,.int .i64 2,.int .i64 i,.int .i64 1,.slice (some ⟨g,0,none⟩) 1 1]:=⟨_,rfl⟩
 have hR:W1.heap[w.heap.size]?=some (.cells #[.int .i64 1,.int .i64 2,.int .i64 i,.int .i64 1,.slice (some ⟨g,0,none⟩) 1 1] 45 (0,0)):=by rw[hW1];exact setCells_at (vs:=[.int .i64 1,.int .i64 2,.int .i64 i,.int .i64 1,.slice (some ⟨g,0,none⟩) 1 1]) hG rfl
 have hne:g≠w.heap.size:=by rw[hg];have:=hO.size;have:=heap_lt HG0.out;omega
 have ho1:=setCells_off w.heap.size [.int .i64 1,.int .i64 2,.int .i64 i,.int .i64 1,.slice (some ⟨g,0,none⟩) 1 1] 0 U
 have HEnd:=hid (show NumsAt W1 g 66 [z]/\Off (fun _=>False) w W1 from by
  rw[hW1]
  exact⟨hN.off ho1 hne,(HO0.out.trans hOU (fun _ _ c=>c)).trans ho1 (fun k hk e=>by omega)⟩)
 obtain⟨r0,r1,r2,r3,r4⟩:W1.cell? ⟨w.heap.size,0,none⟩=some (.int .i64 1)/\W1.cell? ⟨w.heap.size,1,none⟩=some (.int .i64 2)/\W1.cell? ⟨w.heap.size,2,none⟩=some (.int .i64 i)/\W1.cell? ⟨w.heap.size,3,none⟩=some (.int .i64 1)/\W1.cell? ⟨w.heap.size,4,none⟩=some (.slice (some ⟨g,0,none⟩) 1 1):=⟨cell_of_heap hR 0,cell_of_heap hR 1,cell_of_heap hR 2,cell_of_heap hR 3,cell_of_heap hR 4⟩
 have HW1:=hid hW1
 have HU:=hid hU
 have HGg:=hid hg
 rw[hU]at m0 m1 m2 m3 m4 fz lg
 clear hW1 hR hne ho1 hN hOU hO hG hU hg p0 p1 p2 p3 lb FF
 go_wp2
 rw[<-HU.out,<-HGg.out]
 change bodyPost _ _ _ _ _ (U.setCells w.heap.size 0 [.int .i64 1,.int .i64 2,.int .i64 i,.int .i64 1,.slice (some ⟨g,0,none⟩) 1 1])
 rw[<-HW1.out]
 refine bodyPost_ret (v:=.agg #[.int .i64 1,.int .i64 2,.int .i64 i,.int .i64 1,.slice (some ⟨g,0,none⟩) 1 1]) (by simp[results,Tryz.results34,go_sem,r0,r1,r2,r3,r4]) rfl ⟨_,rfl,HEnd.out⟩
theorem alive18_any (w:World) (hT:TabAt w):Calls Tryz.prog 10 #[] w fun e w'=>e=.returned (.bool true)/\Off (fun _=>False) w w':=by
 have HT:=hid hT
 clear hT
 obtain⟨p,hp⟩:∃ p,p=modN 1:=⟨_,rfl⟩
 have FM:=hid (fun W=>mod_modulus 1 W)
 rw[<-hp]at FM
 have hp1:1<p/\p<R256:=by rw[hp];exact modN_pos (.inl rfl)
 obtain⟨z8,h8⟩:∃ z,z=F18 8:=⟨_,rfl⟩
 obtain⟨z11,h11⟩:∃ z,z=F18 11:=⟨_,rfl⟩
 obtain⟨z14,h14⟩:∃ z,z=F18 14:=⟨_,rfl⟩
 obtain⟨z15,h15⟩:∃ z,z=F18 15:=⟨_,rfl⟩
 have hzR:∀ n,F18 n<R256:=fun n=>Nat.lt_trans (fm_lt (by decide) n) (by decide)
 have HR:=hid (show z8<R256/\z11<R256/\z14<R256/\z15<R256 by rw[h8,h11,h14,h15];exact⟨hzR 8,hzR 11,hzR 14,hzR 15⟩)
 have HA:=hid (show shsN (tri z8 z11 z14)=0/\conL (tri z8 z11 z14)=true from by rw[h8,h11,h14];exact⟨a18_ok,a18_con⟩)
 have HB:=hid (show shsN (tri z8 z11 z15)=0/\conL (tri z8 z11 z15)=false/\chsL (tri z8 z11 z15)=[false]/\susE (tri z8 z11 z15)=0/\susV (tri z8 z11 z15)=[0,1,2] from by rw[h8,h11,h15];exact⟨b18_chg.ok,b18_con,b18_chs,b18_sus.1,b18_sus.2⟩)
 have hmf:∀ (fn:Fn) (first cap:Array Value) (W:World),(Instr.makeFunc fn first cap).run Tryz.prog W=.ok (.func fn first cap) W:=fun _ _ _ _=>rfl
 have HP:=hid hp
 have HP1:=hid hp1
 have HZ:=hid (And.intro h8 (And.intro h11 (And.intro h14 h15)))
 clear hp hp1 h8 h11 h14 h15 hzR
 go_enter Tryz.func10,Tryz.ntmps10
 go_wp2_with fail
 refine(FM.out _).mono ?_
 rintro e u ⟨rfl,hO⟩
 obtain⟨W1,hW1⟩:∃ W1,W1=u.alloc (.cells #[.int .u64 (wd p 0),.int .u64 (wd p 1),.int .u64 (wd p 2),.int .u64 (wd p 3)] 63):=⟨_,rfl⟩
 obtain⟨bp,hbp⟩:∃ bp,bp=u.heap.size:=⟨_,rfl⟩
 have HG:=hid (show W1.heap[bp]?=some (.cells #[.int .u64 (wd p 0),.int .u64 (wd p 1),.int .u64 (wd p 2),.int .u64 (wd p 3)] 63 (0,0)) by rw[hW1,hbp];exact heap_new' rfl _)
 have HO1:=hid (show Off (fun _=>False) w W1 by rw[hW1];exact hO.alloc _)
 have FX:=hid (fun v (hv:v<256) (i:Int) W (h:Off (fun _=>False) W1 W)=>s18_any p HP1.out.2 HP1.out.1 bp v hv i W (h.heap HG.out (fun c=>c)))
 have F8:Hid (∀ W,Off (fun _=>False) W1 W->Calls Tryz.prog 34 #[.int .i64 1,.int .u64 8,.pointer (some ⟨bp,0,none⟩)] W fun e w'=>∃ g,e=.returned (.agg #[.int .i64 1,.int .i64 2,.int .i64 1,.int .i64 1,.slice (some ⟨g,0,none⟩) 1 1])/\NumsAt w' g 66 [z8]/\Off (fun _=>False) W w'):=hid (fun W h=>by rw[HZ.out.1];unfold F18;rw[<-HP.out];exact FX.out 8 (by omega) 1 W h)
 have F11:Hid (∀ W,Off (fun _=>False) W1 W->Calls Tryz.prog 34 #[.int .i64 2,.int .u64 11,.pointer (some ⟨bp,0,none⟩)] W fun e w'=>∃ g,e=.returned (.agg #[.int .i64 1,.int .i64 2,.int .i64 2,.int .i64 1,.slice (some ⟨g,0,none⟩) 1 1])/\NumsAt w' g 66 [z11]/\Off (fun _=>False) W w'):=hid (fun W h=>by rw[HZ.out.2.1];unfold F18;rw[<-HP.out];exact FX.out 11 (by omega) 2 W h)
 have F14:Hid (∀ W,Off (fun _=>False) W1 W->Calls Tryz.prog 34 #[.int .i64 3,.int .u64 14,.pointer (some ⟨bp,0,none⟩)] W fun e w'=>∃ g,e=.returned (.agg #[.int .i64 1,.int .i64 2,.int .i64 3,.int .i64 1,.slice (some ⟨g,0,none⟩) 1 1])/\NumsAt w' g 66 [z14]/\Off (fun _=>False) W w'):=hid (fun W h=>by rw[HZ.out.2.2.1];unfold F18;rw[<-HP.out];exact FX.out 14 (by omega) 3 W h)
 have F15:Hid (∀ W,Off (fun _=>False) W1 W->Calls Tryz.prog 34 #[.int .i64 3,.int .u64 15,.pointer (some ⟨bp,0,none⟩)] W fun e w'=>∃ g,e=.returned (.agg #[.int .i64 1,.int .i64 2,.int .i64 3,.int .i64 1,.slice (some ⟨g,0,none⟩) 1 1])/\NumsAt w' g 66 [z15]/\Off (fun _=>False) W w'):=hid (fun W h=>by rw[HZ.out.2.2.2];unfold F18;rw[<-HP.out];exact FX.out 15 (by omega) 3 W h)
 have HW1:=hid hW1
 have HBp:=hid hbp
 clear hW1 hbp hO FM FX
 go_upto_region 3 with fail
 rw[<-HW1.out,<-HBp.out]
 have HQ0:=hid (Off.refl (fun _=>False) W1)
 go_wp2_with fail
 refine(F8.out _ HQ0.out).mono ?_
 rintro e u2 ⟨g2,rfl,hg,hO⟩
 have HG2:=hid hg
 have HQ2:=hid (HQ0.out.trans hO (fun _ _ c=>c))
 clear hg hO
 go_wp2_with fail
 refine(F11.out _ HQ2.out).mono ?_
 rintro e u3 ⟨g3,rfl,hg,hO⟩
 have HG2:=hid (HG2.out.off hO (fun c=>c))
 have HG3:=hid hg
 have HQ3:=hid (HQ2.out.trans hO (fun _ _ c=>c))
 clear hg hO
 go_wp2_with fail
 refine(F14.out _ HQ3.out).mono ?_
 rintro e u4 ⟨g4,rfl,hg,hO⟩
 have HG2:=hid (HG2.out.off hO (fun c=>c))
 have HG3:=hid (HG3.out.off hO (fun c=>c))
 have HG4:=hid hg
 have HQ4:=hid (HQ3.out.trans hO (fun _ _ c=>c))
 clear hg hO
 obtain⟨V4,hW⟩:∃ W,W=u4.alloc (.cells (tricells g2 g3 g4) 45):=⟨_,rfl⟩
 obtain⟨b4,hb⟩:∃ b,b=u4.heap.size:=⟨_,rfl⟩
 have hO:Off (fun _=>False) u4 V4:=by rw[hW];exact(Off.refl _ _).alloc _
 have HS4:=hid (show ShsAt V4 (.slice (some ⟨b4,0,none⟩) 3 3) (tri z8 z11 z14) (fun k=>k<V4.heap.size) from tri_at HR.out.1 HR.out.2.1 HR.out.2.2.1 (HG2.out.off hO (fun c=>c)) (HG3.out.off hO (fun c=>c)) (HG4.out.off hO (fun c=>c)) (by rw[hW,hb];exact heap_new' rfl _))
 have HQw4:=hid (HQ4.out.trans hO (fun _ _ c=>c))
 have HTw4:=hid (HT.out.off (HO1.out.trans HQw4.out (fun _ _ c=>c)))
 have HWw4:=hid hW
 have HBw4:=hid hb
 unfold tricells at HWw4
 clear hW hb hO HG2 HG3 HG4
 have FC:=hid (cons_aud (tri z8 z11 z14) (some ⟨b4,0,none⟩) 3 3 rfl (by omega) (tri_pl z8 z11 z14) none [] (fun _=>False) _ V4 HS4.out (fun b h=>⟨h,fun c=>c⟩) (Tp.none V4) (fun _=>Room.nil _) HTw4.out)
 rw[HA.out.1,HA.out.2]at FC
 go_wp2_with fail
 rw[<-HWw4.out,<-HBw4.out]
 refine FC.out.mono ?_
 rintro e u5 ⟨rfl,_,_,hO⟩
 have HQ5:=hid (HQw4.out.trans hO (fun _ _ c=>c))
 clear hO FC
 go_wp2_with fail
 refine(F8.out _ HQ5.out).mono ?_
 rintro e u6 ⟨g6,rfl,hg,hO⟩
 have HG6:=hid hg
 have HQ6:=hid (HQ5.out.trans hO (fun _ _ c=>c))
 clear hg hO
 go_wp2_with fail
 refine(F11.out _ HQ6.out).mono ?_
 rintro e u7 ⟨g7,rfl,hg,hO⟩
 have HG6:=hid (HG6.out.off hO (fun c=>c))
 have HG7:=hid hg
 have HQ7:=hid (HQ6.out.trans hO (fun _ _ c=>c))
 clear hg hO
 go_wp2_with fail
 refine(F15.out _ HQ7.out).mono ?_
 rintro e u8 ⟨g8,rfl,hg,hO⟩
 have HG6:=hid (HG6.out.off hO (fun c=>c))
 have HG7:=hid (HG7.out.off hO (fun c=>c))
 have HG8:=hid hg
 have HQ8:=hid (HQ7.out.trans hO (fun _ _ c=>c))
 clear hg hO
 obtain⟨V8,hW⟩:∃ W,W=u8.alloc (.cells (tricells g6 g7 g8) 45):=⟨_,rfl⟩
 obtain⟨b8,hb⟩:∃ b,b=u8.heap.size:=⟨_,rfl⟩
 have hO:Off (fun _=>False) u8 V8:=by rw[hW];exact(Off.refl _ _).alloc _
 have HS8:=hid (show ShsAt V8 (.slice (some ⟨b8,0,none⟩) 3 3) (tri z8 z11 z15) (fun k=>k<V8.heap.size) from tri_at HR.out.1 HR.out.2.1 HR.out.2.2.2 (HG6.out.off hO (fun c=>c)) (HG7.out.off hO (fun c=>c)) (HG8.out.off hO (fun c=>c)) (by rw[hW,hb];exact heap_new' rfl _))
 have HQw8:=hid (HQ8.out.trans hO (fun _ _ c=>c))
 have HTw8:=hid (HT.out.off (HO1.out.trans HQw8.out (fun _ _ c=>c)))
 have HWw8:=hid hW
 have HBw8:=hid hb
 unfold tricells at HWw8
 clear hW hb hO HG6 HG7 HG8
 have FC:=hid (fun W (hO:Off (fun _=>False) V8 W)=>cons_aud (tri z8 z11 z15) (some ⟨b8,0,none⟩) 3 3 rfl (by omega) (tri_pl z8 z11 z15) none [] (fun _=>False) (fun k=>k<V8.heap.size) W (HS8.out.off hO (fun _ _ _ c=>c)) (fun b h=>⟨Nat.lt_of_lt_of_le h hO.size,fun c=>c⟩) (Tp.none W) (fun _=>Room.nil _) (HTw8.out.off hO))
 have FS:=hid (fun W (hO:Off (fun _=>False) V8 W)=>sus_aud (tri z8 z11 z15) (some ⟨b8,0,none⟩) 3 3 rfl (by omega) (tri_pl z8 z11 z15) none [] (fun _=>False) (fun k=>k<V8.heap.size) W (HS8.out.off hO (fun _ _ _ c=>c)) (fun b h=>⟨Nat.lt_of_lt_of_le h hO.size,fun c=>c⟩) (Tp.none W) (fun _=>Room.nil _) (HTw8.out.off hO) (fun c=>c))
 have FK:=hid (fun W (hO:Off (fun _=>False) V8 W)=>chks_aud (tri z8 z11 z15) (some ⟨b8,0,none⟩) 3 3 rfl (by omega) (tri_pl z8 z11 z15) none [] (fun _=>False) (fun k=>k<V8.heap.size) W (HS8.out.off hO (fun _ _ _ c=>c)) (fun b h=>⟨Nat.lt_of_lt_of_le h hO.size,fun c=>c⟩) (Tp.none W) (fun _=>Room.nil _) (HTw8.out.off hO))
 rw[HB.out.1,HB.out.2.1]at FC
 rw[HB.out.2.2.2.1,HB.out.2.2.2.2]at FS
 rw[HB.out.1,HB.out.2.2.1]at FK
 go_upto_region 5 with fail
 rw[<-HWw8.out,<-HBw8.out]
 go_wp2_with fail
 refine(FC.out _ (Off.refl _ _)).mono ?_
 rintro e u9 ⟨rfl,_,_,hO⟩
 have HV9:=hid (show Off (fun _=>False) V8 u9 from hO)
 clear hO FC
 go_wp2_with fail
 refine(FS.out _ HV9.out).mono ?_
 rintro e u10 ⟨v10,rfl,hv,_,_,hO⟩
 have HV10:=hid (HV9.out.trans hO (fun _ _ c=>c))
 have HI10:=hid hv
 clear hO FS hv
 go_wp2_with fail
 refine(FK.out _ HV10.out).mono ?_
 rintro e u11 ⟨v11,rfl,_,hv,hO⟩
 obtain⟨hv,_⟩:=hv (by trivial)
 have HV11:=hid (HV10.out.trans hO (fun _ _ c=>c))
 have HI11:=hid (HI10.out.off hO)
 have HK11:=hid hv
 clear hO FK hv
 obtain⟨V12,hW⟩:∃ W,W=u11.alloc (.cells #[.int .i64 0,.int .i64 1,.int .i64 2] 3):=⟨_,rfl⟩
 obtain⟨b12,hb⟩:∃ b,b=u11.heap.size:=⟨_,rfl⟩
 have hO:Off (fun _=>False) u11 V12:=by rw[hW];exact(Off.refl _ _).alloc _
 have hg:V12.heap[b12]?=some (.cells #[.int .i64 0,.int .i64 1,.int .i64 2] 3 (0,0)):=by rw[hW,hb];exact heap_new' rfl _
 have HI12:=hid (HI11.out.off hO)
 have HK12:=hid (HK11.out.off hO)
 have HL12:=hid (show Iv V12 (.slice (some ⟨b12,0,none⟩) 3 3) (posI [0,1,2]) from⟨_,3,rfl,by unfold maxLen;simp[posI],(fun x hx=>by simp[posI]at hx;rcases hx with rfl | rfl | rfl <;> rfl),fun _=>⟨b12,0,rfl,trivial,fun j x hj=>by
  rw[cell_of_heap hg]
  match j,hj with
  | 0,hj=>cases hj;rfl
  | 1,hj=>cases hj;rfl
  | 2,hj=>cases hj;rfl
  | n+3,hj=>simp[posI]at hj⟩⟩)
 have HV12:=hid (HV11.out.trans hO (fun _ _ c=>c))
 have HW12:=hid hW
 have HB12:=hid hb
 clear hW hb hO hg
 go_wp2_with fail
 rw[<-HW12.out,<-HB12.out]
 refine(intseq18 (posI [0,1,2]) (by simp[posI]) _ _ V12 HI12.out HL12.out).mono ?_
 rintro e u13 ⟨rfl,hO⟩
 obtain⟨V14,hW⟩:∃ W,W=u13.alloc (.cells #[.bool false] 4):=⟨_,rfl⟩
 obtain⟨b14,hb⟩:∃ b,b=u13.heap.size:=⟨_,rfl⟩
 have hO2:Off (fun _=>False) u13 V14:=by rw[hW];exact(Off.refl _ _).alloc _
 have hg:V14.heap[b14]?=some (.cells #[.bool false] 4 (0,0)):=by rw[hW,hb];exact heap_new' rfl _
 have HK14:=hid ((HK12.out.off hO).off hO2)
 have HL14:=hid (show BoAt V14 (.slice (some ⟨b14,0,none⟩) 1 1) [false] from⟨_,1,rfl,fun _=>⟨b14,0,rfl,fun j x hj=>by
  rw[cell_of_heap hg]
  match j,hj with
  | 0,hj=>cases hj;rfl
  | n+1,hj=>simp at hj⟩⟩)
 have HV14:=hid ((HV12.out.trans hO (fun _ _ c=>c)).trans hO2 (fun _ _ c=>c))
 have HW14:=hid hW
 have HB14:=hid hb
 clear hW hb hO hO2 hg
 go_wp2_with fail
 rw[<-HW14.out,<-HB14.out]
 refine(booleq_any [false] (by simp) _ _ V14 HK14.out HL14.out).mono ?_
 rintro e u15 ⟨rfl,hO⟩
 have HEnd:=hid (HO1.out.trans (HQw8.out.trans (HV14.out.trans hO (fun _ _ c=>c)) (fun _ _ c=>c)) (fun _ _ c=>c))
 clear hO
 go_wp2
 go_ret
 exact⟨rfl,HEnd.out⟩
end Go.Proofs.YtbkgghhngeibhaaGreatDoor
