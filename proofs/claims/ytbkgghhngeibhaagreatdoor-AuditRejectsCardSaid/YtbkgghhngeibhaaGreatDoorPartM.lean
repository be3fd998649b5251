/-
  Facts and contracts that some statements of layer 17 need.
-/
import Derived.Test.YtbkgghhngeibhaaGreatDoorAudEq
import Derived.Test.YtbkgghhngeibhaaGreatDoorAudRef2
import Derived.Test.YtbkgghhngeibhaaGreatDoorPartD
namespace Go.Proofs.YtbkgghhngeibhaaGreatDoor
open Lib (hid)
section
open Go.RowKit Go.ChangeShapes Go.WideShapes Go.ChangeAt

theorem list4 {α:Type} (l:List α) (h:(⟨l⟩:Array α).size=4):∃ a b c d,l=[a,b,c,d]:=by
 match l,h with
 | [a,b,c,d],_=>exact⟨a,b,c,d,rfl⟩
theorem cells_vec:Tryz.prog.cellsOf 63=4:=by kernel_rfl

set_option maxRecDepth 100000 in
theorem open_vec {H:Type} {enc:TypeId × Value->H} {W:World} {r:Reach} {base b0:Nat} {sp:Nat->Bool} {held:Bool} {v:Value} {d:DataW H} {p:List MemPlace}
  (hok:Value.okWide Tryz.prog W r base 63 v) (h:DataW.Trod enc Tryz.prog W b0 sp held 63 v d p):∃ n,n<R256/\v=V n:=by
 obtain⟨cs,rfl,hsz,_⟩:∃ cs,v=.agg cs/\cs.size=Tryz.prog.cellsOf 63/\Row.okWide Tryz.prog W r base 63 cs:=by
  simpa[Value.okWide,Tryz.underlying63]using hok
 rw[cells_vec]at hsz
 obtain⟨l⟩:=cs
 obtain⟨c0,c1,c2,c3,rfl⟩:=list4 l hsz
 obtain⟨fuel,hf⟩:=h
 obtain⟨y0,y1,y2,y3,m,hx,hy0,hy1,hy2,hy3⟩:=trod_array4 Tryz.underlying63 cells_word hf
 obtain⟨x0,e0,rfl,w0⟩:=DataW.trod_int Tryz.underlying62 hy0
 obtain⟨x1,e1,rfl,w1⟩:=DataW.trod_int Tryz.underlying62 hy1
 obtain⟨x2,e2,rfl,w2⟩:=DataW.trod_int Tryz.underlying62 hy2
 obtain⟨x3,e3,rfl,w3⟩:=DataW.trod_int Tryz.underlying62 hy3
 simp at e0 e1 e2 e3
 subst e0 e1 e2 e3
 have word:∀ {x:Int},(Lit.int .u64 x).wf=true->Word x:=fun h=>by have:=bounds_u64 h;exact⟨by omega,by omega⟩
 obtain⟨n,hn,rfl,rfl,rfl,rfl⟩:=words_num (word w0) (word w1) (word w2) (word w3)
 exact⟨n,hn,rfl⟩

end
section
open Go.RowKit Go.ChangeShapes Go.WideShapes Go.ChangeAt Go.Deep
theorem cells_two8:Tryz.prog.cellsOf 61=2:=by kernel_rfl
theorem cells_8:Tryz.prog.cellsOf 5=1:=by kernel_rfl
theorem list2 {α:Type} (l:List α) (h:(⟨l⟩:Array α).size=2):∃ a b,l=[a,b]:=by
 match l,h with
 | [a,b],_=>exact⟨a,b,rfl⟩
theorem trod_array2 {H:Type} {enc:TypeId × Value->H} {P:Program} {w:World} {base:Nat} {spare:Nat->Bool} {held:Bool} {t e:TypeId} {fuel:Nat} {c0 c1:Value} {x:DataW H × List MemPlace} (ht:P.underlying t=some (.array 2 e)) (hce:P.cellsOf e=1)
  (h:DataW.trod enc P w base spare held fuel t [c0,c1]=some x) :
  ∃ y0 y1 n,DataW.trod enc P w base spare held n e [c0]=some y0/\DataW.trod enc P w base spare held n e [c1]=some y1:=by
 cases fuel with
 | zero=>simp[DataW.trod]at h
 | succ n =>
  unfold DataW.trod at h
  rw[ht]at h
  have r2:List.range 2=[0,1]:=rfl
  simp[r2,hce]at h
  obtain⟨_,h⟩:=h
  cases h0:DataW.trod enc P w base spare held n e [c0]with
  | none=>simp[h0]at h
  | some y0 =>
   cases h1:DataW.trod enc P w base spare held n e [c1]with
   | none=>simp[h0,h1]at h
   | some y1=>exact⟨y0,y1,n,h0,h1⟩
set_option maxRecDepth 100000 in
theorem open_two8 {H:Type} {enc:TypeId × Value->H} {W:World} {r:Reach} {base b0:Nat} {sp:Nat->Bool} {held:Bool} {v:Value} {d:DataW H} {p:List MemPlace}
  (hok:Value.okWide Tryz.prog W r base 61 v) (h:DataW.Trod enc Tryz.prog W b0 sp held 61 v d p):∃ n o:Nat,(n<256/\o<256)/\v=.agg #[.int .u8 n,.int .u8 o]:=by
 obtain⟨cs,rfl,hsz,_⟩:∃ cs,v=.agg cs/\cs.size=Tryz.prog.cellsOf 61/\Row.okWide Tryz.prog W r base 61 cs:=by
  simpa[Value.okWide,Tryz.underlying61]using hok
 rw[cells_two8]at hsz
 obtain⟨l⟩:=cs
 obtain⟨c0,c1,rfl⟩:=list2 l hsz
 obtain⟨fuel,hf⟩:=h
 obtain⟨y0,y1,m,hy0,hy1⟩:=trod_array2 Tryz.underlying61 cells_8 hf
 obtain⟨x0,e0,_,w0⟩:=DataW.trod_int Tryz.underlying5 hy0
 obtain⟨x1,e1,_,w1⟩:=DataW.trod_int Tryz.underlying5 hy1
 simp at e0 e1
 subst e0 e1
 have b0:=bounds_u8 w0
 have b1:=bounds_u8 w1
 obtain⟨n,rfl⟩:=Int.eq_ofNat_of_zero_le b0.1
 obtain⟨o,rfl⟩:=Int.eq_ofNat_of_zero_le b1.1
 exact⟨n,o,⟨by have:=b0.2;omega,by have:=b1.2;omega⟩,rfl⟩
end
section
open Go.RowKit
attribute [local go_sem ↓] Go.wp_at_zero Go.wp_at_succ
set_option maxRecDepth 100000
set_option maxHeartbeats 4000000
def set5 (l:List Value) (o:Nat) (x:ShV):List Value:=((((l.set o (.int .i64 x.sh.fd)).set (o+1) (.int .i64 x.sh.th)).set (o+2) (.int .i64 x.sh.ix)).set (o+3) (.int .i64 x.sh.ln)).set (o+4) (.slice x.pa x.sh.pl.length x.pc)
theorem flat5_set:∀ (l:List ShV) (j:Nat) (x:ShV),j<l.length->flat5 (l.set j x)=set5 (flat5 l) (j*5) x
 | [],j,x,h=>by simp at h
 | y::r,0,x,_=>by
  simp[flat5,set5,ShV.cells]
 | y::r,j+1,x,h=>by
  have h':=flat5_set r j x (by simpa using h)
  rw[List.set_cons_succ]
  show y.cells++flat5 (r.set j x)=set5 (y.cells++flat5 r) ((j+1)*5) x
  rw[h']
  have g:∀ (t:List Value) (o:Nat) (u:Value),(y.cells++t).set (o+5) u=y.cells++t.set o u:=fun t o u=>by
   rw[List.set_append_right _ _ (by simp[ShV.cells])];rfl
  unfold set5
  rw[show(j+1)*5=j*5+5 by omega,show j*5+5+1=j*5+1+5 by omega,show j*5+5+2=j*5+2+5 by omega,show j*5+5+3=j*5+3+5 by omega,show j*5+5+4=j*5+4+5 by omega,g,g,g,g,g]
theorem grow_pos_sh (n:Nat) (hn:0<n) (hl:n<=100000) (w:World) :
  Calls Tryz.prog 52 #[.slice none 0 0,.int .i64 n] w fun e w'=>(∃ c,e=.returned (.slice (some ⟨w.heap.size,0,none⟩) 0 c)/\w'.ownsRow w.heap.size 45 5 (.slice (some ⟨w.heap.size,0,none⟩) 0 c) 0 [])/\Off (fun _=>False) w w':=by
 obtain⟨i0,hi,hz0,hz1,hz2⟩:=info_parts share_info
 have hr:=fun ty=>Lib.run_append_nil_zeros (P:=Tryz.prog) w 22 3 ty 45 i0 _ .i64 .i64 Tryz.underlying22 Tryz.underlying3 hi hz0 n hn (by omega) (by omega) (by rw[hz2];omega)
 obtain⟨c,hc⟩:∃ c,c=grownCap w n 0 45:=⟨_,rfl⟩
 have hcn:n<=c:=by rw[hc];exact grownCap_ge w n 0 _
 have hcm:c<=maxLen:=by rw[hc];exact grownCap_le_maxLen w n 0 _ (by unfold maxLen;omega)
 rw[<-hc]at hr
 obtain⟨Z,hZ⟩:∃ Z,Z=Builtin.zeroCells (Value.cells (.agg #[.int .i64 0,.int .i64 0,.int .i64 0,.int .i64 0,.slice none 0 0])) n++Builtin.zeroCells (Value.cells (.agg #[.int .i64 0,.int .i64 0,.int .i64 0,.int .i64 0,.slice none 0 0])) (c-n):=⟨_,rfl⟩
 have hzs:Z.size=c*5:=by
  rw[hZ,Array.size_append,size_zeroCells,size_zeroCells]
  show n*5+(c-n)*5=c*5
  omega
 rw[<-hZ]at hr
 have hrow:(w.alloc (.cells Z 45)).drew.ownsRow w.heap.size 45 5 (.slice (some ⟨w.heap.size,0,none⟩) 0 c) 0 []:=World.ownsRow_made w Z c (Nat.le_refl _) hcm hzs
 have hO:Off (fun _=>False) w (w.alloc (.cells Z 45)).drew:=((Off.refl (fun _=>False) w).alloc _).drew
 have HR:=hid hrow
 have HO:=hid hO
 have HRUN:=hid hr
 clear hc hcn hcm hZ hzs hrow hO hr hz0 hz1 hz2 hi
 go_enter Tryz.func52,Tryz.ntmps52
 go_wp2_with (at_builtin;refine Lib.wpList_append_run _ rfl _ _ _ _ rfl _ _ rfl rfl _ _ (HRUN.out _) ?_)
 go_ret
 exact⟨⟨c,rfl,HR.out⟩,HO.out⟩
theorem grow_sh (n:Nat) (hl:n<=100000) (w:World) :
  Calls Tryz.prog 52 #[.slice none 0 0,.int .i64 n] w fun e w'=>(∃ a c,e=.returned (.slice a 0 c)/\w'.ownsRow w.heap.size 45 5 (.slice a 0 c) 0 [])/\Off (fun _=>False) w w':=by
 rcases Nat.eq_zero_or_pos n with rfl | h
 ·go_enter Tryz.func52,Tryz.ntmps52
  go_wp2
  go_ret
  exact⟨⟨none,0,rfl,World.ownsRow_nil _ _ _ _⟩,Off.refl _ _⟩
 refine(grow_pos_sh n h hl w).mono ?_
 rintro e w' ⟨⟨c,rfl,hr⟩,ho⟩
 exact⟨⟨_,c,rfl,hr⟩,ho⟩
theorem concat_sh (b:Nat) (sx sy:Value) (xs ys:List ShV) (S:Nat->Prop) (w:World) (c0:w.cell? ⟨b,0,none⟩=some sx) (c1:w.cell? ⟨b,1,none⟩=some sy) (hx:SvsAt w sx xs S) (hy:SvsAt w sy ys S) (hl:xs.length+ys.length<=50000) :
  Calls Tryz.prog 28 #[.slice (some ⟨b,0,none⟩) 2 2] w fun e w'=>∃ v,e=.returned v/\RowS w.heap.size w' v (xs++ys)/\Off (fun _=>False) w w':=by
 have HX:=hid hx
 have HY:=hid hy
 obtain⟨m,hm'⟩:∃ m,m=xs.length:=⟨_,rfl⟩
 obtain⟨n,hn'⟩:∃ n,n=ys.length:=⟨_,rfl⟩
 obtain⟨a,cap,rfl⟩:∃ a cap,sx=.slice a m cap:=by obtain⟨a,cap,rfl,_⟩:=hx;exact⟨a,cap,by rw[hm']⟩
 obtain⟨a2,cap2,rfl⟩:∃ a cap,sy=.slice a n cap:=by obtain⟨a,cap,rfl,_⟩:=hy;exact⟨a,cap,by rw[hn']⟩
 have HG:=hid (fun X=>grow_sh (m+n) (by omega) X)
 have hw1:IntKind.i64.wrap ((m:Int)+(n:Int))=((m+n:Nat):Int):=by rw[IntKind.wrap_i64];omega
 have hw0:IntKind.i64.wrap ((0:Int)+(m:Int))=(m:Int):=by rw[IntKind.wrap_i64];omega
 have hw2:IntKind.i64.wrap (m:Int)=(m:Int):=by rw[IntKind.wrap_i64];omega
 have hn0:¬((m:Int)<0):=by omega
 have hn3:¬(((m+n:Nat):Int)<0):=by omega
 have HL:=hid hl
 clear hx hy hm' hn' hl
 go_enter Tryz.func28,Tryz.ntmps28
 go_wp2
 go_loop [3,11] (fun t i=>(i=.int .i64 0/\t=.int .i64 0)\/(i=.int .i64 1/\t=.int .i64 m)\/(i=.int .i64 2/\t=.int .i64 ((m+n:Nat):Int))) (fun _ i=>2-(intOf i).toNat)
 case atStart=>exact .inl ⟨rfl,rfl⟩
 case round =>
  rcases hrel with ⟨rfl,rfl⟩ | ⟨rfl,rfl⟩ | ⟨rfl,rfl⟩
  ·go_wp2
   go_round
   case rel=>exact .inr (.inl ⟨by go_num,rfl⟩)
   case measure=>simp[intOf]
  ·go_wp2
   go_round
   case rel=>exact .inr (.inr ⟨by go_num,by first | rfl | (congr 1;omega) | go_num⟩)
   case measure=>simp[intOf]
  go_wp2_with fail
  refine(HG.out _).mono ?_
  rintro e w0 ⟨⟨ga,gc,rfl,hr0⟩,hO0⟩
  have hR0:RowS w.heap.size w0 (.slice ga 0 gc) []:=hr0
  have HR0:=hid hR0
  have HO0:=hid hO0
  clear hr0 hO0 HG hR0
  go_wp2
  go_loopw [6,27] (fun v i wr=>Off (fun _=>False) w wr/\((i=.int .i64 0/\RowS w.heap.size wr v [])\/(i=.int .i64 1/\RowS w.heap.size wr v xs)\/(i=.int .i64 2/\RowS w.heap.size wr v (xs++ys)))) (fun _ i _=>2-(intOf i).toNat)
  case atStart=>exact⟨HO0.out,.inl ⟨rfl,HR0.out⟩⟩
  case round =>
   rename_i v i wr
   obtain⟨hO,⟨rfl,hr⟩ | ⟨rfl,hr⟩ | ⟨rfl,hr⟩⟩:=hrel
   ·have d0:=hO.cell c0 (fun c=>c)
    obtain⟨v',w1,hrun,hr1,hO1⟩:=app_shs hO hr (HX.out.off hO (fun _ _ _ c=>c)) (by have:=HL.out;simp;omega)
    rw[List.nil_append]at hr1
    have HRun:=hid hrun
    have HR1:=hid hr1
    have HO1:=hid hO1
    clear hrun hr1 hO1 hr hO HR0 HO0
    go_wp2_with first | (at_builtin;refine Go.Lib.wpList_append_run _ rfl _ _ _ _ rfl _ _ rfl rfl _ _ HRun.out ?_) | fail
    go_roundw
    case rel=>exact⟨HO1.out,.inr (.inl ⟨by go_num,HR1.out⟩)⟩
    case measure=>simp[intOf]
   ·have d0:=hO.cell c1 (fun c=>c)
    obtain⟨v',w1,hrun,hr1,hO1⟩:=app_shs hO hr (HY.out.off hO (fun _ _ _ c=>c)) (by have:=HL.out;simp;omega)
    have HRun:=hid hrun
    have HR1:=hid hr1
    have HO1:=hid hO1
    clear hrun hr1 hO1 hr hO HR0 HO0
    go_wp2_with first | (at_builtin;refine Go.Lib.wpList_append_run _ rfl _ _ _ _ rfl _ _ rfl rfl _ _ HRun.out ?_) | fail
    go_roundw
    case rel=>exact⟨HO1.out,.inr (.inr ⟨by go_num,HR1.out⟩)⟩
    case measure=>simp[intOf]
   have HO:=hid hO
   have HR:=hid hr
   clear hO hr HR0 HO0
   go_wp2
   go_ret
   exact⟨_,rfl,HR.out,HO.out⟩
end
section
open Go.RowKit
set_option maxRecDepth 100000
set_option maxHeartbeats 4000000
theorem RowS.shs {B:Nat} {w W:World} {v:Value} {L:List ShV} (h:RowS B W v L) (hm:L.length<=maxLen) (hp:∀ x∈L,PlAt w x (fun k=>k<w.heap.size)) {S:Nat->Prop} (ho:Off S w W) (hS:∀ k,k<w.heap.size->¬S k):ShsAt W v (L.map ShV.sh) (fun _=>True) :=
 (h.svs.wide (S':=fun _=>True) (fun _ _ _=>trivial)).shs hm (fun x hx=>((hp x hx).off ho (fun k _ hk=>hS k hk)).wide (fun _ _ _=>trivial)) (fun _ _ _=>trivial)
end
section
open Go.RowKit
attribute [local go_sem ↓] Go.wp_at_zero Go.wp_at_succ
set_option maxRecDepth 100000
set_option maxHeartbeats 4000000
theorem refdeal_any (q:Pms) (hq:q.ok) (a1 a2:Option Addr) (m1 m2 c1 c2:Nat) (sec rnd:List Nat) (S:Nat->Prop) (w:World) (hS:∀ k,S k->k<w.heap.size) (hm1:m1=sec.length) (hm2:m2=rnd.length) (hc1:m1<=c1) (hc2:m2<=c2) (hs1:Small sec) (hs2:Small rnd) (hl1:m1<=5000) (hl2:m2<=100000)
  (h1:BsAt w a1 sec S) (h2:BsAt w a2 rnd S) :
  Calls Tryz.prog 27 #[q.val,.slice a1 m1 c1,.slice a2 m2 c2] w fun e w'=>∃ v,e=.returned (.tuple #[v,.int .i64 (polE q sec rnd:Int)])/\(polE q sec rnd=0->EvL q (modN q.fd) (polsV q (modN q.fd) sec rnd q.cn) q.sh.toNat w.heap.size w' v)/\(polE q sec rnd≠0->v=.slice none 0 0)/\Off (fun _=>False) w w' :=
 (refdealD_any q hq a1 a2 m1 m2 c1 c2 sec rnd S w hS hm1 hm2 hc1 hc2 hs1 hs2 hl1 hl2 h1 h2).mono fun _ _ ⟨v,e1,e2,e3,e4⟩=>⟨v,e1,fun h=>(e2 h).evL,e3,e4⟩
end
section
open Go.RowKit
set_option maxRecDepth 100000
section
variable {q:Pms} {sec rnd:List Nat} {l:List Sh}
end
theorem EvL.rows17 {q:Pms} (hq:q.ok) {p k B:Nat} (h1:0<p) (h2:p<R256) (hk:k<=1000) {cs:List (List Nat)} (hl:cs.length<=100000) {W:World} {v:Value} (h:EvL q p cs k B W v):∃ L,RowS B W v L/\L.length=k/\L.map ShV.sh=(List.range k).map (fun j=>shrN q p cs (j+1))/\∀ x∈L,PlAt W x (fun j=>j<W.heap.size):=by
 obtain⟨L,hr,hL,hp⟩:=h
 have hlen:L.length=k:=by have:=congrArg List.length hL;simpa using this
 refine⟨L,hr,hlen,hL,fun x hx=>?_⟩
 have hm:x.sh∈L.map ShV.sh:=List.mem_map.2 ⟨x,hx,rfl⟩
 rw[hL]at hm
 obtain⟨j,hj,e⟩:=List.mem_map.1 hm
 have hj':=List.mem_range.1 hj
 have hpl:x.sh.pl.length=cs.length:=by rw[<-e];simp[shrN,payN]
 have hok:x.sh.ok:=by rw[<-e];exact shrN_ok17 hq h1 h2 cs (by omega)
 have hown:=hp x hx
 unfold PayRow at hown
 refine⟨hok,?_,?_⟩
 ·rcases hown.2 with ⟨e2,hn⟩ | ⟨g,cap,cur,e2,_,_,hnc,_⟩
  ·omega
  simp at e2;omega
 obtain⟨a,cap,e2,h3,h4⟩:=ls_of_own hown rfl (by omega)
 refine VsAt.wide (S:=fun k=>B<=k/\k<W.heap.size) ⟨a,cap,e2,by unfold maxLen;omega,hok.2.2.2.2,h4⟩ (fun k hk _=>hk)
end
section
open Go.RowKit
attribute [local go_sem ↓] Go.wp_at_zero Go.wp_at_succ
set_option maxRecDepth 100000
set_option maxHeartbeats 4000000
theorem index18 (xs:List Int) (hl:xs.length<=100000) (x:Int) (hx:x∈xs) (v:Value) (w:World) (h:Iv w v xs) :
  Calls Tryz.prog 57 #[v,.int .i64 x] w fun e w'=>∃ k:Nat,e=.returned (.int .i64 k)/\Off (fun _=>False) w w':=by
 obtain⟨a1,c1,rfl,_⟩:=h.open
 obtain⟨n,hn⟩:∃ n,n=xs.length:=⟨_,rfl⟩
 rw[<-hn]at h hl ⊢
 have H:=hid h
 obtain⟨t,ht⟩:=List.getElem?_of_mem hx
 have HT:=hid ht
 have HN:=hid (show t<n by rw[hn];exact(List.getElem?_eq_some_iff.1 ht).1)
 clear h hn ht hx
 go_enter Tryz.func57,Tryz.ntmps57
 go_wp2
 go_loopw [8] (fun i wr=>∃ k:Nat,k<=t/\i=.int .i64 k/\Off (fun _=>False) w wr) (fun i _=>n-(intOf i).toNat)
 case atStart=>exact⟨0,Nat.zero_le _,rfl,Off.refl _ w⟩
 case round =>
  obtain⟨k,hk,rfl,hO⟩:=hrel
  have hlt:k<n:=by have:=HN.out;omega
  obtain⟨y,b1,o1,hy,rfl,g1,_,_⟩:=IvAt.at (Iv.off H.out hO) hlt
  have l1:=World.block_lt_of_cell? wr _ g1
  have hki:(k:Int)<(n:Int):=by omega
  have w3:IntKind.i64.wrap ((k:Int)+1)=(k:Int)+1:=by rw[IntKind.wrap_i64];omega
  have HO:=hid hO
  by_cases he:x=y
  ·subst he
   clear hO hy
   go_wp2
   go_ret
   exact⟨⟨k,rfl⟩,HO.out⟩
  have he2:(x==y)=false:=by simp[he]
  have hkt:k≠t:=fun e=>he (by rw[e,HT.out]at hy;cases hy;rfl)
  have HK:=hid (show k+1<=t/\k<n by omega)
  clear hO hy hkt hk hlt
  go_wp2
  go_roundw
  case rel=>exact⟨k+1,HK.out.1,by simp,HO.out⟩
  case measure=>simp[intOf];have:=HK.out;omega
theorem contains18 (xs:List Int) (hl:xs.length<=100000) (x:Int) (hx:x∈xs) (v:Value) (w:World) (h:Iv w v xs) :
  Calls Tryz.prog 33 #[v,.int .i64 x] w fun e w'=>e=.returned (.bool true)/\Off (fun _=>False) w w':=by
 have FI:=hid (index18 xs hl x hx v w h)
 obtain⟨a1,c1,rfl,_⟩:=h.open
 clear h hl hx
 go_enter Tryz.func33,Tryz.ntmps33
 go_wp2_with fail
 refine FI.out.mono ?_
 rintro e u ⟨k,rfl,hO⟩
 have hk:(0:Int)<=(k:Int):=by omega
 have HO:=hid hO
 clear hO FI
 go_wp2
 go_ret
 exact⟨rfl,HO.out⟩
end
section
open Go.RowKit
attribute [local go_sem ↓] Go.wp_at_zero Go.wp_at_succ
set_option linter.unusedSimpArgs false
set_option maxRecDepth 100000
set_option maxHeartbeats 4000000
theorem eql_nil_sh (a:Option Addr) (l c:Nat) (w:World):(binOp .eql 22 (.slice a l c) (.slice none 0 0)).run Tryz.prog w=.ok (.bool a.isNone) w:=by
 simp only[binOp]
 simp[run_equal_slice_nil (P:=Tryz.prog) w 22 45 a l c Tryz.underlying22]
theorem clone_sh (b off m cap:Nat) (M:List ShV) (hm:m=M.length) (hl:m<=1000) (S:Nat->Prop) (w:World) (h:SvsAt w (.slice (some ⟨b,off,none⟩) m cap) M S) :
  Calls Tryz.prog 29 #[.slice (some ⟨b,off,none⟩) m cap] w fun e w'=>∃ v,e=.returned v/\RowS w.heap.size w' v M/\Off (fun _=>False) w w':=by
 obtain⟨W0,hW0⟩:∃ W0,W0=w.alloc (.cells #[] 45):=⟨_,rfl⟩
 have hO0:Off (fun _=>False) w W0:=by rw[hW0];exact(Off.refl _ w).alloc _
 obtain⟨v1,W1,hr1,hw1,hO1⟩:=app_shs hO0 (by rw[hW0];exact RowS.empty w) (h.off hO0 (fun _ _ _ c=>c)) (by rw[List.length_nil];omega)
 rw[List.nil_append]at hw1
 have HEnd:=hid (And.intro hw1 hO1)
 have he:=fun W=>eql_nil_sh (some ⟨b,off,none⟩) m cap W
 rw[hW0]at hr1
 clear h hW0 hO0 hw1 hO1 hm hl
 go_enter Tryz.func29,Tryz.ntmps29
 go_wp2_with (at_builtin;refine Go.Lib.wpList_append_run _ rfl _ _ _ _ rfl _ _ rfl rfl _ _ hr1 ?_)
 go_ret
 exact⟨_,rfl,HEnd.out⟩
theorem set_sameA {α:Type} {xs:List α} {k:Nat} {x:α} (h:xs[k]?=some x):xs.set k x=xs:=by
 apply List.ext_getElem?
 intro t
 by_cases ht:k=t
 ·subst ht;rw[List.getElem?_set_self (List.getElem?_eq_some_iff.1 h).1,h]
 rw[List.getElem?_set_ne ht]
theorem RowS.putp {B g n cap:Nat} {W:World} {M:List ShV} (h:RowS B W (.slice (some ⟨g,0,none⟩) n cap) M) {i:Nat} {x:ShV} (hx:M[i]?=some x) (pl:List Nat) (pa:Option Addr) (pc:Nat) :
  RowS B (W.setCell ⟨g,i*5+4,none⟩ (.slice pa pl.length pc)) (.slice (some ⟨g,0,none⟩) n cap) (M.set i (x.withP pl pa pc)):=by
 have hil:=(List.getElem?_eq_some_iff.1 hx).1
 have hn:n=M.length:=by
  obtain⟨_,_,e,_⟩:=h.svs
  simp at e
  exact e.2.1
 have h2:W.ownsRow B 45 5 (.slice (some ⟨g,0,none⟩) n cap) n (flat5 M):=by have:=h;unfold RowS at this;rw[<-hn]at this;exact this
 have h3:=(h2.stored (i*5+4) (.slice pa pl.length pc)).1
 have he:(flat5 M).set (i*5+4) (.slice pa pl.length pc)=flat5 (M.set i (x.withP pl pa pc)):=by
  rw[flat5_set M i _ hil]
  have hc:=fun k (hk:k<5)=>flat5_get M i k x hx hk
  unfold set5 ShV.withP
  dsimp only
  rw[set_sameA (xs:=flat5 M) (k:=i*5) (hc 0 (by decide)),set_sameA (hc 1 (by decide)),set_sameA (hc 2 (by decide)),set_sameA (hc 3 (by decide))]
 rw[he]at h3
 unfold RowS
 rw[List.length_set,<-hn]
 exact h3
theorem pay_put {B g n cap:Nat} {W:World} {T:TypeId} {xs:List Nat} (h:W.ownsRow B T 4 (.slice (some ⟨g,0,none⟩) n cap) n (flat4 xs)) (hn:n=xs.length) {k:Nat} (hk:k<n) (y:Nat):(W.setCells g (k*4) (words4 y)).ownsRow B T 4 (.slice (some ⟨g,0,none⟩) n cap) n (flat4 (xs.set k y)):=by
 obtain⟨pre,mid,post,h1,h2,h3,h4⟩:=flat4_set xs k y (by omega)
 obtain⟨hl,hr⟩:=h
 rcases hr with ⟨e,_⟩ | ⟨g',cap',cur,e,hB,hg,hnc,hcm,hcs,htk⟩
 ·cases e
 simp only[Value.slice.injEq,Option.some.injEq,Addr.mk.injEq]at e
 obtain⟨⟨rfl,_⟩,_,rfl⟩:=e
 have hcur:cur=(flat4 xs++cur.toList.drop (n*4)).toArray:=by
  apply Array.ext'
  rw[<-htk,List.take_append_drop]
 rw[hcur,h1]at hg
 have hg2:W.heap[g]?=some (.cells (pre++mid++(post++cur.toList.drop (n*4))).toArray T (0,0)):=by rw[hg];simp
 have h5:=setCells_mid (words4 y) pre mid (post++cur.toList.drop (n*4)) W (k*4) h2 (by rw[h3];rfl) hg2
 have hlen:(flat4 (xs.set k y)).length=n*4:=by rw[flat4_length,List.length_set,hn]
 refine⟨hlen,.inr ⟨g,cap,_,rfl,hB,h5,hnc,hcm,?_,?_⟩⟩
 ·rw[List.size_toArray]
  have e1:(pre++words4 y++post).length=n*4:=by rw[<-h4];exact hlen
  have e2:(pre++words4 y++(post++cur.toList.drop (n*4))).length=n*4+(cur.toList.drop (n*4)).length:=by rw[<-List.append_assoc,List.length_append,e1]
  rw[e2,List.length_drop]
  have e3:cur.toList.length=cap*4:=by rw[Array.length_toList];exact hcs
  have:=Nat.mul_le_mul_right 4 hnc
  omega
 show(pre++words4 y++(post++cur.toList.drop (n*4))).take (n*4)=_
 rw[<-List.append_assoc,<-h4,List.take_append_of_le_length (Nat.le_of_eq hlen.symm),List.take_of_length_le (Nat.le_of_eq hlen)]
theorem PayRow.plAt {B:Nat} {W:World} {x:ShV} (h:PayRow B W x) (hok:x.sh.ok) (hl:x.sh.pl.length<=100000):PlAt W x (fun j=>j<W.heap.size):=by
 unfold PayRow at h
 refine⟨hok,?_,?_⟩
 ·rcases h.2 with ⟨e2,hn⟩ | ⟨g,cap,cur,e2,_,_,hnc,_⟩
  ·omega
  simp at e2;omega
 obtain⟨a,cap,e2,h3,h4⟩:=ls_of_own h rfl hl
 exact VsAt.wide (S:=fun k=>B<=k/\k<W.heap.size) ⟨a,cap,e2,by unfold maxLen;omega,hok.2.2.2.2,h4⟩ (fun k hk _=>hk)
theorem PayRow.form {B:Nat} {W:World} {x:ShV} (h:PayRow B W x) (hp:0<x.sh.pl.length):∃ g,x.pa=some ⟨g,0,none⟩/\B<=g/\g<W.heap.size:=by
 unfold PayRow at h
 rcases h.2 with ⟨e,hn⟩ | ⟨g,cap,cur,e,hB,hg,_⟩
 ·omega
 simp only[Value.slice.injEq]at e
 exact⟨g,e.1,hB,heap_lt hg⟩
theorem flat5_same (L:List ShV) {i:Nat} {x y:ShV} (hx:L[i]?=some x) (h:x.cells=y.cells):flat5 (L.set i y)=flat5 L:=by
 induction L generalizing i with
 | nil=>simp at hx
 | cons z r ih =>
  cases i with
  | zero =>
   simp at hx
   subst hx
   show y.cells++flat5 r=z.cells++flat5 r
   rw[h]
  | succ i =>
   show z.cells++flat5 (r.set i y)=z.cells++flat5 r
   rw[ih (by simpa using hx)]
theorem rows_put {B g:Nat} {W:World} {v:Value} {L:List ShV} (h:RowS B W v L) (hp:∀ x∈L,PayRow B W x) (ha:L.Pairwise PlApart) {i:Nat} {x:ShV} (hx:L[i]?=some x) (hg:x.pa=some ⟨g,0,none⟩) {k:Nat} (hk:k<x.sh.pl.length) (y:Nat) :
  RowS B (W.setCells g (k*4) (words4 y)) v (L.set i (x.withP (x.sh.pl.set k y) x.pa x.pc))/\∀ z∈L.set i (x.withP (x.sh.pl.set k y) x.pa x.pc),PayRow B (W.setCells g (k*4) (words4 y)) z:=by
 have hxm:=List.mem_of_getElem? hx
 have hpx:=hp x hxm
 have hoff:=setCells_off g (words4 y) (k*4) W
 have hvx:(Value.slice x.pa x.sh.pl.length x.pc).ownBlock=some g:=by rw[hg];rfl
 refine⟨?_,fun z hz=>?_⟩
 ·have h1:RowS B (W.setCells g (k*4) (words4 y)) v L:=own_off18 h hoff (fun b e c=>by
   have h2:=rows_apart hpx h el_ne_share
   rw[hvx,e,c]at h2
   rcases h2 with h2 | h2
   ·cases h2
   exact h2 rfl)
  unfold RowS at h1 ⊢
  rw[List.length_set,flat5_same L hx (by unfold ShV.cells ShV.withP;dsimp only;rw[List.length_set])]
  exact h1
 obtain⟨j,hj⟩:=List.getElem?_of_mem hz
 by_cases hji:j=i
 ·subst hji
  rw[List.getElem?_set_self (List.getElem?_eq_some_iff.1 hx).1]at hj
  cases hj
  have h1:=hpx
  unfold PayRow at h1 ⊢
  unfold ShV.withP
  dsimp only
  rw[List.length_set]
  rw[hg]at h1 ⊢
  exact pay_put h1 rfl hk y
 rw[List.getElem?_set_ne (fun c=>hji c.symm)]at hj
 have hzm:=List.mem_of_getElem? hj
 refine own_off18 (hp z hzm) hoff (fun b e c=>?_)
 subst c
 have hpw:=List.pairwise_iff_getElem.1 ha
 obtain⟨hjl,hje⟩:=List.getElem?_eq_some_iff.1 hj
 obtain⟨hil,hie⟩:=List.getElem?_eq_some_iff.1 hx
 by_cases hlt:i<j
 ·have:=hpw i j hil hjl hlt
  rw[hie,hje]at this
  exact this b hvx e
 have:=hpw j i hjl hil (by omega)
 rw[hie,hje]at this
 exact this b e hvx
theorem vs_old18 {W:World} {v:Value} {xs:List Nat} {S:Nat->Prop} (h:VsAt W v xs S):VsAt W v xs (fun k=>k<W.heap.size):=h.wide (fun _ hb _=>hb)
theorem shs_old18 {W:World} {v:Value} {l:List Sh} {S:Nat->Prop} (h:ShsAt W v l S):ShsAt W v l (fun k=>k<W.heap.size):=by
 obtain⟨a,cap,hv,hc,h1,h2,h4⟩:=h
 refine⟨a,cap,hv,hc,h1,h2,fun hp=>?_⟩
 obtain⟨b,off,ha,_,hx⟩:=h4 hp
 have hb:b<W.heap.size:=by
  obtain⟨s,hs⟩:∃ s,l[0]?=some s:=⟨_,List.getElem?_eq_getElem hp⟩
  have:=(hx 0 s hs).1
  exact World.block_lt_of_cell? W _ this
 refine⟨b,off,ha,hb,fun j s hj=>?_⟩
 obtain⟨c0,c1,c2,c3,pa,pc,c4,c5,c6⟩:=hx j s hj
 exact⟨c0,c1,c2,c3,pa,pc,c4,c5,vs_old18 c6⟩
theorem EvD.rows18 {q:Pms} {p k B:Nat} {cs:List (List Nat)} {W:World} {v:Value} (h:EvD q p cs k B W v):∃ L,RowS B W v L/\L.length=k/\L.map ShV.sh=(List.range k).map (fun j=>shrN q p cs (j+1))/\(∀ x∈L,PayRow B W x)/\L.Pairwise PlApart:=by
 obtain⟨L,hr,hL,hp,ha⟩:=h
 have hlen:L.length=k:=by have:=congrArg List.length hL;simpa using this
 exact⟨L,hr,hlen,hL,hp,ha⟩
end
end Go.Proofs.YtbkgghhngeibhaaGreatDoor
