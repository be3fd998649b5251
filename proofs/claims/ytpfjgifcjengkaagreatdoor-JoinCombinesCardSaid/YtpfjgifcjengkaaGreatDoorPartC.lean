/-
  Facts and contracts that some statements of layer 17 need.
-/
import Derived.Test.YtpfjgifcjengkaaGreatDoorChkGrp
import Derived.Test.YtpfjgifcjengkaaGreatDoorPartV
namespace Go.Proofs.YtpfjgifcjengkaaGreatDoor
open Lib (hid)
section
open Go.RowKit
set_option maxRecDepth 100000
set_option maxHeartbeats 4000000
def RowT (T:TypeId) (f:Nat->Value) (B:Nat) (W:World) (v:Value) (xs:List Nat):Prop:=W.ownsRow B T 1 v xs.length (xs.map f)
abbrev RowY:=RowT 5 u8v
section
variable {T:TypeId} {f:Nat->Value} {B:Nat} {W:World} {v:Value} {xs:List Nat}
theorem RowT.nil (W:World):RowT T f B W (.slice none 0 0) []:=World.ownsRow_nil _ _ _ _
theorem RowT.form (h:RowT T f B W v xs) (hp:0<xs.length):∃ g cap,v=.slice (some ⟨g,0,none⟩) xs.length cap/\xs.length<=cap/\B<=g/\g<W.heap.size/\∀ j x,xs[j]?=some x->W.cell? ⟨g,j,none⟩=some (f x):=by
 rcases h.2 with ⟨rfl,hn⟩ | ⟨g,cap,cur,rfl,hBg,hgc,hnc,hcm,hcs,htake⟩
 ·omega
 refine⟨g,cap,rfl,by omega,hBg,heap_lt hgc,fun j x hj=>?_⟩
 have hlt:=(List.getElem?_eq_some_iff.1 hj).1
 have hc:=World.ownsRow.cellAt h j (by omega)
 rw[hc,List.getElem?_map,hj];rfl
theorem RowT.shape (h:RowT T f B W v xs):∃ a cap,v=.slice a xs.length cap/\xs.length<=cap:=by
 rcases h.2 with ⟨rfl,hn⟩ | ⟨g,cap,cur,rfl,hBg,hgc,hnc,hcm,hcs,htake⟩
 ·exact⟨none,0,by rw[hn],by omega⟩
 exact⟨_,cap,rfl,by omega⟩
theorem RowT.off {W':World} {S:Nat->Prop} (h:RowT T f B W v xs) (ho:Off S W W') (hd:∀ k,v.ownBlock=some k->¬S k):RowT T f B W' v xs:=by
 obtain⟨hl,h⟩:=h
 refine⟨hl,?_⟩
 rcases h with hn | ⟨g,cap,cur,rfl,hb,hg,r⟩
 ·exact .inl hn
 exact .inr ⟨g,cap,cur,rfl,hb,ho.heap hg (hd g (by simp[Value.ownBlock])),r⟩
end
theorem RowT.at {T:TypeId} {B:Nat} {W:World} {v:Value} {xs:List Nat} (h:RowT T u8v B W v xs):∃ a cap,v=.slice a xs.length cap/\xs.length<=cap/\BsAt W a xs (fun k=>B<=k/\k<W.heap.size):=by
 obtain⟨a,cap,hv,hc⟩:=h.shape
 refine⟨a,cap,hv,hc,fun hp=>?_⟩
 obtain⟨g,cap',hv',_,hB,hg,hx⟩:=h.form hp
 rw[hv]at hv'
 cases hv'
 exact⟨g,0,rfl,⟨hB,hg⟩,fun j x hj=>by rw[Nat.zero_add];exact hx j x hj⟩
theorem app_bytes {w W:World} {v:Value} {xs ys:List Nat} (hO:Off (fun _=>False) w W) (h1:RowY w.heap.size W v xs) {a:Option Addr} {n cap:Nat} {S:Nat->Prop} (h2:BsAt W a ys S) (hn:n=ys.length) (hp:0<n) (hk:xs.length+n<=100000) :
  ∃ v' w',(Builtin.append_ #[40,40] 40 #[v,.slice a n cap]).run Tryz.prog W=.ok v' w'/\RowY w.heap.size w' v' (xs++ys)/\Off (fun _=>False) w w':=by
 obtain⟨i0,hi,hz0,hz1,hz2⟩:=info_parts byte_info
 obtain⟨b,off,rfl,_,hc⟩:=h2 (by omega)
 obtain⟨v',w',hr,ho,hg,_,hb⟩:=run_append_own_at (P:=Tryz.prog) W w.heap.size 40 40 5 i0 _ 1 1 Tryz.underlying40 hi hz0 hz1 hz2 rfl (by decide) v xs.length _ h1 ⟨b,off,none⟩ n cap (ys.map u8v) (by rw[List.length_map];omega) (fun j u hu=>by
  rw[List.getElem?_map]at hu
  obtain⟨y,hy,rfl⟩:=Option.map_eq_some_iff.1 hu
  rw[Addr.add_lit];exact hc j y hy) (fun u hu=>by
  obtain⟨y,_,rfl⟩:=List.mem_map.1 hu
  rfl) (by unfold maxLen;omega) (by omega) hO.size
 refine⟨v',w',hr,?_,?_⟩
 ·unfold RowY RowT
  rw[List.map_append,List.length_append,<-hn]
  exact ho
 refine hO.grown hg (fun j ej=>?_)
 have hx:=(World.ownsRow.lt h1 j ej).1
 refine⟨fun h=>by omega,fun o ho=>?_⟩
 rcases h1.2 with ⟨rfl,_⟩ | ⟨g,cap,cur,rfl,_,hgb,_⟩
 ·simp[Value.ownBlock]at ej
 obtain rfl:g=j:=by simpa[Value.ownBlock]using ej
 rw[hgb]at ho;cases ho;rfl
theorem app_none {w W:World} {v:Value} {xs:List Nat} (h1:RowY w.heap.size W v xs) (a:Option Addr) (cap:Nat) :
  (Builtin.append_ #[40,40] 40 #[v,.slice a 0 cap]).run Tryz.prog W=.ok v W:=by
 obtain⟨i0,hi,hz0,hz1,hz2⟩:=info_parts byte_info
 have ht:=Tryz.underlying40
 rcases h1.2 with ⟨rfl,hn⟩ | ⟨g,cp,cur,rfl,_,_,hnc,_⟩
 ·cases a <;> simp[Builtin.append_,run_underlying ht,sizeOf,typeInfo,hi,Builtin.lenOf,Builtin.firstCells,loadCells,loadCellsFrom]
 cases a <;> simp[Builtin.append_,run_underlying ht,sizeOf,typeInfo,hi,Builtin.lenOf,Builtin.firstCells,hnc,storeCells,loadCells,loadCellsFrom]
theorem app_any {w W:World} {v:Value} {xs ys:List Nat} (hO:Off (fun _=>False) w W) (h1:RowY w.heap.size W v xs) {a:Option Addr} {n cap:Nat} {S:Nat->Prop} (h2:BsAt W a ys S) (hn:n=ys.length) (hk:xs.length+n<=100000) :
  ∃ v' w',(Builtin.append_ #[40,40] 40 #[v,.slice a n cap]).run Tryz.prog W=.ok v' w'/\RowY w.heap.size w' v' (xs++ys)/\Off (fun _=>False) w w':=by
 rcases Nat.eq_zero_or_pos n with h0 | hp
 ·subst h0
  obtain rfl:ys=[]:=List.eq_nil_of_length_eq_zero hn.symm
  exact⟨v,W,app_none h1 a cap,by rw[List.append_nil];exact h1,hO⟩
 exact app_bytes hO h1 h2 hn hp hk
end
section
open Go.RowKit
def RowB (w:World) (base:Nat) (v:Value) (n a:Nat):Prop:=w.ownsRow base 5 1 v n ((bytesN a n).map u8v)
theorem RowB.snoc {w:World} {base n a:Nat} {v:Value} {x:Int} (h:w.ownsRow base 5 1 v (n+1) ((bytesN a n).map u8v++[.int .u8 x])) (hx:x=(by8 a n:Int)):RowB w base v (n+1) a:=by
 subst hx;unfold RowB;rw[bytesN_succ,List.map_append];exact h
theorem RowB.form {w:World} {base n a:Nat} {v:Value} (h:RowB w base v n a) (hn:0<n):∃ g cap,v=.slice (some ⟨g,0,none⟩) n cap/\base<=g/\g<w.heap.size/\n<=cap:=by
 obtain⟨hl,⟨rfl,h0⟩ | ⟨g,cap,cur,rfl,hb,hg,hn,_⟩⟩:=h
 ·omega
 exact⟨g,cap,rfl,hb,heap_lt hg,hn⟩
theorem RowB.at {w:World} {base n a g cap:Nat} (h:RowB w base (.slice (some ⟨g,0,none⟩) n cap) n a):BsAt w (some ⟨g,0,none⟩) (bytesN a n) (fun _=>True):=fun _ =>
 ⟨g,0,rfl,trivial,fun j x hj=>by
  have:=World.ownsRow.cells h (g:=g) rfl j (u8v x) (by rw[List.getElem?_map,hj];rfl)
  rw[Addr.add_lit]at this
  exact this⟩
theorem RowB.push {wr w1:World} {base n a:Nat} {v:Value} {o:Obj} (h:RowB wr base v n a) (hg:(wr.alloc o).grownBy w1 v.ownBlock):Off (fun y=>base<=y) wr w1 :=
 ((Off.refl _ wr).alloc o).grown hg (fun y hy=>by
  refine⟨fun _=>(World.ownsRow.lt h y hy).1,fun o' ho=>?_⟩
  rcases(World.ownsRow.alloc h o).2 with ⟨rfl,_⟩ | ⟨g,cap,cur,rfl,_,hgb,_⟩
  ·simp[Value.ownBlock]at hy
  obtain rfl:g=y:=by simpa[Value.ownBlock]using hy
  rw[hgb]at ho;cases ho;rfl)
set_option maxHeartbeats 2000000 in
theorem refenc_any (a:Nat) (w:World) :
  Calls Tryz.prog 118 #[V a] w fun e w'=>∃ v,e=.returned v/\RowB w' (w.heap.size+1) v 32 a/\Off (fun _=>False) w w':=by
 obtain⟨i0,hi,hz0,hz1,hz2⟩:=info_parts byte_info
 go_enter Tryz.func118,Tryz.ntmps118
 go_wp2
 go_loopw [3,4] (fun v i wr=>∃ k:Nat,k<=4/\i=.int .i64 k/\RowB wr (w.heap.size+1) v (8*k) a/\NumAt wr w.heap.size a/\Off (fun _=>False) w wr) (fun _ i _=>4-(intOf i).toNat)
 case atStart=>exact⟨0,by omega,rfl,World.ownsRow_nil _ _ _ _,heap_new' rfl _,(Off.refl _ w).alloc _⟩
 case round =>
  obtain⟨k,hk,rfl,hR,hN,hO⟩:=hrel
  by_cases hlt:k<4
  ·have hc:=hN.cell k hlt
   have i1:decide ((k:Int)<4)=true:=by simp;omega
   have H3:=hid hR
   have HN:=hid hN
   have HO:=hid hO
   clear hR hN hO
   go_wp2
   obtain⟨wo,rfl⟩:∃ wo:World,wo=wr:=⟨_,rfl⟩
   go_loopw [3,5,6] (fun v x i wr=>∃ j:Nat,j<=8/\i=.int .i64 j/\x=.int .u64 ((wd a k / 256^j:Nat):Int)/\RowB wr (w.heap.size+1) v (8*k+j) a/\NumAt wr w.heap.size a/\Off (fun _=>False) w wr) (fun _ _ i _=>8-(intOf i).toNat)
   case atStart=>exact⟨0,by omega,rfl,by simp,H3.out,HN.out,HO.out⟩
   case round =>
    obtain⟨j,hj,rfl,rfl,hR,hN,hO⟩:=hrel
    have HN':=hid hN
    have HO':=hid hO
    have HR':=hid hR
    clear hR hN hO H3 HN HO
    by_cases hlt2:j<8
    ·obtain⟨x,hx⟩:∃ x,x=wd a k / 256^j:=⟨_,rfl⟩
     have hxl:x<18446744073709551616:=by rw[hx];exact Nat.lt_of_le_of_lt (Nat.div_le_self _ _) (wd_lt a k)
     have HD:=hid (show((x%256:Nat):Int)=(by8 a (8*k+j):Int) by rw[hx,<-by8_wd a k j hlt2];rfl)
     have HX:=hid (show x / 256=wd a k / 256^(j+1) by rw[hx,div_succ])
     rw[<-hx]
     clear hx
     have j1:(j:Int)<8:=by omega
     have x0:(0:Int)<=(x:Int):=by omega
     have x1:(x:Int)<=18446744073709551615:=by omega
     go_wp2_with (at_builtin;refine wpList_append_own _ rfl _ _ 40 rfl (w.heap.size+1) 5 i0 _ 1 1 Tryz.underlying40 hi hz0 hz1 hz2 rfl (by decide) _ (8*k+j) _ rfl (World.ownsRow.alloc HR'.out _) ⟨wr.heap.size,0,none⟩ 1 1 [.int .u8 ((x:Int)%256)] rfl rfl ?q1 ?q5 ?q2 ?q3 ?q4 ?_)
     case q1 =>
      intro j u hj
      cases j with
      | zero=>simp at hj;subst hj;simp[go_sem]
      | succ j=>simp at hj
     case q5=>simp[Value.oneCell']
     case q2=>unfold maxLen;omega
     case q3=>omega
     case q4=>have:=HN'.out.lt;simp;omega
     intro v' w1 hown hgrow hnil
     have hR1:=RowB.snoc hown HD.out
     have hO1:=RowB.push HR'.out hgrow
     have hN1:NumAt w1 w.heap.size a:=hO1.heap HN'.out (by omega)
     have hO2:Off (fun _=>False) w w1:=HO'.out.trans hO1 (fun y hy h=>by omega)
     have HR1:=hid hR1
     have HN1:=hid hN1
     have HO2:=hid hO2
     clear hown hgrow hnil hR1 hO1 hN1 hO2 HR' HN' HO'
     go_wp2
     go_roundw
     case rel=>exact⟨j+1,by omega,by go_num,by rw[<-HX.out];rfl,HR1.out,HN1.out,HO2.out⟩
     case measure=>simp[intOf];omega
    obtain rfl:j=8:=by omega
    go_wp2
    go_roundw
    case rel=>exact⟨k+1,by omega,by go_num,by rw[Nat.mul_add];exact HR'.out,HN'.out,HO'.out⟩
    case measure=>simp[intOf];omega
  obtain rfl:k=4:=by omega
  have HR:=hid hR
  have HO:=hid hO
  clear hR hN hO
  go_wp2
  go_ret
  exact⟨_,rfl,HR.out,HO.out⟩
attribute [local go_sem ↓] Go.wp_at_zero Go.wp_at_succ
set_option maxRecDepth 100000 in
set_option maxHeartbeats 4000000 in
theorem refunpack_any (v:Nat) (m:Int) (hm:(Lit.int .i64 m).wf=true) (w:World) :
  Calls Tryz.prog 84 #[V v,.int .i64 m] w fun e w'=>∃ sv,e=.returned (.tuple #[sv,.int .i64 ((unpV v m).2:Int)])/\SvAt w' sv (unpV v m).1/\Off (fun _=>False) w w':=by
 have HE:=hid (fun W=>refenc_any v W)
 have hmr:-9223372036854775808<=m/\m<=9223372036854775807:=bounds_i64 hm
 clear hm
 by_cases hr:0<=m/\m<=31
 ·obtain⟨k,rfl⟩:=Int.eq_ofNat_of_zero_le hr.1
  have hk:k<=31:=by omega
  have hd:unpV v (k:Int)=if orB ((bytesN v 32).drop k)=0 then((bytesN v 32).take k,0) else([],10):=by unfold unpV;rw[if_pos hr];simp
  obtain⟨q,hq⟩:∃ q,q=unpV v (k:Int):=⟨_,rfl⟩
  rw[<-hq]at hd ⊢
  have HQ:=hid hd
  have i1:decide ((k:Int)<0)=false:=by simp
  have i2:decide ((31:Int)<(k:Int))=false:=by simp;omega
  have i3:¬((k:Int)<0):=by omega
  have i4:(k:Int)<=31:=by omega
  have i5:(0:Int)<=(k:Int):=by omega
  clear hd hr hmr hq
  go_enter Tryz.func84,Tryz.ntmps84
  go_wp2_with fail
  refine(HE.out _).mono ?_
  rintro e u1 ⟨sv,rfl,hR,hO⟩
  obtain⟨g,cap,rfl,hg,hgl,hcap⟩:=hR.form (by omega)
  have hO1:Off (fun _=>False) w u1:=((Off.refl (fun _=>False) w).alloc _).trans hO (fun _ _ c=>c)
  have hB:=hR.at
  have hC:∀ j,j<32->u1.cell? ⟨g,j,none⟩=some (u8v (by8 v j)):=fun j hj=>by
   obtain⟨b,off,ha,_,hc⟩:=hB (by rw[bytesN_length];omega)
   simp at ha
   obtain⟨rfl,rfl⟩:=ha
   have:=hc j _ (bytesN_get v 32 j hj)
   rwa [Nat.zero_add]at this
  have HB:=hid hB
  have HO:=hid hO1
  have HC:=hid hC
  have HL:=hid (show(∀ t,t<32-k->by8 v (k+t)=0)->orB ((bytesN v 32).drop k)=0 by
   intro h
   rw[orB_zero]
   intro x hx
   obtain⟨t,ht⟩:=List.getElem?_of_mem hx
   have hl:=(List.getElem?_eq_some_iff.1 ht).1
   rw[List.length_drop,bytesN_length]at hl
   rw[List.getElem?_drop,bytesN_get _ _ _ (by omega)]at ht
   have:=h t hl
   simp at ht
   omega)
  have HM:=hid (show ∀ t,t<32-k->by8 v (k+t)≠0->orB ((bytesN v 32).drop k)≠0 by
   intro t ht h h2
   rw[orB_zero]at h2
   exact h (h2 _ (List.mem_of_getElem? (i:=t) (by rw[List.getElem?_drop,bytesN_get _ _ _ (by omega)]))))
  have hhi:=slice_hi g 0 32 cap k (by omega)
  clear hB hO hO1 hg HE hR hC
  obtain⟨z,hz⟩:∃ z,z=orB ((bytesN v 32).drop k):=⟨_,rfl⟩
  rw[<-hz]at HQ HL HM
  clear hz
  go_wp2_with fail
  go_loop [7] (fun i'=>∃ j:Nat,k+j<=32/\i'=.int .i64 ((k+j:Nat):Int)/\Hid (∀ t,t<j->by8 v (k+t)=0)) (fun i'=>32-(intOf i').toNat)
  case atStart=>exact⟨0,by omega,rfl,hid (fun t ht=>absurd ht (by omega))⟩
  case round =>
   obtain⟨j,hj,rfl,hZ⟩:=hrel
   obtain⟨x,hx⟩:∃ x,x=k+j:=⟨_,rfl⟩
   have HX:=hid hx
   have hx2:x<=32:=by omega
   rw[<-hx]
   by_cases hlt:x<32
   ·have j1:decide ((x:Int)<32)=true:=by simp;omega
    have j2:(x:Int)<32:=by omega
    have cb:=HC.out x hlt
    have hM:=HM.out j (by omega)
    rw[<-hx]at hM
    have hb:=by8_lt v x
    obtain⟨b,hbx⟩:∃ b,b=by8 v x:=⟨_,rfl⟩
    rw[<-hbx]at cb hb hM
    by_cases hb0:b=0
    ·have HZ:=hid (show ∀ t,t<j+1->by8 v (k+t)=0 by
      intro t ht
      rcases Nat.lt_or_ge t j with h | h
      ·exact hZ.out t h
      obtain rfl:t=j:=by omega
      rw[<-hx,<-hbx];exact hb0)
     subst hb0
     clear hM hb hbx hZ hx hx2
     go_wp2
     go_round
     case rel=>exact⟨j+1,by have:=HX.out;omega,by have:=HX.out;rw[show k+(j+1)=x+1 by omega];go_num,HZ⟩
     case measure=>simp[intOf];omega
    have HQ2:=hid (HQ.out.trans (if_neg (hM hb0)))
    have b1:¬((b:Int)=0):=by omega
    clear hM hb hbx hZ hx hx2 HQ hb0 HL HM
    go_wp2
    go_ret2
    have hq2:=HQ2.out
    subst hq2
    exact⟨_,rfl,⟨_,_,_,rfl,rfl,Nat.le_refl _,BsAt.nil _ _ _⟩,HO.out⟩
   obtain rfl:x=32:=by omega
   have HQ2:=hid (HQ.out.trans (if_pos (HL.out (fun t ht=>hZ.out t (by omega)))))
   clear hZ hx hx2 HQ HL HM HC
   go_wp2
   go_ret2
   have hq2:=HQ2.out
   subst hq2
   exact⟨_,rfl,⟨_,_,_,rfl,by simp[bytesN_length];omega,by omega,HB.out.take k⟩,HO.out⟩
 have hd:unpV v m=([],8):=by unfold unpV;rw[if_neg hr]
 rw[hd]
 clear hd
 by_cases h0:m<0
 ·have i1:decide (m<0)=true:=by simp;omega
  clear hr hmr HE
  go_enter Tryz.func84,Tryz.ntmps84
  go_wp2
  go_ret2
  exact⟨_,rfl,⟨_,_,_,rfl,rfl,Nat.le_refl _,BsAt.nil _ _ _⟩,(Off.refl _ w).alloc _⟩
 have i1:decide (m<0)=false:=by simp;omega
 have i2:decide ((31:Int)<m)=true:=by simp;omega
 clear hr hmr HE
 go_enter Tryz.func84,Tryz.ntmps84
 go_wp2
 go_ret2
 exact⟨_,rfl,⟨_,_,_,rfl,rfl,Nat.le_refl _,BsAt.nil _ _ _⟩,(Off.refl _ w).alloc _⟩
end
section

theorem joinG_len (n:Nat) (l:List Nat):∀ k,(joinG n l k).1.length<=31*k
 | 0=>Nat.le_refl _
 | k+1=>by
  have ih:=joinG_len n l k
  unfold joinG
  split
  ·split
   ·rw[List.length_append,unpV_ok _ (chkN_le _ _)]
    split
    ·rw[List.length_take];have:=chkN_le n k;omega
    simp only[List.length_nil];omega
   exact Nat.zero_le _
  exact Nat.zero_le _
end
section
open Go.RowKit
attribute [local go_sem ↓] Go.wp_at_zero Go.wp_at_succ
theorem row_sv {w:World} {B:Nat} {v:Value} {xs:List Nat} (h:RowY B w v xs):SvAt w v xs:=by
 obtain⟨a,cap,hv,hc,hb⟩:=h.at
 exact⟨a,_,cap,hv,rfl,hc,hb.mono fun _ _ _=>trivial⟩
set_option maxRecDepth 100000 in
set_option maxHeartbeats 4000000 in
theorem refjoin_any (l:List Nat) (v:Value) (m:Int) (hm:(Lit.int .i64 m).wf=true) (w:World) (hV:Ls w v l) :
  Calls Tryz.prog 45 #[v,.int .i64 m] w fun e w'=>∃ sv,e=.returned (.tuple #[sv,.int .i64 ((joinV l m).2:Int)])/\SvAt w' sv (joinV l m).1/\Off (fun _=>False) w w':=by
 obtain⟨a,cap,rfl,hL⟩:=hV.open
 clear hV
 have hC:=fun W=>refcount_any m hm W
 have hmr:-9223372036854775808<=m/\m<=9223372036854775807:=bounds_i64 hm
 obtain⟨n,hn⟩:∃ n,n=l.length:=⟨_,rfl⟩
 have hn2:=hL.len.2
 rw[<-hn]at hL hn2 ⊢
 have HL:=hid hL
 clear hL hm
 by_cases hr:0<=m/\m<=65535
 ·obtain⟨M,rfl⟩:∃ M:Nat,m=(M:Int):=Int.eq_ofNat_of_zero_le hr.1
  have hM:M<=65535:=by omega
  have hcI:cntI (M:Int)=cntN M:=by unfold cntI;rw[if_pos hr,Int.toNat_natCast]
  rw[hcI]at hC
  obtain⟨c,hc⟩:∃ c,c=cntN M:=⟨_,rfl⟩
  rw[<-hc]at hC
  have HC:=hid hC
  have h1:¬((M:Int)<0):=by omega
  have h2:¬((65535:Int)<(M:Int)):=by omega
  have hJ:joinV l (M:Int)=if n=c then joinG M l n else([],8):=by unfold joinV;rw[if_pos hr,Int.toNat_natCast,<-hc,<-hn]
  clear hC hcI hr
  by_cases hnc:n=c
  ·rw[if_pos hnc]at hJ
   subst hnc
   have HM:=hid hM
   have HJ:=hid hJ
   have HN:=hid hn
   have HCn:=hid hc
   clear hJ hn hc hM
   rw[HJ.out]
   go_enter Tryz.func45,Tryz.ntmps45
   go_wp2_with fail
   refine(HC.out _).mono ?_
   rintro e u0 ⟨rfl,hO0⟩
   have HO0:=hid hO0
   clear hO0
   go_wp2_with fail
   go_loopw [6,7] (fun o i wr=>∃ k:Nat,k<=n/\i=.int .i64 k/\RowY w.heap.size wr o (joinG M l k).1/\(joinG M l k).2=0/\Off (fun _=>False) w wr) (fun _ i _=>n-(intOf i).toNat)
   case atStart=>exact⟨0,Nat.zero_le _,rfl,RowT.nil _,rfl,HO0.out⟩
   case round =>
    obtain⟨k,hk,rfl,hR,hz,hO⟩:=hrel
    by_cases hlt:k<n
    ·obtain⟨x,b,off,hxk,rfl,c0,c1,c2,c3⟩:=(HL.out.off hO (fun _ _ _ c=>c)).at hlt
     have hkM:31*k<M:=by have:=chkN_pos (show k<cntN M by rw[<-HCn.out];exact hlt);unfold chkN at this;omega
     obtain⟨d,hd⟩:∃ d,d=chkN M k:=⟨_,rfl⟩
     have hd31:d<=31:=hd▸chkN_le _ _
     have hM:=HM.out
     have w1:IntKind.i64.wrap (31*(k:Int))=31*(k:Int):=by rw[IntKind.wrap_i64];omega
     have w2:IntKind.i64.wrap ((M:Int)-31*(k:Int))=(M:Int)-31*(k:Int):=by rw[IntKind.wrap_i64];omega
     have mn:min 31 ((M:Int)-31*(k:Int))=(d:Int):=by rw[hd];unfold chkN;omega
     have w3:IntKind.i64.wrap ((k:Int)+1)=(k:Int)+1:=by rw[IntKind.wrap_i64];omega
     have i1:(k:Int)<(n:Int):=by omega
     have hgd:l.getD k 0=x:=by rw[List.getD_eq_getElem?_getD,hxk];rfl
     obtain⟨ys,hys⟩:∃ ys,ys=(unpV x (d:Int)).1:=⟨_,rfl⟩
     obtain⟨er,her⟩:∃ er,er=(unpV x (d:Int)).2:=⟨_,rfl⟩
     have FU:=hid (fun W=>refunpack_any x (d:Int) (wf_small (by omega)) W)
     rw[<-hys,<-her]at FU
     have hnext:joinG M l (k+1)=if er=0 then((joinG M l k).1++ys,0) else([],er):=by rw[joinG,if_pos hz,hgd,<-hd,<-hys,<-her]
     have hlen:=joinG_len M l (k+1)
     have HR:=hid hR
     have HO:=hid hO
     have HX:=hid hnext
     have HLn:=hid hlen
     have HK:=hid hkM
     clear hR hO hz hnext hlen hkM hxk hgd hys her hd hM
     go_wp2_with fail
     refine(FU.out _).mono ?_
     rintro e u1 ⟨sv,rfl,hsv,hO1⟩
     have HO2:=hid (HO.out.trans hO1 (fun _ _ c=>c))
     by_cases he:er=0
     ·subst he
      have hX:=HX.out
      rw[if_pos rfl]at hX
      have hl5:(joinG M l k).1.length+ys.length<=100000:=by
       have h1:=HLn.out
       rw[hX,List.length_append]at h1
       have:=HK.out
       have:=HM.out
       omega
      obtain⟨sa,sn,sc,rfl,hsn,hsc,hsb⟩:=hsv
      obtain⟨o2,u2,hap,hrow,hO2⟩:=app_any (cap:=sc) HO2.out (HR.out.off hO1 (fun _ _ c=>c)) hsb hsn (by omega)
      have HA:=hid hap
      have HRw:=hid hrow
      have HO3:=hid hO2
      have HX2:=hid hX
      clear hO1 hsb hsn hap hrow hO2 hX c0 c1 c2 c3 hl5
      go_wp2_with first | (at_builtin;refine Go.Lib.wpList_append_run _ rfl _ _ _ _ rfl _ _ rfl rfl _ _ HA.out ?_) | fail
      go_roundw
      case rel=>exact⟨k+1,by omega,by simp,by rw[HX2.out];exact HRw.out,by rw[HX2.out],HO3.out⟩
      case measure=>simp[intOf];omega
     have hX:=HX.out
     rw[if_neg he]at hX
     have hfin:joinG M l n=([],er):=by
      have h1:(joinG M l (k+1)).2≠0:=by rw[hX];exact he
      have h2:=joinG_stays h1 (n-(k+1))
      rw[show k+1+(n-(k+1))=n by omega,hX]at h2
      exact h2
     have HFn:=hid hfin
     have i5:¬((er:Int)=0):=by omega
     clear hX hfin hO1 c0 c1 c2 c3 hsv
     go_wp2
     exact bodyPost_ret (v:=.tuple #[.slice none 0 0,.int .i64 er]) (by simp[results,Tryz.results45,go_sem]) rfl ⟨.slice none 0 0,by rw[HFn.out],by rw[HFn.out];exact sv_nil _,HO2.out⟩
    obtain rfl:k=n:=by omega
    have hR':=row_sv hR
    have hz':=hz
    go_wp2
    exact bodyPost_ret (v:=.tuple #[_,.int .i64 ((joinG M l k).2:Int)]) (by simp[results,Tryz.results45,go_sem,hz']) rfl ⟨_,rfl,hR',hO⟩
  rw[if_neg hnc]at hJ
  have i3:¬((n:Int)=(c:Int)):=by omega
  rw[hJ]
  clear hJ hn hc
  go_enter Tryz.func45,Tryz.ntmps45
  go_wp2_with fail
  refine(HC.out _).mono ?_
  rintro e u0 ⟨rfl,hO0⟩
  go_wp2
  exact bodyPost_ret (v:=.tuple #[.slice none 0 0,.int .i64 8]) (by simp[results,Tryz.results45,go_sem]) rfl ⟨_,rfl,sv_nil _,hO0⟩
 have hJ:joinV l m=([],6):=by unfold joinV;rw[if_neg hr]
 rw[hJ]
 clear hJ hC hn
 go_enter Tryz.func45,Tryz.ntmps45
 by_cases h1:m<0
 ·go_wp2
  exact bodyPost_ret (v:=.tuple #[.slice none 0 0,.int .i64 6]) (by simp[results,Tryz.results45,go_sem]) rfl ⟨_,rfl,sv_nil _,Off.refl _ w⟩
 have h2:(65535:Int)<m:=by omega
 go_wp2
 exact bodyPost_ret (v:=.tuple #[.slice none 0 0,.int .i64 6]) (by simp[results,Tryz.results45,go_sem]) rfl ⟨_,rfl,sv_nil _,Off.refl _ w⟩
end
section
open Go.RowKit
attribute [local go_sem ↓] Go.wp_at_zero Go.wp_at_succ
set_option maxRecDepth 100000
set_option maxHeartbeats 4000000
theorem refcomb17 (l:List Sh) (a:Option Addr) (n cap:Nat) (hn:n=l.length) (hnc:n<=cap) (hl:n<=90) (hpl:∀ s∈l,s.pl.length<=1000) (S:Nat->Prop) (w:World) (h:ShsAt w (.slice a n cap) l S) :
  Calls Tryz.prog 16 #[.slice a n cap] w fun e w'=>∃ v,e=.returned (.tuple #[v,.int .i64 ((cmbJ l).2:Int)])/\SvAt w' v (cmbJ l).1/\Off (fun _=>False) w w':=by
 have FV:=hid (refvals17 l a n cap hn hnc hl hpl S w h)
 obtain⟨c,hc⟩:∃ c,c=shsN l:=⟨_,rfl⟩
 rw[<-hc]at FV
 by_cases h0:c=0
 ·subst h0
  rw[if_pos rfl]at FV
  rw[show cmbJ l=joinV (vlJ l) (hd0 l).ln by unfold cmbJ;rw[if_neg (by omega)]]
  have hA:=acc_hd hc.symm
  have hln:(Lit.int .i64 (hd0 l).ln).wf=true:=by
   have h1:=hA.ln1;have h2:=hA.ln2
   exact WalkArith.wf_i64 (by show -9223372036854775808<=(hd0 l).ln/\(hd0 l).ln<=9223372036854775807;omega)
  obtain⟨ln,hlne⟩:∃ ln,ln=(hd0 l).ln:=⟨_,rfl⟩
  rw[<-hlne]at hln ⊢
  have FJ:=hid (fun v W (hV:Ls W v (vlJ l))=>refjoin_any (vlJ l) v ln hln W hV)
  obtain⟨J,hJ⟩:∃ J,J=joinV (vlJ l) ln:=⟨_,rfl⟩
  rw[<-hJ]at FJ ⊢
  have hn0:0<n:=by
   have:=hA.first
   rw[hn]
   exact(List.getElem?_eq_some_iff.1 this).1
  obtain⟨s1,b,off,hx,_,rfl,hSb,c0,c1,c2,c3,pa,pc,c4,hpc,hV⟩:=h.at (k:=0) hn0
  rw[hA.first]at hx
  cases hx
  simp only[Nat.zero_mul,Nat.add_zero]at c3
  rw[<-hlne]at c3
  have HC3:=hid c3
  have hn0':(0:Int)<(n:Int):=by omega
  clear hA hlne hln hc c0 c1 c2 c3 c4 hpc hV hJ hn hnc hl hpl h hSb
  go_enter Tryz.func16,Tryz.ntmps16
  go_wp2_with fail
  refine FV.out.mono ?_
  rintro e u1 ⟨v,rfl,hv,hO⟩
  obtain⟨va,vc,rfl,_,_⟩:=id hv
  obtain⟨m,hm⟩:∃ m,m=(vlJ l).length:=⟨_,rfl⟩
  rw[<-hm]at hv ⊢
  have c3:=hO.cell HC3.out (fun c=>c)
  have lb:=World.block_lt_of_cell? u1 _ c3
  have HV:=hid hv
  have HO1:=hid hO
  clear hm hv hO FV
  go_wp2_with fail
  refine(FJ.out _ _ HV.out).mono ?_
  rintro e u2 ⟨sv,rfl,hs,hO⟩
  have HS:=hid hs
  have HO2:=hid (HO1.out.trans hO (fun _ _ c=>c))
  clear hs hO c3 lb
  go_wp2
  exact bodyPost_ret (v:=.tuple #[sv,.int .i64 (J.2:Int)]) (by simp[results,Tryz.results16,go_sem]) rfl ⟨_,rfl,HS.out,HO2.out⟩
 rw[if_neg h0]at FV
 rw[show cmbJ l=([],c) by unfold cmbJ;rw[if_pos (by omega),hc]]
 have i1:((c:Int) != 0)=true:=by simp;omega
 have i2:¬(c:Int)=0:=by omega
 clear hc hpl hn hnc hl h
 go_enter Tryz.func16,Tryz.ntmps16
 go_wp2_with fail
 refine FV.out.mono ?_
 rintro e u1 ⟨v,rfl,hv,hO⟩
 obtain⟨va,vc,rfl,_,_⟩:=hv
 have HO1:=hid hO
 clear hO FV
 go_wp2
 exact bodyPost_ret (v:=.tuple #[.slice none 0 0,.int .i64 c]) (by simp[results,Tryz.results16,go_sem]) rfl ⟨_,rfl,sv_nil _,HO1.out⟩
end
end Go.Proofs.YtpfjgifcjengkaaGreatDoor
