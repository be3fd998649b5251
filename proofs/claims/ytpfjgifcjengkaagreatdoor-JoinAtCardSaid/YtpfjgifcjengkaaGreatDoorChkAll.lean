/-
  Package chunks' isLength, Count and part over this seat's translation. Conditions: a length is an int; a part lies within its slice and is not empty.
  The contract of the iterator that package chunks' lengths returns, over this seat's translation: it yields each chunk's index and length. Condition: the length is from 0 to 65535 and stays in its box.
  The contract of package chunks' Split over this seat's translation. Conditions: the field's constants are those of its modulus; the secret's bytes are readable.
  The contract of package chunks' Join over this seat's translation. Conditions: the field's constants are those of its modulus; the list's elements are the forms of values.
-/
import Derived.Test.YtpfjgifcjengkaaGreatDoorBytRow
import Derived.Lib.AppendZeros
import Derived.LoopIn
import Derived.LoopNIn
import Derived.OwnWalkIn
import Derived.RangeFuncBound
import Derived.Shelf.Bits.Mul64
import Derived.Shelf.RegionOpen
import Derived.Test.YtpfjgifcjengkaaGreatDoorProg
import Derived.Test.YtpfjgifcjengkaaGreatDoorChkGrp
import Derived.Test.YtpfjgifcjengkaaGreatDoorMontAll
import Derived.Test.YtpfjgifcjengkaaGreatDoorNumsT
import Derived.Deep.OwnRows
import Derived.Shelf.Bytes.SlEqualAll
import Derived.Test.YtpfjgifcjengkaaGreatDoorInvAll
import Derived.Test.YtpfjgifcjengkaaGreatDoorPolRefer
namespace Go.Proofs.YtpfjgifcjengkaaGreatDoor
open Lib (hid)
theorem wide_fnC (f : Nat) : Fence.wide.fn f = True := rfl
section
open Go.RowKit
attribute [local go_sem ↓] Go.wp_at_zero Go.wp_at_succ
set_option maxRecDepth 100000
set_option maxHeartbeats 4000000
theorem part_lhm (a:Option Addr) (N cap i k:Nat) (hi:i<k) (hk:k<=cap) (W:World):(Instr.slice 40 (.slice a N cap) (some (.int .i64 i)) (some (.int .i64 k)) (some (.int .i64 k))).run Tryz.prog W=.ok (.slice (a.map (·.add i)) (k-i) (k-i)) W:=by
 rw[run_slice_lhm W 40 _ _ _ (by rw[byte_elem];exact Tryz.underlying40) .i64 .i64 .i64 _ _ _ (by omega) (by omega) (by omega) (by omega),byte_elem,Tryz.sizeOf5]
 simp only[Result.andThen,sliced,Int.toNat_natCast,Nat.mul_one]
 rw[if_neg (by omega)]
theorem part_ex (a:Option Addr) (N cap i n:Nat) (hp:0<n) (hN:31*i+n<=N) (hc:N<=cap) (hm:N<=100000) (w:World) :
  Calls Tryz.prog 82 #[.slice a N cap,.int .i64 i,.int .i64 n] w fun e w'=>e=.returned (.slice (a.map (·.add (31*i))) n n)/\w'=w:=by
 obtain⟨q,hq⟩:∃ q,q=31*i:=⟨_,rfl⟩
 obtain⟨k,hk⟩:∃ k,k=q+n:=⟨_,rfl⟩
 have w1:IntKind.i64.wrap ((i:Int)*31)=(q:Int):=by rw[IntKind.wrap_i64];omega
 have w2:IntKind.i64.wrap ((q:Int)+(n:Int))=(k:Int):=by rw[IntKind.wrap_i64];omega
 have hs:=part_lhm a N cap q k (by omega) (by omega)
 rw[show k-q=n by omega]at hs
 rw[<-hq]at *
 clear hq hk hp hN hc hm
 go_enter Tryz.func82,Tryz.ntmps82
 go_wp2
 go_ret
 exact⟨rfl,rfl⟩
end
section
open Go.RowKit Go.Shelf
attribute [local go_sem] Oper.semAt_some wide_fnC
def LenAt (B M:Nat) (W:World):Prop:=W.cell? ⟨B,0,none⟩=some (.int .i64 M)
theorem LenAt.kept {B M:Nat} {w w':World} {row:Option Nat} (h:LenAt B M w) (hg:w.grownBy w' row) (hr:∀ r,row=some r->∃ o:Obj,w.heap[r]?=some o/\o.isCells=false):LenAt B M w':=cell_kept h hg hr
theorem lenK_b {B M n:Nat} (W:World) (l:Nat) (o o':Obj) (_:n<=l) (h:W.heap[l]?=some o) (hc:o.isCells=false) (_:o.isWalk=false):LenAt B M W->LenAt B M (W.putObj l o') :=
 fun hr=>hr.kept (grownBy_putObj' W l o') (fun r e=>by cases e;exact⟨o,h,hc⟩)
theorem finR_val (c:Nat):(List.finRange c).map Fin.val=List.range c:=List.ext_getElem (by simp) (fun i h1 h2=>by simp)
def firstF (c k:Nat):List (Fin c):=(List.finRange c).take k
theorem firstF_val (c k:Nat) (h:k<=c):(firstF c k).map Fin.val=List.range k:=by
 unfold firstF
 rw[List.map_take,finR_val,List.take_range,Nat.min_eq_left h]
theorem firstF_length (c k:Nat) (h:k<=c):(firstF c k).length=k:=by unfold firstF;simp;omega
theorem firstF_succ (c k:Nat) (h:k<c):firstF c (k+1)=firstF c k++[⟨k,h⟩]:=by
 unfold firstF
 rw[List.take_add_one]
 congr 1
 simp[h]
theorem firstF_all (c:Nat):firstF c c=List.finRange c:=by unfold firstF;rw[List.take_of_length_le (by simp)]

set_option maxRecDepth 100000 in
set_option maxHeartbeats 2000000 in
theorem lens1_in (n:Nat) (hn:1<=n) (l B M:Nat) (hM:M<=65535) (J Jx:List (Fin (cntN M))->World->Prop) (W:World)
  (hJ:∀ s A B,J s A->A.grownBy B none->J s B)
  (hY:∀ (pre:List (Fin (cntN M))) (x:Fin (cntN M)) W,J pre W->pre.length<cntN M->YieldAt Fence.wide (n-1) Tryz.prog l #[.int .i64 (x.val:Int),.int .i64 (chkN M x.val:Int)] W fun e W' =>
   (e=.returned (.bool true)/\J (pre++[x]) W'/\(LenAt B M W->LenAt B M W'))\/(e=.returned (.bool false)/\Jx (pre++[x]) W'))
  (hR:LenAt B M W) (h0:J [] W) :
  CallsIn Fence.wide n Tryz.prog 116 #[.func (.yield l) #[] #[],.pointer (some ⟨B,0,none⟩)] W fun e W'=>(∃ v,e=.returned v) /\
   ((∃ ys,ys=List.finRange (cntN M)/\J ys W')\/(∃ pre,(∃ k,k<cntN M/\pre=firstF (cntN M) (k+1))/\Jx pre W')):=by
 refine callsIn_of_wp Tryz.func116 rfl trivial ?_ rfl
 simp only[Tryz.ntmps116,List.size_toArray,List.length_cons,List.length_nil,Nat.reduceAdd,Nat.reduceSub,Array.replicate_succ,Array.replicate_zero,List.push_toArray,List.append_toArray,List.nil_append,List.cons_append]
 have hmx:Tryz.prog.follows .mixedOrders=true:=by kernel_rfl
 have hC:=fun w'=>callsIn_wide (n:=n-1).2 (count_ex (M:Int) (wf_small hM) w')
 rw[show cntI (M:Int)=cntN M by unfold cntI;rw[if_pos (by omega),Int.toNat_natCast]]at hC
 have r0:W.cell? ⟨B,0,none⟩=some (.int .i64 M):=hR
 obtain⟨c,hc⟩:∃ c,c=cntN M:=⟨_,rfl⟩
 have HC:=hid hc
 have HR:=hid hR
 have hcm:c<=2200:=by rw[hc];unfold cntN;omega
 have HS:=hid (show ∀ k,k<c->31*k<M/\min 31 ((M:Int)-(31*k:Nat))=(chkN M k:Int) from fun k hk=>by rw[hc]at hk;unfold cntN at hk;unfold chkN;omega)
 rw[<-hc]at hC
 clear hc hR
 gi_wp2
 refine(hC _).mono ?_
 rintro e w' ⟨rfl,rfl⟩
 gi_wp2
 gi_loopw [6] (fun i wr=>∃ k:Nat,k<=c/\i=.int .i64 k/\J (firstF (cntN M) k) wr/\LenAt B M wr) (fun i _=>c-(intOf i).toNat)
 case atStart=>exact⟨0,Nat.zero_le _,by simp,hJ _ _ _ h0 ⟨rfl,rfl,rfl,Nat.le_refl _,fun _ _ _=>rfl⟩,HR.out⟩
 case round =>
  obtain⟨k,hk,rfl,hJs,hRd⟩:=hrel
  have t1:wr.cell? ⟨B,0,none⟩=some (.int .i64 M):=hRd
  by_cases hlt:k<c
  ·obtain⟨h31,hmn⟩:=HS.out k hlt
   obtain⟨q,hq⟩:∃ q,q=31*k:=⟨_,rfl⟩
   rw[<-hq]at h31 hmn
   have w1:IntKind.i64.wrap ((k:Int)*31)=(q:Int):=by rw[IntKind.wrap_i64];omega
   have w2:IntKind.i64.wrap ((M:Int)-(q:Int))=(M:Int)-(q:Int):=by rw[IntKind.wrap_i64];omega
   have w3:IntKind.i64.wrap ((k:Int)+1)=(k:Int)+1:=by rw[IntKind.wrap_i64];omega
   have i1:(k:Int)<(c:Int):=by omega
   have hlt2:k<cntN M:=by have:=HC.out;omega
   obtain⟨fn,tmps,assign,body,hy,hround⟩:=hY _ ⟨k,hlt2⟩ wr hJs (by rw[firstF_length _ _ (by omega)];exact hlt2)
   rw[<-firstF_succ]at hround
   obtain⟨d,hd⟩:∃ d,d=chkN M k:=⟨_,rfl⟩
   rw[<-hd]at hmn
   dsimp only at hy hround
   rw[<-hd]at hy
   have HRd:=hid hRd
   clear hq hd hRd
   gi_wp2
   refine hround.mono ?_
   rintro r W3 (⟨rfl,hJ3,hk3⟩ | ⟨rfl,hJx3⟩)
   ·have hRd3:=hk3 HRd.out
    clear hk3 hround hy
    gi_wp2
    go_roundw
    case rel=>exact⟨k+1,by omega,by simp,hJ3,hRd3⟩
    case measure=>simp[intOf];omega
   clear hround hy
   gi_wp2
   refine bodyPost_ret (results_none rfl _ _ _) rfl ?_
   exact⟨⟨_,rfl⟩,.inr ⟨_,⟨k,hlt2,rfl⟩,hJx3⟩⟩
  obtain rfl:k=c:=by omega
  have i1:¬(k:Int)<(k:Int):=by omega
  gi_wp2
  go_end0
  rw[HC.out,firstF_all]at hJs
  first | exact⟨⟨_,rfl⟩,.inl ⟨_,rfl,hJs⟩⟩ | exact⟨⟨_,rfl⟩,.inl hJs⟩

set_option maxHeartbeats 400000 in
theorem lens_any (m:Int) (w:World) :
  Calls Tryz.prog 80 #[.int .i64 m] w fun e w'=>e=.returned (.func (.func 116) #[] #[.pointer (some ⟨w.heap.size,0,none⟩)])/\w'=w.alloc (.cells #[.int .i64 m] 3):=by
 go_enter Tryz.func80,Tryz.ntmps80
 go_wp2
 go_ret
 exact⟨rfl,rfl⟩
theorem lens_stops (n:Nat) (hn:1<=n) (B M:Nat) (hM:M<=65535) (w:World) (hi:LenAt B M w) :
  SeqStopsK Fence.wide n Tryz.prog 116 #[.pointer (some ⟨B,0,none⟩)] (fun x:Fin (cntN M)=>#[.int .i64 (x.val:Int),.int .i64 (chkN M x.val:Int)]) (fun A C=>LenAt B M A->LenAt B M C)
   (fun ys=>ys=List.finRange (cntN M)) (fun pre=>∃ k,k<cntN M/\pre=firstF (cntN M) (k+1)) (cntN M) w:=fun l J Jx W hW hJ _ hY h0=>by
 have hg:w.grownBy W none:=⟨hW.os,hW.tape,hW.output,hW.size,fun k hk _=>hW.block k hk⟩
 exact lens1_in n hn l B M hM J Jx W (fun x A B hx hg=>hJ x A B none hx hg (fun r e=>by cases e)) (fun pre x W1 hj hlen=>hY pre x W1 hj hlen)
  (hg.cell hi (by simp)) h0
theorem Off.laterC {S:Nat->Prop} {w W W':World} {row:Option Nat} (h:Off S w W) (hg:W.grownBy W' row) (hr:∀ r,row=some r->w.heap.size<=r):Off S w W' :=
 ⟨hg.os.trans h.os,hg.tape.trans h.tape,hg.output.trans h.output,Nat.le_trans h.size hg.size,
  fun k hk hn=>(hg.block k (Nat.lt_of_lt_of_le hk h.size) (fun e=>by have:=hr k e.symm;omega)).trans (h.block k hk hn),
  fun k o hk ho=>by
   have h1:=h.others k o hk ho
   exact(hg.block k (heap_lt h1) (fun e=>by have:=hr k e.symm;have:=heap_lt hk;omega)).trans h1⟩
end
section
open Go.RowKit
attribute [local go_sem] Oper.semAt_some wide_fnC
theorem range_snoc {α:Type} (f:α->Nat) {pre:List α} {x:α} (h:(pre++[x]).map f=List.range (pre++[x]).length):pre.map f=List.range pre.length/\f x=pre.length:=by
 rw[List.map_append,List.length_append,List.length_singleton,List.range_succ]at h
 obtain⟨h1,h2⟩:=List.append_inj' h rfl
 exact⟨h1,by simpa using h2⟩
end
section
open Go.RowKit
attribute [local go_sem] Oper.semAt_some wide_fnC
theorem put_one {W:World} {b:Nat} {u u':Value} {T:TypeId} (h:W.heap[b]?=some (.cells #[u] T (0,0))):(W.setCell ⟨b,0,none⟩ u').heap[b]?=some (.cells #[u'] T (0,0)):=setCells_at (vs:=[u']) h rfl
theorem put_off (W:World) (b:Nat) (u':Value):Off (fun k=>k=b) W (W.setCell ⟨b,0,none⟩ u'):=setCells_off b [u'] 0 W
theorem put_two {W:World} {b c:Nat} {u v u' v':Value} {T T':TypeId} (hb:W.heap[b]?=some (.cells #[u] T (0,0))) (hc:W.heap[c]?=some (.cells #[v] T' (0,0))) (hne:c≠b) :
  (W.setCell ⟨b,0,none⟩ u').heap[c]?=some (.cells #[v] T' (0,0))/\((W.setCell ⟨b,0,none⟩ u').setCell ⟨c,0,none⟩ v').heap[b]?=some (.cells #[u'] T (0,0))/\((W.setCell ⟨b,0,none⟩ u').setCell ⟨c,0,none⟩ v').heap[c]?=some (.cells #[v'] T' (0,0))/\Off (fun k=>k=b\/k=c) W ((W.setCell ⟨b,0,none⟩ u').setCell ⟨c,0,none⟩ v'):=by
 have h1:=(put_off W b u').heap hc hne
 exact⟨h1,(put_off _ c v').heap (put_one hb) (Ne.symm hne),put_one h1,((put_off W b u').mono (fun _ _ e=>.inl e)).trans ((put_off _ c v').mono (fun _ _ e=>.inr e)) (fun _ _ e=>e)⟩
theorem unp_len {y d:Nat} (hd:d<=31) (h:(unpV y (d:Int)).2=0):(unpV y (d:Int)).1.length=d:=by
 rw[unpV_ok _ hd]at h ⊢
 split
 ·rw[List.length_take,bytesN_length];omega
 rename_i hz
 rw[if_neg hz]at h
 exact absurd h (by decide)
def JoI (l:List Nat) (M arr:Nat) (pre:List (Fin (cntN M))) (W:World):Prop :=
 ∃ xs:List Nat,xs.length=M/\ByBlk W arr 5 xs/\(pre.map Fin.val=List.range pre.length->(joinG M l pre.length).2=0/\xs.take (31*pre.length)=(joinG M l pre.length).1)
theorem JoI.next {l xs ys:List Nat} {M arr:Nat} {pre:List (Fin (cntN M))} {x:Fin (cntN M)} {W':World} (hx:xs.length=M)
  (hp:pre.map Fin.val=List.range pre.length->(joinG M l pre.length).2=0/\xs.take (31*pre.length)=(joinG M l pre.length).1)
  (hy:unpV (l.getD x.val 0) (chkN M x.val:Int)=(ys,0)) (h:ByBlk W' arr 5 (xs.take (31*x.val)++ys++xs.drop (31*x.val+chkN M x.val))):JoI l M arr (pre++[x]) W':=by
 have hlt:=x.isLt
 have hyl:ys.length=chkN M x.val:=by
  have:=unp_len (chkN_le M x.val) (show(unpV (l.getD x.val 0) (chkN M x.val:Int)).2=0 by rw[hy])
  rw[hy]at this
  exact this
 have hdn:31*x.val+chkN M x.val<=M:=by unfold chkN;unfold cntN at hlt;omega
 have hql:(xs.take (31*x.val)++ys).length=31*x.val+chkN M x.val:=by rw[List.length_append,List.length_take,hyl,hx];omega
 refine⟨_,by rw[List.length_append,hql,List.length_drop,hx];omega,h,fun hr=>?_⟩
 obtain⟨h1,h2⟩:=range_snoc Fin.val hr
 obtain⟨p1,p2⟩:=hp h1
 rw[List.length_append,List.length_singleton,<-h2,joinG,h2,if_pos p1,<-h2,hy,if_pos rfl]
 rw[<-h2]at p2
 refine⟨rfl,?_⟩
 show List.take (31*(x.val+1)) _=_
 rw[<-p2]
 rcases Nat.lt_or_ge (31*x.val+31) M with hf | hf
 ·have e:chkN M x.val=31:=by unfold chkN;omega
  rw[List.take_append_of_le_length (by rw[hql,e];omega),List.take_of_length_le (by rw[hql,e];omega)]
 have e:31*x.val+chkN M x.val=M:=by unfold chkN;unfold cntN at hlt;omega
 rw[e,List.drop_of_length_le (by rw[hx];exact Nat.le_refl _),List.append_nil,List.take_of_length_le (by rw[hql];omega)]
theorem joinG_err {l ys:List Nat} {M er:Nat} {pre:List (Fin (cntN M))} {x:Fin (cntN M)} (hp:pre.map Fin.val=List.range pre.length->(joinG M l pre.length).2=0) (hy:unpV (l.getD x.val 0) (chkN M x.val:Int)=(ys,er)) (he:er≠0)
  (hr:(pre++[x]).map Fin.val=List.range (pre++[x]).length):joinG M l (pre++[x]).length=([],er):=by
 obtain⟨h1,h2⟩:=range_snoc Fin.val hr
 have p1:=hp h1
 rw[List.length_append,List.length_singleton,<-h2,joinG,h2,if_pos p1,<-h2,hy,if_neg he]
theorem joinG_final {l:List Nat} {M k n er:Nat} (h:joinG M l k=([],er)) (he:er≠0) (hk:k<=n):joinG M l n=([],er):=by
 have h1:(joinG M l k).2≠0:=by rw[h];exact he
 have h2:=joinG_stays h1 (n-k)
 rw[show k+(n-k)=n by omega,h]at h2
 exact h2
set_option maxRecDepth 100000 in
set_option maxHeartbeats 4000000 in
theorem join_range {id:Int} {p i0 r s:Nat} (a:Option Addr) (n cap:Nat) (m:Int) (hm:(Lit.int .i64 m).wf=true) (w:World) (hr:¬(0<=m/\m<=65535)) :
  Calls Tryz.prog 44 #[FV id p i0 r s,.slice a n cap,.int .i64 m] w fun e w'=>e=.returned (.tuple #[.slice none 0 0,.int .i64 6])/\Off (fun _=>False) w w':=by
 have hIs:=fun w'=>islength_any m hm w'
 rw[show decide (0<=m/\m<=65535)=false from decide_eq_false hr]at hIs
 clear hm hr
 go_enter Tryz.func44,Tryz.ntmps44
 go_wp2_with fail
 refine(hIs _).mono ?_
 rintro e w' ⟨rfl,rfl⟩
 obtain⟨W4,hW4⟩:∃ W4,W4=(((w.alloc (.cells #[.int .i64 id,.int .u64 (wd p 0),.int .u64 (wd p 1),.int .u64 (wd p 2),.int .u64 (wd p 3),.int .u64 i0,.int .u64 (wd r 0),.int .u64 (wd r 1),.int .u64 (wd r 2),.int .u64 (wd r 3),.int .u64 (wd s 0),.int .u64 (wd s 1),.int .u64 (wd s 2),.int .u64 (wd s 3)] 75)).alloc (.cells #[.slice a n cap] 25)).alloc (.cells #[.slice none 0 0] 40)).alloc (.cells #[.int .i64 0] 26):=⟨_,rfl⟩
 have hOW4:Off (fun _=>False) w W4:=by rw[hW4];exact((((Off.refl _ w).alloc _).alloc _).alloc _).alloc _
 have g_bf:W4.heap[w.heap.size]?=some (.cells #[.int .i64 id,.int .u64 (wd p 0),.int .u64 (wd p 1),.int .u64 (wd p 2),.int .u64 (wd p 3),.int .u64 i0,.int .u64 (wd r 0),.int .u64 (wd r 1),.int .u64 (wd r 2),.int .u64 (wd r 3),.int .u64 (wd s 0),.int .u64 (wd s 1),.int .u64 (wd s 2),.int .u64 (wd s 3)] 75 (0,0)):=by rw[hW4];exact heap_old' (heap_old' (heap_old' (heap_new' rfl _) _) _) _
 have g_bl:W4.heap[w.heap.size+1]?=some (.cells #[.slice a n cap] 25 (0,0)):=by rw[hW4];exact heap_old' (heap_old' (heap_new' (by simp) _) _) _
 have g_r6:W4.heap[w.heap.size+1+1]?=some (.cells #[.slice none 0 0] 40 (0,0)):=by rw[hW4];exact heap_old' (heap_new' (by simp) _) _
 have g_r7:W4.heap[w.heap.size+1+1+1]?=some (.cells #[.int .i64 0] 26 (0,0)):=by rw[hW4];exact heap_new' (by simp) _
 have hsW4:W4.heap.size=w.heap.size+1+1+1+1:=by rw[hW4];simp
 rw[<-hW4]
 obtain⟨r7,e_r7⟩:∃ r7,r7=w.heap.size+1+1+1:=⟨_,rfl⟩
 rw[<-e_r7]at g_r7 ⊢
 obtain⟨r6,e_r6⟩:∃ r6,r6=w.heap.size+1+1:=⟨_,rfl⟩
 rw[<-e_r6]at g_r6 ⊢
 obtain⟨bl,e_bl⟩:∃ bl,bl=w.heap.size+1:=⟨_,rfl⟩
 rw[<-e_bl]at g_bl ⊢
 obtain⟨bf,e_bf⟩:∃ bf,bf=w.heap.size:=⟨_,rfl⟩
 rw[<-e_bf]at g_bf ⊢
 have HBkW4:=hid (show bf=w.heap.size/\bl=w.heap.size+1/\r6=w.heap.size+1+1/\r7=w.heap.size+1+1+1/\W4.heap.size=w.heap.size+1+1+1+1 from⟨e_bf,e_bl,e_r6,e_r7,hsW4⟩)
 clear hW4 hsW4 e_bf e_bl e_r6 e_r7
 have hne:r7≠r6:=by have hb:=HBkW4.out;omega
 obtain⟨t1,t2,t3,t4⟩:=put_two (u':=.slice none 0 0) (v':=.int .i64 6) g_r6 g_r7 hne
 have m6:W4.cell? ⟨r6,0,none⟩=some (.slice none 0 0):=cell_of_heap g_r6 0
 have f6:=fun j=>frozen_of_heap g_r6 j
 have l6:=heap_lt g_r6
 have m7:(W4.setCell ⟨r6,0,none⟩ (.slice none 0 0)).cell? ⟨r7,0,none⟩=some (.int .i64 0):=cell_of_heap t1 0
 have f7:=fun j=>frozen_of_heap t1 j
 have l7:=heap_lt t1
 have r6c:((W4.setCell ⟨r6,0,none⟩ (.slice none 0 0)).setCell ⟨r7,0,none⟩ (.int .i64 6)).cell? ⟨r6,0,none⟩=some (.slice none 0 0):=cell_of_heap t2 0
 have r7c:((W4.setCell ⟨r6,0,none⟩ (.slice none 0 0)).setCell ⟨r7,0,none⟩ (.int .i64 6)).cell? ⟨r7,0,none⟩=some (.int .i64 6):=cell_of_heap t3 0
 clear t1 hne
 go_wp2
 exact bodyPost_ret (v:=.tuple #[.slice none 0 0,.int .i64 6]) (by simp[results,Tryz.results44,go_sem,r6c,r7c]) rfl ⟨rfl,hOW4.trans t4 (fun k hk e=>by have hb:=HBkW4.out;omega)⟩
set_option maxRecDepth 100000 in
set_option maxHeartbeats 4000000 in
theorem join_count {id:Int} {p i0 r s:Nat} (a:Option Addr) (n cap M:Nat) (hM:M<=65535) (w:World) (hr:n≠cntN M) :
  Calls Tryz.prog 44 #[FV id p i0 r s,.slice a n cap,.int .i64 M] w fun e w'=>e=.returned (.tuple #[.slice none 0 0,.int .i64 8])/\Off (fun _=>False) w w':=by
 have hIs:=fun w'=>islength_any (M:Int) (wf_small hM) w'
 rw[show decide (0<=(M:Int)/\(M:Int)<=65535)=true from decide_eq_true (by omega)]at hIs
 have HC:=hid (fun w'=>count_any (M:Int) (wf_small hM) w')
 obtain⟨c,hc⟩:∃ c,c=cntN M:=⟨_,rfl⟩
 rw[show cntI (M:Int)=c by unfold cntI;rw[if_pos (by omega),Int.toNat_natCast,hc]]at HC
 have i1:¬((n:Int)=(c:Int)):=by omega
 clear hc hr hM
 go_enter Tryz.func44,Tryz.ntmps44
 go_wp2_with fail
 refine(hIs _).mono ?_
 rintro e w' ⟨rfl,rfl⟩
 clear hIs
 obtain⟨W4,hW4⟩:∃ W4,W4=(((w.alloc (.cells #[.int .i64 id,.int .u64 (wd p 0),.int .u64 (wd p 1),.int .u64 (wd p 2),.int .u64 (wd p 3),.int .u64 i0,.int .u64 (wd r 0),.int .u64 (wd r 1),.int .u64 (wd r 2),.int .u64 (wd r 3),.int .u64 (wd s 0),.int .u64 (wd s 1),.int .u64 (wd s 2),.int .u64 (wd s 3)] 75)).alloc (.cells #[.slice a n cap] 25)).alloc (.cells #[.slice none 0 0] 40)).alloc (.cells #[.int .i64 0] 26):=⟨_,rfl⟩
 have hOW4:Off (fun _=>False) w W4:=by rw[hW4];exact((((Off.refl _ w).alloc _).alloc _).alloc _).alloc _
 have g_bf:W4.heap[w.heap.size]?=some (.cells #[.int .i64 id,.int .u64 (wd p 0),.int .u64 (wd p 1),.int .u64 (wd p 2),.int .u64 (wd p 3),.int .u64 i0,.int .u64 (wd r 0),.int .u64 (wd r 1),.int .u64 (wd r 2),.int .u64 (wd r 3),.int .u64 (wd s 0),.int .u64 (wd s 1),.int .u64 (wd s 2),.int .u64 (wd s 3)] 75 (0,0)):=by rw[hW4];exact heap_old' (heap_old' (heap_old' (heap_new' rfl _) _) _) _
 have g_bl:W4.heap[w.heap.size+1]?=some (.cells #[.slice a n cap] 25 (0,0)):=by rw[hW4];exact heap_old' (heap_old' (heap_new' (by simp) _) _) _
 have g_r6:W4.heap[w.heap.size+1+1]?=some (.cells #[.slice none 0 0] 40 (0,0)):=by rw[hW4];exact heap_old' (heap_new' (by simp) _) _
 have g_r7:W4.heap[w.heap.size+1+1+1]?=some (.cells #[.int .i64 0] 26 (0,0)):=by rw[hW4];exact heap_new' (by simp) _
 have hsW4:W4.heap.size=w.heap.size+1+1+1+1:=by rw[hW4];simp
 rw[<-hW4]
 obtain⟨r7,e_r7⟩:∃ r7,r7=w.heap.size+1+1+1:=⟨_,rfl⟩
 rw[<-e_r7]at g_r7 ⊢
 obtain⟨r6,e_r6⟩:∃ r6,r6=w.heap.size+1+1:=⟨_,rfl⟩
 rw[<-e_r6]at g_r6 ⊢
 obtain⟨bl,e_bl⟩:∃ bl,bl=w.heap.size+1:=⟨_,rfl⟩
 rw[<-e_bl]at g_bl ⊢
 obtain⟨bf,e_bf⟩:∃ bf,bf=w.heap.size:=⟨_,rfl⟩
 rw[<-e_bf]at g_bf ⊢
 have HBkW4:=hid (show bf=w.heap.size/\bl=w.heap.size+1/\r6=w.heap.size+1+1/\r7=w.heap.size+1+1+1/\W4.heap.size=w.heap.size+1+1+1+1 from⟨e_bf,e_bl,e_r6,e_r7,hsW4⟩)
 clear hW4 hsW4 e_bf e_bl e_r6 e_r7
 have HK:Hid (∀ A,Off (fun _=>False) W4 A->(A.cell? ⟨bl,0,none⟩=some (.slice a n cap))/\Off (fun _=>False) W4 A):=hid (fun A h=>⟨cell_of_heap (h.heap g_bl (fun c=>c)) 0,h⟩)
 go_upto_region 3 with fail
 refine wp_region_inv (fun a0 l a' w'=>∃ (u16:Value) (u17:Value) (u18:Value) (u19:Value) (u20:Value),a'=(Act.put (Act.put (Act.put (Act.put (Act.put a0 (some 16) u16) (some 17) u17) (some 18) u18) (some 19) u19) (some 20) u20)/\Slot l 0 u16 (.slice a n cap)/\Slot l 1 u17 (.int .i64 n)/\Slot l 2 u18 (.int .i64 M)/\Slot l 3 u19 (.int .i64 c)/\Slot l 4 u20 (.bool ((n:Int) != (c:Int)))/\Off (fun _=>False) W4 w') (by kernel_rfl) (by kernel_rfl) ?_ ⟨?_,?_,?_,?_,?_,trivial⟩ ?_
 ·refine⟨?z16,?z17,?z18,?z19,?z20,?fr,Slot.start _ _ _,Slot.start _ _ _,Slot.start _ _ _,Slot.start _ _ _,Slot.start _ _ _,(Off.refl _ W4).drew⟩
  case fr=>first | (simp only[XP];rfl) | simp only[XP]
 all_goals try (intro l a wr hI hl hd K' hK;obtain⟨u16,u17,u18,u19,u20,ha,s0,s1,s2,s3,s4,hO⟩:=hI;simp only[XP]at ha)
 ·subst ha
  have hc:=HK.out wr hO
  have p0:=hc.1
  clear hc
  go_simp
  refine hK.out _ _ ⟨_,_,_,_,_,?_,Slot.new _ _ _,s1.keep rfl,s2.keep rfl,s3.keep rfl,s4.keep rfl,hO⟩
  simp only[XP]
 ·have q0:=s0 (hd 0 (by decide))
  subst ha q0
  go_simp
  refine hK.out _ _ ⟨_,_,_,_,_,?_,s0.keep rfl,Slot.new _ _ _,s2.keep rfl,s3.keep rfl,s4.keep rfl,hO⟩
  simp only[XP]
 ·subst ha
  go_simp
  refine hK.out _ _ ⟨_,_,_,_,_,?_,s0.keep rfl,s1.keep rfl,Slot.new _ _ _,s3.keep rfl,s4.keep rfl,hO⟩
  simp only[XP]
 ·have q2:=s2 (hd 2 (by decide))
  subst ha q2
  go_simp
  refine(held_inv (HC.out wr) hO).mono ?_
  rintro e w1 ⟨rfl,hO1,hOW⟩
  go_wp2_with fail
  refine hK.out _ _ ⟨_,_,_,_,_,?_,s0.keep rfl,s1.keep rfl,s2.keep rfl,Slot.new _ _ _,s4.keep rfl,hO1⟩
  simp only[XP]
 ·have q1:=s1 (hd 1 (by decide))
  have q3:=s3 (hd 3 (by decide))
  subst ha q1 q3
  go_simp
  refine hK.out _ _ ⟨_,_,_,_,_,?_,s0.keep rfl,s1.keep rfl,s2.keep rfl,s3.keep rfl,Slot.new _ _ _,hO⟩
  simp only[XP]
 intro l a wc hI hd
 obtain⟨u16,u17,u18,u19,u20,ha,s0,s1,s2,s3,s4,hO⟩:=hI
 simp only[XP]at ha
 have q0:=s0 (hd 0 (by decide))
 have q1:=s1 (hd 1 (by decide))
 have q2:=s2 (hd 2 (by decide))
 have q3:=s3 (hd 3 (by decide))
 have q4:=s4 (hd 4 (by decide))
 subst ha q0 q1 q2 q3 q4
 clear hd s0 s1 s2 s3 s4
 have h6:=hO.heap g_r6 (fun c=>c)
 have h7:=hO.heap g_r7 (fun c=>c)
 rw[show((n:Int) != (c:Int))=true by simp;omega]
 have hne:r7≠r6:=by have hb:=HBkW4.out;omega
 obtain⟨t1,t2,t3,t4⟩:=put_two (u':=.slice none 0 0) (v':=.int .i64 8) h6 h7 hne
 have m6:wc.cell? ⟨r6,0,none⟩=some (.slice none 0 0):=cell_of_heap h6 0
 have f6:=fun j=>frozen_of_heap h6 j
 have l6:=heap_lt h6
 have m7:(wc.setCell ⟨r6,0,none⟩ (.slice none 0 0)).cell? ⟨r7,0,none⟩=some (.int .i64 0):=cell_of_heap t1 0
 have f7:=fun j=>frozen_of_heap t1 j
 have l7:=heap_lt t1
 have r6c:((wc.setCell ⟨r6,0,none⟩ (.slice none 0 0)).setCell ⟨r7,0,none⟩ (.int .i64 8)).cell? ⟨r6,0,none⟩=some (.slice none 0 0):=cell_of_heap t2 0
 have r7c:((wc.setCell ⟨r6,0,none⟩ (.slice none 0 0)).setCell ⟨r7,0,none⟩ (.int .i64 8)).cell? ⟨r7,0,none⟩=some (.int .i64 8):=cell_of_heap t3 0
 clear t1 hne
 go_wp2
 exact bodyPost_ret (v:=.tuple #[.slice none 0 0,.int .i64 8]) (by simp[results,Tryz.results44,go_sem,r6c,r7c]) rfl ⟨rfl,(hOW4.trans hO (fun _ _ c=>c)).trans t4 (fun k hk e=>by have hb:=HBkW4.out;omega)⟩
set_option maxRecDepth 100000 in
set_option maxHeartbeats 4000000 in
theorem join_main {id:Int} {p i0 r s:Nat} (hF:Fld id p i0 r s) (ls:List Nat) (hx:∀ x∈ls,x<p) (a:Option Addr) (n cap M:Nat) (hn:n=ls.length) (hM:M<=65535) (hc:n=cntN M) (w:World) (hL:LsAt w (.slice a n cap) (ls.map (fm p)) (fun k=>k<w.heap.size/\¬False)) :
  Calls Tryz.prog 44 #[FV id p i0 r s,.slice a n cap,.int .i64 M] w fun e w'=>∃ sv,e=.returned (.tuple #[sv,.int .i64 ((joinG M ls n).2:Int)])/\SvAt w' sv (joinG M ls n).1/\Off (fun _=>False) w w':=by
 refine(callsIn_wide (n:=3)).1 ?_
 refine callsIn_of_wp_marks Tryz.func44 rfl trivial ?_ rfl
 simp only[Tryz.ntmps44,List.size_toArray,List.length_cons,List.length_nil,Nat.reduceAdd,Nat.reduceSub,Array.replicate_succ,Array.replicate_zero,List.push_toArray,List.append_toArray,List.nil_append,List.cons_append]
 have hmx:Tryz.prog.follows .mixedOrders=true:=by kernel_rfl
 have hIs:=fun w'=>callsIn_wide (n:=3-1).2 (islength_any (M:Int) (wf_small hM) w')
 rw[show decide (0<=(M:Int)/\(M:Int)<=65535)=true from decide_eq_true (by omega)]at hIs
 have HC:=hid (fun w'=>count_any (M:Int) (wf_small hM) w')
 rw[show cntI (M:Int)=n by unfold cntI;rw[if_pos (by omega),Int.toNat_natCast,hc]]at HC
 have hLn:=fun w'=>callsIn_wide (n:=3-1).2 (lens_any (M:Int) w')
 have hmk:=run_make_by M (by omega)
 have HF:=hid hF
 have HX:=hid hx
 have HN:=hid hn
 have HM:=hid hM
 have HCn:=hid hc
 have HL:=hid hL
 have HLn:=hid hLn
 have HMk:=hid hmk
 clear hF hx hn hM hc hL hLn hmk
 gi_wp2_with (gi_at_call 78;refine(hIs _).mono ?_;rintro e w' ⟨rfl,rfl⟩)
 clear hIs
 obtain⟨W4,hW4⟩:∃ W4,W4=(((w.alloc (.cells #[.int .i64 id,.int .u64 (wd p 0),.int .u64 (wd p 1),.int .u64 (wd p 2),.int .u64 (wd p 3),.int .u64 i0,.int .u64 (wd r 0),.int .u64 (wd r 1),.int .u64 (wd r 2),.int .u64 (wd r 3),.int .u64 (wd s 0),.int .u64 (wd s 1),.int .u64 (wd s 2),.int .u64 (wd s 3)] 75)).alloc (.cells #[.slice a n cap] 25)).alloc (.cells #[.slice none 0 0] 40)).alloc (.cells #[.int .i64 0] 26):=⟨_,rfl⟩
 have hOW4:Off (fun _=>False) w W4:=by rw[hW4];exact((((Off.refl _ w).alloc _).alloc _).alloc _).alloc _
 have g_bf:W4.heap[w.heap.size]?=some (.cells #[.int .i64 id,.int .u64 (wd p 0),.int .u64 (wd p 1),.int .u64 (wd p 2),.int .u64 (wd p 3),.int .u64 i0,.int .u64 (wd r 0),.int .u64 (wd r 1),.int .u64 (wd r 2),.int .u64 (wd r 3),.int .u64 (wd s 0),.int .u64 (wd s 1),.int .u64 (wd s 2),.int .u64 (wd s 3)] 75 (0,0)):=by rw[hW4];exact heap_old' (heap_old' (heap_old' (heap_new' rfl _) _) _) _
 have g_bl:W4.heap[w.heap.size+1]?=some (.cells #[.slice a n cap] 25 (0,0)):=by rw[hW4];exact heap_old' (heap_old' (heap_new' (by simp) _) _) _
 have g_r6:W4.heap[w.heap.size+1+1]?=some (.cells #[.slice none 0 0] 40 (0,0)):=by rw[hW4];exact heap_old' (heap_new' (by simp) _) _
 have g_r7:W4.heap[w.heap.size+1+1+1]?=some (.cells #[.int .i64 0] 26 (0,0)):=by rw[hW4];exact heap_new' (by simp) _
 have hsW4:W4.heap.size=w.heap.size+1+1+1+1:=by rw[hW4];simp
 rw[<-hW4]
 obtain⟨r7,e_r7⟩:∃ r7,r7=w.heap.size+1+1+1:=⟨_,rfl⟩
 rw[<-e_r7]at g_r7 ⊢
 obtain⟨r6,e_r6⟩:∃ r6,r6=w.heap.size+1+1:=⟨_,rfl⟩
 rw[<-e_r6]at g_r6 ⊢
 obtain⟨bl,e_bl⟩:∃ bl,bl=w.heap.size+1:=⟨_,rfl⟩
 rw[<-e_bl]at g_bl ⊢
 obtain⟨bf,e_bf⟩:∃ bf,bf=w.heap.size:=⟨_,rfl⟩
 rw[<-e_bf]at g_bf ⊢
 have HBkW4:=hid (show bf=w.heap.size/\bl=w.heap.size+1/\r6=w.heap.size+1+1/\r7=w.heap.size+1+1+1/\W4.heap.size=w.heap.size+1+1+1+1 from⟨e_bf,e_bl,e_r6,e_r7,hsW4⟩)
 clear hW4 hsW4 e_bf e_bl e_r6 e_r7
 have HK:Hid (∀ A,Off (fun _=>False) W4 A->(A.cell? ⟨bl,0,none⟩=some (.slice a n cap))/\Off (fun _=>False) W4 A):=hid (fun A h=>⟨cell_of_heap (h.heap g_bl (fun c=>c)) 0,h⟩)
 refine wpWide_region_inv (fun a0 l a' w'=>∃ (u16:Value) (u17:Value) (u18:Value) (u19:Value) (u20:Value),a'=(Act.put (Act.put (Act.put (Act.put (Act.put a0 (some 16) u16) (some 17) u17) (some 18) u18) (some 19) u19) (some 20) u20)/\Slot l 0 u16 (.slice a n cap)/\Slot l 1 u17 (.int .i64 n)/\Slot l 2 u18 (.int .i64 M)/\Slot l 3 u19 (.int .i64 n)/\Slot l 4 u20 (.bool false)/\Off (fun _=>False) W4 w') (by kernel_rfl) (by kernel_rfl) (by kernel_rfl) ?_ ⟨?_,?_,?_,?_,?_,trivial⟩ ?_
 ·refine⟨?z16,?z17,?z18,?z19,?z20,?fr,Slot.start _ _ _,Slot.start _ _ _,Slot.start _ _ _,Slot.start _ _ _,Slot.start _ _ _,(Off.refl _ W4).drew⟩
  case fr=>first | (simp only[XP];rfl) | simp only[XP]
 all_goals try (intro l a wr hI hl hd K' hK;obtain⟨u16,u17,u18,u19,u20,ha,s0,s1,s2,s3,s4,hO⟩:=hI;simp only[XP]at ha)
 ·subst ha
  have hc:=HK.out wr hO
  have p0:=hc.1
  clear hc
  go_simp
  refine hK.out _ _ ⟨_,_,_,_,_,?_,Slot.new _ _ _,s1.keep rfl,s2.keep rfl,s3.keep rfl,s4.keep rfl,hO⟩
  simp only[XP]
 ·have q0:=s0 (hd 0 (by decide))
  subst ha q0
  go_simp
  refine hK.out _ _ ⟨_,_,_,_,_,?_,s0.keep rfl,Slot.new _ _ _,s2.keep rfl,s3.keep rfl,s4.keep rfl,hO⟩
  simp only[XP]
 ·subst ha
  go_simp
  refine hK.out _ _ ⟨_,_,_,_,_,?_,s0.keep rfl,s1.keep rfl,Slot.new _ _ _,s3.keep rfl,s4.keep rfl,hO⟩
  simp only[XP]
 ·have q2:=s2 (hd 2 (by decide))
  subst ha q2
  go_simp
  refine(held_inv (HC.out wr) hO).mono ?_
  rintro e w1 ⟨rfl,hO1,hOW⟩
  go_wp2_with fail
  refine hK.out _ _ ⟨_,_,_,_,_,?_,s0.keep rfl,s1.keep rfl,s2.keep rfl,Slot.new _ _ _,s4.keep rfl,hO1⟩
  simp only[XP]
 ·have q1:=s1 (hd 1 (by decide))
  have q3:=s3 (hd 3 (by decide))
  subst ha q1 q3
  go_simp
  refine hK.out _ _ ⟨_,_,_,_,_,?_,s0.keep rfl,s1.keep rfl,s2.keep rfl,s3.keep rfl,Slot.new _ _ _,hO⟩
  simp only[XP]
 intro l a wc hI hd
 obtain⟨u16,u17,u18,u19,u20,ha,s0,s1,s2,s3,s4,hO⟩:=hI
 simp only[XP]at ha
 have q0:=s0 (hd 0 (by decide))
 have q1:=s1 (hd 1 (by decide))
 have q2:=s2 (hd 2 (by decide))
 have q3:=s3 (hd 3 (by decide))
 have q4:=s4 (hd 4 (by decide))
 subst ha q0 q1 q2 q3 q4
 clear hd s0 s1 s2 s3 s4
 have h_bf:=hO.heap g_bf (fun c=>c)
 have h_bl:=hO.heap g_bl (fun c=>c)
 have h_r6:=hO.heap g_r6 (fun c=>c)
 have h_r7:=hO.heap g_r7 (fun c=>c)
 have hOc:=hOW4.trans hO (fun _ _ c=>c)
 have hsc:=hO.size
 clear g_bf g_bl g_r6 g_r7 hOW4 hO HK HC
 have hLn:=HLn.out
 have hmk:=HMk.out
 gi_wp2_with (gi_at_call 80;refine(hLn _).mono ?_;rintro e w' ⟨rfl,rfl⟩)
 clear hLn hmk HLn HMk
 obtain⟨W8,hW8⟩:∃ W8,W8=((wc.alloc (.cells (Array.replicate M (u8v 0)) 5)).alloc (.cells #[.slice (some ⟨wc.heap.size,0,none⟩) M M] 40)).alloc (.cells #[.int .i64 M] 3):=⟨_,rfl⟩
 have hOW8:Off (fun _=>False) wc W8:=by rw[hW8];exact(((Off.refl _ wc).alloc _).alloc _).alloc _
 have g_arr:W8.heap[wc.heap.size]?=some (.cells (Array.replicate M (u8v 0)) 5 (0,0)):=by rw[hW8];exact heap_old' (heap_old' (heap_new' rfl _) _) _
 have g_sb:W8.heap[wc.heap.size+1]?=some (.cells #[.slice (some ⟨wc.heap.size,0,none⟩) M M] 40 (0,0)):=by rw[hW8];exact heap_old' (heap_new' (by simp) _) _
 have g_lb:W8.heap[wc.heap.size+1+1]?=some (.cells #[.int .i64 M] 3 (0,0)):=by rw[hW8];exact heap_new' (by simp) _
 have hsW8:W8.heap.size=wc.heap.size+1+1+1:=by rw[hW8];simp
 rw[<-hW8]
 obtain⟨lb,e_lb⟩:∃ lb,lb=wc.heap.size+1+1:=⟨_,rfl⟩
 rw[<-e_lb]at g_lb ⊢
 obtain⟨sb,e_sb⟩:∃ sb,sb=wc.heap.size+1:=⟨_,rfl⟩
 rw[<-e_sb]at g_sb ⊢
 obtain⟨arr,e_arr⟩:∃ arr,arr=wc.heap.size:=⟨_,rfl⟩
 rw[<-e_arr]at g_arr g_sb ⊢
 have HBkW8:=hid (show arr=wc.heap.size/\sb=wc.heap.size+1/\lb=wc.heap.size+1+1/\W8.heap.size=wc.heap.size+1+1+1 from⟨e_arr,e_sb,e_lb,hsW8⟩)
 clear hW8 hsW8 e_arr e_sb e_lb
 have hLen:LenAt lb M W8:=cell_of_heap g_lb 0
 have hsq:=lens_stops (3-1) (by omega) lb M HM.out W8 hLen
 have h_bf:=hOW8.heap h_bf (fun c=>c)
 have h_bl:=hOW8.heap h_bl (fun c=>c)
 have h_r6:=hOW8.heap h_r6 (fun c=>c)
 have h_r7:=hOW8.heap h_r7 (fun c=>c)
 have HBk:=hid (show w.heap.size<=bf/\bf<bl/\bl<r6/\r6<r7/\r7<arr/\arr<sb/\sb<lb/\lb<W8.heap.size by have h4:=HBkW4.out;have h8:=HBkW8.out;omega)
 have h80:W8.heap[bf]?=some (.cells #[.int .i64 id,.int .u64 (wd p 0),.int .u64 (wd p 1),.int .u64 (wd p 2),.int .u64 (wd p 3),.int .u64 i0,.int .u64 (wd r 0),.int .u64 (wd r 1),.int .u64 (wd r 2),.int .u64 (wd r 3),.int .u64 (wd s 0),.int .u64 (wd s 1),.int .u64 (wd s 2),.int .u64 (wd s 3)] 75 (0,0))/\W8.heap[bl]?=some (.cells #[.slice a n cap] 25 (0,0))/\W8.heap[r6]?=some (.cells #[.slice none 0 0] 40 (0,0))/\W8.heap[r7]?=some (.cells #[.int .i64 0] 26 (0,0))/\W8.heap[sb]?=some (.cells #[.slice (some ⟨arr,0,none⟩) M M] 40 (0,0))/\JoI ls M arr [] W8/\Off (fun _=>False) w W8:=⟨h_bf,h_bl,h_r6,h_r7,g_sb,⟨List.replicate M 0,List.length_replicate,by unfold ByBlk;rw[g_arr];simp,fun _=>⟨rfl,rfl⟩⟩,hOc.trans hOW8 (fun _ _ c=>c)⟩
 have H80:=hid h80
 have HSq:=hid hsq
 clear h80 hsq hLen h_bf h_bl h_r6 h_r7 g_sb g_lb g_arr hOW8 hOc hsc HBkW4 HBkW8
 refine wpIn_rangeFunc_ownH (F:=Fence.wide) (n:=3) rfl (by omega) (gf:=116) (lb:=#[.pointer (some ⟨lb,0,none⟩)]) rfl trivial (enters_of Tryz.func116 (by kernel_rfl) rfl)
  HSq.out (fun h k x=>k (h x)) (fun W l o o' hl h hc hw=>lenK_b W l o o' hl h hc hw) (Below.refl _ _) (fun _=>by rfl)
  (fun pre W=>W.heap[bf]?=some (.cells #[.int .i64 id,.int .u64 (wd p 0),.int .u64 (wd p 1),.int .u64 (wd p 2),.int .u64 (wd p 3),.int .u64 i0,.int .u64 (wd r 0),.int .u64 (wd r 1),.int .u64 (wd r 2),.int .u64 (wd r 3),.int .u64 (wd s 0),.int .u64 (wd s 1),.int .u64 (wd s 2),.int .u64 (wd s 3)] 75 (0,0))/\W.heap[bl]?=some (.cells #[.slice a n cap] 25 (0,0))/\W.heap[r6]?=some (.cells #[.slice none 0 0] 40 (0,0))/\W.heap[r7]?=some (.cells #[.int .i64 0] 26 (0,0))/\W.heap[sb]?=some (.cells #[.slice (some ⟨arr,0,none⟩) M M] 40 (0,0))/\JoI ls M arr pre W/\Off (fun _=>False) w W)
  (fun c pre W=>c=.ret/\∃ er:Nat,er≠0/\W.heap[r6]?=some (.cells #[.slice none 0 0] 40 (0,0))/\W.heap[r7]?=some (.cells #[.int .i64 er] 26 (0,0))/\(pre.map Fin.val=List.range pre.length->joinG M ls pre.length=([],er))/\Off (fun _=>False) w W)
  (fun pre A B row hs hg hr=>by
   obtain⟨h1,h2,h3,h4,h5,⟨xs,hxs,h6,h7⟩,h8⟩:=hs
   have hr':∀ r,row=some r->∃ o:Obj,A.heap[r]?=some o/\o.isCells=false:=fun r e=>(hr r e).2
   exact⟨(grownBy_keeps_cells hg hr' h1 rfl).trans h1,(grownBy_keeps_cells hg hr' h2 rfl).trans h2,(grownBy_keeps_cells hg hr' h3 rfl).trans h3,(grownBy_keeps_cells hg hr' h4 rfl).trans h4,(grownBy_keeps_cells hg hr' h5 rfl).trans h5,⟨xs,hxs,(grownBy_keeps_cells hg hr' h6 rfl).trans h6,h7⟩,h8.laterC hg (fun r e=>by have:=(hr r e).1;have hb:=HBk.out;omega)⟩)
  (fun c pre A B row hs hg hr=>by
   obtain⟨hcr,er,he,h3,h4,h5,h8⟩:=hs
   have hr':∀ r,row=some r->∃ o:Obj,A.heap[r]?=some o/\o.isCells=false:=fun r e=>(hr r e).2
   exact⟨hcr,er,he,(grownBy_keeps_cells hg hr' h3 rfl).trans h3,(grownBy_keeps_cells hg hr' h4 rfl).trans h4,h5,h8.laterC hg (fun r e=>by have:=(hr r e).1;have hb:=HBk.out;omega)⟩)
  H80.out
  (fun x a' W=>a'={ tmps:=#[FV id p i0 r s,.slice a n cap,.int .i64 M,.pointer (some ⟨bf,0,none⟩),.pointer (some ⟨bl,0,none⟩),undef,.pointer (some ⟨r6,0,none⟩),.pointer (some ⟨r7,0,none⟩),.pointer (some ⟨sb,0,none⟩),.int .i64 (x.val:Int),.int .i64 (chkN M x.val:Int),undef,undef,.int .i64 M,.bool true,.bool false,.slice a n cap,.int .i64 n,.int .i64 M,.int .i64 n,.bool false,.int .i64 M,.slice (some ⟨arr,0,none⟩) M M,.int .i64 M,.func (.func 116) #[] #[.pointer (some ⟨lb,0,none⟩)],.int .i64 (x.val:Int),.int .i64 (chkN M x.val:Int),undef,undef,undef,undef,undef,undef,undef,undef,undef,undef,undef,undef,undef,undef,undef,undef,undef,undef,undef,undef],defers:=[] })
  (fun x a' _ A C row hs hg hr=>hs)
  ?assign ?body ?done ?stop
 case assign =>
  rintro l pre x W K hI hK
  clear HSq
  have HI:=hid hI
  have HKf:=hid hK
  clear hI hK
  gi_wp2
  exact HKf.out _ _ ((KeepsOthers.refl _).from _) (fun h=>h) HI.out rfl
 case body =>
  rintro l pre x a' W _ _ ⟨h1,h2,h3,h4,h5,⟨xs,hxs,h6,h7⟩,h8⟩ rfl hlen
  have HNx:=hid (fun(ys:List Nat) (W':World) hy h=>JoI.next (W':=W') (arr:=arr) (ys:=ys) (x:=x) hxs h7 hy h)
  have HEr:=hid (fun(ys:List Nat) (er:Nat) hy he=>joinG_err (ys:=ys) (er:=er) (x:=x) (fun h=>(h7 h).1) hy he)
  obtain⟨j,hj⟩:∃ j,j=x.val:=⟨_,rfl⟩
  have hjn:j<n:=by have:=x.isLt;rw[hj,HCn.out];exact this
  rw[<-hj]at HNx HEr ⊢
  obtain⟨d,hd⟩:∃ d,d=chkN M j:=⟨_,rfl⟩
  rw[<-hd]at HNx HEr ⊢
  have hd0:0<d:=by rw[hd];exact chkN_pos (by rw[<-HCn.out];exact hjn)
  have hd1:d<=31:=by rw[hd];exact chkN_le _ _
  have hdn:31*j+d<=M:=by have:=HCn.out;rw[hd];unfold chkN;unfold cntN at this;omega
  obtain⟨y,eb,eo,hy,rfl,c0,c1,c2,c3⟩:=((HL.out.mono (fun k hk _=>hk)).off h8 (fun _ _ _ c=>c)).at hjn
  have hyv:y=fm p (ls.getD j 0)/\ls.getD j 0<p:=by
   rw[List.getElem?_map]at hy
   obtain⟨v,hv,rfl⟩:=Option.map_eq_some_iff.1 hy
   rw[List.getD_eq_getElem?_getD,hv]
   exact⟨rfl,HX.out _ (List.mem_of_getElem? hv)⟩
  obtain⟨v,hv⟩:∃ v,v=ls.getD j 0:=⟨_,rfl⟩
  rw[<-hv]at HNx HEr hyv
  obtain⟨R,hR⟩:∃ R,R=unpV v (d:Int):=⟨_,rfl⟩
  have HUn:=(fun W=>by
   have h:=unpack_any HF.out y (by rw[hyv.1];exact fm_lt HF.out.mp.pos _) (d:Int) (wf_small (by omega)) W
   rw[show mm p y 1=v by rw[hyv.1,mm_one HF.out.mp,Nat.mod_eq_of_lt hyv.2],<-hR]at h
   exact h:∀ W,Calls Tryz.prog 81 #[FV id p i0 r s,V y,.int .i64 d] W fun e w'=>∃ sv,e=.returned (.tuple #[sv,.int .i64 (R.2:Int)])/\SvAt w' sv R.1/\Off (fun _=>False) W w')
  rw[<-hR]at HNx HEr
  have hul:R.2=0->R.1.length=d:=fun h=>by rw[hR]at h ⊢;exact unp_len hd1 h
  obtain⟨ys,er⟩:=R
  dsimp only at HUn hul
  have HUl:=hid hul
  have HUn:=hid HUn
  have hjI:(j:Int)<(n:Int):=by omega
  obtain⟨q,hq⟩:∃ q,q=31*j:=⟨_,rfl⟩
  have HPa:=hid (show ∀ W,Calls Tryz.prog 82 #[.slice (some ⟨arr,0,none⟩) M M,.int .i64 j,.int .i64 d] W fun e w'=>e=.returned (.slice (some ⟨arr,q,none⟩) d d)/\w'=W from fun W=>by
   have h:=part_ex (some ⟨arr,0,none⟩) M M j d hd0 hdn (Nat.le_refl _) (by have:=HM.out;omega) W
   rw[show Option.map (fun x=>x.add (31*j)) (some (⟨arr,0,none⟩:Addr))=some ⟨arr,q,none⟩ by rw[hq];simp[Addr.add_lit]]at h
   exact h)
  have HQ:=hid (show q+d<=xs.length by omega)
  rw[<-hq]at HNx
  have H1:=hid h1
  have H2:=hid h2
  have H3:=hid h3
  have H4:=hid h4
  have H5:=hid h5
  have H6:=hid h6
  have H8:=hid h8
  have HK:Hid (∀ A,Off (fun _=>False) W A->(A.cell? ⟨bf,0,none⟩=some (.int .i64 id)/\A.cell? ⟨bf,1,none⟩=some (.int .u64 (wd p 0))/\A.cell? ⟨bf,2,none⟩=some (.int .u64 (wd p 1))/\A.cell? ⟨bf,3,none⟩=some (.int .u64 (wd p 2))/\A.cell? ⟨bf,4,none⟩=some (.int .u64 (wd p 3))/\A.cell? ⟨bf,5,none⟩=some (.int .u64 i0)/\A.cell? ⟨bf,6,none⟩=some (.int .u64 (wd r 0))/\A.cell? ⟨bf,7,none⟩=some (.int .u64 (wd r 1))/\A.cell? ⟨bf,8,none⟩=some (.int .u64 (wd r 2))/\A.cell? ⟨bf,9,none⟩=some (.int .u64 (wd r 3))/\A.cell? ⟨bf,10,none⟩=some (.int .u64 (wd s 0))/\A.cell? ⟨bf,11,none⟩=some (.int .u64 (wd s 1))/\A.cell? ⟨bf,12,none⟩=some (.int .u64 (wd s 2))/\A.cell? ⟨bf,13,none⟩=some (.int .u64 (wd s 3)))/\(A.cell? ⟨bl,0,none⟩=some (.slice (some ⟨eb,eo,none⟩) n cap))/\(A.cell? ⟨eb,eo+j*4,none⟩=some (.int .u64 (wd y 0))/\A.cell? ⟨eb,eo+j*4+1,none⟩=some (.int .u64 (wd y 1))/\A.cell? ⟨eb,eo+j*4+2,none⟩=some (.int .u64 (wd y 2))/\A.cell? ⟨eb,eo+j*4+3,none⟩=some (.int .u64 (wd y 3)))/\Off (fun _=>False) W A):=hid (fun A h=>⟨fv_cells (h.heap h1 (fun c=>c)),cell_of_heap (h.heap h2 (fun c=>c)) 0,⟨h.cell c0 (fun c=>c),h.cell c1 (fun c=>c),h.cell c2 (fun c=>c),h.cell c3 (fun c=>c)⟩,h⟩)
  clear h1 h2 h3 h4 h5 h6 h7 h8 hxs hj hd hd0 hd1 hdn hy c0 c1 c2 c3 hyv hv hR hul hq HSq H80 hlen
  gi_wp2
  refine wpIn_region_inv (fun a0 l a' w'=>∃ (u28:Value) (u29:Value) (u30:Value) (u31:Value) (u32:Value) (u33:Value) (u34:Value) (u27:Value) (u35:Value) (u36:Value) (u11:Value) (u12:Value) (v34:Value),a'=(Act.put (Act.put (Act.put (Act.put (Act.put (Act.put (Act.put (Act.put (Act.put (Act.put (Act.put (Act.put a0 (some 28) u28) (some 29) u29) (some 30) u30) (some 31) u31) (some 32) u32) (some 33) u33) (some 34) u34) (some 27) u27) (some 35) u35) (some 36) u36) (some 11) u11) (some 12) u12)/\Slot l 0 u28 (FV id p i0 r s)/\Slot l 1 u29 (.slice (some ⟨eb,eo,none⟩) n cap)/\Slot l 2 u30 (.int .i64 j)/\Slot l 3 u31 (.pointer (some ⟨eb,eo+j*4,none⟩))/\Slot l 4 u32 (V y)/\Slot l 5 u33 (.int .i64 d)/\Slot l 6 u34 (.tuple #[v34,.int .i64 er])/\Slot l 7 u27 (.tuple #[v34,.int .i64 er])/\Slot l 8 u35 (v34)/\Slot l 9 u36 (.int .i64 er)/\Slot l 10 u11 (v34)/\Slot l 11 u12 (.int .i64 er)/\Mk l 6 v34 w' (ys)/\Dep l 6 7/\Dep l 6 8/\Dep l 6 10/\Off (fun _=>False) W w') (by kernel_rfl) (by kernel_rfl) (by kernel_rfl) ?_ ⟨?_,?_,?_,?_,?_,?_,?_,?_,?_,?_,?_,?_,trivial⟩ ?_
  ·refine⟨?z28,?z29,?z30,?z31,?z32,?z33,?z34,?z27,?z35,?z36,?z11,?z12,undef,?fr,Slot.start _ _ _,Slot.start _ _ _,Slot.start _ _ _,Slot.start _ _ _,Slot.start _ _ _,Slot.start _ _ _,Slot.start _ _ _,Slot.start _ _ _,Slot.start _ _ _,Slot.start _ _ _,Slot.start _ _ _,Slot.start _ _ _,Mk.start _ _ _ _,Dep.start _ _,Dep.start _ _,Dep.start _ _,(Off.refl _ W).drew⟩
   case fr=>first | (simp only[XP];rfl) | simp only[XP]
  all_goals try (intro l a wr hI hl hd K' hK;obtain⟨u28,u29,u30,u31,u32,u33,u34,u27,u35,u36,u11,u12,v34,ha,s0,s1,s2,s3,s4,s5,s6,s7,s8,s9,s10,s11,M6,V6_7,V6_8,V6_10,hO⟩:=hI;simp only[XP]at ha)
  ·subst ha
   have hc:=HK.out wr hO
   have p0:=hc.1.1
   have p1:=hc.1.2.1
   have p2:=hc.1.2.2.1
   have p3:=hc.1.2.2.2.1
   have p4:=hc.1.2.2.2.2.1
   have p5:=hc.1.2.2.2.2.2.1
   have p6:=hc.1.2.2.2.2.2.2.1
   have p7:=hc.1.2.2.2.2.2.2.2.1
   have p8:=hc.1.2.2.2.2.2.2.2.2.1
   have p9:=hc.1.2.2.2.2.2.2.2.2.2.1
   have p10:=hc.1.2.2.2.2.2.2.2.2.2.2.1
   have p11:=hc.1.2.2.2.2.2.2.2.2.2.2.2.1
   have p12:=hc.1.2.2.2.2.2.2.2.2.2.2.2.2.1
   have p13:=hc.1.2.2.2.2.2.2.2.2.2.2.2.2.2
   clear hc
   go_simp
   refine hK.out _ _ ⟨_,_,_,_,_,_,_,_,_,_,_,_,v34,?_,Slot.new _ _ _,s1.keep rfl,s2.keep rfl,s3.keep rfl,s4.keep rfl,s5.keep rfl,s6.keep rfl,s7.keep rfl,s8.keep rfl,s9.keep rfl,s10.keep rfl,s11.keep rfl,M6.keep (Off.refl _ wr) rfl,V6_7.keep rfl,V6_8.keep rfl,V6_10.keep rfl,hO⟩
   simp only[XP]
  ·subst ha
   have hc:=HK.out wr hO
   have p0:=hc.2.1
   clear hc
   go_simp
   refine hK.out _ _ ⟨_,_,_,_,_,_,_,_,_,_,_,_,v34,?_,s0.keep rfl,Slot.new _ _ _,s2.keep rfl,s3.keep rfl,s4.keep rfl,s5.keep rfl,s6.keep rfl,s7.keep rfl,s8.keep rfl,s9.keep rfl,s10.keep rfl,s11.keep rfl,M6.keep (Off.refl _ wr) rfl,V6_7.keep rfl,V6_8.keep rfl,V6_10.keep rfl,hO⟩
   simp only[XP]
  ·subst ha
   go_simp
   refine hK.out _ _ ⟨_,_,_,_,_,_,_,_,_,_,_,_,v34,?_,s0.keep rfl,s1.keep rfl,Slot.new _ _ _,s3.keep rfl,s4.keep rfl,s5.keep rfl,s6.keep rfl,s7.keep rfl,s8.keep rfl,s9.keep rfl,s10.keep rfl,s11.keep rfl,M6.keep (Off.refl _ wr) rfl,V6_7.keep rfl,V6_8.keep rfl,V6_10.keep rfl,hO⟩
   simp only[XP]
  ·have q1:=s1 (hd 1 (by decide))
   have q2:=s2 (hd 2 (by decide))
   subst ha q1 q2
   go_simp
   refine hK.out _ _ ⟨_,_,_,_,_,_,_,_,_,_,_,_,v34,?_,s0.keep rfl,s1.keep rfl,s2.keep rfl,Slot.new _ _ _,s4.keep rfl,s5.keep rfl,s6.keep rfl,s7.keep rfl,s8.keep rfl,s9.keep rfl,s10.keep rfl,s11.keep rfl,M6.keep (Off.refl _ wr) rfl,V6_7.keep rfl,V6_8.keep rfl,V6_10.keep rfl,hO⟩
   simp only[XP]
  ·have q3:=s3 (hd 3 (by decide))
   subst ha q3
   have hc:=HK.out wr hO
   have p0:=hc.2.2.1.1
   have p1:=hc.2.2.1.2.1
   have p2:=hc.2.2.1.2.2.1
   have p3:=hc.2.2.1.2.2.2
   clear hc
   go_simp
   refine hK.out _ _ ⟨_,_,_,_,_,_,_,_,_,_,_,_,v34,?_,s0.keep rfl,s1.keep rfl,s2.keep rfl,s3.keep rfl,Slot.new _ _ _,s5.keep rfl,s6.keep rfl,s7.keep rfl,s8.keep rfl,s9.keep rfl,s10.keep rfl,s11.keep rfl,M6.keep (Off.refl _ wr) rfl,V6_7.keep rfl,V6_8.keep rfl,V6_10.keep rfl,hO⟩
   simp only[XP]
  ·subst ha
   go_simp
   refine hK.out _ _ ⟨_,_,_,_,_,_,_,_,_,_,_,_,v34,?_,s0.keep rfl,s1.keep rfl,s2.keep rfl,s3.keep rfl,s4.keep rfl,Slot.new _ _ _,s6.keep rfl,s7.keep rfl,s8.keep rfl,s9.keep rfl,s10.keep rfl,s11.keep rfl,M6.keep (Off.refl _ wr) rfl,V6_7.keep rfl,V6_8.keep rfl,V6_10.keep rfl,hO⟩
   simp only[XP]
  ·have q0:=s0 (hd 0 (by decide))
   have q4:=s4 (hd 4 (by decide))
   have q5:=s5 (hd 5 (by decide))
   subst ha q0 q4 q5
   go_simp
   refine(HUn.out wr).mono ?_
   rintro e w1 ⟨uv,rfl,hm,hOW⟩
   have hO1:=hO.trans hOW (fun _ _ c=>c.elim)
   go_wp2_with fail
   refine hK.out _ _ ⟨_,_,_,_,_,_,_,_,_,_,_,_,uv,?_,s0.keep rfl,s1.keep rfl,s2.keep rfl,s3.keep rfl,s4.keep rfl,s5.keep rfl,Slot.new _ _ _,Slot.void (u:=u27) (V6_7 hl) rfl,Slot.void (u:=u35) (V6_8 hl) rfl,s9.keep rfl,Slot.void (u:=u11) (V6_10 hl) rfl,s11.keep rfl,Mk.new hm,V6_7.keep rfl,V6_8.keep rfl,V6_10.keep rfl,hO1⟩
   simp only[XP]
  ·have q6:=s6 (hd 6 (by decide))
   subst ha q6
   go_simp
   refine hK.out _ _ ⟨_,_,_,_,_,_,_,_,_,_,_,_,v34,?_,s0.keep rfl,s1.keep rfl,s2.keep rfl,s3.keep rfl,s4.keep rfl,s5.keep rfl,s6.keep rfl,Slot.new _ _ _,s8.keep rfl,s9.keep rfl,s10.keep rfl,s11.keep rfl,M6.keep (Off.refl _ wr) rfl,Dep.at (hd 6 (by decide)),V6_8.keep rfl,V6_10.keep rfl,hO⟩
   simp only[XP]
  ·have q7:=s7 (hd 7 (by decide))
   subst ha q7
   go_simp
   refine hK.out _ _ ⟨_,_,_,_,_,_,_,_,_,_,_,_,v34,?_,s0.keep rfl,s1.keep rfl,s2.keep rfl,s3.keep rfl,s4.keep rfl,s5.keep rfl,s6.keep rfl,s7.keep rfl,Slot.new _ _ _,s9.keep rfl,s10.keep rfl,s11.keep rfl,M6.keep (Off.refl _ wr) rfl,V6_7.keep rfl,Dep.at (V6_7.via (hd 7 (by decide))),V6_10.keep rfl,hO⟩
   simp only[XP]
  ·have q7:=s7 (hd 7 (by decide))
   subst ha q7
   go_simp
   refine hK.out _ _ ⟨_,_,_,_,_,_,_,_,_,_,_,_,v34,?_,s0.keep rfl,s1.keep rfl,s2.keep rfl,s3.keep rfl,s4.keep rfl,s5.keep rfl,s6.keep rfl,s7.keep rfl,s8.keep rfl,Slot.new _ _ _,s10.keep rfl,s11.keep rfl,M6.keep (Off.refl _ wr) rfl,V6_7.keep rfl,V6_8.keep rfl,V6_10.keep rfl,hO⟩
   simp only[XP]
  ·have q8:=(s8 (hd 8 (by decide))).symm
   subst ha q8
   go_simp
   refine hK.out _ _ ⟨_,_,_,_,_,_,_,_,_,_,_,_,v34,?_,s0.keep rfl,s1.keep rfl,s2.keep rfl,s3.keep rfl,s4.keep rfl,s5.keep rfl,s6.keep rfl,s7.keep rfl,s8.keep rfl,s9.keep rfl,Slot.new _ _ _,s11.keep rfl,M6.keep (Off.refl _ wr) rfl,V6_7.keep rfl,V6_8.keep rfl,Dep.at (V6_8.via (hd 8 (by decide))),hO⟩
   simp only[XP]
  ·have q9:=s9 (hd 9 (by decide))
   subst ha q9
   go_simp
   refine hK.out _ _ ⟨_,_,_,_,_,_,_,_,_,_,_,_,v34,?_,s0.keep rfl,s1.keep rfl,s2.keep rfl,s3.keep rfl,s4.keep rfl,s5.keep rfl,s6.keep rfl,s7.keep rfl,s8.keep rfl,s9.keep rfl,s10.keep rfl,Slot.new _ _ _,M6.keep (Off.refl _ wr) rfl,V6_7.keep rfl,V6_8.keep rfl,V6_10.keep rfl,hO⟩
   simp only[XP]
  intro l a wc hI hd
  obtain⟨u28,u29,u30,u31,u32,u33,u34,u27,u35,u36,u11,u12,v34,ha,s0,s1,s2,s3,s4,s5,s6,s7,s8,s9,s10,s11,M6,V6_7,V6_8,V6_10,hO⟩:=hI
  simp only[XP]at ha
  have q0:=s0 (hd 0 (by decide))
  have q1:=s1 (hd 1 (by decide))
  have q2:=s2 (hd 2 (by decide))
  have q3:=s3 (hd 3 (by decide))
  have q4:=s4 (hd 4 (by decide))
  have q5:=s5 (hd 5 (by decide))
  have q6:=s6 (hd 6 (by decide))
  have q7:=s7 (hd 7 (by decide))
  have q8:=(s8 (hd 8 (by decide))).symm
  have q9:=s9 (hd 9 (by decide))
  have q10:=(s10 (hd 10 (by decide))).symm
  have q11:=s11 (hd 11 (by decide))
  have m34:=M6 (hd 6 (by decide))
  subst ha q0 q1 q2 q3 q4 q5 q6 q7 q8 q9 q10 q11
  clear hd s0 s1 s2 s3 s4 s5 s6 s7 s8 s9 s10 s11 M6 V6_7 V6_8 V6_10
  have hb:=HBk.out
  by_cases he:er=0
  ·subst he
   obtain⟨sa,sn,sc,rfl,hsn,hsc,hsb⟩:=m34
   have hyl:=HUl.out rfl
   obtain rfl:sn=d:=by rw[hsn];exact hyl
   obtain⟨w1,hcp,hbk,hoff⟩:=copy_bytes Tryz.underlying40 (dLen:=sn) (dCap:=sn) (c:=sc) hsb hsn (H6.out.off hO (fun c=>c)) (Nat.le_refl _) HQ.out
   have k8:=cell_of_heap (hO.heap H5.out (fun c=>c)) 0
   have HCp:=hid hcp
   have HBk1:=hid hbk
   have HOff:=hid hoff
   have HO:=hid hO
   clear hcp hbk hoff hsb hsn hsc hO hyl
   gi_wp2
   refine(CallsIn.inRound _ (callsIn_wide.2 (HPa.out _))).mono ?_
   rintro e w' ⟨rfl,rfl⟩
   have hcp:=HCp.out
   gi_wp2
   have hO2:=(HO.out.mono (fun _ _ c=>c.elim)).trans HOff.out (fun _ _ e=>e)
   have hb:=HBk.out
   refine⟨hO2.keeps.from _,fun h=>hO2.cell h (by simp;omega),hO2.heap H1.out (by omega),hO2.heap H2.out (by omega),hO2.heap H3.out (by omega),hO2.heap H4.out (by omega),hO2.heap H5.out (by omega),HNx.out _ _ rfl HBk1.out,H8.out.trans hO2 (fun k hk e=>by omega)⟩
  have h6:=hO.heap H3.out (fun c=>c)
  have h7:=hO.heap H4.out (fun c=>c)
  have i5:¬((er:Int)=0):=by omega
  have HO:=hid hO
  have HHe:=hid he
  clear hO he m34
  have hne:r7≠r6:=by omega
  obtain⟨t1,t2,t3,t4⟩:=put_two (u':=.slice none 0 0) (v':=.int .i64 er) h6 h7 hne
  have m6:wc.cell? ⟨r6,0,none⟩=some (.slice none 0 0):=cell_of_heap h6 0
  have f6:=fun j=>frozen_of_heap h6 j
  have l6:=heap_lt h6
  have m7:(wc.setCell ⟨r6,0,none⟩ (.slice none 0 0)).cell? ⟨r7,0,none⟩=some (.int .i64 0):=cell_of_heap t1 0
  have f7:=fun j=>frozen_of_heap t1 j
  have l7:=heap_lt t1
  have r6c:((wc.setCell ⟨r6,0,none⟩ (.slice none 0 0)).setCell ⟨r7,0,none⟩ (.int .i64 er)).cell? ⟨r6,0,none⟩=some (.slice none 0 0):=cell_of_heap t2 0
  have r7c:((wc.setCell ⟨r6,0,none⟩ (.slice none 0 0)).setCell ⟨r7,0,none⟩ (.int .i64 er)).cell? ⟨r7,0,none⟩=some (.int .i64 er):=cell_of_heap t3 0
  clear t1 hne
  gi_wp2
  have hO2:=(HO.out.mono (fun _ _ c=>c.elim)).trans t4 (fun _ _ e=>e)
  have hb:=HBk.out
  exact⟨hO2.keeps.from _,rfl,er,HHe.out,t2,t3,HEr.out _ _ rfl HHe.out,H8.out.trans hO2 (fun k hk e=>by omega)⟩
 case done =>
  rintro D yl A hD rfl ⟨h1,h2,h3,h4,h5,⟨xs,hxs,h6,h7⟩,h8⟩ hK
  have hfin:joinG M ls n=(xs,0):=by
   have h:=h7 (by rw[finR_val,List.length_finRange])
   rw[List.length_finRange,<-HCn.out,List.take_of_length_le (by rw[hxs,HCn.out];unfold cntN;omega)]at h
   exact Prod.ext h.2.symm h.1
  have HFin:=hid hfin
  have m8:=cell_of_heap h5 0
  have H6:=hid h6
  have H8:=hid h8
  have HXs:=hid hxs
  have HKK:=hid hK
  have hne:r7≠r6:=by have hb:=HBk.out;omega
  obtain⟨t1,t2,t3,t4⟩:=put_two (u':=.slice (some ⟨arr,0,none⟩) M M) (v':=.int .i64 0) h3 h4 hne
  have m6:A.cell? ⟨r6,0,none⟩=some (.slice none 0 0):=cell_of_heap h3 0
  have f6:=fun j=>frozen_of_heap h3 j
  have l6:=heap_lt h3
  have m7:(A.setCell ⟨r6,0,none⟩ (.slice (some ⟨arr,0,none⟩) M M)).cell? ⟨r7,0,none⟩=some (.int .i64 0):=cell_of_heap t1 0
  have f7:=fun j=>frozen_of_heap t1 j
  have l7:=heap_lt t1
  have r6c:((A.setCell ⟨r6,0,none⟩ (.slice (some ⟨arr,0,none⟩) M M)).setCell ⟨r7,0,none⟩ (.int .i64 0)).cell? ⟨r6,0,none⟩=some (.slice (some ⟨arr,0,none⟩) M M):=cell_of_heap t2 0
  have r7c:((A.setCell ⟨r6,0,none⟩ (.slice (some ⟨arr,0,none⟩) M M)).setCell ⟨r7,0,none⟩ (.int .i64 0)).cell? ⟨r7,0,none⟩=some (.int .i64 0):=cell_of_heap t3 0
  clear t1 hne
  clear h1 h2 h3 h4 h5 h6 h7 h8 hfin hxs hK HSq H80
  gi_wp2
  have hb:=HBk.out
  have hK9:=t4.others _ _ HKK.out rfl
  refine⟨by simp,.inl ⟨_,_,rfl,run_takeDeferred hK9,?_⟩⟩
  have hO9:=H8.out.trans t4 (fun k hk e=>by omega)
  have s6:=t4.heap H6.out (by omega)
  show LeavesInM _ _ _ _ _ _ _ _ (World.putObj _ D (.deferred none))
  have hO10:=hO9.laterC (grownBy_putObj' _ D (.deferred none)) (fun r e=>by cases e;omega)
  have s9:=(World.putObj_heap_other (o:=.deferred none) (show arr≠D by omega)).trans s6
  have q6:=cell_of_heap ((World.putObj_heap_other (o:=.deferred none) (show r6≠D by omega)).trans t2) 0
  have q7:=cell_of_heap ((World.putObj_heap_other (o:=.deferred none) (show r7≠D by omega)).trans t3) 0
  refine⟨.tuple #[.slice (some ⟨arr,0,none⟩) M M,.int .i64 0],by simp[results,Tryz.results44,go_sem,q6,q7],_,by rw[HFin.out];rfl,?_,hO10⟩
  rw[HFin.out]
  exact⟨_,_,_,rfl,HXs.out.symm,Nat.le_refl _,BsAt.of_blk (S:=fun _=>True) s9 trivial⟩
 case stop =>
  rintro D c pre W hD ⟨k,hk,rfl⟩ ⟨rfl,er,he,h3,h4,h5,h8⟩ hK
  have hfin:joinG M ls n=([],er):=by
   have h:=h5 (by rw[firstF_val _ _ hk,firstF_length _ _ hk])
   rw[firstF_length _ _ hk]at h
   exact joinG_final h he (by rw[HCn.out];exact hk)
  have HFin:=hid hfin
  have q3:=hid h3
  have q4:=hid h4
  have H8:=hid h8
  have HKK:=hid hK
  clear h3 h4 h5 h8 hfin hK HSq H80
  gi_wp2
  have hb:=HBk.out
  refine⟨by simp,.inl ⟨_,_,rfl,run_takeDeferred HKK.out,?_⟩⟩
  show LeavesInM _ _ _ _ _ _ _ _ (World.putObj _ D (.deferred none))
  have hO10:=H8.out.laterC (grownBy_putObj' _ D (.deferred none)) (fun r e=>by cases e;omega)
  have q6:=cell_of_heap ((World.putObj_heap_other (o:=.deferred none) (show r6≠D by omega)).trans q3.out) 0
  have q7:=cell_of_heap ((World.putObj_heap_other (o:=.deferred none) (show r7≠D by omega)).trans q4.out) 0
  refine⟨.tuple #[.slice none 0 0,.int .i64 er],by simp[results,Tryz.results44,go_sem,q6,q7],_,by rw[HFin.out],?_,hO10⟩
  rw[HFin.out]
  exact sv_nil _
theorem join_any {id:Int} {p i0 r s:Nat} (hF:Fld id p i0 r s) (l:List Nat) (hx:∀ x∈l,x<p) (v:Value) (m:Int) (hm:(Lit.int .i64 m).wf=true) (w:World) (hV:Ls w v (l.map (fm p))) :
  Calls Tryz.prog 44 #[FV id p i0 r s,v,.int .i64 m] w fun e w'=>∃ sv,e=.returned (.tuple #[sv,.int .i64 ((joinV l m).2:Int)])/\SvAt w' sv (joinV l m).1/\Off (fun _=>False) w w':=by
 obtain⟨a,cap,rfl,hL⟩:=hV.open
 rw[List.length_map]at hL ⊢
 unfold joinV
 by_cases hr:0<=m/\m<=65535
 ·rw[if_pos hr]
  obtain⟨M,rfl⟩:∃ M:Nat,m=(M:Int):=Int.eq_ofNat_of_zero_le hr.1
  rw[Int.toNat_natCast]
  by_cases hc:l.length=cntN M
  ·rw[if_pos hc]
   exact join_main hF l hx a l.length cap M rfl (by omega) hc w hL
  rw[if_neg hc]
  refine(join_count a l.length cap M (by omega) w hc).mono ?_
  rintro e w' ⟨rfl,hO⟩
  exact⟨_,rfl,sv_nil _,hO⟩
 rw[if_neg hr]
 refine(join_range a l.length cap m hm w hr).mono ?_
 rintro e w' ⟨rfl,hO⟩
 exact⟨_,rfl,sv_nil _,hO⟩
end
end Go.Proofs.YtpfjgifcjengkaaGreatDoor
