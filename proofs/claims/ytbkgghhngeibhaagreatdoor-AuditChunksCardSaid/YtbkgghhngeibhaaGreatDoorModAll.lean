/-
  Contracts of the reference's Sum, sub, Subtract and Add (package sharecoreref04) over this seat's translation: sums and differences of numbers of four words, and their sum modulo a number. Conditions: as each says.
  Contracts of the reference's Subtract, Add and One (package sharecoreref04) over this seat's translation. Conditions: as each says.
  Contracts of the reference's Mul, Mod, Radix, Pow and Inverse (package sharecoreref04) over this seat's translation: products and powers modulo p by doubling and by squaring. Conditions: as each says.
-/
import Derived.Test.YtbkgghhngeibhaaGreatDoorLimbOps
import Derived.BigQuiet
import Derived.Laws.AppendOwnNone
import Derived.StillTailTactics
import Derived.Test.YtbkgghhngeibhaaGreatDoorLimbWords
namespace Go.Proofs.YtbkgghhngeibhaaGreatDoor
open Lib (hid)
section
open Go.RowKit

structure ModAt (w wr:World) (a b s k:Nat):Prop where
 a:NumAt wr w.heap.size a
 b:NumAt wr (w.heap.size+1) b
 ret:PartAt wr (w.heap.size+1+1) 0 0
 res:PartAt wr (w.heap.size+1+1+1) s k
 off:Off (fun _=>False) w wr
theorem ModAt.start (w:World) (a b s:Nat):ModAt w ((((w.alloc (.cells #[.int .u64 (wd a 0),.int .u64 (wd a 1),.int .u64 (wd a 2),.int .u64 (wd a 3)] 63)).alloc (.cells #[.int .u64 (wd b 0),.int .u64 (wd b 1),.int .u64 (wd b 2),.int .u64 (wd b 3)] 63)).alloc (.cells #[.int .u64 0,.int .u64 0,.int .u64 0,.int .u64 0] 63)).alloc (.cells #[.int .u64 0,.int .u64 0,.int .u64 0,.int .u64 0] 63)) a b s 0 :=
 ⟨heap_old' (heap_old' (heap_old' (heap_new' rfl _) _) _) _,heap_old' (heap_old' (heap_new' (by simp) _) _) _,heap_old' (heap_new' (by simp) _) _,heap_new' (by simp) _,((((Off.refl _ w).alloc _).alloc _).alloc _).alloc _⟩
theorem ModAt.step {w wr:World} {a b s k:Nat} (h:ModAt w wr a b s k) (hk:k<4):ModAt w (wr.setCell ⟨w.heap.size+1+1+1,k,none⟩ (.int .u64 (wd s k:Int))) a b s (k+1):=by
 have far:∀ j,j≠w.heap.size+1+1+1->(wr.setCell ⟨w.heap.size+1+1+1,k,none⟩ (.int .u64 (wd s k:Int))).heap[j]?=wr.heap[j]?:=fun j hj=>Below.heap_setCell _ _ _ _ hj
 exact⟨(far _ (by omega)).trans h.a,(far _ (by omega)).trans h.b,(far _ (by omega)).trans h.ret,h.res.step hk,h.off.setCell (fun c=>by simp at c;omega) _⟩
theorem ModAt.drewN {w wr:World} {a b s k:Nat} (h:ModAt w wr a b s k) (m:Nat):ModAt w (wr.drewN m) a b s k:=⟨h.a,h.b,h.ret,h.res,h.off.drewN m⟩
set_option maxRecDepth 100000 in
set_option maxHeartbeats 4000000 in
theorem mod_sum (a b:Nat) (ha:a<R256) (hb:b<R256) (w:World) :
  Calls Tryz.prog 55 #[V a,V b] w fun e w'=>e=.returned (.tuple #[V (a+b),.int .u64 (((a+b) / R256:Nat):Int)])/\Off (fun _=>False) w w':=by
 have HT:=hid (carry_top ha hb)
 clear ha hb
 go_enter Tryz.func55,Tryz.ntmps55
 go_wp2
 go_loopw [7,8] (fun c i wr=>∃ k:Nat,k<=4/\i=.int .i64 k/\c=.int .u64 (carryA W64 a b k:Int)/\ModAt w wr a b (a+b) k) (fun _ i _=>4-(intOf i).toNat)
 case atStart=>exact⟨0,by omega,rfl,by rw[carryA_zero];rfl,ModAt.start w a b _⟩
 case round =>
  obtain⟨k,hk,rfl,rfl,hA⟩:=hrel
  by_cases hlt:k<4
  ·have i1:decide ((k:Int)<4)=true:=by simp;omega
   have i2:(k:Int)<4:=by omega
   have ca:=hA.a.cell k hlt
   have cb:=hA.b.cell k hlt
   have cr:=hA.res.cell hlt
   have fz:=frozen_of_heap hA.res.old k
   have hd:=wd_add a b k
   have hc:=carry_add a b k
   have hcl:=carryA_le w64_pos a b k
   have hx:=wd_lt a k
   have hy:=wd_lt b k
   obtain⟨x,hx2⟩:∃ x,x=wd a k:=⟨_,rfl⟩
   obtain⟨y,hy2⟩:∃ y,y=wd b k:=⟨_,rfl⟩
   obtain⟨c,hc2⟩:∃ c,c=carryA W64 a b k:=⟨_,rfl⟩
   rw[<-hx2]at ca hd hc hx
   rw[<-hy2]at cb hd hc hy
   rw[<-hc2]at hd hc hcl ⊢
   obtain⟨s,hs⟩:∃ s,s=(x+c)%18446744073709551616:=⟨_,rfl⟩
   obtain⟨t,ht⟩:∃ t,t=(s+y)%18446744073709551616:=⟨_,rfl⟩
   have w1:IntKind.u64.wrap ((x:Int)+(c:Int))=(s:Int):=by rw[IntKind.wrap_u64];omega
   have w2:IntKind.u64.wrap ((s:Int)+(y:Int))=(t:Int):=by rw[IntKind.wrap_u64];omega
   have HD:=hid (show(t:Int)=(wd (a+b) k:Int) by rw[hd];omega)
   -- the cell as it is read again behind the store
   obtain⟨W1,hW1⟩:∃ W1,W1=wr.setCell ⟨w.heap.size+1+1+1,k,none⟩ (.int .u64 t):=⟨_,rfl⟩
   have HS:=hid (show ModAt w (wr.setCell ⟨w.heap.size+1+1+1,k,none⟩ (.int .u64 t)) a b (a+b) (k+1) by rw[HD.out];exact hA.step hlt)
   clear hW1
   by_cases h1:s<c
   ·have t1:decide (s<c)=true:=by simp;omega
    have t2:decide (t<s)=false:=by simp;omega
    have HC:=hid (show(1:Int)=(carryA W64 a b (k+1):Int) by rw[hc];omega)
    clear hA hd hc hx2 hy2 hc2 hs ht h1
    go_wp2
    go_roundw
    case rel=>exact⟨k+1,by omega,by go_num,by rw[<-HC.out],HS.out⟩
    case measure=>simp[intOf];omega
   have t1:decide (s<c)=false:=by simp;omega
   by_cases h2:t<s
   ·have t2:decide (t<s)=true:=by simp;omega
    have HC:=hid (show(1:Int)=(carryA W64 a b (k+1):Int) by rw[hc];omega)
    clear hA hd hc hx2 hy2 hc2 hs ht h1 h2
    go_wp2
    go_roundw
    case rel=>exact⟨k+1,by omega,by go_num,by rw[<-HC.out],HS.out⟩
    case measure=>simp[intOf];omega
   have t2:decide (t<s)=false:=by simp;omega
   have HC:=hid (show(0:Int)=(carryA W64 a b (k+1):Int) by rw[hc];omega)
   clear hA hd hc hx2 hy2 hc2 hs ht h1 h2
   go_wp2
   go_roundw
   case rel=>exact⟨k+1,by omega,by go_num,by rw[<-HC.out],HS.out⟩
   case measure=>simp[intOf];omega
  obtain rfl:k=4:=by omega
  obtain⟨c0,c1,c2,c3⟩:=hA.res.full.four
  obtain⟨⟨r0,r1,r2,r3⟩,fz⟩:=hA.ret.four
  obtain⟨c,hc⟩:∃ c,c=carryA W64 a b 4:=⟨_,rfl⟩
  have HC:=hid (hc.trans HT.out)
  rw[<-hc]
  have HA:=hid hA
  clear hA hc HT
  go_wp2
  refine bodyPost_ret (v:=.tuple #[V (a+b),.int .u64 c]) (by simp[results,Tryz.results55,go_sem,r0,r1,r2,r3]) rfl ⟨by rw[HC.out],?_⟩
  have hn:∀ j,(⟨w.heap.size+1+1,j,none⟩:Addr).block<w.heap.size->False:=fun j c=>by simp at c;omega
  exact(((HA.out.off.setCell (hn 0) _).setCell (hn 1) _).setCell (hn 2) _).setCell (hn 3) _

attribute [local go_sem ↓] Go.wp_at_zero Go.wp_at_succ
set_option maxRecDepth 100000 in
set_option maxHeartbeats 4000000 in
theorem mod_sub (a b:Nat) (ha:a<R256) (hb:b<R256) (w:World) :
  Calls Tryz.prog 83 #[V a,V b] w fun e w'=>e=.returned (.tuple #[V (subV a b),.int .u64 (ltN a b:Int)])/\Off (fun _=>False) w w':=by
 have HT:=hid (borrow_top ha hb)
 have HB:=hid hb
 clear ha hb
 go_enter Tryz.func83,Tryz.ntmps83
 go_wp2
 go_loopw [7,8] (fun c i wr=>∃ k:Nat,k<=4/\i=.int .i64 k/\c=.int .u64 (borrowA W64 a b k:Int)/\ModAt w wr a b (subV a b) k) (fun _ i _=>4-(intOf i).toNat)
 case atStart=>exact⟨0,by omega,rfl,by rw[borrowA_zero];rfl,ModAt.start w a b _⟩
 case round =>
  obtain⟨k,hk,rfl,rfl,hA⟩:=hrel
  by_cases hlt:k<4
  ·have i1:decide ((k:Int)<4)=true:=by simp;omega
   have i2:(k:Int)<4:=by omega
   have ca:=hA.a.cell k hlt
   have cb:=hA.b.cell k hlt
   have cr:=hA.res.cell hlt
   have fz:=frozen_of_heap hA.res.old k
   have hd:=wd_sub a b k hlt HB.out
   have hc:=borrow_sub a b k
   have hcl:=borrowA_le W64 a b k
   have hx:=wd_lt a k
   have hy:=wd_lt b k
   have na:w.heap.size≠w.heap.size+1+1+1:=by omega
   have nb:w.heap.size+1≠w.heap.size+1+1+1:=by omega
   obtain⟨x,hx2⟩:∃ x,x=wd a k:=⟨_,rfl⟩
   obtain⟨y,hy2⟩:∃ y,y=wd b k:=⟨_,rfl⟩
   obtain⟨c,hc2⟩:∃ c,c=borrowA W64 a b k:=⟨_,rfl⟩
   rw[<-hx2]at ca hd hc hx
   rw[<-hy2]at cb hd hc hy
   rw[<-hc2]at hd hc hcl ⊢
   obtain⟨s,hs⟩:∃ s,s=(x+18446744073709551616-y)%18446744073709551616:=⟨_,rfl⟩
   obtain⟨t,ht⟩:∃ t,t=(x+18446744073709551616-y-c)%18446744073709551616:=⟨_,rfl⟩
   rw[<-ht]at hd
   have w1:IntKind.u64.wrap ((x:Int)-(y:Int))=(s:Int):=by rw[IntKind.wrap_u64];omega
   have w2:IntKind.u64.wrap ((s:Int)-(c:Int))=(t:Int):=by rw[IntKind.wrap_u64];omega
   have HS:=hid (show ModAt w (wr.setCell ⟨w.heap.size+1+1+1,k,none⟩ (.int .u64 t)) a b (subV a b) (k+1) by rw[<-hd];exact hA.step hlt)
   have qa:=cell_far (u:=.int .u64 t) (p:=⟨w.heap.size+1+1+1,k,none⟩) ca na
   have qb:=cell_far (u:=.int .u64 t) (p:=⟨w.heap.size+1+1+1,k,none⟩) cb nb
   clear hA hd hx2 hy2 hc2 hs ht na nb
   go_wp2
   go_still_tail 10,(by kernel_rfl)
   change wpList _ _ _ _ _ wr.drew
   by_cases h1:x<y
   ·have t1:decide (x<y)=true:=by simpa using h1
    have HC:=hid (show(1:Int)=(borrowA W64 a b (k+1):Int) by rw[hc,if_pos (by omega)];rfl)
    clear hc h1
    go_wp2
    go_quiet (fail)
    go_wp2
    go_roundw
    case rel=>exact⟨k+1,by omega,by go_num,by rw[<-HC.out],HS.out.drewN _⟩
    case measure=>simp[intOf];omega
   have t1:decide (x<y)=false:=by simpa using h1
   by_cases h2:x=y
   ·subst h2
    by_cases h3:c=1
    ·subst h3
     have HC:=hid (show(1:Int)=(borrowA W64 a b (k+1):Int) by rw[hc,if_pos (by omega)];rfl)
     clear hc h1
     go_wp2
     go_quiet (fail)
     go_wp2
     go_roundw
     case rel=>exact⟨k+1,by omega,by go_num,by rw[<-HC.out],HS.out.drewN _⟩
     case measure=>simp[intOf];omega
    obtain rfl:c=0:=by omega
    have HC:=hid (show(0:Int)=(borrowA W64 a b (k+1):Int) by rw[hc,if_neg (by omega)];rfl)
    clear hc h1 h3
    go_wp2
    go_quiet (fail)
    go_wp2
    go_roundw
    case rel=>exact⟨k+1,by omega,by go_num,by rw[<-HC.out],HS.out.drewN _⟩
    case measure=>simp[intOf];omega
   have t2:decide (x=y)=false:=by simpa using h2
   have t3:((x:Int)==(y:Int))=false:=by simp;omega
   have HC:=hid (show(0:Int)=(borrowA W64 a b (k+1):Int) by rw[hc,if_neg (by omega)];rfl)
   clear hc h1 h2
   go_wp2
   go_quiet (fail)
   go_wp2
   go_roundw
   case rel=>exact⟨k+1,by omega,by go_num,by rw[<-HC.out],HS.out.drewN _⟩
   case measure=>simp[intOf];omega
  obtain rfl:k=4:=by omega
  obtain⟨c0,c1,c2,c3⟩:=hA.res.full.four
  obtain⟨⟨r0,r1,r2,r3⟩,fz⟩:=hA.ret.four
  obtain⟨c,hc⟩:∃ c,c=borrowA W64 a b 4:=⟨_,rfl⟩
  have HC:=hid (hc.trans HT.out)
  rw[<-hc]
  have HA:=hid hA
  clear hA hc HT
  go_wp2
  refine bodyPost_ret (v:=.tuple #[V (subV a b),.int .u64 c]) (by simp[results,Tryz.results83,go_sem,r0,r1,r2,r3]) rfl ⟨by rw[HC.out],?_⟩
  have hn:∀ j,(⟨w.heap.size+1+1,j,none⟩:Addr).block<w.heap.size->False:=fun j c=>by simp at c;omega
  exact(((HA.out.off.setCell (hn 0) _).setCell (hn 1) _).setCell (hn 2) _).setCell (hn 3) _
end
section
open Go.RowKit

theorem off4 {w u:World} {b:Nat} (h:Off (fun _=>False) w u) (hb:w.heap.size<=b) (v0 v1 v2 v3:Value):Off (fun _=>False) w ((((u.setCell ⟨b,0,none⟩ v0).setCell ⟨b,1,none⟩ v1).setCell ⟨b,2,none⟩ v2).setCell ⟨b,3,none⟩ v3):=by
 have hn:∀ j,(⟨b,j,none⟩:Addr).block<w.heap.size->False:=fun j c=>by simp at c;omega
 exact(((h.setCell (hn 0) _).setCell (hn 1) _).setCell (hn 2) _).setCell (hn 3) _

def redV (m a:Nat) (c:Int):Nat:=if c%2=0/\a<m then a else subV a m
theorem redV_mod {p a b:Nat} (hp:p<R256) (ha:a<p) (hb:b<p):V (redV p ((a+b)%R256) (((a+b) / R256:Nat):Int))=V ((a+b)%p):=by
 rw[<-V_mod (redV _ _ _)]
 congr 1
 have h1:(a+b)%p=if a+b<p then a+b else a+b-p:=by
  split
  ·exact Nat.mod_eq_of_lt (by omega)
  rw[Nat.mod_eq_sub_mod (by omega)];exact Nat.mod_eq_of_lt (by omega)
 rw[h1]
 unfold redV subV R256 W64 at *
 simp only[Nat.reducePow]at *
 split <;> split <;> omega

set_option maxRecDepth 100000 in
set_option maxHeartbeats 2000000 in
theorem mod_subtract (m a:Nat) (hm:m<R256) (ha:a<R256) (c:Int) (hc:Word c) (w:World) :
  Calls Tryz.prog 56 #[V m,V a,.int .u64 c] w fun e w'=>e=.returned (V (redV m a c))/\Off (fun _=>False) w w':=by
 have F:=fun W=>mod_sub a m ha hm W
 have h0:=hc.1
 have h1:=hc.2
 obtain⟨b,hb⟩:∃ b,b=ltN a m:=⟨_,rfl⟩
 obtain⟨d,hd⟩:∃ d,d=subV a m:=⟨_,rfl⟩
 simp only[<-hb,<-hd]at F
 have HF:=hid F
 have hr:redV m a c=if c%2=0/\a<m then a else d:=by rw[hd];rfl
 have HD:=hid hd
 clear F hc hd
 by_cases hodd:c%2=0
 ·have t1:(c%2==0)=true:=by simpa using hodd
  by_cases hlt:a<m
  ·have e:redV m a c=a:=by rw[hr,if_pos ⟨hodd,hlt⟩]
   obtain rfl:b=1:=by rw[hb];unfold ltN;rw[if_pos hlt]
   have HF:Hid (∀ W,Calls Tryz.prog 83 #[V a,V m] W fun e w'=>e=.returned (.tuple #[V d,.int .u64 1])/\Off (fun _=>False) W w'):=hid (fun W=>HF.out W)
   rw[e]
   clear e hr hb hlt hodd hm ha
   go_enter Tryz.func56,Tryz.ntmps56
   go_wp2_with fail
   refine(HF.out _).mono ?_
   rintro e u ⟨rfl,hO⟩
   have hA:NumAt u (w.heap.size+1) a:=hO.heap (heap_old' (heap_new' (by simp) _) _) (fun c=>c)
   have hR:PartAt u (w.heap.size+1+1) 0 0:=hO.heap (heap_new' (by simp) _) (fun c=>c)
   have la:=heap_lt hR.old
   have lp:=hA.lt
   obtain⟨a0,a1,a2,a3⟩:=hA.four
   obtain⟨⟨r0,r1,r2,r3⟩,fz⟩:=hR.four
   have HO:=hid (((((Off.refl _ w).alloc _).alloc _).alloc _).trans hO (fun _ _ c=>c))
   clear hA hR hO
   go_wp2
   refine bodyPost_ret (v:=V a) (by simp[results,Tryz.results56,go_sem,r0,r1,r2,r3,la]) rfl ⟨rfl,?_⟩
   exact(off4 HO.out (by omega) _ _ _ _).alloc _
  have e:redV m a c=d:=by rw[hr,if_neg (fun h=>hlt h.2)]
  obtain rfl:b=0:=by rw[hb];unfold ltN;rw[if_neg hlt]
  have HF:Hid (∀ W,Calls Tryz.prog 83 #[V a,V m] W fun e w'=>e=.returned (.tuple #[V d,.int .u64 0])/\Off (fun _=>False) W w'):=hid (fun W=>HF.out W)
  rw[e]
  clear e hr hb hlt hodd hm ha
  go_enter Tryz.func56,Tryz.ntmps56
  go_wp2_with fail
  refine(HF.out _).mono ?_
  rintro e u ⟨rfl,hO⟩
  have hA:NumAt u (w.heap.size+1) a:=hO.heap (heap_old' (heap_new' (by simp) _) _) (fun c=>c)
  have hR:PartAt u (w.heap.size+1+1) 0 0:=hO.heap (heap_new' (by simp) _) (fun c=>c)
  have la:=heap_lt hR.old
  have lp:=hA.lt
  obtain⟨a0,a1,a2,a3⟩:=hA.four
  obtain⟨⟨r0,r1,r2,r3⟩,fz⟩:=hR.four
  have HO:=hid (((((Off.refl _ w).alloc _).alloc _).alloc _).trans hO (fun _ _ c=>c))
  clear hA hR hO
  go_wp2
  refine bodyPost_ret (v:=V d) (by simp[results,Tryz.results56,go_sem,r0,r1,r2,r3,la]) rfl ⟨rfl,?_⟩
  exact(off4 HO.out (by omega) _ _ _ _).alloc _
 have t1:(c%2==0)=false:=by simpa using hodd
 have e:redV m a c=d:=by rw[hr,if_neg (fun h=>hodd h.1)]
 rw[e]
 clear e hr hb hodd hm ha
 go_enter Tryz.func56,Tryz.ntmps56
 go_wp2_with fail
 refine(HF.out _).mono ?_
 rintro e u ⟨rfl,hO⟩
 have hA:NumAt u (w.heap.size+1) a:=hO.heap (heap_old' (heap_new' (by simp) _) _) (fun c=>c)
 have hR:PartAt u (w.heap.size+1+1) 0 0:=hO.heap (heap_new' (by simp) _) (fun c=>c)
 have la:=heap_lt hR.old
 have lp:=hA.lt
 obtain⟨a0,a1,a2,a3⟩:=hA.four
 obtain⟨⟨r0,r1,r2,r3⟩,fz⟩:=hR.four
 have HO:=hid (((((Off.refl _ w).alloc _).alloc _).alloc _).trans hO (fun _ _ c=>c))
 clear hA hR hO
 go_wp2
 refine bodyPost_ret (v:=V d) (by simp[results,Tryz.results56,go_sem,r0,r1,r2,r3,la]) rfl ⟨rfl,?_⟩
 exact(off4 HO.out (by omega) _ _ _ _).alloc _

set_option maxRecDepth 100000 in
set_option maxHeartbeats 2000000 in
theorem mod_add (p a b:Nat) (hp:p<R256) (ha:a<p) (hb:b<p) (w:World) :
  Calls Tryz.prog 32 #[V p,V a,V b] w fun e w'=>e=.returned (V ((a+b)%p))/\Off (fun _=>False) w w':=by
 have hl:=Nat.mod_lt (a+b) r256_pos
 have hcw:Word (((a+b) / R256:Nat):Int):=word_cast (by have:(a+b) / R256<=a+b:=Nat.div_le_self _ _;unfold R256 W64 at *;simp only[Nat.reducePow]at *;omega)
 have F1:=fun W=>mod_sum a b (by omega) (by omega) W
 have F2:=fun W=>mod_subtract p ((a+b)%R256) hp hl _ hcw W
 simp only[redV_mod hp ha hb,V_mod]at F2
 obtain⟨s,hs⟩:∃ s,s=a+b:=⟨_,rfl⟩
 simp only[<-hs]at F1 F2 ⊢
 obtain⟨c,hc⟩:∃ c,c=s / R256:=⟨_,rfl⟩
 obtain⟨r,hr⟩:∃ r,r=s%p:=⟨_,rfl⟩
 simp only[<-hc]at F1 F2
 simp only[<-hr]at F2 ⊢
 have F1:=hid F1
 have F2:=hid F2
 clear hs hc hr hl hcw hp ha hb
 go_enter Tryz.func32,Tryz.ntmps32
 go_wp2_with fail
 refine(F1.out _).mono ?_
 rintro e u ⟨rfl,hO⟩
 have hP:NumAt u w.heap.size p:=hO.heap (heap_old' (heap_old' (heap_old' (heap_new' rfl _) _) _) _) (fun c=>c)
 have hR:PartAt u (w.heap.size+1+1+1) 0 0:=hO.heap (heap_new' (by simp) _) (fun c=>c)
 have la:=heap_lt hR.old
 have lp:=hP.lt
 obtain⟨a0,a1,a2,a3⟩:=hP.four
 have HR:=hid hR
 have HO:=hid ((((((Off.refl _ w).alloc _).alloc _).alloc _).alloc _).trans hO (fun _ _ c=>c))
 clear hP hR hO
 go_wp2_with fail
 refine(F2.out _).mono ?_
 rintro e u2 ⟨rfl,hO2⟩
 have hR2:PartAt u2 (w.heap.size+1+1+1) 0 0:=hO2.heap (heap_old' HR.out _) (fun c=>c)
 obtain⟨⟨r0,r1,r2,r3⟩,fz⟩:=hR2.four
 have HO2:=hid ((HO.out.alloc _).trans hO2 (fun _ _ c=>c))
 clear hR2 hO2 HR
 go_wp2
 refine bodyPost_ret (v:=V r) (by simp[results,Tryz.results32,go_sem,r0,r1,r2,r3]) rfl ⟨rfl,?_⟩
 exact off4 HO2.out (by omega) _ _ _ _

set_option maxHeartbeats 1000000 in
theorem mod_one (w:World) :
  Calls Tryz.prog 54 #[] w fun e w'=>e=.returned (V 1)/\Off (fun _=>False) w w':=by
 have e1:=lit_small 1 (by decide)
 have H:=hid e1
 clear e1
 go_enter Tryz.func54,Tryz.ntmps54
 go_wp2
 refine bodyPost_ret (v:=.agg #[.int .u64 1,.int .u64 0,.int .u64 0,.int .u64 0]) (by simp[results,Tryz.results54,go_sem]) rfl ⟨by rw[H.out];rfl,?_⟩
 exact(Off.refl _ w).alloc _
end
section
open Go.RowKit
def radV (p k:Nat):Nat:=2^k%p

def put4 (u:World) (g m:Nat):World:=(((u.setCell ⟨g,0,none⟩ (.int .u64 (wd m 0))).setCell ⟨g,1,none⟩ (.int .u64 (wd m 1))).setCell ⟨g,2,none⟩ (.int .u64 (wd m 2))).setCell ⟨g,3,none⟩ (.int .u64 (wd m 3))
theorem put4_off (u:World) (g m:Nat):Off (fun k=>k=g) u (put4 u g m) :=
 ((((Off.refl (fun k=>k=g) u).setCell (p:=⟨g,0,none⟩) (fun _=>rfl) _).setCell (p:=⟨g,1,none⟩) (fun _=>rfl) _).setCell (p:=⟨g,2,none⟩) (fun _=>rfl) _).setCell (p:=⟨g,3,none⟩) (fun _=>rfl) _
theorem put4_num {u:World} {g n:Nat} (h:NumAt u g n) (m:Nat):NumAt (put4 u g m) g m:=by
 have:=heap_set (heap_set (heap_set (heap_set h 0 (.int .u64 (wd m 0))) 1 (.int .u64 (wd m 1))) 2 (.int .u64 (wd m 2))) 3 (.int .u64 (wd m 3))
 unfold NumAt put4
 rw[this];rfl

structure PowAt (w wr:World) (p a b o g:Nat):Prop where
 p:NumAt wr w.heap.size p
 a:NumAt wr (w.heap.size+1) a
 b:NumAt wr (w.heap.size+1+1) b
 ret:PartAt wr (w.heap.size+1+1+1) 0 0
 out:NumAt wr g o
 off:Off (fun _=>False) w wr
theorem PowAt.keep {w wr u:World} {p a b o g:Nat} (h:PowAt w wr p a b o g) (ho:Off (fun _=>False) wr u):PowAt w u p a b o g :=
 ⟨ho.heap h.p (fun c=>c),ho.heap h.a (fun c=>c),ho.heap h.b (fun c=>c),ho.heap h.ret (fun c=>c),ho.heap h.out (fun c=>c),h.off.trans ho (fun _ _ c=>c)⟩
theorem PowAt.put {w wr:World} {p a b o g:Nat} (h:PowAt w wr p a b o g) (hg:w.heap.size+1+1+1<g) (m:Nat):PowAt w (put4 wr g m) p a b m g :=
 have ho:=put4_off wr g m
 ⟨ho.heap h.p (by omega),ho.heap h.a (by omega),ho.heap h.b (by omega),ho.heap h.ret (by omega),put4_num h.out m,h.off.trans ho (fun j hj e=>by omega)⟩

theorem bits_next (b k:Nat) (hk:k<256):b / 2^(256-(k+1))=2*(b / 2^(256-k))+bitV b (255-k):=by
 unfold bitV
 rw[show 256-(k+1)=255-k by omega,show 256-k=255-k+1 by omega,<-half_pow]
 omega
theorem bitV_le (b i:Nat):bitV b i=0\/bitV b i=1:=by unfold bitV;omega
theorem div_all {b:Nat} (hb:b<R256):b / 2^256=0:=by
 have e:R256=2^256:=by decide
 exact Nat.div_eq_of_lt (by rw[<-e];exact hb)

def mulV (p a b k:Nat):Nat:=a*(b / 2^(256-k))%p
theorem mulV_zero (p a:Nat) {b:Nat} (hb:b<R256):mulV p a b 0=0:=by unfold mulV;rw[Nat.sub_zero,div_all hb,Nat.mul_zero,Nat.zero_mod]
theorem mulV_full (p a b:Nat):mulV p a b 256=a*b%p:=by unfold mulV;simp
theorem mulV_no (p a b k:Nat) (hk:k<256) (h:bitV b (255-k)=0):mulV p a b (k+1)=(mulV p a b k+mulV p a b k)%p:=by
 unfold mulV
 rw[bits_next b k hk,h,<-Nat.add_mod,Nat.add_zero,Nat.mul_left_comm,Nat.two_mul]
theorem mulV_yes (p a b k:Nat) (hk:k<256) (h:bitV b (255-k)=1):mulV p a b (k+1)=((mulV p a b k+mulV p a b k)%p+a)%p:=by
 unfold mulV
 rw[bits_next b k hk,h,<-Nat.add_mod,Nat.mod_add_mod,Nat.mul_add,Nat.mul_left_comm,Nat.two_mul,Nat.mul_one]

set_option maxRecDepth 100000 in
set_option maxHeartbeats 4000000 in
theorem mod_mul (p a b:Nat) (hp:p<R256) (h1:1<p) (ha:a<p) (hb:b<R256) (w:World) :
  Calls Tryz.prog 53 #[V p,V a,V b] w fun e w'=>e=.returned (V (a*b%p))/\Off (fun _=>False) w w':=by
 have HB:=hid hb
 have HF:=hid (mulV_full p a b)
 have HZ:=hid (mulV_zero p a hb)
 have FO:=hid (fun x y hx hy W=>mod_add p x y hp hx hy W)
 have FB:=hid (fun i hi W=>refbit_any b i hb hi W)
 have hlt0:∀ k,mulV p a b k<p:=fun k=>by unfold mulV;exact Nat.mod_lt _ (by omega)
 have HL:=hid hlt0
 have hpw:∀ x,x<p->x<R256:=fun x hx=>by omega
 have HP:=hid hpw
 have HN:=hid (fun k hk h=>mulV_no p a b k hk h)
 have HY:=hid (fun k hk h=>mulV_yes p a b k hk h)
 have HAp:=hid ha
 clear hlt0 hpw hb hp h1 ha
 go_enter Tryz.func53,Tryz.ntmps53
 go_wp2
 obtain⟨g,hg⟩:∃ g,g=w.heap.size+1+1+1+1:=⟨_,rfl⟩
 have z0:∀ i,wd 0 i=0:=fun i=>by unfold wd dg;simp
 have HS:=hid (show PowAt w (((((w.alloc (.cells #[.int .u64 (wd p 0),.int .u64 (wd p 1),.int .u64 (wd p 2),.int .u64 (wd p 3)] 63)).alloc (.cells #[.int .u64 (wd a 0),.int .u64 (wd a 1),.int .u64 (wd a 2),.int .u64 (wd a 3)] 63)).alloc (.cells #[.int .u64 (wd b 0),.int .u64 (wd b 1),.int .u64 (wd b 2),.int .u64 (wd b 3)] 63)).alloc (.cells #[.int .u64 0,.int .u64 0,.int .u64 0,.int .u64 0] 63)).alloc (.cells #[.int .u64 0,.int .u64 0,.int .u64 0,.int .u64 0] 63)) p a b 0 g from
  ⟨heap_old' (heap_old' (heap_old' (heap_old' (heap_new' rfl _) _) _) _) _,heap_old' (heap_old' (heap_old' (heap_new' (by simp) _) _) _) _,heap_old' (heap_old' (heap_new' (by simp) _) _) _,heap_old' (heap_new' (by simp) _) _,by unfold NumAt;simp only[z0];rw[hg];exact heap_new' (by simp) _,(((((Off.refl _ w).alloc _).alloc _).alloc _).alloc _).alloc _⟩)
 have hgl:w.heap.size+1+1+1<g:=by omega
 clear z0
 rw[<-hg]
 clear hg
 go_loopw [8] (fun i wr=>∃ k:Nat,k<=256/\i=.int .i64 (255-(k:Int))/\PowAt w wr p a b (mulV p a b k) g) (fun i _=>(intOf i+1).toNat)
 case atStart=>exact⟨0,by omega,by simp,by rw[HZ.out];exact HS.out⟩
 case round =>
  obtain⟨k,hk,rfl,hA⟩:=hrel
  by_cases hlt:k<256
  ·obtain⟨j,hj⟩:∃ j,j=255-k:=⟨_,rfl⟩
   have hij:(255:Int)-(k:Int)=(j:Int):=by omega
   have HJ:=hid (show((j:Int)-1)=255-((k+1:Nat):Int) by omega)
   rw[hij]
   have i1:decide ((0:Int)<=(j:Int))=true:=by simp
   have jb:(j:Int)<=255:=by omega
   clear hij
   obtain⟨o,ho⟩:∃ o,o=mulV p a b k:=⟨_,rfl⟩
   have hop:=HL.out k
   have hno:=HN.out k hlt
   have hye:=HY.out k hlt
   rw[<-ho]at hA hop hno hye
   rw[<-hj]at hno hye
   have HOP:=hid hop
   have HNO:=hid hno
   have HYE:=hid hye
   have HA:=hid hA
   obtain⟨p0,p1,p2,p3⟩:=hA.p.four
   obtain⟨o0,o1,o2,o3⟩:=hA.out.four
   clear hA hno hye hop hj ho
   go_wp2_with fail
   refine(FO.out o o HOP.out HOP.out _).mono ?_
   rintro e u1 ⟨rfl,hO1⟩
   obtain⟨d,hd⟩:∃ d,d=(o+o)%p:=⟨_,rfl⟩
   rw[<-hd]
   have hdp:d<p:=by rw[hd];exact Nat.mod_lt _ (by have:=HOP.out;omega)
   have HDP:=hid hdp
   have HD:=hid hd
   have hA1:=HA.out.keep hO1
   clear p0 p1 p2 p3 o0 o1 o2 o3 hO1 hd hdp
   obtain⟨o0,o1,o2,o3⟩:=hA1.out.four
   have fz:=fun j=>frozen_of_heap hA1.out j
   have hA2:=hA1.put (Nat.lt_of_lt_of_le hgl (Nat.le_refl _)) d
   obtain⟨b0,b1,b2,b3⟩:=(show NumAt u1 (w.heap.size+1+1) b from hA1.b).four
   have nb:w.heap.size+1+1≠g:=by omega
   have HA2:=hid hA2
   clear hA1 hA2
   go_wp2_with fail
   refine(FB.out j (by omega) _).mono ?_
   rintro e u2 ⟨rfl,hO2⟩
   have hA3:=HA2.out.keep hO2
   clear o0 o1 o2 o3 fz b0 b1 b2 b3 hO2
   rcases bitV_le b j with hbit | hbit
   ·rw[hbit]
    have HA3:=hid (by rw[HD.out,<-HNO.out hbit]at hA3;exact hA3:PowAt w u2 p a b (mulV p a b (k+1)) g)
    clear hA3 hbit
    go_wp2
    go_roundw
    case rel=>exact⟨k+1,by omega,by rw[HJ.out],HA3.out⟩
    case measure=>simp[intOf] <;> omega
   rw[hbit]
   obtain⟨p0,p1,p2,p3⟩:=hA3.p.four
   obtain⟨a0,a1,a2,a3⟩:=hA3.a.four
   obtain⟨o0,o1,o2,o3⟩:=hA3.out.four
   have HA3:=hid hA3
   have HBIT:=hid hbit
   clear hA3 hbit
   go_wp2_with fail
   refine(FO.out d a HDP.out HAp.out _).mono ?_
   rintro e u3 ⟨rfl,hO3⟩
   have hA4:=HA3.out.keep hO3
   clear p0 p1 p2 p3 a0 a1 a2 a3 o0 o1 o2 o3 hO3
   obtain⟨o0,o1,o2,o3⟩:=hA4.out.four
   have fz:=fun j=>frozen_of_heap hA4.out j
   obtain⟨q,hq⟩:∃ q,q=(d+a)%p:=⟨_,rfl⟩
   rw[<-hq]
   have hA5:=hA4.put (Nat.lt_of_lt_of_le hgl (Nat.le_refl _)) q
   have HA5:=hid (by rw[hq,HD.out,<-HYE.out HBIT.out]at hA5;rw[hq,HD.out,<-HYE.out HBIT.out];exact hA5:PowAt w (put4 u3 g q) p a b (mulV p a b (k+1)) g)
   clear hA4 hA5 hq
   go_wp2
   go_roundw
   case rel=>exact⟨k+1,by omega,by rw[HJ.out],HA5.out⟩
   case measure=>simp[intOf] <;> omega
  obtain rfl:k=256:=by omega
  have i1:decide ((0:Int)<=255-((256:Nat):Int))=false:=by simp
  obtain⟨o,ho⟩:∃ o,o=mulV p a b 256:=⟨_,rfl⟩
  rw[<-ho]at hA
  have HE:=hid (ho.trans HF.out)
  obtain⟨o0,o1,o2,o3⟩:=hA.out.four
  obtain⟨⟨r0,r1,r2,r3⟩,fz⟩:=hA.ret.four
  have HA:=hid hA
  clear hA ho
  go_wp2
  refine bodyPost_ret (v:=V o) (by simp[results,Tryz.results53,go_sem,r0,r1,r2,r3]) rfl ⟨by rw[HE.out],?_⟩
  exact off4 HA.out.off (by omega) _ _ _ _
theorem held_mod {f:FuncId} {args:Array Value} {v:Value} (hc:∀ W,Calls Tryz.prog f args W fun e w'=>e=.returned v/\Off (fun _=>False) W w') {w W:World} {b n b' n' r:Nat}
  (h:(W.cell? ⟨b,0,none⟩=some (.int .u64 (wd n 0))/\W.cell? ⟨b,1,none⟩=some (.int .u64 (wd n 1))/\W.cell? ⟨b,2,none⟩=some (.int .u64 (wd n 2))/\W.cell? ⟨b,3,none⟩=some (.int .u64 (wd n 3))) /\
   (W.cell? ⟨b',0,none⟩=some (.int .u64 (wd n' 0:Int))/\W.cell? ⟨b',1,none⟩=some (.int .u64 (wd n' 1:Int))/\W.cell? ⟨b',2,none⟩=some (.int .u64 (wd n' 2:Int))/\W.cell? ⟨b',3,none⟩=some (.int .u64 (wd n' 3:Int)))/\(∃ m,NumAt W r m)/\Off (fun _=>False) w W) :
  Calls Tryz.prog f args W fun e w'=>e=.returned v/\((w'.cell? ⟨b,0,none⟩=some (.int .u64 (wd n 0))/\w'.cell? ⟨b,1,none⟩=some (.int .u64 (wd n 1))/\w'.cell? ⟨b,2,none⟩=some (.int .u64 (wd n 2))/\w'.cell? ⟨b,3,none⟩=some (.int .u64 (wd n 3))) /\
   (w'.cell? ⟨b',0,none⟩=some (.int .u64 (wd n' 0:Int))/\w'.cell? ⟨b',1,none⟩=some (.int .u64 (wd n' 1:Int))/\w'.cell? ⟨b',2,none⟩=some (.int .u64 (wd n' 2:Int))/\w'.cell? ⟨b',3,none⟩=some (.int .u64 (wd n' 3:Int)))/\(∃ m,NumAt w' r m)/\Off (fun _=>False) w w') :=
 (hc W).mono fun _ _ ⟨he,hO⟩=>⟨he,Four.off h.1 hO,Four.off h.2.1 hO,h.2.2.1.imp (fun _ hm=>hO.heap hm (fun c=>c)),h.2.2.2.trans hO (fun _ _ c=>c)⟩
theorem mod_after {w W:World} {b n b' n' r:Nat} (hr:w.heap.size<=r) (hb:b≠r) (hb':b'≠r)
  (h:(W.cell? ⟨b,0,none⟩=some (.int .u64 (wd n 0))/\W.cell? ⟨b,1,none⟩=some (.int .u64 (wd n 1))/\W.cell? ⟨b,2,none⟩=some (.int .u64 (wd n 2))/\W.cell? ⟨b,3,none⟩=some (.int .u64 (wd n 3))) /\
   (W.cell? ⟨b',0,none⟩=some (.int .u64 (wd n' 0:Int))/\W.cell? ⟨b',1,none⟩=some (.int .u64 (wd n' 1:Int))/\W.cell? ⟨b',2,none⟩=some (.int .u64 (wd n' 2:Int))/\W.cell? ⟨b',3,none⟩=some (.int .u64 (wd n' 3:Int)))/\(∃ m,NumAt W r m)/\Off (fun _=>False) w W) (k:Nat) :
  (∃ m,(W.cell? ⟨r,0,none⟩=some (.int .u64 (wd m 0))/\W.cell? ⟨r,1,none⟩=some (.int .u64 (wd m 1))/\W.cell? ⟨r,2,none⟩=some (.int .u64 (wd m 2))/\W.cell? ⟨r,3,none⟩=some (.int .u64 (wd m 3)))/\∀ j,W.frozen? ⟨r,j,none⟩=false) /\
  (((put4 W r k).cell? ⟨b,0,none⟩=some (.int .u64 (wd n 0))/\(put4 W r k).cell? ⟨b,1,none⟩=some (.int .u64 (wd n 1))/\(put4 W r k).cell? ⟨b,2,none⟩=some (.int .u64 (wd n 2))/\(put4 W r k).cell? ⟨b,3,none⟩=some (.int .u64 (wd n 3))) /\
   ((put4 W r k).cell? ⟨b',0,none⟩=some (.int .u64 (wd n' 0:Int))/\(put4 W r k).cell? ⟨b',1,none⟩=some (.int .u64 (wd n' 1:Int))/\(put4 W r k).cell? ⟨b',2,none⟩=some (.int .u64 (wd n' 2:Int))/\(put4 W r k).cell? ⟨b',3,none⟩=some (.int .u64 (wd n' 3:Int)))/\(∃ m,NumAt (put4 W r k) r m)/\Off (fun _=>False) w (put4 W r k)):=by
 obtain⟨h1,h2,⟨m,hm⟩,hO⟩:=h
 have ho:=put4_off W r k
 exact⟨⟨m,hm.four,fun j=>frozen_of_heap hm j⟩,⟨ho.cell h1.1 hb,ho.cell h1.2.1 hb,ho.cell h1.2.2.1 hb,ho.cell h1.2.2.2 hb⟩,⟨ho.cell h2.1 hb',ho.cell h2.2.1 hb',ho.cell h2.2.2.1 hb',ho.cell h2.2.2.2 hb'⟩,⟨k,put4_num hm k⟩,hO.trans ho (fun j hj e=>by omega)⟩

attribute [local go_sem ↓] Go.wp_at_zero Go.wp_at_succ
set_option maxRecDepth 100000 in
set_option maxHeartbeats 4000000 in
theorem mod_mod (p a:Nat) (hp:p<R256) (h1:1<p) (ha:a<R256) (w:World) :
  Calls Tryz.prog 31 #[V p,V a] w fun e w'=>e=.returned (V (a%p))/\Off (fun _=>False) w w':=by
 have FM:=fun W=>mod_mul p 1 a hp h1 h1 ha W
 simp only[Nat.one_mul]at FM
 obtain⟨r,hr⟩:∃ r,r=a%p:=⟨_,rfl⟩
 simp only[<-hr]at FM ⊢
 have FM:=hid FM
 have z0:∀ i,wd 0 i=0:=fun i=>by unfold wd dg;simp
 obtain⟨W0,hW0⟩:∃ W0,W0=(((w.alloc (.cells #[.int .u64 (wd p 0),.int .u64 (wd p 1),.int .u64 (wd p 2),.int .u64 (wd p 3)] 63)).alloc (.cells #[.int .u64 (wd a 0),.int .u64 (wd a 1),.int .u64 (wd a 2),.int .u64 (wd a 3)] 63)).alloc (.cells #[.int .u64 0,.int .u64 0,.int .u64 0,.int .u64 0] 63)):=⟨_,rfl⟩
 have hP:NumAt W0.drew w.heap.size p:=by rw[hW0];exact heap_old' (heap_old' (heap_new' rfl _) _) _
 have hA:NumAt W0.drew (w.heap.size+1) a:=by rw[hW0];exact heap_old' (heap_new' (by simp) _) _
 have hR:NumAt W0.drew (w.heap.size+1+1) 0:=by rw[hW0];unfold NumAt;simp only[z0];exact heap_new' (by simp) _
 have hO:Off (fun _=>False) w W0.drew:=by rw[hW0];exact((((Off.refl _ w).alloc _).alloc _).alloc _).drew
 have hS:=hid (And.intro hP.four (And.intro hA.four (And.intro (Exists.intro (p:=fun m=>NumAt W0.drew (w.heap.size+1+1) m) 0 hR) hO)))
 rw[hW0]at hS
 have n1:w.heap.size<=w.heap.size+1+1:=by omega
 have n2:w.heap.size≠w.heap.size+1+1:=by omega
 have n3:w.heap.size+1≠w.heap.size+1+1:=by omega
 have N:=hid (And.intro n1 (And.intro n2 n3))
 clear hP hA hR hO hW0 z0 hr hp h1 ha n1 n2 n3
 go_enter Tryz.func31,Tryz.ntmps31
 go_wp2_with fail
 have hS:=hS.out
 go_region_held3 (fun w'=>(w'.cell? ⟨w.heap.size,0,none⟩=some (.int .u64 (wd p 0))/\w'.cell? ⟨w.heap.size,1,none⟩=some (.int .u64 (wd p 1))/\w'.cell? ⟨w.heap.size,2,none⟩=some (.int .u64 (wd p 2))/\w'.cell? ⟨w.heap.size,3,none⟩=some (.int .u64 (wd p 3)))/\(w'.cell? ⟨w.heap.size+1,0,none⟩=some (.int .u64 (wd a 0))/\w'.cell? ⟨w.heap.size+1,1,none⟩=some (.int .u64 (wd a 1))/\w'.cell? ⟨w.heap.size+1,2,none⟩=some (.int .u64 (wd a 2))/\w'.cell? ⟨w.heap.size+1,3,none⟩=some (.int .u64 (wd a 3)))/\(∃ m,NumAt w' (w.heap.size+1+1) m)/\Off (fun _=>False) w w')
  (first | assumption | go_keep)
  (first
   | (go_at_call 54;refine(held_mod mod_one (by assumption)).mono ?_;rintro e w' ⟨rfl,hS⟩)
   | (go_at_call 53;refine(held_mod FM.out (by assumption)).mono ?_;rintro e w' ⟨rfl,hS⟩;obtain⟨⟨m,⟨r0,r1,r2,r3⟩,fz⟩,hS2⟩:=mod_after N.out.1 N.out.2.1 N.out.2.2 hS r;unfold put4 at hS2))
 go_split_ands
 go_wp2
 refine bodyPost_ret (v:=V r) (by simp[results,Tryz.results31,go_sem,r0,r1,r2,r3]) rfl ⟨rfl,by assumption⟩

structure RadAt (w wr:World) (p o g:Nat):Prop where
 p:NumAt wr w.heap.size p
 ret:PartAt wr (w.heap.size+1) 0 0
 out:NumAt wr g o
 off:Off (fun _=>False) w wr
theorem RadAt.keep {w wr u:World} {p o g:Nat} (h:RadAt w wr p o g) (ho:Off (fun _=>False) wr u):RadAt w u p o g :=
 ⟨ho.heap h.p (fun c=>c),ho.heap h.ret (fun c=>c),ho.heap h.out (fun c=>c),h.off.trans ho (fun _ _ c=>c)⟩
theorem RadAt.put {w wr:World} {p o g:Nat} (h:RadAt w wr p o g) (hg:w.heap.size+1<g) (m:Nat):RadAt w (put4 wr g m) p m g :=
 have ho:=put4_off wr g m
 ⟨ho.heap h.p (by omega),ho.heap h.ret (by omega),put4_num h.out m,h.off.trans ho (fun j hj e=>by omega)⟩
theorem rad_step (p k:Nat):(radV p k+radV p k)%p=radV p (k+1):=by
 unfold radV
 rw[<-Nat.add_mod,Nat.pow_succ,Nat.mul_two]

set_option maxRecDepth 100000 in
set_option maxHeartbeats 4000000 in
theorem mod_radix (p:Nat) (hp:p<R256) (h1:1<p) (w:World) :
  Calls Tryz.prog 58 #[V p] w fun e w'=>e=.returned (V (radV p 256))/\Off (fun _=>False) w w':=by
 have hz:1=radV p 0:=by unfold radV;rw[Nat.pow_zero,Nat.mod_eq_of_lt h1]
 have HZ:=hid hz
 have hlt0:∀ k,radV p k<p:=fun k=>Nat.mod_lt _ (by omega)
 have FO:=hid (fun x hx W=>mod_add p x x hp hx hx W)
 have HL:=hid hlt0
 have HN:=hid (rad_step p)
 clear hlt0 hp h1 hz
 go_enter Tryz.func58,Tryz.ntmps58
 go_wp2_with fail
 refine(mod_one _).mono ?_
 rintro e u0 ⟨rfl,hO0⟩
 have HS0:=hid (show RadAt w (u0.alloc (.cells #[.int .u64 (wd 1 0),.int .u64 (wd 1 1),.int .u64 (wd 1 2),.int .u64 (wd 1 3)] 63)) p 1 u0.heap.size from
  ⟨heap_old' (hO0.heap (heap_old' (heap_new' rfl _) _) (fun c=>c)) _,heap_old' (hO0.heap (heap_new' (by simp) _) (fun c=>c)) _,heap_new' rfl _,((((Off.refl _ w).alloc _).alloc _).trans hO0 (fun _ _ c=>c)).alloc _⟩)
 have hsz:=hO0.size
 obtain⟨g,hg⟩:∃ g,g=u0.heap.size:=⟨_,rfl⟩
 have hgl:w.heap.size+1<g:=by simp at hsz;omega
 have HS:=hid (by rw[<-hg]at HS0;exact HS0.out:RadAt w (u0.alloc (.cells #[.int .u64 (wd 1 0),.int .u64 (wd 1 1),.int .u64 (wd 1 2),.int .u64 (wd 1 3)] 63)) p 1 g)
 clear hO0 hsz HS0
 go_wp2
 rw[<-hg]
 clear hg
 go_loopw [4] (fun i wr=>∃ k:Nat,k<=256/\i=.int .i64 k/\RadAt w wr p (radV p k) g) (fun i _=>256-(intOf i).toNat)
 case atStart=>exact⟨0,by omega,rfl,by rw[<-HZ.out];exact HS.out⟩
 case round =>
  obtain⟨k,hk,rfl,hA⟩:=hrel
  by_cases hlt:k<256
  ·have i1:decide ((k:Int)<256)=true:=by simp;omega
   have hst:=HN.out k
   have hop:=HL.out k
   obtain⟨o,ho⟩:∃ o,o=radV p k:=⟨_,rfl⟩
   rw[<-ho]at hA hst hop
   obtain⟨q,hq⟩:∃ q,q=(o+o)%p:=⟨_,rfl⟩
   rw[<-hq]at hst
   have hF:=fun W=>FO.out o hop W
   simp only[<-hq]at hF
   have HF:=hid hF
   have HST:=hid hst
   obtain⟨p0,p1,p2,p3⟩:=hA.p.four
   obtain⟨o0,o1,o2,o3⟩:=hA.out.four
   have HA:=hid hA
   clear hA hst hop ho hq hF
   go_wp2_with fail
   refine(HF.out _).mono ?_
   rintro e u1 ⟨rfl,hO1⟩
   have hA1:=HA.out.keep hO1
   clear p0 p1 p2 p3 o0 o1 o2 o3 hO1
   obtain⟨o0,o1,o2,o3⟩:=hA1.out.four
   have fz:=fun j=>frozen_of_heap hA1.out j
   have HA2:=hid (hA1.put hgl q)
   clear hA1
   go_wp2
   go_roundw
   case rel=>exact⟨k+1,by omega,by go_num,by rw[<-HST.out];exact HA2.out⟩
   case measure=>simp[intOf];omega
  obtain rfl:k=256:=by omega
  obtain⟨o,ho⟩:∃ o,o=radV p 256:=⟨_,rfl⟩
  have HE:=hid ho
  rw[<-ho]at hA
  obtain⟨o0,o1,o2,o3⟩:=hA.out.four
  obtain⟨⟨r0,r1,r2,r3⟩,fz⟩:=hA.ret.four
  have HA:=hid hA
  clear hA ho
  go_wp2
  refine bodyPost_ret (v:=V o) (by simp[results,Tryz.results58,go_sem,r0,r1,r2,r3]) rfl ⟨by rw[HE.out],?_⟩
  exact off4 HA.out.off (by omega) _ _ _ _
end
end Go.Proofs.YtbkgghhngeibhaaGreatDoor
