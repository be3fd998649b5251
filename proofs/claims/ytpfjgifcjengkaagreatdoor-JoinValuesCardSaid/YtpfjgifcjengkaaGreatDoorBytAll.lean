/-
  Contracts of package bytecode over this seat's translation: numberOf and Encode. Conditions: as each says.
  Contracts of package bytecode over this seat's translation: Decode, Pack, Unpack and Wide. Conditions: the field's constants are those of its modulus; the slice is told by its bytes.
  Contract of Unpack of package bytecode over this seat's translation. Conditions: the field's constants are those of its modulus, the element lies below it.
  Contracts of the reference's Decode and Wide of layer 7 over this seat's translation. Conditions: the modulus is a number of four words above 1; the slice is told by its bytes.
-/
import Derived.Test.YtpfjgifcjengkaaGreatDoorBytLow
import Derived.Test.YtpfjgifcjengkaaGreatDoorMontAll
import Derived.Deep.DeepCutAuto
import Derived.Deep.OwnRows
import Derived.Lib.LaidTab
import Derived.MakeChecks
import Derived.Shelf.Bits.Mul64
import Derived.Shelf.Bytes.SlEqualAll
import Derived.Test.YtpfjgifcjengkaaGreatDoorProg
import Derived.BigQuiet
import Derived.Deep.DrawnRows
import Derived.Deep.RegionHeld3
import Derived.Laws.AppendOwnNone
import Derived.Lib.Hide
import Derived.OpenShut
import Derived.ProofKit
import Derived.RangeFuncNested
import Derived.Shelf.Spec.BitsCarry
import Derived.StillTailTactics
import Derived.Test.YtpfjgifcjengkaaGreatDoorChecked
namespace Go.Proofs.YtpfjgifcjengkaaGreatDoor
open Lib (hid)
section
open Go.RowKit
structure EncAt (w wr:World) (g:Nat) (v k:Nat):Prop where
 blk:ByBlk wr g 5 (bytesN v (8*k)++List.replicate (32-8*k) 0)
 off:Off (fun _=>False) w wr
 new:w.heap.size<=g
theorem enc_list (v k:Nat) (hk:k<4):(bytesN v (8*k)++List.replicate (32-8*k) 0).take (8*k)++[by8 (wd v k) 0,by8 (wd v k) 1,by8 (wd v k) 2,by8 (wd v k) 3,by8 (wd v k) 4,by8 (wd v k) 5,by8 (wd v k) 6,by8 (wd v k) 7]++(bytesN v (8*k)++List.replicate (32-8*k) 0).drop (8*k+8)=bytesN v (8*(k+1))++List.replicate (32-8*(k+1)) 0:=by
 rw[by8_wd v k 0 (by omega),by8_wd v k 1 (by omega),by8_wd v k 2 (by omega),by8_wd v k 3 (by omega),by8_wd v k 4 (by omega),by8_wd v k 5 (by omega),by8_wd v k 6 (by omega),by8_wd v k 7 (by omega)]
 have e:k=0\/k=1\/k=2\/k=3:=by omega
 rcases e with rfl | rfl | rfl | rfl <;> rfl
set_option maxRecDepth 100000 in
theorem index_vec (v k:Nat) (hk:k<4) (W:World):(Instr.index 33 (V v) (.int .i64 k)).run Tryz.prog W=.ok (.int .u64 (wd v k:Int)) W:=by
 have e:k=0\/k=1\/k=2\/k=3:=by omega
 rcases e with rfl | rfl | rfl | rfl <;> rfl
set_option maxRecDepth 100000 in
theorem slice_from (g k:Nat) (hk:k<4) (W:World):(Instr.slice 40 (.slice (some ⟨g,0,none⟩) 32 32) (some (.int .i64 ((k:Int)*8))) none none).run Tryz.prog W=.ok (.slice (some ⟨g,8*k,none⟩) (32-8*k) (32-8*k)) W:=by
 have e:k=0\/k=1\/k=2\/k=3:=by omega
 rcases e with rfl | rfl | rfl | rfl <;> rfl
theorem EncAt.step {w wr:World} {g v k c:Nat} (h:EncAt w wr g v k) (hk:k<4) (hc:ByBlk wr c 193 [by8 (wd v k) 0,by8 (wd v k) 1,by8 (wd v k) 2,by8 (wd v k) 3,by8 (wd v k) 4,by8 (wd v k) 5,by8 (wd v k) 6,by8 (wd v k) 7]):∃ w1,(Builtin.copy_ #[40,40] 3 #[.slice (some ⟨g,8*k,none⟩) (32-8*k) (32-8*k),.slice (some ⟨c,0,none⟩) 8 8]).run Tryz.prog wr=.ok (.int .i64 8) w1/\EncAt w w1 g v (k+1):=by
 obtain⟨w1,h1,h2,h3⟩:=copy_bytes Tryz.underlying40 (dLen:=32-8*k) (dCap:=32-8*k) (off:=8*k) (n:=8) (c:=8) (BsAt.of_blk (S:=fun _=>True) hc trivial) rfl h.blk (by omega) (by simp[bytesN_length];omega)
 refine⟨w1,h1,?_,h.off.trans h3 (fun k hk e=>by have:=h.new;omega),h.new⟩
 rw[enc_list v k hk]at h2
 exact h2
set_option maxRecDepth 100000 in
set_option maxHeartbeats 4000000 in
theorem encode_any {id:Int} {p i r s:Nat} (hF:Fld id p i r s) (u:Nat) (hu:u<p) (w:World) :
  Calls Tryz.prog 117 #[FV id p i r s,V u] w fun e w'=>∃ g,e=.returned (.slice (some ⟨g,0,none⟩) 32 32)/\ByBlk w' g 5 (bytesN (mm p u 1) 32)/\w.heap.size<=g/\Off (fun _=>False) w w':=by
 have HF:=hid (fun W=>mfrom_any hF u hu W)
 obtain⟨v,hv⟩:∃ v,v=mm p u 1:=⟨_,rfl⟩
 rw[<-hv]at HF ⊢
 clear hF hu hv
 have hmk:∀ W,(Instr.makeSlice 40 (.int .i64 32) (.int .i64 32)).run Tryz.prog W=.ok (.slice (some ⟨W.heap.size,0,none⟩) 32 32) (W.alloc (.cells ((List.replicate 32 0).map u8v).toArray 5)):=run_make_by 32 (by omega)
 obtain⟨Z,hZ⟩:∃ Z,Z=((List.replicate 32 0).map u8v).toArray:=⟨_,rfl⟩
 rw[<-hZ]at hmk
 have HZ:=hid hZ
 clear hZ
 go_enter Tryz.func117,Tryz.ntmps117
 go_wp2_with fail
 refine(HF.out _).mono ?_
 rintro e w1 ⟨rfl,hO⟩
 go_wp2_with fail
 have HS:=hid (show EncAt w w1 (w.heap.size+1+1) v 0 from⟨hO.heap (by rw[HZ.out];exact heap_new' (by simp) _) (fun c=>c),((((Off.refl (fun _=>False) w).alloc _).alloc _).alloc _).trans hO (fun _ _ c=>c),by omega⟩)
 clear hO HZ hmk Z
 obtain⟨g,hg⟩:∃ g,g=w.heap.size+1+1:=⟨_,rfl⟩
 rw[<-hg]at HS ⊢
 clear hg
 go_loopw [13] (fun i wr=>∃ k:Nat,k<=4/\i=.int .i64 k/\EncAt w wr g v k) (fun i _=>4-(intOf i).toNat)
 case atStart=>exact⟨0,by omega,rfl,HS.out⟩
 case round =>
  obtain⟨k,hk,rfl,hA⟩:=hrel
  by_cases hlt:k<4
  ·have HA:=hid hA
   clear hA HS
   have hidx:=index_vec v k hlt
   have hsl:=slice_from g k hlt
   have i1:decide ((k:Int)<4)=true:=by simp;omega
   have i2:(k:Int)<4:=by omega
   go_wp2_with fail
   refine(bytesof_any _ _).mono ?_
   rintro e u ⟨rfl,hO⟩
   obtain⟨W0,hW0⟩:∃ W0,W0=u.alloc (.cells #[u8v (by8 (wd v k) 0),u8v (by8 (wd v k) 1),u8v (by8 (wd v k) 2),u8v (by8 (wd v k) 3),u8v (by8 (wd v k) 4),u8v (by8 (wd v k) 5),u8v (by8 (wd v k) 6),u8v (by8 (wd v k) 7)] 193):=⟨_,rfl⟩
   have hB:ByBlk W0 u.heap.size 193 [by8 (wd v k) 0,by8 (wd v k) 1,by8 (wd v k) 2,by8 (wd v k) 3,by8 (wd v k) 4,by8 (wd v k) 5,by8 (wd v k) 6,by8 (wd v k) 7]:=by rw[hW0];exact heap_new' rfl _
   have hO1:Off (fun _=>False) wr W0:=by rw[hW0];exact hO.alloc _
   have hA:EncAt w W0.drew g v k:=⟨ByBlk.off (w':=W0) (S:=fun _=>False) HA.out.blk hO1 (fun c=>c),(HA.out.off.trans hO1 (fun _ _ c=>c)).drew,HA.out.new⟩
   obtain⟨w2,hcp,hA2⟩:=hA.step hlt hB
   have HA2:=hid hA2
   have HW0:=hid hW0
   clear hB hO1 hA hA2 hO hW0
   go_upto_region 6 with fail
   rw[<-HW0.out]
   go_region
   all_goals (go_wp2;go_roundw)
   all_goals first | exact⟨k+1,by omega,by go_num,HA2.out⟩ | (simp[intOf];omega)
  obtain rfl:k=4:=by omega
  have HA:=hid hA
  clear hA HS
  go_wp2
  go_ret
  exact⟨g,rfl,HA.out.blk,HA.out.new,HA.out.off⟩
end
section
open Go.RowKit
attribute [local go_sem ↓] Go.wp_at_zero Go.wp_at_succ
def decV (p:Nat) (bs:List Nat):Nat × Nat:=if bs.length=32 then(if numB bs<p then(fm p (numB bs),0) else(0,9)) else(0,8)
end
section
open Go.RowKit
attribute [local go_sem ↓] Go.wp_at_zero Go.wp_at_succ
def unpV (v:Nat) (m:Int):List Nat × Nat:=if 0<=m/\m<=31 then(if orB ((bytesN v 32).drop m.toNat)=0 then((bytesN v 32).take m.toNat,0) else([],10)) else([],8)
set_option maxRecDepth 100000 in
set_option maxHeartbeats 4000000 in
theorem unpack_any {id:Int} {p i r s:Nat} (hF:Fld id p i r s) (u:Nat) (hu:u<p) (m:Int) (hm:(Lit.int .i64 m).wf=true) (w:World) :
  Calls Tryz.prog 81 #[FV id p i r s,V u,.int .i64 m] w fun e w'=>∃ sv,e=.returned (.tuple #[sv,.int .i64 ((unpV (mm p u 1) m).2:Int)])/\SvAt w' sv (unpV (mm p u 1) m).1/\Off (fun _=>False) w w':=by
 have HE:=hid (fun W=>encode_any hF u hu W)
 obtain⟨v,hv⟩:∃ v,v=mm p u 1:=⟨_,rfl⟩
 rw[<-hv]at HE ⊢
 clear hF hu hv
 have hmr:-9223372036854775808<=m/\m<=9223372036854775807:=bounds_i64 hm
 clear hm
 by_cases hr:0<=m/\m<=31
 ·obtain⟨k,rfl⟩:=Int.eq_ofNat_of_zero_le hr.1
  have hk:k<=31:=by omega
  have hd:unpV v (k:Int)=if orB ((bytesN v 32).drop k)=0 then((bytesN v 32).take k,0) else([],10):=by unfold unpV;rw[if_pos hr];simp
  obtain⟨q,hq⟩:∃ q,q=unpV v (k:Int):=⟨_,rfl⟩
  rw[<-hq]at hd ⊢
  have HQ:=hid hd
  have i1:decide ((k:Int)<0)=false:=by simp
  have i2:decide ((31:Int)<(k:Int))=false:=by simp;omega
  have i3:¬((k:Int)<0):=by omega
  have i4:(k:Int)<=31:=by omega
  have i5:(0:Int)<=(k:Int):=by omega
  clear hd hr hmr hq
  go_enter Tryz.func81,Tryz.ntmps81
  go_wp2_with fail
  refine(HE.out _).mono ?_
  rintro e u1 ⟨g,rfl,hB,hg,hO⟩
  have hO1:Off (fun _=>False) w u1:=(((Off.refl (fun _=>False) w).alloc _).alloc _).trans hO (fun _ _ c=>c)
  have HB:=hid hB
  have HO:=hid hO1
  have HC:=hid (fun(j:Nat) (h:j<32)=>hB.cell (bytesN_get v 32 j h))
  have hsl:=slice_lo g 0 32 32 k (by omega) (by omega)
  rw[Nat.zero_add]at hsl
  clear hB hO hO1 hg HE
  obtain⟨L,hL⟩:∃ L,L=(bytesN v 32).drop k:=⟨_,rfl⟩
  have hLl:L.length=32-k:=by rw[hL];simp[bytesN_length]
  have hLs:Small L:=by rw[hL];exact(bytesN_small v 32).drop k
  have hLg:∀ j,j<32-k->L[j]?=some (by8 v (k+j)):=fun j hj=>by rw[hL,List.getElem?_drop,bytesN_get _ _ _ (by omega)]
  rw[<-hL]at HQ
  have HL:=hid (And.intro hLl (And.intro hLs hLg))
  clear hL hLl hLs hLg
  obtain⟨r,hr⟩:∃ r,r=32-k:=⟨_,rfl⟩
  have hrk:k+r=32:=by omega
  rw[<-hr]at hsl
  go_wp2_with fail
  go_loop [9,25] (fun x i'=>∃ j:Nat,j<=r/\i'=.int .i64 j/\x=.int .u8 (orB (L.take j):Int)) (fun _ i'=>r-(intOf i').toNat)
  case atStart=>exact⟨0,by omega,rfl,rfl⟩
  case round =>
   obtain⟨j,hj,rfl,rfl⟩:=hrel
   by_cases hlt:j<r
   ·have j1:decide ((j:Int)<(r:Int))=true:=by simp;omega
    have j2:(j:Int)<(r:Int):=by omega
    have cb:=HC.out (k+j) (by omega)
    obtain⟨hLl,hLs,hLg⟩:=HL.out
    have hx:=hLg j (by omega)
    have hb:=by8_lt v (k+j)
    have ho:=orB_lt (hLs.take j)
    obtain⟨b,hbx⟩:∃ b,b=by8 v (k+j):=⟨_,rfl⟩
    rw[<-hbx]at cb hx hb
    have HS:=hid (show bits .or .u8 (orB (L.take j):Int) (b:Int)=(orB (L.take (j+1)):Int) by
     rw[u8_or_nat _ _ ho hb,<-orB_snoc]
     congr 2
     obtain⟨h1,h2⟩:=List.getElem?_eq_some_iff.1 hx
     rw[List.take_succ_eq_append_getElem h1,h2])
    clear hLl hLs hLg hx hb ho hbx
    go_wp2
    go_round
    case rel=>exact⟨j+1,by omega,by go_num,by rw[HS.out]⟩
    case measure=>simp[intOf];omega
   obtain rfl:j=r:=by omega
   obtain⟨hLl,hLs,hLg⟩:=HL.out
   rw[List.take_of_length_le (by omega)]
   obtain⟨x,hx⟩:∃ x,x=orB L:=⟨_,rfl⟩
   rw[<-hx]at HQ ⊢
   clear hLl hLs hLg hx HL HC
   by_cases hz:x=0
   ·have HQ2:=hid (HQ.out.trans (if_pos hz))
    have hhi:=slice_hi g 0 32 32 k (by omega)
    subst hz
    clear HQ
    go_wp2
    go_ret2
    have hq2:=HQ2.out
    subst hq2
    exact⟨_,rfl,⟨_,_,_,rfl,by simp[bytesN_length];omega,by omega,(BsAt.of_blk (S:=fun _=>True) HB.out trivial).take k⟩,HO.out⟩
   have HQ2:=hid (HQ.out.trans (if_neg hz))
   have z1:¬((x:Int)=0):=by omega
   clear HQ hz
   go_wp2
   go_ret2
   have hq2:=HQ2.out
   subst hq2
   exact⟨_,rfl,⟨_,_,_,rfl,rfl,Nat.le_refl _,BsAt.nil _ _ _⟩,HO.out⟩
 have hd:unpV v m=([],8):=by unfold unpV;rw[if_neg hr]
 rw[hd]
 clear hd
 by_cases h0:m<0
 ·have i1:decide (m<0)=true:=by simp;omega
  clear hr hmr HE
  go_enter Tryz.func81,Tryz.ntmps81
  go_wp2
  go_ret2
  exact⟨_,rfl,⟨_,_,_,rfl,rfl,Nat.le_refl _,BsAt.nil _ _ _⟩,((Off.refl _ w).alloc _).alloc _⟩
 have i1:decide (m<0)=false:=by simp;omega
 have i2:decide ((31:Int)<m)=true:=by simp;omega
 clear hr hmr HE
 go_enter Tryz.func81,Tryz.ntmps81
 go_wp2
 go_ret2
 exact⟨_,rfl,⟨_,_,_,rfl,rfl,Nat.le_refl _,BsAt.nil _ _ _⟩,((Off.refl _ w).alloc _).alloc _⟩
end
section
open Go.RowKit
attribute [local go_sem ↓] Go.wp_at_zero Go.wp_at_succ
def rdecV (p:Nat) (bs:List Nat):Nat × Nat:=if bs.length=32 then(if numB bs<p then(numB bs,0) else(0,9)) else(0,8)
end
end Go.Proofs.YtpfjgifcjengkaaGreatDoor
