/-
  slices.Equal at two lists of the same bools, slices.Contains at a list of ints. Condition: the lists are short.
-/
import Derived.Test.YtbkgghhngeibhaaGreatDoorAudRow
import Derived.Test.YtbkgghhngeibhaaGreatDoorIntAll
namespace Go.Proofs.YtbkgghhngeibhaaGreatDoor
open Lib (hid)
open Go.RowKit
attribute [local go_sem ↓] Go.wp_at_zero Go.wp_at_succ
set_option maxRecDepth 100000
set_option maxHeartbeats 4000000
theorem booleq_any (xs:List Bool) (hl:xs.length<=100000) (v1 v2:Value) (w:World) (h1:BoAt w v1 xs) (h2:BoAt w v2 xs) :
  Calls Tryz.prog 15 #[v1,v2] w fun e w'=>e=.returned (.bool true)/\Off (fun _=>False) w w':=by
 obtain⟨a1,c1,rfl,_⟩:=id h1
 obtain⟨a2,c2,rfl,_⟩:=id h2
 obtain⟨n,hn⟩:∃ n,n=xs.length:=⟨_,rfl⟩
 rw[<-hn]at h1 h2 hl ⊢
 have hne:((n:Int) != (n:Int))=false:=by simp
 have H1:=hid h1
 have H2:=hid h2
 clear h1 h2 hn
 go_enter Tryz.func15,Tryz.ntmps15
 go_wp2
 go_loopw [13] (fun i wr=>∃ k:Nat,k<=n/\i=.int .i64 k/\Off (fun _=>False) w wr) (fun i _=>n-(intOf i).toNat)
 case atStart=>exact⟨0,Nat.zero_le _,rfl,Off.refl _ w⟩
 case round =>
  obtain⟨k,hk,rfl,hO⟩:=hrel
  by_cases hlt:k<n
  ·obtain⟨x,b1,o1,hx,rfl,g1⟩:=(H1.out.off hO).at hlt
   obtain⟨y,b2,o2,hy,rfl,g2⟩:=(H2.out.off hO).at hlt
   rw[hx]at hy
   cases hy
   have l1:=World.block_lt_of_cell? wr _ g1
   have l2:=World.block_lt_of_cell? wr _ g2
   have hki:(k:Int)<(n:Int):=by omega
   have ht:(x != x)=false:=by simp
   have HO:=hid hO
   clear hO hx
   go_wp2_with fail
   go_region
   have HO2:=hid (HO.out.drew)
   go_wp2
   go_roundw
   case rel=>exact⟨k+1,by omega,by simp,HO2.out⟩
   case measure=>simp[intOf] <;> omega
  have hki:¬(k:Int)<(n:Int):=by omega
  have HO:=hid hO
  clear hO
  go_wp2
  go_ret
  exact⟨rfl,HO.out⟩
theorem intseq18 (xs:List Int) (hl:xs.length<=100000) (v1 v2:Value) (w:World) (h1:Iv w v1 xs) (h2:Iv w v2 xs) :
  Calls Tryz.prog 19 #[v1,v2] w fun e w'=>e=.returned (.bool true)/\Off (fun _=>False) w w':=by
 obtain⟨a1,c1,rfl,_⟩:=h1.open
 obtain⟨a2,c2,rfl,_⟩:=h2.open
 obtain⟨n,hn⟩:∃ n,n=xs.length:=⟨_,rfl⟩
 rw[<-hn]at h1 h2 hl ⊢
 have hne:((n:Int) != (n:Int))=false:=by simp
 have H1:=hid h1
 have H2:=hid h2
 clear h1 h2 hn
 go_enter Tryz.func19,Tryz.ntmps19
 go_wp2
 go_loopw [13] (fun i wr=>∃ k:Nat,k<=n/\i=.int .i64 k/\Off (fun _=>False) w wr) (fun i _=>n-(intOf i).toNat)
 case atStart=>exact⟨0,Nat.zero_le _,rfl,Off.refl _ w⟩
 case round =>
  obtain⟨k,hk,rfl,hO⟩:=hrel
  by_cases hlt:k<n
  ·obtain⟨x,b1,o1,hx,rfl,g1,_,_⟩:=IvAt.at (Iv.off H1.out hO) hlt
   obtain⟨y,b2,o2,hy,rfl,g2,_,_⟩:=IvAt.at (Iv.off H2.out hO) hlt
   rw[hx]at hy
   cases hy
   have hki:(k:Int)<(n:Int):=by omega
   have ht:(x != x)=false:=by simp
   have HO:=hid hO
   clear hO hx
   go_wp2_with fail
   go_region
   have HO2:=hid (HO.out.drew)
   go_wp2
   go_roundw
   case rel=>exact⟨k+1,by omega,by simp,HO2.out⟩
   case measure=>simp[intOf] <;> omega
  have hki:¬(k:Int)<(n:Int):=by omega
  have HO:=hid hO
  clear hO
  go_wp2
  go_ret
  exact⟨rfl,HO.out⟩
end Go.Proofs.YtbkgghhngeibhaaGreatDoor
