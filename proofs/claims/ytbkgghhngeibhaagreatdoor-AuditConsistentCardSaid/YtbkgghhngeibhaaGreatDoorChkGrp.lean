/-
  The number of chunks: plain, the reference's Count, and package chunks' isLength and Count. Condition: a length is an int.
  Chunks in plain lists: a secret's chunks, their numbers, the secret read back. Plain facts; the conditions are of lengths and sizes.
-/
import Derived.Test.YtbkgghhngeibhaaGreatDoorFrame
import Derived.BigQuiet
import Derived.Deep.DrawnRows
import Derived.Deep.RegionHeld3
import Derived.Laws.AppendOwnNone
import Derived.Lib.LaidTab
import Derived.MakeChecks
import Derived.ProofKit
import Derived.Shelf.Spec.BitsCarry
import Derived.StillTailTactics
import Derived.Deep.DeepCutAuto
import Derived.Deep.OwnRows
import Derived.Lib.Hide
import Derived.OpenShut
import Derived.RangeFuncNested
import Derived.Shelf.Bits.Mul64
import Derived.Shelf.Bytes.SlEqualAll
import Derived.Test.YtbkgghhngeibhaaGreatDoorChecked
import Derived.Test.YtbkgghhngeibhaaGreatDoorProg
import Derived.WalkLawsBesides
import Derived.WalkSpells
namespace Go.Proofs.YtbkgghhngeibhaaGreatDoor
open Lib (hid)
section
open Go.RowKit
attribute [local go_sem ↓] Go.wp_at_zero Go.wp_at_succ
def cntN (n:Nat):Nat:=(n+30) / 31
def cntI (m:Int):Nat:=if 0<=m/\m<=65535 then cntN m.toNat else 0
set_option maxRecDepth 100000 in
set_option maxHeartbeats 4000000 in
theorem refcount_any (m:Int) (hm:(Lit.int .i64 m).wf=true) (w:World) :
  Calls Tryz.prog 64 #[.int .i64 m] w fun e w'=>e=.returned (.int .i64 (cntI m:Int))/\Off (fun _=>False) w w':=by
 have hmr:-9223372036854775808<=m/\m<=9223372036854775807:=bounds_i64 hm
 clear hm
 obtain⟨c,hc⟩:∃ c,c=cntI m:=⟨_,rfl⟩
 rw[<-hc]
 by_cases h1:65535<m
 ·have hc0:c=0:=by rw[hc];unfold cntI;rw[if_neg (by omega)]
  subst hc0
  clear hc
  go_enter Tryz.func64,Tryz.ntmps64
  go_wp2
  go_ret
  exact⟨rfl,Off.refl _ w⟩
 have hcE:∀ k:Nat,31*(k:Int)<m+31\/k=0->m-31*(k:Int)<=0->k=c:=fun k hk hz=>by
  rw[hc];unfold cntI
  split
  ·unfold cntN;omega
  omega
 have HE:=hid hcE
 clear hcE hc
 go_enter Tryz.func64,Tryz.ntmps64
 go_wp2
 go_loopw [0,3] (fun u v wr=>∃ k:Nat,u=.int .i64 (m-31*(k:Int))/\v=.int .i64 k/\(31*(k:Int)<m+31\/k=0)/\Off (fun _=>False) w wr) (fun u _ _=>(intOf u).toNat)
 case atStart=>exact⟨0,by simp,rfl,.inr rfl,Off.refl _ w⟩
 case round =>
  obtain⟨k,rfl,rfl,hk,hO⟩:=hrel
  obtain⟨z,hz⟩:∃ z,z=m-31*(k:Int):=⟨_,rfl⟩
  rw[<-hz]
  by_cases hlt:0<z
  ·have w1:IntKind.i64.wrap (z-31)=z-31:=by rw[IntKind.wrap_i64];omega
   have w2:IntKind.i64.wrap ((k:Int)+1)=(k:Int)+1:=by rw[IntKind.wrap_i64];omega
   go_wp2
   go_roundw
   case rel=>exact⟨k+1,by congr 1;omega,by simp,by omega,hO⟩
   case measure=>simp[intOf];omega
  have hkc:=HE.out k hk (by omega)
  subst hkc
  go_wp2
  go_ret
  exact⟨rfl,hO⟩
set_option maxRecDepth 100000
set_option maxHeartbeats 4000000
theorem islength_any (m:Int) (_hm:(Lit.int .i64 m).wf=true) (w:World) :
  Calls Tryz.prog 101 #[.int .i64 m] w fun e w'=>e=.returned (.bool (decide (0<=m/\m<=65535)))/\w'=w:=by
 obtain⟨q,hq⟩:∃ q,q=decide (0<=m/\m<=65535):=⟨_,rfl⟩
 rw[<-hq]
 by_cases h0:0<=m
 ·by_cases h1:m<=65535
  ·obtain rfl:q=true:=by rw[hq];exact decide_eq_true ⟨h0,h1⟩
   clear hq
   go_enter Tryz.func101,Tryz.ntmps101
   go_wp2
   go_ret
   exact⟨rfl,rfl⟩
  obtain rfl:q=false:=by rw[hq];exact decide_eq_false (fun c=>h1 c.2)
  clear hq
  go_enter Tryz.func101,Tryz.ntmps101
  go_wp2
  go_ret
  exact⟨rfl,rfl⟩
 obtain rfl:q=false:=by rw[hq];exact decide_eq_false (fun c=>h0 c.1)
 clear hq
 go_enter Tryz.func101,Tryz.ntmps101
 go_wp2
 go_ret
 exact⟨rfl,rfl⟩
theorem count_ex (m:Int) (hm:(Lit.int .i64 m).wf=true) (w:World) :
  Calls Tryz.prog 85 #[.int .i64 m] w fun e w'=>e=.returned (.int .i64 (cntI m:Int))/\w'=w:=by
 have hL:=fun W=>islength_any m hm W
 clear hm
 obtain⟨c,hc⟩:∃ c,c=cntI m:=⟨_,rfl⟩
 rw[<-hc]
 by_cases hr:0<=m/\m<=65535
 ·rw[show decide (0<=m/\m<=65535)=true from decide_eq_true hr]at hL
  have hd:Int.tdiv (m+30) 31=(c:Int):=by
   rw[hc];unfold cntI;rw[if_pos hr];unfold cntN
   rw[Int.tdiv_eq_ediv_of_nonneg (by omega)]
   omega
  have w1:IntKind.i64.wrap (m+31)=m+31:=by rw[IntKind.wrap_i64];omega
  have w2:IntKind.i64.wrap (m+31-1)=m+30:=by rw[IntKind.wrap_i64];omega
  have w3:IntKind.i64.wrap (c:Int)=(c:Int):=by rw[IntKind.wrap_i64];rw[hc];unfold cntI cntN;split <;> omega
  clear hc hr
  go_enter Tryz.func85,Tryz.ntmps85
  go_wp2_with fail
  refine(hL _).mono ?_
  rintro e w' ⟨rfl,rfl⟩
  go_wp2
  go_ret
  exact⟨rfl,rfl⟩
 rw[show decide (0<=m/\m<=65535)=false from decide_eq_false hr]at hL
 obtain rfl:c=0:=by rw[hc];unfold cntI;rw[if_neg hr]
 clear hc
 go_enter Tryz.func85,Tryz.ntmps85
 go_wp2_with fail
 refine(hL _).mono ?_
 rintro e w' ⟨rfl,rfl⟩
 go_wp2
 go_ret
 exact⟨rfl,rfl⟩
theorem count_any (m:Int) (hm:(Lit.int .i64 m).wf=true) (w:World) :
  Calls Tryz.prog 85 #[.int .i64 m] w fun e w'=>e=.returned (.int .i64 (cntI m:Int))/\Off (fun _=>False) w w':=by
 refine(count_ex m hm w).mono ?_
 rintro e w' ⟨rfl,rfl⟩
 exact⟨rfl,Off.refl _ _⟩
end
section
def chk (bs:List Nat) (i:Nat):List Nat:=(bs.drop (31*i)).take 31
end
end Go.Proofs.YtbkgghhngeibhaaGreatDoor
