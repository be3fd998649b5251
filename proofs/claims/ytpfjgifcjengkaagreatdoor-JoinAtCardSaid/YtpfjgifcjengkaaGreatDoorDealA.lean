/-
  The reference's Same of layer 16 over this seat's translation: two lists of the same shares. Condition: the shares lie in memory.
-/
import Derived.Test.YtpfjgifcjengkaaGreatDoorFieldGrp
import Derived.Test.YtpfjgifcjengkaaGreatDoorParGrp
namespace Go.Proofs.YtpfjgifcjengkaaGreatDoor
open Lib (hid)
section
open Go.RowKit
attribute [local go_sem ↓] Go.wp_at_zero Go.wp_at_succ
set_option maxRecDepth 100000
set_option maxHeartbeats 4000000
theorem Off.drewS {S:Nat->Prop} {a w:World} (h:Off S a w) (q:Nat):Off S a (w.drewN q):=⟨h.os,h.tape,h.output,h.size,h.block,h.others⟩
theorem eqel_same (x:Nat) (W:World):(Op.equalIn 10000 34 (.agg #[.int .u64 (wd x 0),.int .u64 (wd x 1),.int .u64 (wd x 2),.int .u64 (wd x 3)]) (.agg #[.int .u64 (wd x 0),.int .u64 (wd x 1),.int .u64 (wd x 2),.int .u64 (wd x 3)])).run Tryz.prog W=.ok true W:=by
 have h:=equalIn_elem_same x W
 exact h
theorem refsame_any (l:List Sh) (a1 a2:Option Addr) (n cap1 cap2:Nat) (hn:n=l.length) (S1 S2:Nat->Prop) (w:World) (h1:ShsAt w (.slice a1 n cap1) l S1) (h2:ShsAt w (.slice a2 n cap2) l S2) :
  Calls Tryz.prog 20 #[.slice a1 n cap1,.slice a2 n cap2] w fun e w'=>e=.returned (.bool true)/\Off (fun _=>False) w w':=by
 have hmax:n<=maxLen:=by
  obtain⟨_,_,e,_,h1,_⟩:=h1
  simp at e;omega
 unfold maxLen at hmax
 have HL1:=hid h1
 have HL2:=hid h2
 have qn:((n:Int) != (n:Int))=false:=by simp
 clear hn h1 h2
 go_enter Tryz.func20,Tryz.ntmps20
 go_wp2
 go_loopw [5] (fun i wr=>∃ k:Nat,k<=n/\i=.int .i64 k/\Off (fun _=>False) w wr) (fun i _=>n-(intOf i).toNat)
 case atStart=>exact⟨0,Nat.zero_le _,rfl,Off.refl _ _⟩
 case round =>
  obtain⟨k,hk,rfl,hO⟩:=hrel
  by_cases hlt:k<n
  ·obtain⟨s,b,off,hx,hok,rfl,_,c0,c1,c2,c3,pa,pc,c4,hpc,hV⟩:=(HL1.out.off hO (fun _ _ _ c=>c)).at hlt
   obtain⟨s',b',off',hx',_,rfl,_,d0,d1,d2,d3,pa',pc',d4,hpc',hV'⟩:=(HL2.out.off hO (fun _ _ _ c=>c)).at hlt
   rw[hx]at hx'
   cases hx'
   have hlb:b<wr.heap.size:=World.block_lt_of_cell? wr _ c0
   have hlb':b'<wr.heap.size:=World.block_lt_of_cell? wr _ d0
   have hlb2:b'<wr.heap.size+1:=by omega
   have hxs:=hok.2.2.2.2
   obtain⟨m,hm⟩:∃ m,m=s.pl.length:=⟨_,rfl⟩
   rw[<-hm]at c4 d4 hV hV'
   have hmm:m<=maxLen:=hV.len.2.1
   unfold maxLen at hmm
   have w2:IntKind.i64.wrap ((k:Int)+1)=(k:Int)+1:=by rw[IntKind.wrap_i64];omega
   obtain⟨fd,th,ix,ln,pl⟩:=s
   dsimp only at c0 c1 c2 c3 c4 d0 d1 d2 d3 d4 hV hV' hm hxs
   obtain⟨W2,hW2⟩:∃ W2,W2=(wr.alloc (.cells #[.int .i64 fd,.int .i64 th,.int .i64 ix,.int .i64 ln,.slice pa m pc] 38)).alloc (.cells #[.int .i64 fd,.int .i64 th,.int .i64 ix,.int .i64 ln,.slice pa' m pc'] 38):=⟨_,rfl⟩
   have hO2:Off (fun _=>False) wr W2:=by rw[hW2];exact((Off.refl _ wr).alloc _).alloc _
   have g1:W2.heap[wr.heap.size]?=some (.cells #[.int .i64 fd,.int .i64 th,.int .i64 ix,.int .i64 ln,.slice pa m pc] 38 (0,0)):=by rw[hW2];exact heap_old' (heap_new' rfl _) _
   have g2:W2.heap[wr.heap.size+1]?=some (.cells #[.int .i64 fd,.int .i64 th,.int .i64 ix,.int .i64 ln,.slice pa' m pc'] 38 (0,0)):=by rw[hW2];exact heap_new' (by simp) _
   have HV:=hid (hV.off hO2 (fun _ _ _ c=>c))
   have HV':=hid (hV'.off hO2 (fun _ _ _ c=>c))
   have HO2:=hid (hO.trans hO2 (fun _ _ c=>c))
   have G1:=hid g1
   have G2:=hid g2
   have HM:=hid hm
   have HXS:=hid hxs
   have HW2:=hid hW2
   have e1:(fd != fd)=false:=by simp
   have e2:(th != th)=false:=by simp
   have e3:(ix != ix)=false:=by simp
   have e4:(ln != ln)=false:=by simp
   have e5:((m:Int) != (m:Int))=false:=by simp
   have hkn:(k:Int)<(n:Int):=by omega
   clear hx hO hok hV hV' hpc hpc' hm hxs hW2 hO2 g1 g2
   go_wp2
   rw[<-HW2.out]
   go_loopw [8] (fun i w3=>∃ j:Nat,j<=m/\i=.int .i64 j/\Off (fun _=>False) W2 w3) (fun i _=>m-(intOf i).toNat)
   case atStart=>exact⟨0,Nat.zero_le _,rfl,Off.refl _ _⟩
   case round =>
    clear c0 c1 c2 c3 c4 d0 d1 d2 d3 d4 hlb hlb' hlb2
    rename_i w3 _ _ _ _ _ _ _ _ _ _ _ _ _ _ _ _ _ _ _ _
    obtain⟨j,hj,rfl,hO⟩:=hrel
    have r4:=cell_of_heap (hO.heap G1.out (fun c=>c)) 4
    have t4:=cell_of_heap (hO.heap G2.out (fun c=>c)) 4
    by_cases hlt2:j<m
    ·obtain⟨x,hx⟩:∃ x,pl[j]?=some x:=⟨_,List.getElem?_eq_getElem (by rw[<-HM.out];exact hlt2)⟩
     have hxr:=HXS.out x (List.mem_of_getElem? hx)
     obtain⟨eb,eo,rfl,_,p0,p1,p2,p3⟩:=(HV.out.off hO (fun _ _ _ c=>c)).get hx
     obtain⟨eb',eo',rfl,_,q0,q1,q2,q3⟩:=(HV'.out.off hO (fun _ _ _ c=>c)).get hx
     have f1:=fun W=>eqel_same x W
     have hjm:(j:Int)<(m:Int):=by omega
     have w3':IntKind.i64.wrap ((j:Int)+1)=(j:Int)+1:=by rw[IntKind.wrap_i64];omega
     have HO:=hid hO
     clear hO hx hxr
     go_wp2
     go_quiet (fail)
     go_wp2
     go_roundw
     case rel=>exact⟨j+1,by omega,by simp,HO.out.drewS _⟩
     case measure=>simp[intOf];omega
    obtain rfl:j=m:=by omega
    have hjj:¬(j:Int)<(j:Int):=by omega
    have HO:=hid (HO2.out.trans hO (fun _ _ c=>c))
    clear hO
    go_wp2
    go_roundw
    case rel=>exact⟨k+1,by omega,by simp,HO.out⟩
    case measure=>simp[intOf];omega
  obtain rfl:k=n:=by omega
  have hkk:¬(k:Int)<(k:Int):=by omega
  have HO:=hid hO
  clear hO
  go_wp2
  refine bodyPost_ret (results_tmp rfl _ _ _) rfl ?_
  exact⟨rfl,HO.out⟩
end
end Go.Proofs.YtpfjgifcjengkaaGreatDoor
